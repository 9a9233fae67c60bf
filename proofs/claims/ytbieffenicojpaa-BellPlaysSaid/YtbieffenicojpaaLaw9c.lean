/- The walk of BellPlays: any script of two Bells. -/
import Derived.Test.YtbieffenicojpaaBel4
import Derived.Deep.DeepCutAuto
import Derived.Deep.CutBlock
import Derived.Deep.RegionLaw
namespace Go.Proofs.Ytbieffenicojpaa
open Go.RowKit
set_option linter.unusedVariables false
set_option linter.unusedSimpArgs false
abbrev OpTy9 : Ty := .pair (.int .i64) (.pair (.int .i64) (.pair (.int .i64) .unit))
theorem op9_cells {w : World} {x : OpTy9.den} {cs : List Value} (h : Holds w OpTy9 x cs) : ∃ a b c : Int, cs = [.int .i64 a, .int .i64 b, .int .i64 c] := by
  obtain ⟨c1, c2, rfl, h1, c3, c4, rfl, h2, c5, c6, rfl, h3, h4⟩ := h
  obtain ⟨rfl, _⟩ := h1
  obtain ⟨rfl, _⟩ := h2
  obtain ⟨rfl, _⟩ := h3
  simp only [Holds] at h4
  subst h4
  exact ⟨_, _, _, rfl⟩
set_option maxRecDepth 100000 in
set_option maxHeartbeats 16000000 in
theorem plays_core (w : World) (a0 a1 : Int) (A2 : Option Addr) (n2 c2 : Nat) (x2 : Ty.den (.sl 24 OpTy9)) (w2 : Holds w (.sl 24 OpTy9) x2 [.slice A2 n2 c2]) (m0 m1 : Nat)
    (M0 M1 : Int) (hx0 : (if a0 < 1 then (1 : Int) else a0) = M0) (hx1 : (if a1 < 1 then (1 : Int) else a1) = M1) (hm0 : (if 64 < M0 then (64 : Int) else M0) = (m0 : Int)) (hm1 : (if 64 < M1 then (64 : Int) else M1) = (m1 : Int))
    (e0 : min (max a0 1) 64 = m0) (e1 : min (max a1 1) 64 = m1) :
    Calls Try.prog 3 #[.int .i64 a0, .int .i64 a1, .slice A2 n2 c2] w fun e w' => e = .returned (.bool true) ∧ Below w.heap.size w w' := by
  have W2 := Lib.hid w2
  have E0 := Lib.hid (And.intro e0 e1)
  clear w2 e0 e1
  go_enter Try.func3, Try.ntmps3
  go_wp2_with fail
  refine (B0.new (Keep.refl (From w.heap.size) w) a0 m0 E0.out.1).mono ?_; rintro e w3 ⟨p0, rfl, h3, -, k3, s3⟩
  go_wp2_with fail
  refine (B0.new h3.keep a1 m1 E0.out.2).mono ?_; rintro e w4 ⟨p1, rfl, h4, -, k4, s4⟩
  have h34 := h3.nob k4
  have hc : w.heap.size ≠ w3.heap.size := by omega
  clear h3 k3 k4 s3 s4
  generalize w.heap.size = c0 at h34 hc
  generalize w3.heap.size = c1 at h4 hc
  go_wp2_with fail
  have bs4 : Blk (w4.alloc (.cells #[.pointer (some ⟨p0, 0, none⟩), .pointer (some ⟨p1, 0, none⟩)] 25)) w4.heap.size 25 [.pointer (some ⟨p0, 0, none⟩), .pointer (some ⟨p1, 0, none⟩)] := Blk.new w4 25 _
  have k4 : Keep Nob w4 (w4.alloc (.cells #[.pointer (some ⟨p0, 0, none⟩), .pointer (some ⟨p1, 0, none⟩)] 25)) := (Keep.refl Nob w4).alloc _
  have g0 := h34.nob k4
  have g1 := h4.nob k4
  refine (awake_is _).mono ?_; rintro e w5 ⟨rfl, k5⟩
  have bs5 := bs4.keep k5 (fun f => f)
  have q0 := g0.nob k5
  have q1 := g1.nob k5
  clear h34 h4 bs4 k4 g0 g1 k5
  generalize w4.heap.size = b7 at *
  go_wp2_with fail
  clear hx0 hx1 hm0 hm1 E0
  obtain ⟨w6, hw6⟩ : ∃ w6, w6 = (w5.alloc (.cells #[.int .i64 (m0 : Int), .int .i64 (m1 : Int)] 27)).alloc (.cells #[.slice none 0 0, .slice none 0 0] 29) := ⟨_, rfl⟩
  have H0 : PS w w6 b7 w5.heap.size (w5.heap.size + 1) (up (fun _ => p1) 0 p0) (up (fun _ => c1) 0 c0) (up (fun _ => m1) 0 m0) (fun _ => none) (fun _ => 0) (fun _ => none) (fun _ => []) (fun _ => []) := by
    subst hw6
    have ka : Keep Nob w5 (w5.alloc (.cells #[.int .i64 (m0 : Int), .int .i64 (m1 : Int)] 27)) := (Keep.refl Nob w5).alloc _
    have kb : Keep Nob (w5.alloc (.cells #[.int .i64 (m0 : Int), .int .i64 (m1 : Int)] 27)) ((w5.alloc (.cells #[.int .i64 (m0 : Int), .int .i64 (m1 : Int)] 27)).alloc (.cells #[.slice none 0 0, .slice none 0 0] 29)) := (Keep.refl Nob _).alloc _
    refine ⟨(bs5.keep ka (fun f => f)).keep kb (fun f => f), (Blk.new w5 27 [.int .i64 (m0 : Int), .int .i64 (m1 : Int)]).keep kb (fun f => f), ?_, fun i hi => ?_, fun i hi => RowAt.nil _, fun i j hi hj hne => ?_, (fun i j g _ _ _ h => by cases h), fun i hi => ?_, (fun i g _ h => by cases h), ?_, (q0.nob ka).nob kb |>.keep⟩
    · have := Blk.new (w5.alloc (.cells #[.int .i64 (m0 : Int), .int .i64 (m1 : Int)] 27)) 29 [.slice none 0 0, .slice none 0 0]
      simpa [two] using this
    · rcases (show i = 0 ∨ i = 1 by omega) with rfl | rfl
      · exact ((q0.nob ka).nob kb).bell
      · exact ((q1.nob ka).nob kb).bell
    · rcases (show (i = 0 ∧ j = 1) ∨ (i = 1 ∧ j = 0) by omega) with ⟨rfl, rfl⟩ | ⟨rfl, rfl⟩
      · exact hc
      · exact Ne.symm hc
    · rcases (show i = 0 ∨ i = 1 by omega) with rfl | rfl
      · exact q0.loc
      · exact q1.loc
    · have := q0.keep.size
      omega
  rw [← hw6]
  clear q0 q1 bs5 hc hw6
  generalize w5.heap.size = b8 at H0 ⊢
  generalize b8 + 1 = b9 at H0 ⊢
  generalize up (fun _ => p1) 0 p0 = p at H0
  generalize up (fun _ => c1) 0 c0 = c at H0
  generalize up (fun _ => m1) 0 m0 = m at H0
  go_loopw [10] (fun s10 wx => ∃ (i : Nat) (A : Nat → Option Addr) (n : Nat → Nat) (G : Nat → Option Nat) (l : Nat → List Int), i ≤ n2 ∧ i ≤ 120 ∧ s10 = .int .i64 i ∧ PS w wx b7 b8 b9 p c m A n G l l) (fun s10 _ => 120 - (intOf s10).toNat)
  case atStart => exact ⟨0, _, _, _, _, Nat.zero_le _, Nat.zero_le _, rfl, H0⟩
  case round =>
    obtain ⟨i, A, n, G, l, hi, hi100, rfl, H⟩ := hrel
    obtain ⟨bo, hbo⟩ : ∃ bo, bo = decide (i < n2 ∧ i < 120) := ⟨_, rfl⟩
    have Hbo := Lib.hid hbo
    clear hbo H0
    go_upto_region 7 with fail
    go_cut [53] from 46 to 53 (fun s53 wx => s53 = .bool bo ∧ wx = wr)
    case first =>
      by_cases h1 : i < n2
      · by_cases h2 : i < 120
        · have h3 : decide (i < n2 ∧ i < 120) = true := by simp [h1, h2]
          go_wp2_with fail
          go_meet
          exact ⟨by (try rw [Hbo.out, h3]); (first | rfl | exact congrArg Value.bool (decide_eq_true (by omega)) | exact congrArg Value.bool (decide_eq_false (by omega)) | skip), rfl⟩
        · have h3 : decide (i < n2 ∧ i < 120) = false := by simp [h2]
          go_wp2_with fail
          go_meet
          exact ⟨by (try rw [Hbo.out, h3]); (first | rfl | exact congrArg Value.bool (decide_eq_true (by omega)) | exact congrArg Value.bool (decide_eq_false (by omega)) | skip), rfl⟩
      · have h3 : decide (i < n2 ∧ i < 120) = false := by simp [h1]
        go_wp2_with fail
        go_meet
        exact ⟨by (try rw [Hbo.out, h3]); (first | rfl | exact congrArg Value.bool (decide_eq_true (by omega)) | exact congrArg Value.bool (decide_eq_false (by omega)) | skip), rfl⟩
    case rest =>
    obtain ⟨rfl, hw⟩ := hcut
    have hw := hw.symm
    subst hw
    cases bo with
    | false =>
      have KK := H.keep
      go_wp2
      go_ret
      exact ⟨rfl, KK.done⟩
    | true =>
      obtain ⟨hin, hi2⟩ : i < n2 ∧ i < 120 := of_decide_eq_true Hbo.out.symm
      obtain ⟨bb, off, cs', hA0, hcl, hcc, hk', hh⟩ := holds_at W2.out (by decide) hin
      obtain ⟨o0, o1, o2, rfl⟩ := op9_cells hh
      subst hA0
      have f0 := H.keep.cell_from (hcc 0 _ rfl)
      have f1 := H.keep.cell_from (hcc 1 _ rfl)
      have f2 := H.keep.cell_from (hcc 2 _ rfl)
      simp only [show OpTy9.size = 3 from rfl, Nat.add_zero] at f0 f1 f2
      clear hcc hcl hh hk'
      have kO := (Keep.refl Nob wr).alloc (.cells #[.int .i64 o0, .int .i64 o1, .int .i64 o2] 31)
      have bO : Blk (wr.alloc (.cells #[.int .i64 o0, .int .i64 o1, .int .i64 o2] 31)) wr.heap.size 31 [.int .i64 o0, .int .i64 o1, .int .i64 o2] := Blk.new wr 31 _
      have HO := H.nob kO
      obtain ⟨k, hk⟩ := Int.eq_ofNat_of_zero_le (show 0 ≤ o2 % 2 by omega)
      have hk2 : k < 2 := by omega
      have hk3 : (k : Int) < 2 := by omega
      have hkb : bits .and .i64 o2 1 = (k : Int) := (i64_and1 o2).trans hk
      clear H kO
      go_upto_block 2 with fail
      generalize hV : wr.alloc (.cells #[.int .i64 o0, .int .i64 o1, .int .i64 o2] 31) = V at bO HO ⊢
      generalize wr.heap.size = gO at bO ⊢
      clear f0 f1 f2 hV hk hkb hw
      go_cut [13, 14, 15, 16, 17, 18, 19, 20, 21] from 65 to 213 (fun s13 s14 s15 s16 s17 s18 s19 s20 s21 wx => ∃ (A' : Nat → Option Addr) (n' : Nat → Nat) (G' : Nat → Option Nat) (l' : Nat → List Int), PS w wx b7 b8 b9 p c m A' n' G' l' l')
      case first =>
        by_cases ho0 : o0 = 0
        · subst ho0
          as_aux_lemma =>
            have cw := HO.cw hk2
            have cm := HO.cm hk2
            have c0 := bO.cell 0
            simp only [List.getElem?_cons_zero] at c0
            have hsm := HO.small hk2
            by_cases hg : (l k).length < m k
            · have hgi : ((l k).length : Int) < (m k : Int) := by omega
              go_upto_region 23 with fail
              go_quiet (fail)
              have H1 := HO.nob ((Keep.refl Nob V).drewN nq)
              have bO1 := bO.drewN nq
              clear HO bO cw cm c0
              generalize V.drewN nq = V1 at *
              clear V
              go_upto_region 24 with fail
              have bD := bO1.drew
              have HD := H1.nob (Keep.nobdrew V1)
              have sf : ∀ W, Blk W gO 31 [.int .i64 0, .int .i64 o1, .int .i64 o2] → PS w W b7 b8 b9 p c m A n G l l → (W.cell? ⟨gO, 1, none⟩ = some (.int .i64 o1) ∧ W.cell? ⟨b7, k, none⟩ = some (.pointer (some ⟨p k, 0, none⟩))) := fun W hW hP => ⟨hW.cell 1, hP.cb hk2⟩
              have hR := HD.ring hk2 o1
              rw [decide_eq_true hg, rung, if_pos hg] at hR
              clear H1 bO1
              go_region_held3 (fun w' => w'.cell? ⟨gO, 1, none⟩ = some (.int .i64 o1) ∧ w'.cell? ⟨b7, k, none⟩ = some (.pointer (some ⟨p k, 0, none⟩)))
                (first | exact sf _ bD HD | exact ⟨bO4.cell 1, H4.cb hk2⟩)
                (first | (go_at_call 8; refine hR.mono ?_; rintro e' w4 ⟨rfl, H4, k4⟩; have bO4 := HD.offC hk2 bD k4))
              all_goals
                clear bD HD sf hR k4 hsm hgi
                have c1 := bO4.cell 1
                simp only [List.getElem?_cons_zero, List.getElem?_cons_succ] at c1
                go_upto_region 27 with fail
                have HC := H4.nob (Keep.nobdrew w4)
                have kA : Keep Nob w4.drew (w4.drew.alloc (.cells #[.int .i64 o1] 3)) := (Keep.refl Nob _).alloc _
                have HB := HC.nob kA
                have d1 : w4.drew.cell? ⟨b9, k, none⟩ = some (.slice (A k) (l k).length (n k)) := HC.cw hk2
                have d2 : (w4.drew.alloc (.cells #[.int .i64 o1] 3)).cell? ⟨b9, k, none⟩ = some (.slice (A k) (l k).length (n k)) := HB.cw hk2
                have d4 : (w4.alloc (.cells #[.int .i64 o1] 3)).cell? ⟨b9, k, none⟩ = some (.slice (A k) (l k).length (n k)) := d2
                have d3 : w4.drew.cell? ⟨gO, 1, none⟩ = some (.int .i64 o1) := c1
                have hrow := HB.row k hk2
                have hr1 : Reads (w4.drew.alloc (.cells #[.int .i64 o1] 3)) (some ⟨w4.drew.heap.size, 0, none⟩) 1 [.int .i64 o1] := reads_all (Blk.new w4.drew 3 [.int .i64 o1]) rfl
                have hkeep := Lib.hid (fun (A' : Option Addr) (n' : Nat) (w5 : World) (G' : Option Nat) (hr' : RowAt w5 A' n' (l k ++ [o1]) G') (hk' : Keep (fun x => G k = some x) (w4.drew.alloc (.cells #[.int .i64 o1] 3)) w5) (hG' : ∀ g, G' = some g → G k = some g ∨ (w4.drew.alloc (.cells #[.int .i64 o1] 3)).heap.size ≤ g) => HB.store hk2 hr' hk' hG' ((l k).length + 1) (by simp))
                have hws := HB.ws
                have hoff : ¬ (fun x => G k = some x) b9 := fun hg => by
                  obtain ⟨cur, hb2⟩ := hrow.blk hg
                  exact hws.ne_ hb2 (by decide) rfl
                have h64 : (l k).length ≤ 64 := by have := HB.small hk2; omega
                clear HC H4 bO4 HB kA
                go_region_law
                  ((refine step_qap (by rfl) _ _ 28 (by rfl) Try.underlying28 infoint (A k) (l k).length (n k) (l k) (G k) (by rfl) rfl hrow (by omega) (some ⟨w4.heap.size, 0, none⟩) 1 1 (by rfl) rfl o1 hr1 ?_; intro A' n' w5 G' hr' hk' hG'; have o2 := hws.keep hk' hoff; have z1 := o2.cell k; have f1 := o2.frozen k; rw [two_get hk2] at z1))
                all_goals
                  have HF := hkeep.out _ _ _ _ hr' hk' hG'
                  clear hkeep hr' hk' hG' o2 z1 f1
                  go_wp2_with fail
                  go_meet
                  exact ⟨_, _, _, _, HF⟩
            · have hgi : ¬ ((l k).length : Int) < (m k : Int) := by omega
              go_upto_region 23 with fail
              go_quiet (fail)
              have H1 := HO.nob ((Keep.refl Nob V).drewN nq)
              have bO1 := bO.drewN nq
              clear HO bO cw cm c0
              generalize V.drewN nq = V1 at *
              clear V
              go_upto_region 24 with fail
              have bD := bO1.drew
              have HD := H1.nob (Keep.nobdrew V1)
              have sf : ∀ W, Blk W gO 31 [.int .i64 0, .int .i64 o1, .int .i64 o2] → PS w W b7 b8 b9 p c m A n G l l → (W.cell? ⟨gO, 1, none⟩ = some (.int .i64 o1) ∧ W.cell? ⟨b7, k, none⟩ = some (.pointer (some ⟨p k, 0, none⟩))) := fun W hW hP => ⟨hW.cell 1, hP.cb hk2⟩
              have hR := HD.ring hk2 o1
              rw [decide_eq_false hg, rung, if_neg hg] at hR
              clear H1 bO1
              go_region_held3 (fun w' => w'.cell? ⟨gO, 1, none⟩ = some (.int .i64 o1) ∧ w'.cell? ⟨b7, k, none⟩ = some (.pointer (some ⟨p k, 0, none⟩)))
                (first | exact sf _ bD HD | exact ⟨bO4.cell 1, H4.cb hk2⟩)
                (first | (go_at_call 8; refine hR.mono ?_; rintro e' w4 ⟨rfl, H4, k4⟩; have bO4 := HD.offC hk2 bD k4))
              all_goals
                clear bD HD sf hR k4 hsm hgi bO4
                go_wp2_with fail
                go_meet
                exact ⟨A, n, G, l, H4.congr (fun i _ => up_self rfl i) (fun _ _ => rfl)⟩
        · have hb0 : (o0 == 0) = false := by simp [ho0]
          by_cases ho1 : o0 = 1
          · subst ho1
            have hb0 : ((1 : Int) == 0) = false := by decide
            as_aux_lemma =>
              have cb := HO.cb hk2
              have c0 := bO.cell 0
              simp only [List.getElem?_cons_zero] at c0
              have hT := HO.take hk2
              have hsm := HO.small hk2
              cases hl : l k with
              | nil =>
                rw [hl] at hT
                clear hsm
                go_wp2_with fail
                refine hT.mono ?_; rintro e w4 ⟨rfl, H4, -⟩
                clear hT HO bO cb c0
                have cw := H4.cw hk2
                rw [hl] at cw
                go_wp2_with fail
                go_meet
                exact ⟨A, n, G, l, H4.congr (fun i _ => up_self hl i) (fun _ _ => rfl)⟩
              | cons x r =>
                rw [hl] at hT
                have h64 : (l k).length ≤ 64 := by omega
                clear hsm
                go_wp2_with fail
                refine hT.mono ?_; rintro e w4 ⟨rfl, H4, -⟩
                clear hT HO bO cb c0
                have cw := H4.cw hk2
                have f9 := H4.ws.frozen k
                have hrow := H4.row k hk2
                have hcap := hrow.le
                obtain ⟨g, off9, hG, hA, cx⟩ := hrow.get (k := 0) (by rw [hl]; simp)
                have hput := Lib.hid (fun (A' : Option Addr) (hA' : 1 < n k → A' = (A k).map (·.add (1 * 1))) => H4.put hk2 (hrow.cut (by rw [hl]; simp) A' hA') (fun g hg => by split at hg; cases hg; exact hg) ((l k).length - 1) (by simp))
                rw [hl] at cx hcap h64 hput
                rw [hl, hA] at cw
                rw [hA] at hput
                simp only [List.length_cons, List.getD_cons_zero, Nat.add_zero, List.tail_cons] at cx cw hcap h64 hput
                clear H4 hrow
                have hL : 0 < r.length + 1 := by omega
                generalize r.length + 1 = L at *
                by_cases hn1 : n k = 1
                · have h1 := hput.out (some ⟨g, off9, none⟩) (by omega)
                  rw [hn1, Nat.sub_self] at h1
                  have HF := Lib.hid h1
                  clear h1 hput
                  go_wp2_with fail
                  go_meet
                  exact ⟨_, _, _, _, HF.out⟩
                · have h1 := hput.out (some ⟨g, off9 + 1, none⟩) (fun _ => by simp [add_lit])
                  have HF := Lib.hid h1
                  clear h1 hput
                  go_wp2_with fail
                  go_meet
                  exact ⟨_, _, _, _, HF.out⟩
          · have hb1 : (o0 == 1) = false := by simp [ho1]
            by_cases ho2 : o0 = 2
            · subst ho2
              have hb0 : ((2 : Int) == 0) = false := by decide
              have hb1 : ((2 : Int) == 1) = false := by decide
              as_aux_lemma =>
                have c0 := bO.cell 0
                simp only [List.getElem?_cons_zero] at c0
                have hsm := HO.small hk2
                go_upto_region 35 with fail
                have HD := HO.nob (Keep.nobdrew V)
                have sf : ∀ W (l' : Nat → List Int), PS w W b7 b8 b9 p c m A n G l' l → (W.cell? ⟨b7, k, none⟩ = some (.pointer (some ⟨p k, 0, none⟩)) ∧ W.cell? ⟨b9, k, none⟩ = some (.slice (A k) (l k).length (n k))) := fun W l' hP => ⟨hP.cb hk2, hP.cw hk2⟩
                have hR := HD.drain hk2
                clear HO bO c0
                go_region_held3 (fun w' => w'.cell? ⟨b7, k, none⟩ = some (.pointer (some ⟨p k, 0, none⟩)) ∧ w'.cell? ⟨b9, k, none⟩ = some (.slice (A k) (l k).length (n k)))
                  (first | exact sf _ _ H5 | exact sf _ _ H4 | exact sf _ _ HD)
                  (first | (go_at_call 11; refine hR.mono ?_; rintro e' w4 ⟨D, d, rfl, hD, H4, -⟩) | (go_at_call 10; refine (same_at hD (H4.row k hk2).lies rfl (by omega)).mono ?_; rintro e' w5 ⟨rfl, k5⟩; have H5 := H4.nob k5))
                all_goals
                  clear sf hR HD hD H4 k5 hsm
                  have cw := H5.cw hk2
                  have f9 := H5.ws.frozen k
                  have HF := Lib.hid (H5.put hk2 (RowAt.nil w5) (fun g hg => by cases hg) 0 rfl)
                  clear H5
                  go_wp2_with fail
                  go_meet
                  exact ⟨_, _, _, _, HF.out⟩
            · have hb2 : (o0 == 2) = false := by simp [ho2]
              as_aux_lemma =>
                have c0 := bO.cell 0
                simp only [List.getElem?_cons_zero] at c0
                obtain ⟨j, hj, hj2, hkj⟩ : ∃ j : Nat, (1 : Int) - (k : Int) = (j : Int) ∧ j < 2 ∧ k ≠ j := ⟨1 - k, by omega, by omega, by omega⟩
                have hj3 : (j : Int) < 2 := by omega
                have hwj : IntKind.i64.wrap (j : Int) = (j : Int) := by rcases (show j = 0 ∨ j = 1 by omega) with rfl | rfl <;> rfl
                have t0 : (k : Int).tmod 2 = (k : Int) := by rcases (show k = 0 ∨ k = 1 by omega) with rfl | rfl <;> rfl
                have t1 : ((k : Int) + 1).tmod 2 = (j : Int) := by
                  rcases (show (k = 0 ∧ j = 1) ∨ (k = 1 ∧ j = 0) by omega) with ⟨rfl, rfl⟩ | ⟨rfl, rfl⟩ <;> rfl
                have t2 : (k : Int) % 2 = (k : Int) := by omega
                have t3 : ((k : Int) + 1) % 2 = (j : Int) := by omega
                have hsm := HO.small hk2
                have hsj := HO.small hj2
                go_upto_region 12 with fail
                have HD := HO.nob (Keep.nobdrew V)
                have sf : ∀ W (l' : Nat → List Int), PS w W b7 b8 b9 p c m A n G l' l → (W.cell? ⟨b7, k, none⟩ = some (.pointer (some ⟨p k, 0, none⟩)) ∧ W.cell? ⟨b7, j, none⟩ = some (.pointer (some ⟨p j, 0, none⟩))) := fun W l' hP => ⟨hP.cb hk2, hP.cb hj2⟩
                have hR := HD.either hk2 hj2 hkj
                clear HO bO c0
                cases hl : l k with
                | cons x r =>
                  rw [hl, show eith (x :: r) (l j) = .tuple #[.int .i64 x, .int .i64 0, .bool true] from rfl, show eithB (x :: r) (l j) = l j from rfl] at hR
                  go_region_held3 (fun w' => w'.cell? ⟨b7, k, none⟩ = some (.pointer (some ⟨p k, 0, none⟩)) ∧ w'.cell? ⟨b7, j, none⟩ = some (.pointer (some ⟨p j, 0, none⟩)))
                    (first | exact sf _ _ H4 | exact sf _ _ HD)
                    (first | (go_at_call 12; refine hR.mono ?_; rintro e' w4 ⟨rfl, H4, -⟩))
                  all_goals
                    clear sf hR HD
                    have cw := H4.cw hk2
                    have f9 := H4.ws.frozen k
                    have hrow := H4.row _ hk2
                    have hcap := hrow.le
                    have h64 : (l k).length ≤ 64 := by omega
                    obtain ⟨g, off9, hG, hA, cx⟩ := hrow.get (k := 0) (by rw [hl]; simp)
                    have hput := Lib.hid (fun (A' : Option Addr) (hA' : 1 < n k → A' = (A k).map (·.add (1 * 1))) => (H4.put hk2 (hrow.cut (by rw [hl]; simp) A' hA') (fun g hg => by split at hg; cases hg; exact hg) ((l k).length - 1) (by simp)).congr (l' := up l k r) (q' := up l k r) (fun i hi => up_either1 hkj i) (fun i hi => by rw [hl]; rfl))
                    rw [hl] at cx hcap h64 hput
                    rw [hl, hA] at cw
                    rw [hA] at hput
                    simp only [List.length_cons, List.getD_cons_zero, Nat.add_zero, List.tail_cons] at cx cw hcap h64 hput
                    clear H4 hrow hsm hsj
                    have hL : 0 < r.length + 1 := by omega
                    generalize r.length + 1 = L at *
                    by_cases hn1 : n k = 1
                    · have h1 := hput.out (some ⟨g, off9, none⟩) (by omega)
                      rw [hn1, Nat.sub_self] at h1
                      have HF := Lib.hid h1
                      clear h1 hput
                      go_wp2_with fail
                      go_meet
                      exact ⟨_, _, _, _, HF.out⟩
                    · have h1 := hput.out (some ⟨g, off9 + 1, none⟩) (fun _ => by simp [add_lit])
                      have HF := Lib.hid h1
                      clear h1 hput
                      go_wp2_with fail
                      go_meet
                      exact ⟨_, _, _, _, HF.out⟩
                | nil =>
                  cases hlj : l j with
                  | cons x r =>
                    rw [hl, hlj, show eith [] (x :: r) = .tuple #[.int .i64 x, .int .i64 1, .bool true] from rfl, show eithB [] (x :: r) = r from rfl] at hR
                    go_region_held3 (fun w' => w'.cell? ⟨b7, k, none⟩ = some (.pointer (some ⟨p k, 0, none⟩)) ∧ w'.cell? ⟨b7, j, none⟩ = some (.pointer (some ⟨p j, 0, none⟩)))
                      (first | exact sf _ _ H4 | exact sf _ _ HD)
                      (first | (go_at_call 12; refine hR.mono ?_; rintro e' w4 ⟨rfl, H4, -⟩))
                    all_goals
                      clear sf hR HD
                      have cwk := H4.cw hk2
                      rw [hl] at cwk
                      have cw := H4.cw hj2
                      have f9 := H4.ws.frozen j
                      have hrow := H4.row _ hj2
                      have hcap := hrow.le
                      have h64 : (l j).length ≤ 64 := by omega
                      obtain ⟨g, off9, hG, hA, cx⟩ := hrow.get (k := 0) (by rw [hlj]; simp)
                      have hput := Lib.hid (fun (A' : Option Addr) (hA' : 1 < n j → A' = (A j).map (·.add (1 * 1))) => (H4.put hj2 (hrow.cut (by rw [hlj]; simp) A' hA') (fun g hg => by split at hg; cases hg; exact hg) ((l j).length - 1) (by simp)).congr (l' := up l j r) (q' := up l j r) (fun i hi => up_either2 hl i) (fun i hi => by rw [hlj]; rfl))
                      rw [hlj] at cx hcap h64 hput
                      rw [hlj, hA] at cw
                      rw [hA] at hput
                      simp only [List.length_cons, List.length_nil, List.getD_cons_zero, Nat.add_zero, List.tail_cons] at cx cw cwk hcap h64 hput
                      clear H4 hrow hsm hsj
                      have hL : 0 < r.length + 1 := by omega
                      generalize r.length + 1 = L at *
                      by_cases hn1 : n j = 1
                      · have h1 := hput.out (some ⟨g, off9, none⟩) (by omega)
                        rw [hn1, Nat.sub_self] at h1
                        have HF := Lib.hid h1
                        clear h1 hput
                        go_wp2_with fail
                        go_meet
                        exact ⟨_, _, _, _, HF.out⟩
                      · have h1 := hput.out (some ⟨g, off9 + 1, none⟩) (fun _ => by simp [add_lit])
                        have HF := Lib.hid h1
                        clear h1 hput
                        go_wp2_with fail
                        go_meet
                        exact ⟨_, _, _, _, HF.out⟩
                  | nil =>
                    rw [hl, hlj, show eith [] [] = .tuple #[.int .i64 0, .int .i64 0, .bool false] from rfl, show eithB [] [] = [] from rfl] at hR
                    go_region_held3 (fun w' => w'.cell? ⟨b7, k, none⟩ = some (.pointer (some ⟨p k, 0, none⟩)) ∧ w'.cell? ⟨b7, j, none⟩ = some (.pointer (some ⟨p j, 0, none⟩)))
                      (first | exact sf _ _ H4 | exact sf _ _ HD)
                      (first | (go_at_call 12; refine hR.mono ?_; rintro e' w4 ⟨rfl, H4, -⟩))
                    all_goals
                      clear sf hR HD hsm hsj
                      have cwk := H4.cw hk2
                      rw [hl] at cwk
                      have cw := H4.cw hj2
                      rw [hlj] at cw
                      simp only [List.length_nil] at cw cwk
                      have HF := Lib.hid (H4.congr (l' := l) (q' := l) (fun i hi => up_either3 hl hlj i) (fun i hi => rfl))
                      clear H4
                      go_wp2_with fail
                      go_meet
                      exact ⟨_, _, _, _, HF.out⟩
      case rest =>
        obtain ⟨A', n', G', l', H⟩ := hcut
        clear HO bO
        have d0 := H.cb (k := 0) (by decide)
        have d1 := H.cb (k := 1) (by decide)
        have d2 := H.cw (k := 0) (by decide)
        have d3 := H.cw (k := 1) (by decide)
        go_upto_region 38 with fail
        go_quiet (first | (go_at_call 13; exact H.len (k := 0) (by decide) _ _ rfl) | (go_at_call 13; exact H.len (k := 1) (by decide) _ _ rfl))
        have H2 := H.nob ((Keep.refl Nob _).drewN nq)
        clear H d0 d1 d2 d3
        go_wp2_with fail
        go_roundw
        case rel => exact ⟨i + 1, A', n', G', l', by omega, by omega, by go_num, H2⟩
        case measure => simp [intOf]; omega
theorem BellPlays_walk (w : World) (a0 : Int) (w0 : (Lit.int .i64 a0).wf = true) (a1 : Int) (w1 : (Lit.int .i64 a1).wf = true) (A2 : Option Addr) (n2 c2 : Nat) (x2 : Ty.den (.sl 24 (.pair (.int .i64) (.pair (.int .i64) (.pair (.int .i64) .unit))))) (w2 : Holds w (.sl 24 (.pair (.int .i64) (.pair (.int .i64) (.pair (.int .i64) .unit)))) x2 [.slice A2 n2 c2]) :
    Calls Try.prog 3 #[.int .i64 a0, .int .i64 a1, .slice A2 n2 c2] w fun e w' => e = .returned (.bool true) ∧ Below w.heap.size w w' := by
  have e : ∀ a : Int, (if (64 : Int) < (if a < 1 then (1 : Int) else a) then (64 : Int) else (if a < 1 then (1 : Int) else a)) = ((min (max a 1) 64).toNat : Int) ∧ min (max a 1) 64 = ((min (max a 1) 64).toNat : Int) := fun a => by
    refine ⟨?_, by omega⟩
    split <;> split <;> omega
  exact plays_core w a0 a1 A2 n2 c2 x2 w2 _ _ _ _ rfl rfl (e a0).1 (e a1).1 (e a0).2 (e a1).2
end Go.Proofs.Ytbieffenicojpaa
