/- Layer 8 (kern): the walk of KernFrames. -/
import Derived.Test.YtompckcnpidbdaaGreatLaw8h
namespace Go.Proofs.YtompckcnpidbdaaGreat
open Go.RowKit
set_option linter.unusedVariables false
set_option linter.unusedSimpArgs false
def LF (f0 f1 : Nat) : List (TypeId × List Value) := [(3, [.int .i64 f0, .int .i64 f1]), (3, [.int .i64 0, .int .i64 1, .int .i64 0, .int .i64 1])]
def bF (w : World) (f0 f1 : Nat) : Bt := ⟨[(f0 : Int), (f1 : Int)], some ⟨w.heap.size, 0, none⟩, 2, [0, 1, 0, 1], some ⟨w.heap.size + 1, 0, none⟩, 4, [], none, 0, 1, [], none, 0⟩
theorem isF (w : World) (f0 f1 : Nat) : IsBt (mkw w (LF f0 f1)) (bF w f0 f1) :=
  ⟨mkw_reads (l := LF f0 f1) 0 rfl 2 rfl, Nat.le_of_ble_eq_true rfl, mkw_reads (l := LF f0 f1) 1 rfl 4 rfl, Reads.nil_ _ _, fun s hs => (by cases hs), Reads.nil_ _ _, fun s hs => (by cases hs)⟩
theorem okF (w : World) (f0 f1 : Nat) (h0 : f0 ≤ 7) (h1 : f1 ≤ 7) : BtOk (bF w f0 f1) [f0, f1] := by
  refine ⟨?_, ?_, ?_, ?_, ?_, ?_, ?_, ?_, ?_, fun s hs => (by cases hs), fun s hs => (by cases hs)⟩
  · show Qu.sizes [(f0 : Int), (f1 : Int)] = [f0, f1]
    simp [Qu.sizes]
    omega
  any_goals (first | exact Nat.le_of_ble_eq_true rfl | (dsimp only [bF]; decide))
  intro x hx
  simp [bF] at hx
  show 0 ≤ x ∧ x < ((2 : Nat) : Int)
  omega
/-- What of which session is used. -/
def ucells (b : Nat → List Bool) : List Value := mk 16 fun i => .bool ((b (i / 8)).getD (i % 8) false)
theorem ucells_get {b : Nat → List Bool} {s k : Nat} (hs : s < 2) (hk : k < 8) : (ucells b)[s * 8 + k]? = some (.bool ((b s).getD k false)) := by
  unfold ucells
  rw [mk_get (by omega), show (s * 8 + k) / 8 = s by omega, show (s * 8 + k) % 8 = k by omega]
theorem ucells_set {b : Nat → List Bool} {s k : Nat} (v : Bool) (hs : s < 2) (hk : k < 8) (hl : k < (b s).length) : (ucells b).set (s * 8 + k) (.bool v) = ucells (Qu.up b s ((b s).set k v)) := by
  unfold ucells
  refine mk_set _ fun j hj => ?_
  unfold Qu.up
  by_cases e : j = s * 8 + k
  · subst e
    rw [if_pos rfl, show (s * 8 + k) / 8 = s by omega, show (s * 8 + k) % 8 = k by omega, if_pos rfl]
    simp [List.getD_eq_getElem?_getD, hl]
  · rw [if_neg e]
    by_cases e2 : j / 8 = s
    · rw [if_pos e2]
      subst e2
      have hne : k ≠ j % 8 := by omega
      simp [List.getD_eq_getElem?_getD, List.getElem?_set_ne hne]
    · rw [if_neg e2]
theorem ucells_same {b : Nat → List Bool} {s k : Nat} (hs : s < 2) (hk : k < 8) (hf : (b s).getD k false = false) : (ucells b).set (s * 8 + k) (.bool false) = ucells b := by
  unfold ucells
  refine mk_set _ fun j hj => ?_
  by_cases e : j = s * 8 + k
  · subst e
    rw [if_pos rfl, show (s * 8 + k) / 8 = s by omega, show (s * 8 + k) % 8 = k by omega, hf]
  · rw [if_neg e]
theorem ucells_zero (b : Nat → List Bool) (h : ∀ s, s < 2 → ∃ n, b s = List.replicate n false) : ucells b = List.replicate 16 (.bool false) := by
  rw [mk_rep]
  unfold ucells
  refine mk_congr fun i hi => ?_
  obtain ⟨n, hn⟩ := h (i / 8) (by omega)
  rw [hn]
  simp [List.getD_eq_getElem?_getD, List.getElem?_replicate]
  split <;> rfl
set_option maxRecDepth 100000 in
set_option maxHeartbeats 8000000 in
theorem frames_core (w : World) (a0 a1 : Int) (f0 f1 : Nat) (hm0 : a0 % 8 = f0) (hm1 : a1 % 8 = f1) (hm2 : bits .and .i64 a0 7 = f0) (hm3 : bits .and .i64 a1 7 = f1) (A2 : Option Addr) (n2 c2 : Nat) (x2 : Ty.den (.sl 80 OpTy8)) (w2 : Holds w (.sl 80 OpTy8) x2 [.slice A2 n2 c2]) :
    Calls Tryz.prog 4 #[.int .i64 a0, .int .i64 a1, .slice A2 n2 c2] w fun e w' => e = .returned (.bool true) ∧ Below w.heap.size w w' := by
  have W2 := Lib.hid w2
  clear w2
  have l0 : f0 ≤ 7 := by omega
  have l1 : f1 ≤ 7 := by omega
  go_enter Tryz.func4, Tryz.ntmps4
  go_wp2_with fail
  refine (knew_is (isF w f0 f1) (okF w f0 f1 l0 l1)).mono ?_; rintro e w1 ⟨K, rfl, hF, hB⟩
  have h1 := hF.kn1
  have kW := mkw_keep (LF f0 f1) w
  have hfb := mkw_blk (LF f0 f1) w 0 _ _ rfl
  rw [Nat.add_zero] at hfb
  have hn : K.envs = [0, 1, 0, 1] := hB.envs
  have hns : K.ns = [f0, f1] := hB.nse
  have hbq := hB.bq
  obtain ⟨W0, hW0⟩ : ∃ W0, mkw w (LF f0 f1) = W0 := ⟨_, rfl⟩
  rw [hW0] at h1 kW hfb
  have HB := Lib.hid (And.intro hn (And.intro hns hbq))
  have HW := Lib.hid (And.intro kW hfb)
  clear hF hB hn hns hbq kW hfb hW0 hm2 hm3
  have kU := (Keep.refl Nob w1).alloc (.cells #[.bool false, .bool false, .bool false, .bool false, .bool false, .bool false, .bool false, .bool false, .bool false, .bool false, .bool false, .bool false, .bool false, .bool false, .bool false, .bool false] 50)
  have b1 : Blk (w1.alloc (.cells #[.bool false, .bool false, .bool false, .bool false, .bool false, .bool false, .bool false, .bool false, .bool false, .bool false, .bool false, .bool false, .bool false, .bool false, .bool false, .bool false] 50)) w1.heap.size 50 (ucells K.bq) := by
    rw [ucells_zero K.bq (fun s hs => ⟨_, by rw [HB.out.2.2]⟩)]
    exact Blk.new w1 50 (List.replicate 16 (.bool false))
  have h2 : Kn0 W0 _ { K with bq := K.bq } := h1.nob kU
  have hg : W0.heap.size ≤ w1.heap.size := h1.keep.size
  clear h1 kU
  go_wp2_with fail
  generalize w1.heap.size = g at *
  go_loopw [11] (fun s11 wx => ∃ (i : Nat) (b : Nat → List Bool), i ≤ n2 ∧ i ≤ 80 ∧ s11 = .int .i64 i ∧ Kn0 W0 wx { K with bq := b } ∧ Blk wx g 50 (ucells b)) (fun t _ => 81 - (intOf t).toNat)
  case atStart => exact ⟨0, _, Nat.zero_le _, by decide, rfl, h2, b1⟩
  case round =>
    obtain ⟨i, b, hi1, hi2, rfl, H, bu⟩ := hrel
    clear h2 b1
    obtain ⟨bo, hbo⟩ : ∃ bo, bo = decide (i < n2 ∧ i < 80) := ⟨_, rfl⟩
    have Hbo := Lib.hid hbo
    clear hbo
    go_upto_region 7 with fail
    go_cut [43] from 36 to 43 (fun s43 wx => s43 = .bool bo ∧ wx = wr)
    case first =>
      by_cases h1 : i < n2
      · by_cases h2 : i < 80
        · have h3 : decide (i < n2 ∧ i < 80) = true := by simp [h1, h2]
          go_wp2_with fail
          go_meet
          exact ⟨by (try rw [Hbo.out, h3]); (first | rfl | exact congrArg Value.bool (decide_eq_true (by omega)) | exact congrArg Value.bool (decide_eq_false (by omega)) | skip), rfl⟩
        · have h3 : decide (i < n2 ∧ i < 80) = false := by simp [h2]
          go_wp2_with fail
          go_meet
          exact ⟨by (try rw [Hbo.out, h3]); (first | rfl | exact congrArg Value.bool (decide_eq_true (by omega)) | exact congrArg Value.bool (decide_eq_false (by omega)) | skip), rfl⟩
      · have h3 : decide (i < n2 ∧ i < 80) = false := by simp [h1]
        go_wp2_with fail
        go_meet
        exact ⟨by (try rw [Hbo.out, h3]); (first | rfl | exact congrArg Value.bool (decide_eq_true (by omega)) | exact congrArg Value.bool (decide_eq_false (by omega)) | skip), rfl⟩
    case rest =>
    obtain ⟨rfl, hw⟩ := hcut
    have hw := hw.symm
    subst hw
    cases bo with
    | false =>
      have H0 := Lib.hid H
      clear Hbo H bu
      go_wp2_with fail
      refine (awake_true wr).mono ?_; rintro e w7 ⟨rfl, k7⟩
      go_wp2_with fail
      go_ret
      exact ⟨rfl, (H0.out.nob k7).below HW.out.1⟩
    | true =>
      obtain ⟨hl1, hl2⟩ : i < n2 ∧ i < 80 := of_decide_eq_true Hbo.out.symm
      clear Hbo
      obtain ⟨bb, off, o0, o1, o2, o3, o4, o5, o6, oB, ol, oc, obs, rfl, -, f0', f1', -, -, f4', -, -, -⟩ := op8_at W2.out hl1
      have ca := H.args HW.out.1
      have q0 := ca.cell_from f0'
      have q1 := ca.cell_from f1'
      have q4 := ca.cell_from f4'
      clear f0' f1' f4' ca
      obtain ⟨e, he⟩ : ∃ e : Nat, o0 % 4 = (e : Int) := ⟨(o0 % 4).toNat, by omega⟩
      obtain ⟨s, hs⟩ : ∃ s : Nat, (e : Int) % 2 = (s : Int) := ⟨e % 2, by omega⟩
      have he4 : e < 4 := by omega
      have hs2 : s < 2 := by omega
      have hses : K.envs.getD e 0 = (s : Int) := by
        rw [HB.out.1]
        rcases (show e = 0 ∨ e = 1 ∨ e = 2 ∨ e = 3 by omega) with rfl | rfl | rfl | rfl <;> simp at hs ⊢ <;> omega
      have hee : e < K.envs.length := by rw [HB.out.1]; exact he4
      obtain ⟨fs, hfs⟩ : ∃ fs, [f0, f1].getD s 0 = fs := ⟨_, rfl⟩
      have hfs7 : fs ≤ 7 := by
        rcases (show s = 0 ∨ s = 1 by omega) with rfl | rfl <;> simp at hfs <;> omega
      have hsn : s < K.ns.length := by rw [HB.out.2.1]; exact hs2
      have hsl : (s : Int) < K.ns.length := by omega
      have hlen : (b s).length = fs := by
        have := H.is.quo.len s hsn
        dsimp only at this
        rw [this, HB.out.2.1, hfs]
      have hcf : ∀ W, Kn0 W0 W { K with bq := b } → W.cell? ⟨w.heap.size, s, none⟩ = some (.int .i64 fs) := fun W h => by
        rw [(h.elder HW.out.2).cell]
        rcases (show s = 0 ∨ s = 1 by omega) with rfl | rfl <;> simp at hfs ⊢ <;> omega
      have hcf2 : ∀ (b' : Nat → List Bool) W, Kn0 W0 W { K with bq := b' } → W.cell? ⟨w.heap.size, s, none⟩ = some (.int .i64 fs) := fun b' W h => by
        rw [(h.elder HW.out.2).cell]
        rcases (show s = 0 ∨ s = 1 by omega) with rfl | rfl <;> simp at hfs ⊢ <;> omega
      have cf := hcf wr H
      have HCF := Lib.hid hcf2
      have HS := Lib.hid (And.intro hses (And.intro hee (And.intro hsn (And.intro hsl hlen))))
      clear hcf hcf2 hfs hses hee hsn hsl hlen
      by_cases ho : o1 % 2 = 0
      · obtain ⟨ix, hix⟩ : ∃ ix, (b s).idxOf false = ix := ⟨_, rfl⟩
        have hixf : ix ≤ fs := by have := Qu.idx_le (b s); rw [hix, HS.out.2.2.2.2] at this; exact this
        have HIX := Lib.hid hix
        clear hix
        go_wp2_with fail
        go_loopw [14] (fun s14 wx => ∃ k : Nat, k ≤ ix ∧ s14 = .int .i64 k ∧ wx = wr) (fun t _ => ix - (intOf t).toNat)
        case atStart => exact ⟨0, Nat.zero_le _, rfl, rfl⟩
        case round =>
          obtain ⟨k, hk, rfl, hw⟩ := hrel
          subst hw
          by_cases hlt : k < ix
          · have cu := (bu.cell (s * 8 + k)).trans (ucells_get hs2 (by omega))
            rw [Qu.idx_before (by rw [HIX.out]; exact hlt)] at cu
            have hkf : k < fs := by omega
            go_wp2_with fail
            go_roundw
            case rel => exact ⟨k + 1, by omega, by go_num, by first | rfl | trivial⟩
            case measure => simp [intOf]; omega
          · obtain rfl : k = ix := by omega
            by_cases hkf : k < fs
            · have cu := (bu.cell (s * 8 + k)).trans (ucells_get hs2 (by omega))
              have hat := Qu.idx_at (l := b s) (by rw [HIX.out, HS.out.2.2.2.2]; exact hkf)
              rw [HIX.out] at hat
              rw [hat] at cu
              have hal : Qu.al K.ns.length b s = ((k : Int), 0, Qu.up b s ((b s).set k true)) := by
                unfold Qu.al
                rw [if_pos ⟨by omega, HS.out.2.2.2.1⟩, Int.toNat_natCast, HIX.out, HS.out.2.2.2.2, if_pos hkf]
              have hcall := k_alloc H.is e HS.out.2.1 0 0 0 0 0 none 0 0 s HS.out.1 k 0 _ hal
              go_wp2_with fail
              refine hcall.mono ?_; rintro e w3 ⟨rfl, t3⟩
              have kx := (Keep.refl Nob w3).alloc (.cells #[.int .i64 0, .int .i64 k, .slice none 0 0] 40)
              have h4 := (H.to t3).nob kx
              have bu4 := (H.is.offT bu (by decide) t3.keep).nob kx
              have ba := Blk.new w3 40 [.int .i64 0, .int .i64 k, .slice none 0 0]
              have cf4 := HCF.out _ _ h4
              have g4 := (bu4.cell (s * 8 + k)).trans (ucells_get hs2 (by omega))
              have fz4 := bu4.frozen (s * 8 + k)
              have z0 := ba.cell 0
              have z1 := ba.cell 1
              simp only [List.getElem?_cons_zero, List.getElem?_cons_succ] at z0 z1
              have hkl : k < (b s).length := by rw [HS.out.2.2.2.2]; exact hkf
              have FI := Lib.hid (And.intro h4 (And.intro bu4 hkl))
              clear h4 bu4 H bu t3 hal hat hkl kx ba
              go_wp2_with fail
              go_quiet (fail)
              go_wp2_with fail
              go_roundw
              case rel =>
                have bu5 := (FI.out.2.1.drewN nq).setCell (s * 8 + k) (.bool true)
                rw [ucells_set true hs2 (by omega) FI.out.2.2] at bu5
                exact ⟨i + 1, _, by omega, by omega, by go_num, (FI.out.1.nob ((Keep.refl Nob _).drewN nq)).far (FI.out.2.1.drewN nq) (by decide) (by decide) hg ((Keep.refl (fun b => b = g) _).setCell ⟨g, s * 8 + k, none⟩ _ (fun _ => rfl)), bu5⟩
              case measure => simp [intOf]; omega
            · obtain rfl : k = fs := by omega
              have hal : Qu.al K.ns.length b s = ((0 : Int), 4, b) := by
                unfold Qu.al
                rw [if_pos ⟨by omega, HS.out.2.2.2.1⟩, Int.toNat_natCast, HIX.out, HS.out.2.2.2.2, if_neg hkf]
              have hcall := k_alloc H.is e HS.out.2.1 0 0 0 0 0 none 0 0 s HS.out.1 0 4 _ hal
              go_wp2_with fail
              refine hcall.mono ?_; rintro e w3 ⟨rfl, t3⟩
              have kx := (Keep.refl Nob w3).alloc (.cells #[.int .i64 4, .int .i64 0, .slice none 0 0] 40)
              have h4 := (H.to t3).nob kx
              have bu4 := (H.is.offT bu (by decide) t3.keep).nob kx
              have ba := Blk.new w3 40 [.int .i64 4, .int .i64 0, .slice none 0 0]
              have cf4 := HCF.out _ _ h4
              have z0 := ba.cell 0
              have z1 := ba.cell 1
              simp only [List.getElem?_cons_zero, List.getElem?_cons_succ] at z0 z1
              have FI := Lib.hid (And.intro h4 bu4)
              clear h4 bu4 H bu t3 hal kx ba
              go_wp2_with fail
              go_quiet (fail)
              go_wp2_with fail
              go_roundw
              case rel => exact ⟨i + 1, b, by omega, by omega, by go_num, FI.out.1.nob ((Keep.refl Nob _).drewN nq), FI.out.2.drewN nq⟩
              case measure => simp [intOf]; omega
      · obtain ⟨n, hn⟩ : ∃ n : Nat, o4 % 8 = (n : Int) := ⟨(o4 % 8).toNat, by omega⟩
        have hn8 : n < 8 := by omega
        have cu := (bu.cell (s * 8 + n)).trans (ucells_get hs2 hn8)
        by_cases hu : (b s).getD n false = true
        · have hnl : n < (b s).length := by
            rcases Nat.lt_or_ge n (b s).length with h | h
            · exact h
            · rw [List.getD_eq_getElem?_getD, List.getElem?_eq_none h] at hu
              cases hu
          have how : Qu.owns K.ns.length b s n = true := by
            unfold Qu.owns
            rw [Int.toNat_natCast, Int.toNat_natCast, hu]
            simp
            exact ⟨HS.out.2.2.1, hnl⟩
          have hfr : Qu.fr K.ns.length b s n = (0, Qu.up b s ((b s).set n false)) := by
            unfold Qu.fr
            rw [if_pos ⟨by omega, HS.out.2.2.2.1⟩, if_pos how, Int.toNat_natCast, Int.toNat_natCast]
          have hcall := k_free H.is e HS.out.2.1 0 0 n 0 0 none 0 0 s HS.out.1 0 _ hfr
          rw [hu] at cu
          go_wp2_with fail
          refine hcall.mono ?_; rintro e w3 ⟨rfl, t3⟩
          have kx := (Keep.refl Nob w3).alloc (.cells #[.int .i64 0, .int .i64 0, .slice none 0 0] 40)
          have h4 := (H.to t3).nob kx
          have bu4 := (H.is.offT bu (by decide) t3.keep).nob kx
          have ba := Blk.new w3 40 [.int .i64 0, .int .i64 0, .slice none 0 0]
          have z0 := ba.cell 0
          have z1 := ba.cell 1
          simp only [List.getElem?_cons_zero, List.getElem?_cons_succ] at z0 z1
          have g4 := (bu4.cell (s * 8 + n)).trans (ucells_get hs2 hn8)
          rw [hu] at g4
          have fz4 := bu4.frozen (s * 8 + n)
          have FI := Lib.hid (And.intro h4 (And.intro bu4 hnl))
          clear h4 bu4 H bu t3 hfr how hnl kx ba hu
          go_wp2_with fail
          go_quiet (fail)
          go_wp2_with fail
          go_roundw
          case rel =>
            have bu5 := (FI.out.2.1.drewN nq).setCell (s * 8 + n) (.bool false)
            rw [ucells_set false hs2 hn8 FI.out.2.2] at bu5
            exact ⟨i + 1, _, by omega, by omega, by go_num, (FI.out.1.nob ((Keep.refl Nob _).drewN nq)).far (FI.out.2.1.drewN nq) (by decide) (by decide) hg ((Keep.refl (fun b => b = g) _).setCell ⟨g, s * 8 + n, none⟩ _ (fun _ => rfl)), bu5⟩
          case measure => simp [intOf]; omega
        · have hu0 : (b s).getD n false = false := by simpa using hu
          have how : ¬ Qu.owns K.ns.length b s n = true := by
            unfold Qu.owns
            rw [Int.toNat_natCast, Int.toNat_natCast, hu0]
            simp
          have hfr : Qu.fr K.ns.length b s n = (5, b) := by
            unfold Qu.fr
            rw [if_pos ⟨by omega, HS.out.2.2.2.1⟩, if_neg how]
          have hcall := k_free H.is e HS.out.2.1 0 0 n 0 0 none 0 0 s HS.out.1 5 _ hfr
          rw [hu0] at cu
          go_wp2_with fail
          refine hcall.mono ?_; rintro e w3 ⟨rfl, t3⟩
          have kx := (Keep.refl Nob w3).alloc (.cells #[.int .i64 5, .int .i64 0, .slice none 0 0] 40)
          have h4 := (H.to t3).nob kx
          have bu4 := (H.is.offT bu (by decide) t3.keep).nob kx
          have ba := Blk.new w3 40 [.int .i64 5, .int .i64 0, .slice none 0 0]
          have z0 := ba.cell 0
          have z1 := ba.cell 1
          simp only [List.getElem?_cons_zero, List.getElem?_cons_succ] at z0 z1
          have g4 := (bu4.cell (s * 8 + n)).trans (ucells_get hs2 hn8)
          rw [hu0] at g4
          have fz4 := bu4.frozen (s * 8 + n)
          have FI := Lib.hid (And.intro h4 (And.intro bu4 hu0))
          clear h4 bu4 H bu t3 hfr how hu0 kx ba hu
          go_wp2_with fail
          go_quiet (fail)
          go_wp2_with fail
          go_roundw
          case rel =>
            have bu5 := (FI.out.2.1.drewN nq).setCell (s * 8 + n) (.bool false)
            rw [ucells_same hs2 hn8 FI.out.2.2] at bu5
            exact ⟨i + 1, _, by omega, by omega, by go_num, (FI.out.1.nob ((Keep.refl Nob _).drewN nq)).far (FI.out.2.1.drewN nq) (by decide) (by decide) hg ((Keep.refl (fun b => b = g) _).setCell ⟨g, s * 8 + n, none⟩ _ (fun _ => rfl)), bu5⟩
          case measure => simp [intOf]; omega
theorem KernFrames_walk (w : World) (a0 : Int) (w0 : (Lit.int .i64 a0).wf = true) (a1 : Int) (w1 : (Lit.int .i64 a1).wf = true) (A2 : Option Addr) (n2 c2 : Nat) (x2 : Ty.den (.sl 80 (.pair (.int .i64) (.pair (.pair (.int .i64) (.pair (.int .i64) (.pair (.int .i64) (.pair (.int .i64) (.pair (.int .i64) (.pair (.int .i64) (.pair (.sl 1 .byte) .unit))))))) .unit)))) (w2 : Holds w (.sl 80 (.pair (.int .i64) (.pair (.pair (.int .i64) (.pair (.int .i64) (.pair (.int .i64) (.pair (.int .i64) (.pair (.int .i64) (.pair (.int .i64) (.pair (.sl 1 .byte) .unit))))))) .unit))) x2 [.slice A2 n2 c2]) :
    Calls Tryz.prog 4 #[.int .i64 a0, .int .i64 a1, .slice A2 n2 c2] w fun e w' => e = .returned (.bool true) ∧ Below w.heap.size w w' := by
  obtain ⟨f0, h0⟩ := Int.eq_ofNat_of_zero_le (show 0 ≤ a0 % 8 by omega)
  obtain ⟨f1, h1⟩ := Int.eq_ofNat_of_zero_le (show 0 ≤ a1 % 8 by omega)
  exact frames_core w a0 a1 f0 f1 h0 h1 ((i64_mask a0 3 (by decide)).trans h0) ((i64_mask a1 3 (by decide)).trans h1) A2 n2 c2 x2 w2
end Go.Proofs.YtompckcnpidbdaaGreat
