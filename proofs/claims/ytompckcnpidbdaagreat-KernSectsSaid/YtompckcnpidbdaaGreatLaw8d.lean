/- Layer 8 (kern): the walk of KernSects. -/
import Derived.Test.YtompckcnpidbdaaGreatLaw8h
import Derived.Test.YtompckcnpidbdaaGreatSec5
namespace Go.Proofs.YtompckcnpidbdaaGreat
open Go.RowKit
set_option linter.unusedVariables false
set_option linter.unusedSimpArgs false
def LS (w : World) : List (TypeId × List Value) := [(3, [.int .i64 1, .int .i64 1]), (3, [.int .i64 0, .int .i64 0, .int .i64 1, .int .i64 1]), (3, [.int .i64 0]), (3, [.int .i64 1]), (27, [.slice (some ⟨w.heap.size + 2, 0, none⟩) 1 1, .slice (some ⟨w.heap.size + 3, 0, none⟩) 1 1])]
def bS (w : World) : Bt := ⟨[1, 1], some ⟨w.heap.size, 0, none⟩, 2, [0, 0, 1, 1], some ⟨w.heap.size + 1, 0, none⟩, 4, [⟨some ⟨w.heap.size + 2, 0, none⟩, 1, [0]⟩, ⟨some ⟨w.heap.size + 3, 0, none⟩, 1, [1]⟩], some ⟨w.heap.size + 4, 0, none⟩, 2, 4, [], none, 0⟩
theorem isS (w : World) : IsBt (mkw w (LS w)) (bS w) := by
  refine ⟨mkw_reads (l := LS w) 0 rfl 2 rfl, Nat.le_of_ble_eq_true rfl, mkw_reads (l := LS w) 1 rfl 4 rfl, mkw_reads (l := LS w) 4 rfl 2 rfl, fun s hs => ?_, Reads.nil_ _ _, fun s hs => (by cases hs)⟩
  rcases List.mem_cons.1 hs with rfl | hs
  · exact mkw_reads (l := LS w) 2 rfl 1 rfl
  · obtain rfl := List.mem_singleton.1 hs
    exact mkw_reads (l := LS w) 3 rfl 1 rfl
theorem okS (w : World) : BtOk (bS w) [1, 1] := by
  refine ⟨?_, ?_, ?_, ?_, ?_, ?_, ?_, ?_, ?_, fun s hs => ?_, fun s hs => (by cases hs)⟩
  any_goals (first | exact Nat.le_of_ble_eq_true rfl | (dsimp only [bS]; decide))
  · intro x hx
    simp [bS] at hx
    show 0 ≤ x ∧ x < ((2 : Nat) : Int)
    omega
  · have hx : ∀ x ∈ s.xs, x = 0 ∨ x = 1 := by
      rcases List.mem_cons.1 hs with rfl | hs
      · intro x hx; simp at hx; exact .inl hx
      · obtain rfl := List.mem_singleton.1 hs
        intro x hx; simp at hx; exact .inr hx
    have hl : s.xs.length ≤ 1000 := by
      rcases List.mem_cons.1 hs with rfl | hs
      · exact Nat.le_of_ble_eq_true rfl
      · obtain rfl := List.mem_singleton.1 hs
        exact Nat.le_of_ble_eq_true rfl
    exact ⟨fun x h => by have := hx x h; show 0 ≤ x ∧ x < ((2 : Nat) : Int); omega, hl⟩
/-- What is known of section s, the stamps being F. -/
def SI (i : Nat) (F : Nat → Int) (s : Nat) (S : Se.Sec) : Prop := 0 ≤ S.stamps ∧ S.stamps ≤ i ∧ (0 < S.stamp → ∃ a : Nat, S.who = a ∧ a / 2 = s ∧ a < 4 ∧ F a = S.stamp)
def upf (F : Nat → Int) (k : Nat) (v : Int) : Nat → Int := fun j => if j = k then v else F j
def arr4 (F : Nat → Int) : List Value := mk 4 fun i => .int .i64 (F i)
theorem arr4_get {F : Nat → Int} {i : Nat} (h : i < 4) : (arr4 F)[i]? = some (.int .i64 (F i)) := mk_get h
theorem arr4_set {F : Nat → Int} {k : Nat} {v : Int} : (arr4 F).set k (.int .i64 v) = arr4 (upf F k v) := mk_set _ (fun j hj => by unfold upf; split <;> rfl)
theorem SI.le {i j s : Nat} {F : Nat → Int} {S : Se.Sec} (h : SI i F s S) (hj : i ≤ j) : SI j F s S := ⟨h.1, by have := h.2.1; omega, h.2.2⟩
/-- Another section's stamp has been kept. -/
theorem SI.other {i s k : Nat} {F : Nat → Int} {S : Se.Sec} {v : Int} (h : SI i F s S) (hk : k / 2 ≠ s) : SI i (upf F k v) s S :=
  ⟨h.1, h.2.1, fun h0 => by
    obtain ⟨a, h1, h2, h3, h4⟩ := h.2.2 h0
    exact ⟨a, h1, h2, h3, by unfold upf; rw [if_neg (by intro e; subst e; exact hk h2)]; exact h4⟩⟩
/-- An Enter that has been told a stamp. -/
theorem SI.in_ {i s k : Nat} {F : Nat → Int} {S S' : Se.Sec} {v now : Int} {b : Bool} (h : SI i F s S) (hk : k / 2 = s) (hk4 : k < 4) (he : S.enter k now = (v, b, S')) (hv : 0 < v) : SI (i + 1) (upf F k v) s S' := by
  have h4 : (k : Int) < 4 := by omega
  have hh := h.2.1
  have h0 := h.1
  rcases Se.enter_cases (by omega) (by omega) he with ⟨_, hH, e1, e2⟩ | ⟨_, e1, e2, e3, e4⟩ | ⟨_, e1, _⟩
  · subst e2
    simp only [Se.Sec.isH, Bool.and_eq_true, decide_eq_true_eq] at hH
    refine ⟨h0, by show S.stamps ≤ _; omega, fun _ => ⟨k, hH.2, hk, hk4, ?_⟩⟩
    unfold upf
    rw [if_pos rfl, e1]
    rfl
  · refine ⟨by omega, by omega, fun _ => ⟨k, e4, hk, hk4, ?_⟩⟩
    unfold upf
    rw [if_pos rfl, e3]
  · omega
theorem SI.wait_ {i s k : Nat} {F : Nat → Int} {S S' : Se.Sec} {v now : Int} {b : Bool} (h : SI i F s S) (hk4 : k < 4) (he : S.enter k now = (v, b, S')) (hv : ¬ 0 < v) : SI (i + 1) F s S' := by
  have h4 : (k : Int) < 4 := by omega
  have hh := h.2.1
  have h0 := h.1
  rcases Se.enter_cases (by omega) (by omega) he with ⟨_, hH, e1, e2⟩ | ⟨_, e1, e2, e3, e4⟩ | ⟨_, e1, e2, e3⟩
  · subst e2
    exact ⟨h0, by show S.stamps ≤ _; omega, h.2.2⟩
  · omega
  · refine ⟨by omega, by omega, fun h1 => ?_⟩
    rcases e3 with ⟨e3, e4⟩ | e3
    · rw [e3, e4]
      exact h.2.2 (by omega)
    · omega
theorem SI.leave_ {i s : Nat} {F : Nat → Int} {S S' : Se.Sec} {who n : Int} {v : Bool} (h : SI i F s S) (he : S.leave who n = (v, S')) : SI i F s S' := by
  unfold Se.Sec.leave at he
  split at he
  · cases he
    exact ⟨h.1, h.2.1, fun h0 => absurd h0 (by simp [Se.Sec.rel])⟩
  · cases he
    exact h
/-- The two Sects. -/
structure Two8 (i : Nat) (F : Nat → Int) (G0 G1 : Gt) : Prop where
  m0 : G0.may = [0]
  m1 : G1.may = [1]
  s0 : SI i F 0 G0.s
  s1 : SI i F 1 G1.s
theorem Two8.upd {i j : Nat} {F F' : Nat → Int} {G0 G1 G X : Gt} {n : Nat} (h : Two8 i F G0 G1) (hG : [G0, G1][n]? = some G) (hm : X.may = G.may) (hs : SI j F' n X.s) (ho : ∀ m S, m ≠ n → SI i F m S → SI j F' m S) : ∃ G0' G1', [G0, G1].set n X = [G0', G1'] ∧ Two8 j F' G0' G1' := by
  match n, hG with
  | 0, hG =>
    simp at hG
    subst hG
    exact ⟨X, G1, rfl, hm.trans h.m0, h.m1, hs, ho 1 _ (by decide) h.s1⟩
  | 1, hG =>
    simp at hG
    subst hG
    exact ⟨G0, X, rfl, h.m0, hm.trans h.m1, ho 0 _ (by decide) h.s0, hs⟩
theorem Two8.at_ {i : Nat} {F : Nat → Int} {G0 G1 : Gt} {n : Nat} (h : Two8 i F G0 G1) (hn : n < 2) : ∃ G, [G0, G1][n]? = some G ∧ G.may = [(n : Int)] ∧ SI i F n G.s := by
  rcases (show n = 0 ∨ n = 1 by omega) with rfl | rfl
  · exact ⟨G0, rfl, h.m0, h.s0⟩
  · exact ⟨G1, rfl, h.m1, h.s1⟩
theorem SI.hold {i s : Nat} {F : Nat → Int} {S : Se.Sec} (h : SI i F s S) (hh : S.held = true) : ∃ a : Nat, S.who = a ∧ a / 2 = s ∧ a < 4 ∧ S.holds a (F a) = true := by
  have h0 : 0 < S.stamp := by simpa [Se.Sec.held] using hh
  obtain ⟨a, h1, h2, h3, h4⟩ := h.2.2 h0
  exact ⟨a, h1, h2, h3, by simp [Se.Sec.holds, Se.Sec.isH, h0, h1, h4]⟩
set_option maxRecDepth 100000 in
set_option maxHeartbeats 8000000 in
theorem KernSects_walk (w : World) (A0 : Option Addr) (n0 c0 : Nat) (x0 : Ty.den (.sl 80 (.pair (.int .i64) (.pair (.pair (.int .i64) (.pair (.int .i64) (.pair (.int .i64) (.pair (.int .i64) (.pair (.int .i64) (.pair (.int .i64) (.pair (.sl 1 .byte) .unit))))))) .unit)))) (w0 : Holds w (.sl 80 (.pair (.int .i64) (.pair (.pair (.int .i64) (.pair (.int .i64) (.pair (.int .i64) (.pair (.int .i64) (.pair (.int .i64) (.pair (.int .i64) (.pair (.sl 1 .byte) .unit))))))) .unit))) x0 [.slice A0 n0 c0]) :
    Calls Tryz.prog 3 #[.slice A0 n0 c0] w fun e w' => e = .returned (.bool true) ∧ Below w.heap.size w w' := by
  have W0 := Lib.hid w0
  clear w0
  go_enter Tryz.func3, Tryz.ntmps3
  go_wp2_with fail
  refine (knew_is (isS w) (okS w)).mono ?_; rintro e w1 ⟨K, rfl, hF, hB⟩
  have h1 := hF.kn1
  have kW := mkw_keep (LS w) w
  have hn : K.envs = [0, 0, 1, 1] := hB.envs
  have hnow := hB.now
  obtain ⟨G0, G1, hG, hT⟩ : ∃ G0 G1, K.gates = [G0, G1] ∧ Two8 0 (fun _ => 0) G0 G1 := by
    have h2 := hB.gates
    have hl := congrArg List.length h2
    simp [bS] at hl
    obtain ⟨G0, G1, hG⟩ : ∃ G0 G1, K.gates = [G0, G1] := by
      match h : K.gates, hl with
      | [a, b], _ => exact ⟨a, b, rfl⟩
    rw [hG] at h2
    simp [bS] at h2
    obtain ⟨⟨a1, a2⟩, a3, a4⟩ := h2
    refine ⟨G0, G1, hG, a2, a4, ?_, ?_⟩
    · rw [a1]; exact ⟨by decide, by decide, fun h => absurd h (by decide)⟩
    · rw [a3]; exact ⟨by decide, by decide, fun h => absurd h (by decide)⟩
  obtain ⟨Wm, hWm⟩ : ∃ Wm, mkw w (LS w) = Wm := ⟨_, rfl⟩
  rw [hWm] at h1 kW
  have HB := Lib.hid hn
  have HW := Lib.hid kW
  have h1' : Kn0 Wm w1 { K with now := 0, gates := [G0, G1] } := by
    have e1 := hnow
    have e2 := hG
    cases K
    dsimp only at e1 e2
    subst e1 e2
    exact h1
  clear hF hB hn kW hWm hnow h1 hG
  have kU := (Keep.refl Nob w1).alloc (.cells #[.int .i64 0, .int .i64 0, .int .i64 0, .int .i64 0] 32)
  have b1 : Blk (w1.alloc (.cells #[.int .i64 0, .int .i64 0, .int .i64 0, .int .i64 0] 32)) w1.heap.size 32 (arr4 (fun _ => 0)) := Blk.new w1 32 _
  have h2 := h1'.nob kU
  have hg : Wm.heap.size ≤ w1.heap.size := h1'.keep.size
  clear h1' kU
  go_wp2_with fail
  generalize w1.heap.size = g at *
  go_loopw [6] (fun s6 wx => ∃ (i : Nat) (now : Int) (F : Nat → Int) (G0 G1 : Gt), i ≤ n0 ∧ i ≤ 80 ∧ s6 = .int .i64 i ∧ 0 ≤ now ∧ now ≤ 3 * i ∧ Two8 i F G0 G1 ∧ Kn0 Wm wx { K with now := now, gates := [G0, G1] } ∧ Blk wx g 32 (arr4 F)) (fun t _ => 81 - (intOf t).toNat)
  case atStart => exact ⟨0, 0, _, G0, G1, Nat.zero_le _, by decide, rfl, by decide, by decide, hT, h2, b1⟩
  case round =>
    clear h2 b1 hT
    obtain ⟨i, now, F, G0, G1, hi1, hi2, rfl, hw0, hw1, hT, H, bu⟩ := hrel
    obtain ⟨bo, hbo⟩ : ∃ bo, bo = decide (i < n0 ∧ i < 80) := ⟨_, rfl⟩
    have Hbo := Lib.hid hbo
    clear hbo
    go_upto_region 6 with fail
    go_cut [41] from 34 to 41 (fun s41 wx => s41 = .bool bo ∧ wx = wr)
    case first =>
      by_cases h1 : i < n0
      · by_cases h2 : i < 80
        · have h3 : decide (i < n0 ∧ i < 80) = true := by simp [h1, h2]
          go_wp2_with fail
          go_meet
          exact ⟨by (try rw [Hbo.out, h3]); (first | rfl | exact congrArg Value.bool (decide_eq_true (by omega)) | exact congrArg Value.bool (decide_eq_false (by omega)) | skip), rfl⟩
        · have h3 : decide (i < n0 ∧ i < 80) = false := by simp [h2]
          go_wp2_with fail
          go_meet
          exact ⟨by (try rw [Hbo.out, h3]); (first | rfl | exact congrArg Value.bool (decide_eq_true (by omega)) | exact congrArg Value.bool (decide_eq_false (by omega)) | skip), rfl⟩
      · have h3 : decide (i < n0 ∧ i < 80) = false := by simp [h1]
        go_wp2_with fail
        go_meet
        exact ⟨by (try rw [Hbo.out, h3]); (first | rfl | exact congrArg Value.bool (decide_eq_true (by omega)) | exact congrArg Value.bool (decide_eq_false (by omega)) | skip), rfl⟩
    case rest =>
    obtain ⟨rfl, hw⟩ := hcut
    have hw := hw.symm
    subst hw
    cases bo with
    | false =>
      have H0 := Lib.hid H
      clear Hbo H bu
      go_wp2_with fail
      refine (awake_true wr).mono ?_; rintro e w7 ⟨rfl, k7⟩
      go_wp2_with fail
      go_ret
      exact ⟨rfl, (H0.out.nob k7).below HW.out⟩
    | true =>
      obtain ⟨hl1, hl2⟩ : i < n0 ∧ i < 80 := of_decide_eq_true Hbo.out.symm
      clear Hbo
      obtain ⟨bb, off, o0, o1, o2, o3, o4, o5, o6, oB, ol, oc, obs, rfl, -, f0', f1', f2', f3', f4', f5', f6', f7'⟩ := op8_at W0.out hl1
      have ca := H.args HW.out
      have q0 := ca.cell_from f0'
      have q1 := ca.cell_from f1'
      have q2 := ca.cell_from f2'
      have q3 := ca.cell_from f3'
      have q4 := ca.cell_from f4'
      have q5 := ca.cell_from f5'
      have q6 := ca.cell_from f6'
      have q7 := ca.cell_from f7'
      clear f0' f1' f2' f3' f4' f5' f6' f7' ca
      have kO := (Keep.refl Nob wr).alloc (.cells #[.int .i64 o0, .int .i64 o1, .int .i64 o2, .int .i64 o3, .int .i64 o4, .int .i64 o5, .int .i64 o6, .slice oB ol oc] 37)
      have bO := Blk.new wr 37 [.int .i64 o0, .int .i64 o1, .int .i64 o2, .int .i64 o3, .int .i64 o4, .int .i64 o5, .int .i64 o6, .slice oB ol oc]
      have h3 := H.nob kO
      have bu3 := bu.nob kO
      clear H bu kO
      by_cases hneg : o0 < 0
      · obtain ⟨t, ht⟩ : ∃ t : Int, o4 % 4 = t := ⟨_, rfl⟩
        have ht4 : 0 ≤ t ∧ t ≤ 3 := by omega
        have hk := tick_is h3.is t (now + t) hw0 (by dsimp only; omega) (by dsimp only; omega)
        go_wp2_with fail
        refine hk.mono ?_; rintro e w4 ⟨rfl, t4⟩
        have h4 := h3.to t4
        have bu4 := h3.is.offT bu3 (by decide) t4.keep
        clear h3 bu3 t4 hk bO
        go_wp2_with fail
        go_roundw
        case rel => exact ⟨i + 1, now + t, F, G0, G1, by omega, by omega, by go_num, by omega, by omega, ⟨hT.m0, hT.m1, hT.s0.le (by omega), hT.s1.le (by omega)⟩, h4, bu4⟩
        case measure => simp [intOf]; omega
      · obtain ⟨e, he⟩ : ∃ e : Nat, o0 % 4 = (e : Int) := ⟨(o0 % 4).toNat, by omega⟩
        obtain ⟨n, hn⟩ : ∃ n : Nat, o4 % 2 = (n : Int) := ⟨(o4 % 2).toNat, by omega⟩
        have he4 : e < 4 := by omega
        have hn2 : n < 2 := by omega
        go_wp2_with fail
        go_quiet (fail)
        have h4 := h3.nob ((Keep.refl Nob _).drewN nq)
        have bO4 := bO.drewN nq
        have bu4 := bu3.drewN nq
        clear h3 bO bu3 hneg
        generalize (wr.alloc (.cells #[.int .i64 o0, .int .i64 o1, .int .i64 o2, .int .i64 o3, .int .i64 o4, .int .i64 o5, .int .i64 o6, .slice oB ol oc] 37)).drewN nq = w4 at *
        generalize wr.heap.size = og at *
        have p1 := bO4.cell 1
        have p2 := bO4.cell 2
        have p3 := bO4.cell 3
        simp only [List.getElem?_cons_zero, List.getElem?_cons_succ] at p1 p2 p3
        obtain ⟨hf, hhf⟩ : ∃ hf : Nat, e / 2 = hf := ⟨_, rfl⟩
        have hss : K.envs.getD e 0 = (hf : Int) := by
          rw [HB.out]
          rcases (show e = 0 ∨ e = 1 ∨ e = 2 ∨ e = 3 by omega) with rfl | rfl | rfl | rfl <;> simp at hhf ⊢ <;> omega
        have hee : e < K.envs.length := by rw [HB.out]; exact he4
        have d1 : (e : Int).tdiv 2 = (hf : Int) := by rw [Int.tdiv_eq_ediv_of_nonneg (by omega)]; omega
        have d2 : (e : Int) / 2 = (hf : Int) := by omega
        obtain ⟨G, hG, hmay, hSI⟩ := hT.at_ hn2
        have hst : G.s.stamps < 4611686018427387904 := by have := hSI.2.1; omega
        have HT := Lib.hid (And.intro hT (And.intro hSI (And.intro hG hmay)))
        have HS := Lib.hid (And.intro hss (And.intro hee (And.intro hst hhf)))
        clear hT hSI hss hee hhf q0 q1 q2 q3 q4 q5 q6 q7 hG hmay hst
        have stay : ∀ wx, Kn0 Wm wx { K with now := now, gates := [G0, G1] } → Blk wx g 32 (arr4 F) → ∃ F' G0' G1', Two8 (i + 1) F' G0' G1' ∧ Kn0 Wm wx { K with now := now, gates := [G0', G1'] } ∧ Blk wx g 32 (arr4 F') := fun wx a b =>
          ⟨F, G0, G1, ⟨HT.out.1.m0, HT.out.1.m1, HT.out.1.s0.le (by omega), HT.out.1.s1.le (by omega)⟩, a, b⟩
        have ST := Lib.hid stay
        clear stay
        go_upto_if 68 with fail
        go_cut [10, 11] from 67 to 118 (fun _ _ wx => ∃ F' G0' G1', Two8 (i + 1) F' G0' G1' ∧ Kn0 Wm wx { K with now := now, gates := [G0', G1'] } ∧ Blk wx g 32 (arr4 F'))
        case first =>
          have hmayv := May.at_ (K := { K with now := now, gates := [G0, G1] }) (ss := (hf : Int)) (n := (n : Int)) n G rfl HT.out.2.2.1
          rw [HT.out.2.2.2] at hmayv
          by_cases ho : o1 % 2 = 0
          · by_cases hfn : hf = n
            · subst hfn
              obtain ⟨v, b, s', hv⟩ : ∃ v b s', G.s.enter e now = (v, b, s') := ⟨_, _, _, rfl⟩
              have hcall := k_enter h4.is e HS.out.2.1 0 0 hf 0 0 none 0 0 hf HS.out.1 hf rfl G HT.out.2.2.1 (by rw [HT.out.2.2.2]; simp) (by dsimp only; omega) HS.out.2.2.1 v b s' hv
              have HV := Lib.hid hv
              clear hv hmayv
              go_wp2_with fail
              refine hcall.mono ?_; rintro e' w5 ⟨rfl, A', c', t5⟩
              have kx := (Keep.refl Nob w5).alloc (.cells #[.int .i64 0, .int .i64 v, .slice none 0 0] 40)
              have h5 := (h4.to t5).nob kx
              have bu5 := (h4.is.offT bu4 (by decide) t5.keep).nob kx
              have ba := Blk.new w5 40 [.int .i64 0, .int .i64 v, .slice none 0 0]
              clear hcall t5 h4 bu4 bO4 kx
              by_cases hv0 : 0 < v
              · have hhe : e / 2 = hf := HS.out.2.2.2
                obtain ⟨G0', G1', e1, hT'⟩ := HT.out.1.upd (j := i + 1) (F' := upf F e v) (X := { G with A := A', cap := c', s := s' }) HT.out.2.2.1 rfl (HT.out.2.1.in_ hhe he4 HV.out hv0) (fun m S hm hS => (hS.other (by omega)).le (by omega))
                rw [e1] at h5
                have bu6 := bu5.setCell e (.int .i64 v)
                rw [arr4_set] at bu6
                have fz := bu5.frozen e
                have cz : _ = some (Value.int .i64 (F e)) := (bu5.cell e).trans (arr4_get he4)
                have h6 := h5.far bu5 (by decide) (by decide) hg ((Keep.refl (fun b => b = g) _).setCell ⟨g, e, none⟩ (.int .i64 v) (fun _ => rfl))
                have FI := Lib.hid (And.intro hT' (And.intro h6 bu6))
                clear h5 h6 bu5 bu6 hT' ba
                go_wp2_with fail
                go_meet
                exact ⟨_, _, _, FI.out.1, FI.out.2.1, FI.out.2.2⟩
              · obtain ⟨G0', G1', e1, hT'⟩ := HT.out.1.upd (j := i + 1) (F' := F) (X := { G with A := A', cap := c', s := s' }) HT.out.2.2.1 rfl (HT.out.2.1.wait_ he4 HV.out hv0) (fun m S hm hS => hS.le (by omega))
                rw [e1] at h5
                have FI := Lib.hid (And.intro hT' (And.intro h5 bu5))
                clear h5 bu5 hT' ba
                go_wp2_with fail
                go_meet
                exact ⟨_, _, _, FI.out.1, FI.out.2.1, FI.out.2.2⟩
            · have hfn2 : ¬ ((hf : Int) = n) := by omega
              have hfn3 : ((hf : Int) == n) = false := by simpa using hfn2
              rw [decide_eq_false (by simpa using hfn2)] at hmayv
              have hcall := k_enter_no h4.is e HS.out.2.1 0 0 n 0 0 none 0 0 hf HS.out.1 hmayv
              clear hmayv
              go_wp2_with fail
              refine hcall.mono ?_; rintro e' w5 ⟨rfl, t5⟩
              have kx := (Keep.refl Nob w5).alloc (.cells #[.int .i64 8, .int .i64 0, .slice none 0 0] 40)
              have FI := Lib.hid (And.intro ((h4.to t5).nob kx) ((h4.is.offT bu4 (by decide) t5.keep).nob kx))
              have ba := Blk.new w5 40 [.int .i64 8, .int .i64 0, .slice none 0 0]
              clear hcall t5 h4 bu4 bO4 kx
              go_wp2_with fail
              go_meet
              exact ST.out _ FI.out.1 FI.out.2
          · obtain ⟨t, ht⟩ : ∃ t : Nat, o3 % 4 = (t : Int) := ⟨(o3 % 4).toNat, by omega⟩
            have ht4 : t < 4 := by omega
            have ct := (bu4.cell t).trans (arr4_get ht4)
            obtain ⟨f, hfv⟩ : ∃ f, F t = f := ⟨_, rfl⟩
            rw [hfv] at ct
            clear hfv
            by_cases hfn : hf = n
            · subst hfn
              obtain ⟨v, s', hv⟩ : ∃ v s', G.s.leave e f = (v, s') := ⟨_, _, rfl⟩
              obtain ⟨er, her⟩ : ∃ er : Int, (if v then 0 else 8) = er := ⟨_, rfl⟩
              have hcall := k_leave h4.is e HS.out.2.1 0 f hf 0 0 none 0 0 hf HS.out.1 hf rfl G HT.out.2.2.1 (by rw [HT.out.2.2.2]; simp) v s' hv er her
              have HV := Lib.hid hv
              clear hv hmayv her
              go_wp2_with fail
              refine hcall.mono ?_; rintro e' w5 ⟨rfl, t5⟩
              have kx := (Keep.refl Nob w5).alloc (.cells #[.int .i64 er, .int .i64 0, .slice none 0 0] 40)
              have h5 := (h4.to t5).nob kx
              have bu5 := (h4.is.offT bu4 (by decide) t5.keep).nob kx
              clear hcall t5 h4 bu4 bO4 kx ct
              obtain ⟨G0', G1', e1, hT'⟩ := HT.out.1.upd (j := i + 1) (F' := F) (X := { G with s := s' }) HT.out.2.2.1 rfl ((HT.out.2.1.leave_ HV.out).le (by omega)) (fun m S hm hS => hS.le (by omega))
              rw [e1] at h5
              have FI := Lib.hid (And.intro hT' (And.intro h5 bu5))
              clear h5 bu5 hT'
              go_wp2_with fail
              go_meet
              exact ⟨_, _, _, FI.out.1, FI.out.2.1, FI.out.2.2⟩
            · have hfn2 : ¬ ((hf : Int) = n) := by omega
              have hfn3 : ((hf : Int) != n) = true := by simpa using hfn2
              rw [decide_eq_false (by simpa using hfn2)] at hmayv
              have hcall := k_leave_no h4.is e HS.out.2.1 0 f n 0 0 none 0 0 hf HS.out.1 hmayv
              clear hmayv
              go_wp2_with fail
              refine hcall.mono ?_; rintro e' w5 ⟨rfl, t5⟩
              have kx := (Keep.refl Nob w5).alloc (.cells #[.int .i64 8, .int .i64 0, .slice none 0 0] 40)
              have FI := Lib.hid (And.intro ((h4.to t5).nob kx) ((h4.is.offT bu4 (by decide) t5.keep).nob kx))
              have ba := Blk.new w5 40 [.int .i64 8, .int .i64 0, .slice none 0 0]
              clear hcall t5 h4 bu4 bO4 kx ct
              go_wp2_with fail
              go_meet
              exact ST.out _ FI.out.1 FI.out.2
        case rest =>
        obtain ⟨F', G0', G1', hT', h6, bu6⟩ := hcut
        clear ST h4 bu4 bO4 p1 p2 p3 HT d1 d2 HS
        go_wp2_with fail
        go_loopw [12] (fun s12 wx => ∃ k : Nat, k ≤ 2 ∧ s12 = .int .i64 k ∧ Kn0 Wm wx { K with now := now, gates := [G0', G1'] } ∧ Blk wx g 32 (arr4 F')) (fun t _ => 2 - (intOf t).toNat)
        case atStart => exact ⟨0, by decide, rfl, h6, bu6⟩
        case round =>
          clear h6 bu6
          obtain ⟨k, hk, rfl, h6, bu6⟩ := hrel
          by_cases hk2 : k < 2
          · obtain ⟨G', hG', -, hSI'⟩ := hT'.at_ hk2
            have hsec := (h6.is.sec G' (List.mem_of_getElem? hG')).1
            have hs1 := ksect_is h6.is k G' hG'
            have hhold := Se.holder_is hsec
            cases hh : G'.s.held with
            | false =>
              rw [hh] at hhold
              go_wp2_with fail
              refine hs1.mono ?_; rintro e' w7 ⟨rfl, rfl⟩
              go_wp2_with fail
              refine hhold.mono ?_; rintro e' w7 ⟨rfl, m, rfl⟩
              have FI := Lib.hid (And.intro (h6.nob ((Keep.refl Nob _).drewN m)) (bu6.drewN m))
              clear hs1 hhold hsec h6 bu6
              go_wp2_with fail
              go_roundw
              case rel => exact ⟨k + 1, by omega, by go_num, FI.out.1, FI.out.2⟩
              case measure => simp [intOf]; omega
            | true =>
              obtain ⟨a, ha1, ha2, ha3, ha4⟩ := hSI'.hold hh
              rw [hh, ha1] at hhold
              have d3 : (a : Int).tdiv 2 = (k : Int) := by rw [Int.tdiv_eq_ediv_of_nonneg (by omega)]; omega
              have d4 : (a : Int) / 2 = (k : Int) := by omega
              have d5 : (a : Int) % 4 = (a : Int) := by omega
              obtain ⟨f, hfv⟩ : ∃ f, F' a = f := ⟨_, rfl⟩
              have ct : _ = some (Value.int .i64 (F' a)) := (bu6.cell a).trans (arr4_get ha3)
              rw [hfv] at ct ha4
              have HA4 := Lib.hid ha4
              clear hfv ha1 ha2 ha4 hSI'
              go_wp2_with fail
              refine hs1.mono ?_; rintro e' w7 ⟨rfl, rfl⟩
              go_wp2_with fail
              refine hhold.mono ?_; rintro e' w7 ⟨rfl, m, rfl⟩
              have hs7 := hsec.nob ((Keep.refl Nob _).drewN m)
              have FI := Lib.hid (And.intro (h6.nob ((Keep.refl Nob _).drewN m)) (bu6.drewN m))
              clear hs1 hhold hsec h6 bu6
              go_wp2_with fail
              refine (Se.holds_is hs7 a f true HA4.out).mono ?_; rintro e' w8 ⟨rfl, rfl⟩
              go_wp2_with fail
              go_roundw
              case rel => exact ⟨k + 1, by omega, by go_num, FI.out.1, FI.out.2⟩
              case measure => simp [intOf]; omega
          · obtain rfl : k = 2 := by omega
            go_wp2_with fail
            go_roundw
            case rel => exact ⟨i + 1, now, F', G0', G1', by omega, by omega, by go_num, hw0, by omega, hT', h6, bu6⟩
            case measure => simp [intOf]; omega
end Go.Proofs.YtompckcnpidbdaaGreat
