/- Layer 8 (kern): the walk of KernAlone. -/
import Derived.Test.YtompckcnpidbdaaGreatLaw8h
import Derived.Test.YtompckcnpidbdaaGreatKrnB
namespace Go.Proofs.YtompckcnpidbdaaGreat
open Go.RowKit
set_option linter.unusedVariables false
set_option linter.unusedSimpArgs false
/-- Two kernels, neither of which has a block of the other's. -/
structure Pr (W0 wx : World) (X Y : Kn) : Prop where
  x : IsKn wx X
  y : IsKn wx Y
  lx : ∀ b, Mine X b → W0.heap.size ≤ b
  ly : ∀ b, Mine Y b → W0.heap.size ≤ b
  dis : ∀ b, Mine X b → ¬ Mine Y b
  keep : Keep (From W0.heap.size) W0 wx
section
variable {w W0 wx wy : World} {X X' Y Y' : Kn}
theorem Pr.nob (h : Pr W0 wx X Y) (k : Keep Nob wx wy) : Pr W0 wy X Y := ⟨h.x.nob k, h.y.nob k, h.lx, h.ly, h.dis, h.keep.nob k⟩
theorem Pr.left (h : Pr W0 wx X Y) (t : To wx X X' wy) : Pr W0 wy X' Y :=
  ⟨t.is, h.y.keep t.keep h.x.turn (fun b hb m => h.dis b (.inl m) hb), fun b hb => (t.mine b hb).elim (h.lx b) (fun e => by have := h.keep.size; omega), h.ly,
    fun b hb hy => (t.mine b hb).elim (fun m => h.dis b m hy) (fun e => by have := h.y.mine_lt b hy; omega), h.keep.from_ t.keep (fun b m => h.lx b (.inl m))⟩
theorem Pr.right (h : Pr W0 wx X Y) (t : To wx Y Y' wy) : Pr W0 wy X Y' :=
  ⟨h.x.keep t.keep h.y.turn (fun b hb m => h.dis b hb (.inl m)), t.is, h.lx, fun b hb => (t.mine b hb).elim (h.ly b) (fun e => by have := h.keep.size; omega),
    fun b hx hb => (t.mine b hb).elim (fun m => h.dis b hx m) (fun e => by have := h.x.mine_lt b hx; omega), h.keep.from_ t.keep (fun b m => h.ly b (.inl m))⟩
theorem Pr.args (h : Pr W0 wx X Y) (k : Keep Nob w W0) : Keep (From w.heap.size) w wx :=
  (k.mono (fun _ _ f => f.elim)).trans h.keep (fun b hb m => by have := k.size; have : W0.heap.size ≤ b := m; show w.heap.size ≤ b; omega)
theorem Pr.new {w1 w2 : World} (a : Kf W0 w1 X) (b : Kf w1 w2 Y) : Pr W0 w2 X Y :=
  ⟨a.is.nob b.keep, b.is, a.mine, fun x hx => Nat.le_trans a.keep.size (b.mine x hx), fun x hx hy => by have := a.is.mine_lt x hx; have := b.mine x hy; omega,
    (a.keep.trans b.keep (fun _ _ f => f)).mono (fun _ _ f => f.elim)⟩
end
def LL (w : World) : List (TypeId × List Value) := [(3, [.int .i64 3, .int .i64 3]), (3, [.int .i64 0, .int .i64 0, .int .i64 1, .int .i64 1]), (3, [.int .i64 0]), (3, [.int .i64 1]), (27, [.slice (some ⟨w.heap.size + 2, 0, none⟩) 1 1, .slice (some ⟨w.heap.size + 3, 0, none⟩) 1 1]), (3, [.int .i64 0]), (3, [.int .i64 1]),
  (53, [.int .i64 0, .int .i64 0, .int .i64 0, .int .i64 100, .slice (some ⟨w.heap.size + 5, 0, none⟩) 1 1, .int .i64 1, .int .i64 0, .int .i64 0, .int .i64 100, .slice (some ⟨w.heap.size + 6, 0, none⟩) 1 1]),
  (31, [.slice (some ⟨w.heap.size, 0, none⟩) 2 2, .slice (some ⟨w.heap.size + 1, 0, none⟩) 4 4, .slice (some ⟨w.heap.size + 4, 0, none⟩) 2 2, .int .i64 3, .slice (some ⟨w.heap.size + 7, 0, none⟩) 2 2])]
def bL (w : World) : Bt := ⟨[3, 3], some ⟨w.heap.size, 0, none⟩, 2, [0, 0, 1, 1], some ⟨w.heap.size + 1, 0, none⟩, 4, [⟨some ⟨w.heap.size + 2, 0, none⟩, 1, [0]⟩, ⟨some ⟨w.heap.size + 3, 0, none⟩, 1, [1]⟩], some ⟨w.heap.size + 4, 0, none⟩, 2, 3, [⟨0, 0, 0, 100, some ⟨w.heap.size + 5, 0, none⟩, 1, [0]⟩, ⟨1, 0, 0, 100, some ⟨w.heap.size + 6, 0, none⟩, 1, [1]⟩], some ⟨w.heap.size + 7, 0, none⟩, 2⟩
theorem isL (w : World) : IsBt (mkw w (LL w)) (bL w) := by
  refine ⟨mkw_reads (l := LL w) 0 rfl 2 rfl, Nat.le_of_ble_eq_true rfl, mkw_reads (l := LL w) 1 rfl 4 rfl, mkw_reads (l := LL w) 4 rfl 2 rfl, fun s hs => ?_, mkw_reads (l := LL w) 7 rfl 10 rfl, fun s hs => ?_⟩
  · rcases List.mem_cons.1 hs with rfl | hs
    · exact mkw_reads (l := LL w) 2 rfl 1 rfl
    · obtain rfl := List.mem_singleton.1 hs
      exact mkw_reads (l := LL w) 3 rfl 1 rfl
  · rcases List.mem_cons.1 hs with rfl | hs
    · exact mkw_reads (l := LL w) 5 rfl 1 rfl
    · obtain rfl := List.mem_singleton.1 hs
      exact mkw_reads (l := LL w) 6 rfl 1 rfl
theorem okL (w : World) : BtOk (bL w) [3, 3] := by
  refine ⟨?_, ?_, ?_, ?_, ?_, ?_, ?_, ?_, ?_, fun s hs => ?_, fun s hs => ?_⟩
  any_goals (first | exact Nat.le_of_ble_eq_true rfl | (dsimp only [bL]; decide))
  · intro x hx
    simp [bL] at hx
    show 0 ≤ x ∧ x < ((2 : Nat) : Int)
    omega
  · rcases List.mem_cons.1 hs with rfl | hs
    · exact ⟨fun x h => by simp at h; show 0 ≤ x ∧ x < ((2 : Nat) : Int); omega, Nat.le_of_ble_eq_true rfl⟩
    · obtain rfl := List.mem_singleton.1 hs
      exact ⟨fun x h => by simp at h; show 0 ≤ x ∧ x < ((2 : Nat) : Int); omega, Nat.le_of_ble_eq_true rfl⟩
  · rcases List.mem_cons.1 hs with rfl | hs
    · refine ⟨?_, ?_, ?_, ?_, ?_, ?_, ?_, fun x hx => ?_, ?_⟩
      any_goals (first | exact Nat.le_of_ble_eq_true rfl | (dsimp only; decide))
      obtain rfl := List.mem_singleton.1 hx
      decide
    · obtain rfl := List.mem_singleton.1 hs
      refine ⟨?_, ?_, ?_, ?_, ?_, ?_, ?_, fun x hx => ?_, ?_⟩
      any_goals (first | exact Nat.le_of_ble_eq_true rfl | (dsimp only; decide))
      obtain rfl := List.mem_singleton.1 hx
      decide
def st0 : Sx := ⟨0, fun _ => true, zeros 6, fun i => List.replicate ([3, 3].getD i 0) false, Se.Sec.new 3, Se.Sec.new 3⟩
theorem in0 {w : World} {K : Kn} (hB : Boots (bL w) [3, 3] K) : In8 0 K st0 := by
  refine ⟨hB.now, by decide, by decide, hB.envs, hB.nse, by rw [hB.L]; rfl, by rw [hB.xs]; rfl, by show (zeros 6).length = 384; rw [zeros_len], hB.bq, fun ρ c => ?_, ?_⟩
  · rw [hB.T, row_has (fun e _ => by have := csAt_len (bL w).envs (bL w).shared (bL w).shared.length e; have h1 : (bL w).shared.length = 2 := rfl; omega)]
    have e0 : ∀ e, e < 4 → csAt (bL w).envs (bL w).shared (bL w).shared.length e = [(⟨(e / 2 : Nat), 3, 0, 100, (0, 0)⟩ : Cp)] := by
      intro e he
      show gave (gave (fun _ => []) [0, 0, 1, 1] [0] ⟨0, 3, 0, 100, (0, 0)⟩ 4) [0, 0, 1, 1] [1] ⟨1, 3, 0, 100, (0, 0)⟩ 4 e = _
      rcases (show e = 0 ∨ e = 1 ∨ e = 2 ∨ e = 3 by omega) with rfl | rfl | rfl | rfl <;> rfl
    constructor
    · rintro ⟨e, i, he, rfl, hc⟩
      rw [e0 e he] at hc
      cases i with
      | zero => simp at hc; exact ⟨e, he, rfl, by simp, hc.symm⟩
      | succ i => simp at hc
    · rintro ⟨e, he, _, rfl, rfl⟩
      exact ⟨e, 0, he, by simp, by rw [e0 e he]; rfl⟩
  · have h2 := hB.gates
    have hl := congrArg List.length h2
    simp [bL] at hl
    obtain ⟨G0, G1, hG⟩ : ∃ G0 G1, K.gates = [G0, G1] := by
      match h : K.gates, hl with
      | [a, b], _ => exact ⟨a, b, rfl⟩
    rw [hG] at h2
    simp [bL] at h2
    obtain ⟨⟨a1, a2⟩, a3, a4⟩ := h2
    exact ⟨G0, G1, hG, a2, a4, a1, a3, by decide, by decide⟩
theorem sim0 : Sim st0 st0 := ⟨rfl, fun _ _ => rfl, by show (zeros 6).length = 384; rw [zeros_len], by show (zeros 6).length = 384; rw [zeros_len], fun _ _ => rfl, rfl, rfl⟩
theorem In8.tick {i : Nat} {K : Kn} {st : Sx} (h : In8 i K st) (hi : i ≤ 60) (x t : Int) (ht : min (st.now + min (max x 0) 1000) 1073741824 = t) : In8 (i + 1) { K with now := t } { st with now := t } := by
  have h0 := h.n0
  have h1 := h.n1
  obtain ⟨G0, G1, g1, g2, g3, g4, g5, g6, g7⟩ := h.gates
  exact ⟨rfl, by dsimp only; omega, by dsimp only; omega, h.envs, h.ns, h.L, h.xs, h.len, h.b, h.has, G0, G1, g1, g2, g3, g4, g5, by dsimp only; omega, by dsimp only; omega⟩
set_option maxRecDepth 100000 in
set_option maxHeartbeats 8000000 in
theorem KernAlone_walk (w : World) (A0 : Option Addr) (n0 c0 : Nat) (x0 : Ty.den (.sl 80 (.pair (.int .i64) (.pair (.pair (.int .i64) (.pair (.int .i64) (.pair (.int .i64) (.pair (.int .i64) (.pair (.int .i64) (.pair (.int .i64) (.pair (.sl 1 .byte) .unit))))))) .unit)))) (w0 : Holds w (.sl 80 (.pair (.int .i64) (.pair (.pair (.int .i64) (.pair (.int .i64) (.pair (.int .i64) (.pair (.int .i64) (.pair (.int .i64) (.pair (.int .i64) (.pair (.sl 1 .byte) .unit))))))) .unit))) x0 [.slice A0 n0 c0]) :
    Calls Tryz.prog 5 #[.slice A0 n0 c0] w fun e w' => e = .returned (.bool true) ∧ Below w.heap.size w w' := by
  have W0 := Lib.hid w0
  clear w0
  go_enter Tryz.func5, Tryz.ntmps5
  go_wp2_with fail
  refine (knew_is (isL w) (okL w)).mono ?_; rintro e w1 ⟨X0, rfl, hF1, hB1⟩
  have hbx := (mkw_blk (LL w) w 8 _ _ rfl).nob hF1.keep
  have e0 := hbx.cell 0
  have e1 := hbx.cell 1
  have e2 := hbx.cell 2
  have e3 := hbx.cell 3
  have e4 := hbx.cell 4
  simp only [List.getElem?_cons_zero, List.getElem?_cons_succ] at e0 e1 e2 e3 e4
  have is1 := (isL w).nob hF1.keep
  have hnew := knew_is is1 (okL w)
  clear hbx
  go_wp2_with fail
  refine hnew.mono ?_; rintro e w2 ⟨Y0, rfl, hF2, hB2⟩
  have hP := Pr.new hF1 hF2
  have hi1 := in0 hB1
  have hi2 := in0 hB2
  have kW := mkw_keep (LL w) w
  obtain ⟨Wm, hWm⟩ : ∃ Wm, mkw w (LL w) = Wm := ⟨_, rfl⟩
  rw [hWm] at hP kW
  have HW := Lib.hid kW
  clear hF1 hB1 hF2 hB2 hnew is1 e0 e1 e2 e3 e4 hWm kW
  go_wp2_with fail
  go_loopw [8] (fun s8 wx => ∃ (i : Nat) (X Y : Kn) (a b : Sx), i ≤ n0 ∧ i ≤ 60 ∧ s8 = .int .i64 i ∧ X.k = X0.k ∧ Y.k = Y0.k ∧ Pr Wm wx X Y ∧ In8 i X a ∧ In8 i Y b ∧ Sim a b) (fun t _ => 61 - (intOf t).toNat)
  case atStart => exact ⟨0, X0, Y0, st0, st0, Nat.zero_le _, by decide, rfl, rfl, rfl, hP, hi1, hi2, sim0⟩
  case round =>
    clear hP hi1 hi2
    obtain ⟨i, X, Y, a, b, hi1, hi2, rfl, hkx, hky, hP, Ix, Iy, hS⟩ := hrel
    have HK := Lib.hid (And.intro hkx (And.intro hky (And.intro Ix (And.intro Iy hS))))
    clear hkx hky Ix Iy hS
    obtain ⟨bo, hbo⟩ : ∃ bo, bo = decide (i < n0 ∧ i < 60) := ⟨_, rfl⟩
    have Hbo := Lib.hid hbo
    clear hbo
    go_upto_region 7 with fail
    go_cut [54] from 47 to 54 (fun s54 wx => s54 = .bool bo ∧ wx = wr)
    case first =>
      by_cases h1 : i < n0
      · by_cases h2 : i < 60
        · have h3 : decide (i < n0 ∧ i < 60) = true := by simp [h1, h2]
          go_wp2_with fail
          go_meet
          exact ⟨by (try rw [Hbo.out, h3]); (first | rfl | exact congrArg Value.bool (decide_eq_true (by omega)) | exact congrArg Value.bool (decide_eq_false (by omega)) | skip), rfl⟩
        · have h3 : decide (i < n0 ∧ i < 60) = false := by simp [h2]
          go_wp2_with fail
          go_meet
          exact ⟨by (try rw [Hbo.out, h3]); (first | rfl | exact congrArg Value.bool (decide_eq_true (by omega)) | exact congrArg Value.bool (decide_eq_false (by omega)) | skip), rfl⟩
      · have h3 : decide (i < n0 ∧ i < 60) = false := by simp [h1]
        go_wp2_with fail
        go_meet
        exact ⟨by (try rw [Hbo.out, h3]); (first | rfl | exact congrArg Value.bool (decide_eq_true (by omega)) | exact congrArg Value.bool (decide_eq_false (by omega)) | skip), rfl⟩
    case rest =>
    obtain ⟨rfl, hw⟩ := hcut
    have hw := hw.symm
    subst hw
    cases bo with
    | false =>
      have H0 := Lib.hid hP
      clear Hbo hP
      go_wp2_with fail
      refine (awake_true wr).mono ?_; rintro e w7 ⟨rfl, k7⟩
      go_wp2_with fail
      go_ret
      exact ⟨rfl, ((H0.out.nob k7).args HW.out).done⟩
    | true =>
      obtain ⟨hl1, hl2⟩ : i < n0 ∧ i < 60 := of_decide_eq_true Hbo.out.symm
      clear Hbo
      obtain ⟨bb, off, o0, o1, o2, o3, o4, o5, o6, oB, ol, oc, obs, rfl, hrB, f0', f1', f2', f3', f4', f5', f6', f7'⟩ := op8_at W0.out hl1
      have ca := hP.args HW.out
      have q0 := ca.cell_from f0'
      have q1 := ca.cell_from f1'
      have q2 := ca.cell_from f2'
      have q3 := ca.cell_from f3'
      have q4 := ca.cell_from f4'
      have q5 := ca.cell_from f5'
      have q6 := ca.cell_from f6'
      have q7 := ca.cell_from f7'
      clear f0' f1' f2' f3' f4' f5' f6' f7' ca
      have HRB := Lib.hid hrB
      clear hrB
      have kO := (Keep.refl Nob wr).alloc (.cells #[.int .i64 o0, .int .i64 o1, .int .i64 o2, .int .i64 o3, .int .i64 o4, .int .i64 o5, .int .i64 o6, .slice oB ol oc] 37)
      have bO := Blk.new wr 37 [.int .i64 o0, .int .i64 o1, .int .i64 o2, .int .i64 o3, .int .i64 o4, .int .i64 o5, .int .i64 o6, .slice oB ol oc]
      have h3 := hP.nob kO
      clear hP kO
      by_cases hlen : (200 : Int) < ol
      · have H0 := Lib.hid h3
        clear h3 bO
        go_wp2_with fail
        refine (awake_true _).mono ?_; rintro e w7 ⟨rfl, k7⟩
        go_wp2_with fail
        go_ret
        exact ⟨rfl, ((H0.out.nob k7).args HW.out).done⟩
      · by_cases hneg : o0 < 0
        · obtain ⟨hkx, hky, Ix, Iy, hS⟩ := HK.out
          obtain ⟨t, ht⟩ : ∃ t, min (a.now + min (max o4 0) 1000) 1073741824 = t := ⟨_, rfl⟩
          have hn0 := Ix.n0
          have hn1 := Ix.n1
          have hX : ∀ W, IsKn W X → Calls Tryz.prog 9 #[.pointer (some ⟨X0.k, 0, none⟩), .int .i64 o4] W fun e w' => e = .returned (.int .i64 t) ∧ ∃ X1, To W X X1 w' ∧ In8 (i + 1) X1 { a with now := t } ∧ X1.k = X0.k := fun W h => by
            rw [← hkx]
            exact (tick_is h o4 t (by rw [Ix.now]; exact hn0) (by rw [Ix.now]; omega) (by rw [Ix.now]; exact ht)).mono fun e w' ⟨h1, h2⟩ => ⟨h1, _, h2, Ix.tick hi2 o4 t ht, rfl⟩
          have hY : ∀ W, IsKn W Y → Calls Tryz.prog 9 #[.pointer (some ⟨Y0.k, 0, none⟩), .int .i64 o4] W fun e w' => e = .returned (.int .i64 t) ∧ ∃ Y1, To W Y Y1 w' ∧ In8 (i + 1) Y1 { b with now := t } ∧ Y1.k = Y0.k := fun W h => by
            rw [← hky]
            exact (tick_is h o4 t (by rw [Iy.now, ← hS.now]; exact hn0) (by rw [Iy.now, ← hS.now]; omega) (by rw [Iy.now, ← hS.now]; exact ht)).mono fun e w' ⟨h1, h2⟩ => ⟨h1, _, h2, Iy.tick hi2 o4 t (by rw [← hS.now]; exact ht), rfl⟩
          have HT := Lib.hid (And.intro hX hY)
          have hSt : Sim { a with now := t } { b with now := t } := ⟨rfl, hS.al, hS.la, hS.lb, hS.xs, hS.bb, hS.s0⟩
          have HSt := Lib.hid hSt
          clear Ix Iy hS hX hY ht hn0 hn1 hSt hkx hky
          go_wp2_with fail
          generalize hw5 : wr.alloc (.cells #[.int .i64 o0, .int .i64 o1, .int .i64 o2, .int .i64 o3, .int .i64 o4, .int .i64 o5, .int .i64 o6, .slice oB ol oc] 37) = w5 at *
          clear hw5
          have kd := Keep.nobdrew w5
          have h3d := h3.nob kd
          have s0 : w5.drew.cell? ⟨wr.heap.size, 4, none⟩ = some (.int .i64 o4) := (bO.nob kd).cell 4
          go_region_held3 (fun w' => w'.cell? ⟨wr.heap.size, 4, none⟩ = some (.int .i64 o4))
            (first | exact s0 | exact bO6.cell 4 | exact bO7.cell 4)
            (first
              | (go_at_call 9; first
                  | (refine (HT.out.2 _ P6.y).mono ?_; rintro e w7 ⟨rfl, Y1, t7, iy7, ky7⟩; have P7 := P6.right t7; have bO7 := P6.y.offT bO6 (by decide) t7.keep)
                  | (refine (HT.out.1 _ h3d.x).mono ?_; rintro e w6 ⟨rfl, X1, t6, ix6, kx6⟩; have P6 := h3d.left t6; have bO6 := h3d.x.offT (bO.nob kd) (by decide) t6.keep)))
          have FI := Lib.hid (And.intro P7 (And.intro ix6 (And.intro kx6 (And.intro iy7 ky7))))
          clear P6 P7 t6 t7 bO6 bO7 h3 h3d bO ix6 kx6 iy7 ky7
          go_wp2_with fail
          go_roundw
          case rel => exact ⟨i + 1, _, _, _, _, by omega, by omega, by go_num, FI.out.2.2.1, FI.out.2.2.2.2, FI.out.1, FI.out.2.1, FI.out.2.2.2.1, HSt.out⟩
          case measure => simp [intOf]; omega
        · obtain ⟨e, he⟩ : ∃ e : Nat, o0 % 4 = (e : Int) := ⟨(o0 % 4).toNat, by omega⟩
          have he4 : e < 4 := by omega
          obtain ⟨hkx, hky, Ix, Iy, hS⟩ := HK.out
          obtain ⟨ans, a', hstep⟩ : ∃ ans a', step a e o1 o2 o3 o4 o5 o6 obs = (ans, a') := ⟨_, _, rfl⟩
          have hrx := HRB.out.from_ (h3.args HW.out)
          have hX := al_do h3.x Ix hi2 e he4 o1 o2 o3 o4 o5 o6 oB ol oc obs hrx ans a' hstep
          rw [hkx] at hX
          obtain ⟨er, nm, ys⟩ := ans
          dsimp only at hX
          have HST := Lib.hid hstep
          clear hstep Ix hS hrx hkx hky Iy
          go_wp2_with fail
          refine hX.mono ?_; rintro x w6 ⟨A', l, c', X', rfl, hrd, hfr, t6, IX, hkx'⟩
          have kx := (Keep.refl Nob w6).alloc (.cells #[.int .i64 er, .int .i64 nm, .slice A' l c'] 40)
          have P6 := (h3.left t6).nob kx
          have bO6 := (h3.x.offT bO (by decide) t6.keep).nob kx
          have ba := Blk.new w6 40 [.int .i64 er, .int .i64 nm, .slice A' l c']
          have hrd6 := hrd.nob kx
          have nb : ∀ ad, A' = some ad → ¬ Turn Y ad.block ∨ l = 0 := fun ad e1 => (hfr ad e1).imp (fun h m => by have := h3.y.mine_lt _ (.inl m); omega) id
          have NB := Lib.hid nb
          have HX2 := Lib.hid (And.intro IX (hkx'))
          clear h3 t6 hX hrd hfr kx bO IX hkx' nb
          have p0 := bO6.cell 0
          have p1 := bO6.cell 1
          have p2 := bO6.cell 2
          have p3 := bO6.cell 3
          have p4 := bO6.cell 4
          have p5 := bO6.cell 5
          have p6 := bO6.cell 6
          have p7 := bO6.cell 7
          simp only [List.getElem?_cons_zero, List.getElem?_cons_succ] at p0 p1 p2 p3 p4 p5 p6 p7
          by_cases he2 : 2 ≤ e
          · have hgt : (1 : Int) < (e : Int) := by omega
            have FI := Lib.hid P6
            clear P6 bO6 hrd6 ba
            go_wp2_with fail
            go_roundw
            case rel => exact ⟨i + 1, X', Y, a', b, by omega, by omega, by go_num, HX2.out.2, HK.out.2.1, FI.out, HX2.out.1, HK.out.2.2.2.1.le (by omega), HK.out.2.2.2.2.other he2 he4 HST.out⟩
            case measure => simp [intOf]; omega
          · have hgt : ¬ ((1 : Int) < (e : Int)) := by omega
            obtain ⟨b', hstb, hSb⟩ := HK.out.2.2.2.2.step (by omega) HST.out
            have hry := HRB.out.from_ (P6.args HW.out)
            have hY := al_do P6.y HK.out.2.2.2.1 hi2 e he4 o1 o2 o3 o4 o5 o6 oB ol oc obs hry _ b' hstb
            rw [HK.out.2.1] at hY
            dsimp only at hY
            have HSB := Lib.hid hSb
            clear hstb hSb hry
            go_wp2_with fail
            refine hY.mono ?_; rintro x w7 ⟨A2, l2, c2, Y', rfl, hrd2, -, t7, IY, hky'⟩
            have ky := (Keep.refl Nob w7).alloc (.cells #[.int .i64 er, .int .i64 nm, .slice A2 l2 c2] 40)
            have P7 := (P6.right t7).nob ky
            have ba7 := (P6.y.offT ba (by decide) t7.keep).nob ky
            have bb7 := Blk.new w7 40 [.int .i64 er, .int .i64 nm, .slice A2 l2 c2]
            have hl : ys.length = l := by have := hrd6.1; simpa using this
            have hrd7 : Reads (w7.alloc (.cells #[.int .i64 er, .int .i64 nm, .slice A2 l2 c2] 40)) A' l (bytes ys) := by
              rcases Nat.eq_zero_or_pos l with h0 | h0
              · obtain rfl : ys = [] := List.eq_nil_of_length_eq_zero (hl.trans h0)
                subst h0
                exact Reads.nil_ _ _
              · exact (hrd6.keep t7.keep (fun ad e1 => (NB.out ad e1).elim id (fun e2 => by omega))).nob ky
            have hrd8 := hrd2.nob ky
            have HY2 := Lib.hid (And.intro IY (hky'))
            have z0 := ba7.cell 0
            have z1 := ba7.cell 1
            have z2 := ba7.cell 2
            have y0 := bb7.cell 0
            have y1 := bb7.cell 1
            have y2 := bb7.cell 2
            simp only [List.getElem?_cons_zero, List.getElem?_cons_succ] at z0 z1 z2 y0 y1 y2
            have s1 := run_str (P := Tryz.prog) _ 33 9 5 A' l c' ys Tryz.underlying33 Tryz.underlying5 Tryz.underlying9 hrd7
            have s2 := run_str (P := Tryz.prog) _ 33 9 5 A2 l2 c2 ys Tryz.underlying33 Tryz.underlying5 Tryz.underlying9 hrd8
            generalize str ys = sv at s1 s2
            have FI := Lib.hid P7
            clear P6 P7 t7 hrd7 hrd8 hrd6 hrd2 ba ba7 bb7 bO6 hY IY hky' hl
            go_wp2_with fail
            go_roundw
            case rel => exact ⟨i + 1, X', Y', a', b', by omega, by omega, by go_num, HX2.out.2, HY2.out.2, FI.out, HX2.out.1, HY2.out.1, HSB.out⟩
            case measure => simp [intOf]; omega
end Go.Proofs.YtompckcnpidbdaaGreat
