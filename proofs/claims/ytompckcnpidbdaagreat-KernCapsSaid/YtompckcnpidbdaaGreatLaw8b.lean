/- Layer 8 (kern): the walk of KernClock. -/
import Derived.Test.YtompckcnpidbdaaGreatLaw8a
namespace Go.Proofs.YtompckcnpidbdaaGreat
open Go.RowKit
set_option linter.unusedVariables false
set_option linter.unusedSimpArgs false
theorem field0 (e n : Int) (A : Option Addr) (m c : Nat) (w : World) : (Instr.field 40 (.agg #[.int .i64 e, .int .i64 n, .slice A m c]) 0).run Tryz.prog w = .ok (.int .i64 e) w := by kernel_rfl
theorem field1 (e n : Int) (A : Option Addr) (m c : Nat) (w : World) : (Instr.field 40 (.agg #[.int .i64 e, .int .i64 n, .slice A m c]) 1).run Tryz.prog w = .ok (.int .i64 n) w := by kernel_rfl
def LC : List (TypeId × List Value) := [(3, [.int .i64 1]), (3, [.int .i64 0, .int .i64 0])]
def bC (w : World) : Bt := ⟨[1], some ⟨w.heap.size, 0, none⟩, 1, [0, 0], some ⟨w.heap.size + 1, 0, none⟩, 2, [], none, 0, 1, [], none, 0⟩
theorem isC (w : World) : IsBt (mkw w LC) (bC w) :=
  ⟨mkw_reads (l := LC) 0 rfl 1 rfl, (by dsimp only [bC]; decide), mkw_reads (l := LC) 1 rfl 2 rfl, Reads.nil_ _ _, fun s hs => (by cases hs), Reads.nil_ _ _, fun s hs => (by cases hs)⟩
theorem okC (w : World) : BtOk (bC w) [1] := by
  refine ⟨?_, ?_, ?_, ?_, ?_, ?_, ?_, ?_, ?_, fun s hs => (by cases hs), fun s hs => (by cases hs)⟩
  any_goals (first | exact Nat.le_of_ble_eq_true rfl | (dsimp only [bC]; decide))
  intro x hx
  simp [bC] at hx
  dsimp only [bC]
  subst hx
  decide
theorem holds_int_at {w : World} {wd : Nat} {A : Option Addr} {n c : Nat} {xs : List Int} (h : Holds w (.sl wd (.int .i64)) xs [.slice A n c]) {k : Nat} (hk : k < n) :
    ∃ b off, A = some ⟨b, off, none⟩ ∧ ∃ x : Int, w.cell? ⟨b, off + k, none⟩ = some (.int .i64 x) := by
  obtain ⟨bb, off, cs', hA0, hcl, hcc, hk', hh⟩ := holds_at h (by decide) hk
  obtain ⟨rfl, _⟩ := hh
  have := hcc 0 _ rfl
  simp only [show (Ty.int IntKind.i64).size = 1 from rfl, Nat.mul_one, Nat.add_zero] at this
  exact ⟨bb, off, hA0, _, this⟩
set_option maxRecDepth 100000 in
set_option maxHeartbeats 4000000 in
theorem KernClock_walk (w : World) (A0 : Option Addr) (n0 c0 : Nat) (x0 : Ty.den (.sl 8 (.int .i64))) (w0 : Holds w (.sl 8 (.int .i64)) x0 [.slice A0 n0 c0]) :
    Calls Tryz.prog 7 #[.slice A0 n0 c0] w fun e w' => e = .returned (.bool true) ∧ Below w.heap.size w w' := by
  have W0 := Lib.hid w0
  clear w0
  have fd0 := field0
  have fd1 := field1
  go_enter Tryz.func7, Tryz.ntmps7
  go_wp2_with fail
  refine (knew_is (isC w) (okC w)).mono ?_; rintro e w1 ⟨K, rfl, hF, hB⟩
  have h1 : Kn0 w w1 { K with now := 0 } := by
    have := hF.kn0 (mkw_keep LC w)
    have e := hB.now
    cases K
    dsimp only at e
    subst e
    exact this
  have hn : K.envs.length = 2 := by rw [hB.envs]; rfl
  have HN := Lib.hid hn
  clear hF hB hn
  go_wp2_with fail
  go_loopw [5, 6] (fun s5 s6 wx => ∃ (i : Nat) (now : Int), i ≤ n0 ∧ i ≤ 60 ∧ s5 = .int .i64 now ∧ s6 = .int .i64 i ∧ 0 ≤ now ∧ now ≤ 1000 * i ∧ Kn0 w wx { K with now := now }) (fun _ t _ => 61 - (intOf t).toNat)
  case atStart => exact ⟨0, 0, Nat.zero_le _, by decide, rfl, rfl, by decide, by decide, h1⟩
  case round =>
    obtain ⟨i, now, hi1, hi2, rfl, rfl, hw0, hw1, H⟩ := hrel
    clear h1
    by_cases hlt : i < n0 ∧ i < 60
    · obtain ⟨hl1, hl2⟩ := hlt
      obtain ⟨b, off, rfl, x, hx⟩ := holds_int_at W0.out hl1
      have hxr := H.keep.cell_from hx
      have hy01 : 0 ≤ min (max x 0) 1000 ∧ min (max x 0) 1000 ≤ 1000 := by omega
      have ht := tick_is H.is x (now + min (max x 0) 1000) hw0 (by dsimp only; omega) (by dsimp only; omega)
      have HY := Lib.hid hy01
      clear hx hy01
      go_wp2_with fail
      refine ht.mono ?_; rintro e w3 ⟨rfl, t3⟩
      have h3 := H.to t3
      clear H t3 ht hxr
      go_wp2_with fail
      refine (now_is h3.is (now + min (max x 0) 1000) rfl).mono ?_; rintro e w4 ⟨rfl, rfl⟩
      go_wp2_with fail
      refine (do_now h3.is 0 (by dsimp only; rw [HN.out]; decide) 0 0 0 0 0 none 0 0 (now + min (max x 0) 1000) rfl).mono ?_; rintro e w4 ⟨rfl, t4⟩
      have h4 := h3.to t4
      clear h3 t4
      go_wp2_with fail
      refine (do_now h4.is 1 (by dsimp only; rw [HN.out]; decide) 0 0 0 0 0 none 0 0 (now + min (max x 0) 1000) rfl).mono ?_; rintro e w5 ⟨rfl, t5⟩
      have h5 := h4.to t5
      clear h4 t5
      go_wp2_with fail
      go_roundw
      case rel => exact ⟨i + 1, now + min (max x 0) 1000, by omega, by omega, rfl, by go_num, by have := HY.out; omega, by have := HY.out; omega, h5⟩
      case measure => simp [intOf]; omega
    · by_cases hl1 : i < n0
      · have hl2 : ¬ i < 60 := fun h => hlt ⟨hl1, h⟩
        clear hlt
        go_wp2_with fail
        refine (do_none H.is 2 (by dsimp only; rw [HN.out]; decide) 10 0 0 0 0 0 none 0 0).mono ?_; rintro e w3 ⟨rfl, t3⟩
        have h3 := H.to t3
        clear H t3
        go_wp2_with fail
        refine (do_none h3.is (-1) (.inl (by decide)) 10 0 0 0 0 0 none 0 0).mono ?_; rintro e w4 ⟨rfl, t4⟩
        have h4 := h3.to t4
        clear h3 t4
        go_wp2_with fail
        refine (do_other h4.is 0 (by dsimp only; rw [HN.out]; decide) 0 0 0 0 0 none 0 0 11 (by decide)).mono ?_; rintro e w5 ⟨rfl, t5⟩
        have h5 := h4.to t5
        clear h4 t5
        go_wp2_with fail
        refine (do_other h5.is 0 (by dsimp only; rw [HN.out]; decide) 0 0 0 0 0 none 0 0 0 (by decide)).mono ?_; rintro e w6 ⟨rfl, t6⟩
        have h6 := h5.to t6
        clear h5 t6
        go_wp2_with fail
        refine (awake_true w6).mono ?_; rintro e w7 ⟨rfl, k7⟩
        go_wp2_with fail
        go_ret
        exact ⟨rfl, (h6.nob k7).keep.done⟩
      · clear hlt
        go_wp2_with fail
        refine (do_none H.is 2 (by dsimp only; rw [HN.out]; decide) 10 0 0 0 0 0 none 0 0).mono ?_; rintro e w3 ⟨rfl, t3⟩
        have h3 := H.to t3
        clear H t3
        go_wp2_with fail
        refine (do_none h3.is (-1) (.inl (by decide)) 10 0 0 0 0 0 none 0 0).mono ?_; rintro e w4 ⟨rfl, t4⟩
        have h4 := h3.to t4
        clear h3 t4
        go_wp2_with fail
        refine (do_other h4.is 0 (by dsimp only; rw [HN.out]; decide) 0 0 0 0 0 none 0 0 11 (by decide)).mono ?_; rintro e w5 ⟨rfl, t5⟩
        have h5 := h4.to t5
        clear h4 t5
        go_wp2_with fail
        refine (do_other h5.is 0 (by dsimp only; rw [HN.out]; decide) 0 0 0 0 0 none 0 0 0 (by decide)).mono ?_; rintro e w6 ⟨rfl, t6⟩
        have h6 := h5.to t6
        clear h5 t6
        go_wp2_with fail
        refine (awake_true w6).mono ?_; rintro e w7 ⟨rfl, k7⟩
        go_wp2_with fail
        go_ret
        exact ⟨rfl, (h6.nob k7).keep.done⟩
end Go.Proofs.YtompckcnpidbdaaGreat
