/- Package pred (layer 7): the document's SameIns; contracts of Any and After, the program's and the document's. -/
import Derived.Test.YtlkknmbdikoldaaPrd3
namespace Go.Proofs.Ytlkknmbdikoldaa
open Go.RowKit
set_option linter.unusedVariables false
set_option linter.unusedSimpArgs false
theorem stood_prim : Try.prog.stoodInHeld 25 = false := by kernel_rfl
theorem prim_same (n : Nat) (a b c : Int) (w : World) : (Op.equalIn (n + 2) 25 (.agg #[.int .i64 a, .int .i64 b, .int .i64 c]) (.agg #[.int .i64 a, .int .i64 b, .int .i64 c])).run Try.prog w = .ok true w := by
  have hi := Try.underlying3
  have hg := Try.isAgg3
  have hs := Try.sizeOf3
  have st := stood_prim
  unfold Op.equalIn
  simp only [run_underlying Try.underlying25, Sem.run_bind, Result.andThen_ok, List.forIn_toArray, List.forIn_nil, List.forIn_cons]
  go_simp
set_option maxHeartbeats 2000000 in
theorem same_is {w : World} {A B : Option Addr} {n c d : Nat} {l : List Prim} (h : IsProg w A n l) (h2 : IsProg w B n l) (hn : n ≤ 1000000) :
    Calls Try.prog 16 #[.slice A n c, .slice B n d] w fun e w' => e = .returned (.bool true) ∧ Keep Nob w w' := by
  go_enter Try.func16, Try.ntmps16
  go_wp2_with fail
  go_loopw [5] (fun s wx => ∃ i : Nat, i ≤ n ∧ s = .int .i64 i ∧ Keep Nob w wx) (fun s _ => n - (intOf s).toNat)
  case atStart => exact ⟨0, Nat.zero_le _, rfl, Keep.refl _ _⟩
  case round =>
    obtain ⟨i, hi, rfl, hk⟩ := hrel
    by_cases hlt : i < n
    · obtain ⟨b, off, ⟨op, a, d⟩, rfl, hx, c0, c1, c2⟩ := (h.nob hk).at_ hlt
      obtain ⟨b', off', ⟨op', a', d'⟩, rfl, hx', e0, e1, e2⟩ := (h2.nob hk).at_ hlt
      rw [hx] at hx'
      cases hx'
      dsimp only at c0 c1 c2 e0 e1 e2
      have heq : ∀ W, (Op.equalIn 10000 25 (.agg #[.int .i64 op, .int .i64 a, .int .i64 d]) (.agg #[.int .i64 op, .int .i64 a, .int .i64 d])).run Try.prog W = .ok true W := fun W => prim_same 9998 op a d W
      clear h h2 hx
      have hk1 := hk.drew
      go_wp2
      go_region
      go_wp2
      go_roundw
      case rel => exact ⟨i + 1, by omega, by go_num, hk1⟩
      case measure => simp [intOf]; omega
    · obtain rfl : i = n := by omega
      go_wp2_with fail
      go_ret
      exact ⟨rfl, hk⟩
def anyL (at_ mask : Int) : List Prim := if 0 ≤ at_ ∧ at_ ≤ 65535 ∧ 0 ≤ mask ∧ mask ≤ 65535 then [⟨1, at_, 0⟩, ⟨3, mask, 0⟩, ⟨7, 0, 0⟩, ⟨5, 1, 0⟩, ⟨6, 0, 0⟩] else []
def afterL (t : Int) : List Prim := if 0 ≤ t ∧ t ≤ 65535 then [⟨2, 0, 0⟩, ⟨4, t, 0⟩, ⟨5, 1, 0⟩, ⟨6, 0, 0⟩] else []
/-- What a call that makes a program leaves. -/
def Prog (w : World) (l : List Prim) (e : Ending) (w' : World) : Prop := ∃ B c, e = .returned (.slice B l.length c) ∧ IsProg w' B l.length l ∧ Keep Nob w w'
theorem Prog.none_ (w : World) : Prog w [] (.returned (.slice none 0 0)) w := ⟨none, 0, rfl, IsProg.nil_ _ _, Keep.refl _ _⟩
theorem Prog.new (w : World) (l : List Prim) (n : Nat) (hn : l.length = n) (cs : Array Value) (hc : laid l = cs.toList) : Prog w l (.returned (.slice (some ⟨w.heap.size, 0, none⟩) n n)) (w.alloc (.cells cs 25)) := by
  subst hn
  refine ⟨_, _, rfl, ⟨rfl, ?_⟩, (Keep.refl _ w).alloc _⟩
  have hb := Blk.new w 25 (laid l)
  rw [hc, Array.toArray_toList] at hb
  rw [hc]
  exact reads_all hb (by rw [← hc, laid_len])
set_option maxHeartbeats 2000000 in
theorem any_is (w : World) (a m : Int) : Calls Try.prog 14 #[.int .i64 a, .int .i64 m] w (Prog w (anyL a m)) := by
  by_cases ha : 0 ≤ a ∧ a ≤ 65535
  · by_cases hm : 0 ≤ m ∧ m ≤ 65535
    · have e : anyL a m = [⟨1, a, 0⟩, ⟨3, m, 0⟩, ⟨7, 0, 0⟩, ⟨5, 1, 0⟩, ⟨6, 0, 0⟩] := by unfold anyL; rw [if_pos (by omega)]
      rw [e]
      go_enter Try.func14, Try.ntmps14
      go_wp2_with fail
      refine (fits_is _ a true (decide_eq_true ha)).mono ?_; rintro e w1 ⟨rfl, rfl⟩
      go_wp2_with fail
      refine (fits_is _ m true (decide_eq_true hm)).mono ?_; rintro e w1 ⟨rfl, rfl⟩
      go_wp2_with fail
      go_ret
      exact Prog.new _ _ 5 rfl _ rfl
    · have e : anyL a m = [] := by unfold anyL; rw [if_neg (by omega)]
      rw [e]
      go_enter Try.func14, Try.ntmps14
      go_wp2_with fail
      refine (fits_is _ a true (decide_eq_true ha)).mono ?_; rintro e w1 ⟨rfl, rfl⟩
      go_wp2_with fail
      refine (fits_is _ m false (decide_eq_false hm)).mono ?_; rintro e w1 ⟨rfl, rfl⟩
      go_wp2_with fail
      go_ret
      exact Prog.none_ _
  · have e : anyL a m = [] := by unfold anyL; rw [if_neg (by omega)]
    rw [e]
    go_enter Try.func14, Try.ntmps14
    go_wp2_with fail
    refine (fits_is _ a false (decide_eq_false ha)).mono ?_; rintro e w1 ⟨rfl, rfl⟩
    go_wp2_with fail
    go_ret
    exact Prog.none_ _
set_option maxHeartbeats 2000000 in
theorem after_is (w : World) (t : Int) : Calls Try.prog 15 #[.int .i64 t] w (Prog w (afterL t)) := by
  by_cases ht : 0 ≤ t ∧ t ≤ 65535
  · have e : afterL t = [⟨2, 0, 0⟩, ⟨4, t, 0⟩, ⟨5, 1, 0⟩, ⟨6, 0, 0⟩] := by unfold afterL; rw [if_pos (by omega)]
    rw [e]
    go_enter Try.func15, Try.ntmps15
    go_wp2_with fail
    refine (fits_is _ t true (decide_eq_true ht)).mono ?_; rintro e w1 ⟨rfl, rfl⟩
    go_wp2_with fail
    go_ret
    exact Prog.new _ _ 4 rfl _ rfl
  · have e : afterL t = [] := by unfold afterL; rw [if_neg (by omega)]
    rw [e]
    go_enter Try.func15, Try.ntmps15
    go_wp2_with fail
    refine (fits_is _ t false (decide_eq_false ht)).mono ?_; rintro e w1 ⟨rfl, rfl⟩
    go_wp2_with fail
    go_ret
    exact Prog.none_ _
set_option maxHeartbeats 2000000 in
theorem dany_is (w : World) (a m : Int) : Calls Try.prog 17 #[.int .i64 a, .int .i64 m] w (Prog w (anyL a m)) := by
  by_cases h : 0 ≤ a ∧ a ≤ 65535 ∧ 0 ≤ m ∧ m ≤ 65535
  · have e : anyL a m = [⟨1, a, 0⟩, ⟨3, m, 0⟩, ⟨7, 0, 0⟩, ⟨5, 1, 0⟩, ⟨6, 0, 0⟩] := by unfold anyL; rw [if_pos h]
    obtain ⟨h1, h2, h3, h4⟩ := h
    have e1 : ¬ a < 0 := by omega
    have e2 : ¬ 65535 < a := by omega
    have e3 : ¬ m < 0 := by omega
    have e4 : ¬ 65535 < m := by omega
    rw [e]
    go_enter Try.func17, Try.ntmps17
    go_wp2_with fail
    go_ret
    exact Prog.new _ _ 5 rfl _ rfl
  · have e : anyL a m = [] := by unfold anyL; rw [if_neg h]
    rw [e]
    by_cases e1 : a < 0
    · go_enter Try.func17, Try.ntmps17
      go_wp2_with fail
      go_ret
      exact Prog.none_ _
    by_cases e2 : 65535 < a
    · go_enter Try.func17, Try.ntmps17
      go_wp2_with fail
      go_ret
      exact Prog.none_ _
    by_cases e3 : m < 0
    · go_enter Try.func17, Try.ntmps17
      go_wp2_with fail
      go_ret
      exact Prog.none_ _
    have e4 : 65535 < m := by omega
    go_enter Try.func17, Try.ntmps17
    go_wp2_with fail
    go_ret
    exact Prog.none_ _
set_option maxHeartbeats 2000000 in
theorem dafter_is (w : World) (t : Int) : Calls Try.prog 18 #[.int .i64 t] w (Prog w (afterL t)) := by
  by_cases e1 : t < 0
  · have e : afterL t = [] := by unfold afterL; rw [if_neg (by omega)]
    rw [e]
    go_enter Try.func18, Try.ntmps18
    go_wp2_with fail
    go_ret
    exact Prog.none_ _
  by_cases e2 : 65535 < t
  · have e : afterL t = [] := by unfold afterL; rw [if_neg (by omega)]
    rw [e]
    go_enter Try.func18, Try.ntmps18
    go_wp2_with fail
    go_ret
    exact Prog.none_ _
  have e : afterL t = [⟨2, 0, 0⟩, ⟨4, t, 0⟩, ⟨5, 1, 0⟩, ⟨6, 0, 0⟩] := by unfold afterL; rw [if_pos (by omega)]
  rw [e]
  go_enter Try.func18, Try.ntmps18
  go_wp2_with fail
  go_ret
  exact Prog.new _ _ 4 rfl _ rfl
end Go.Proofs.Ytlkknmbdikoldaa
