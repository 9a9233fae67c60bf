import Derived.Shelf.Spec.TrailingZeros
import Derived.Test.YtgcikpgcoemfnaaGreatPs5
set_option linter.unusedVariables false
set_option linter.unusedSimpArgs false
namespace Go.Proofs.YtgcikpgcoemfnaaGreat.Sg
open Go.RowKit
theorem issig_is (n : Int) (w : World) : Calls Tryz.prog 135 #[.int .i64 n] w fun e w' => e = .returned (.bool (sign n)) ∧ w = w' := by
 by_cases h1 : 0 < n
 ·by_cases h2 : n ≤ 15
  ·have e : sign n = true := decide_eq_true ⟨h1, h2⟩
   rw [e]
   go_enter Tryz.func135, Tryz.ntmps135
   go_wp2
   go_ret
   exact ⟨rfl, rfl⟩
  ·have e : sign n = false := decide_eq_false (by omega)
   rw [e]
   go_enter Tryz.func135, Tryz.ntmps135
   go_wp2
   go_ret
   exact ⟨rfl, rfl⟩
 ·have e : sign n = false := decide_eq_false (by omega)
  rw [e]
  go_enter Tryz.func135, Tryz.ntmps135
  go_wp2
  go_ret
  exact ⟨rfl, rfl⟩
theorem dW (s n : Int) (h0 : 0 ≤ n) (h : n ≤ 15) (w : World) (v : Bool) (hv : bt s n = v) : Calls Tryz.prog 136 #[.int .i64 s, .int .i64 n] w fun e w' => e = .returned (.bool v) ∧ w = w' := by
 have hv2 : (s / 2 ^ n.toNat % 2 == 1) = v := hv
 clear hv
 go_enter Tryz.func136, Tryz.ntmps136
 go_wp2
 go_ret
 exact ⟨rfl, rfl⟩
theorem wrap_pw {n : Int} (h0 : 0 ≤ n) (h : n ≤ 15) : wrap64 (2 ^ n.toNat) = pw n := by
 rcases in15 h0 h with rfl | rfl | rfl | rfl | rfl | rfl | rfl | rfl | rfl | rfl | rfl | rfl | rfl | rfl | rfl | rfl <;> decide +kernel
theorem with_is (s n : Int) (h0 : 0 ≤ n) (h : n ≤ 15) (w : World) (v : Int) (hv : wi s n = v) : Calls Tryz.prog 137 #[.int .i64 s, .int .i64 n] w fun e w' => e = .returned (.int .i64 v) ∧ w = w' := by
 have hw := wrap_pw h0 h
 have hv2 : bits .or .i64 s (pw n) = v := hv
 clear hv
 go_enter Tryz.func137, Tryz.ntmps137
 go_wp2
 go_ret
 exact ⟨rfl, rfl⟩
theorem without_is (s n : Int) (h0 : 0 ≤ n) (h : n ≤ 15) (w : World) (v : Int) (hv : wo s n = v) : Calls Tryz.prog 138 #[.int .i64 s, .int .i64 n] w fun e w' => e = .returned (.int .i64 v) ∧ w = w' := by
 have hw := wrap_pw h0 h
 have hv2 : bits .andNot .i64 s (pw n) = v := hv
 clear hv
 go_enter Tryz.func138, Tryz.ntmps138
 go_wp2
 go_ret
 exact ⟨rfl, rfl⟩
end Go.Proofs.YtgcikpgcoemfnaaGreat.Sg
