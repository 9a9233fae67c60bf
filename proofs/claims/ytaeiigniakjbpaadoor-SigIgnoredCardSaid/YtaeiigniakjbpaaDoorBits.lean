/- Bits of an int: '&' as the bit vectors have it. -/
import Derived.Test.YtaeiigniakjbpaaDoorBase
namespace Go.Proofs.YtaeiigniakjbpaaDoor
open Go.RowKit
set_option linter.unusedVariables false
set_option linter.unusedSimpArgs false
theorem wrap_toInt (x : BitVec 64) : IntKind.i64.wrap (x.toNat : Int) = x.toInt := by
  have h0 := x.isLt
  have hw : ∀ n : Int, IntKind.i64.wrap n = if n % 18446744073709551616 ≥ 9223372036854775808 then n % 18446744073709551616 - 18446744073709551616 else n % 18446744073709551616 := fun n => by
    simp [IntKind.wrap, IntKind.bits, IntKind.signed]
  rw [hw]
  unfold BitVec.toInt
  generalize x.toNat = n at *
  have e1 : ((2 ^ 64 : Nat) : Int) = 18446744073709551616 := by decide
  rw [e1]
  rcases Nat.lt_or_ge (2 * n) (2 ^ 64) with h | h
  · rw [if_neg (by omega), if_pos h]; omega
  · rw [if_pos (by omega), if_neg (by omega)]; omega
theorem and_i64 (a b : Int) : bits .and .i64 a b = (BitVec.ofInt 64 a &&& BitVec.ofInt 64 b).toInt := wrap_toInt _
theorem and_and (a b c : Int) : bits .and .i64 (bits .and .i64 a b) c = bits .and .i64 a (bits .and .i64 b c) := by
  rw [and_i64, and_i64 a b, and_i64 a, and_i64 b c, BitVec.ofInt_toInt, BitVec.ofInt_toInt, BitVec.and_assoc]
theorem and7_2 (a : Int) : bits .and .i64 (bits .and .i64 a 7) 2 = bits .and .i64 a 2 := and_and a 7 2
theorem and7_1 (a : Int) : bits .and .i64 (bits .and .i64 a 7) 1 = bits .and .i64 a 1 := and_and a 7 1
theorem and7_4 (a : Int) : bits .and .i64 (bits .and .i64 a 7) 4 = bits .and .i64 a 4 := and_and a 7 4
end Go.Proofs.YtaeiigniakjbpaaDoor
