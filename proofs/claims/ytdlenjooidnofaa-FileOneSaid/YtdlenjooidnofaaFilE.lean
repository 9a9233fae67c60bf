/- Package ofile: files compared by ==. -/
import Derived.Test.YtdlenjooidnofaaFil0
namespace Go.Proofs.Ytdlenjooidnofaa.Fi
open Go.RowKit
set_option linter.unusedVariables false
set_option linter.unusedSimpArgs false
/-- A file as a value. -/
def pv (p : List Int) : Value := .agg (ints p).toArray
theorem stoodP : Try.prog.stoodInHeld 23 = false := by kernel_rfl
theorem eq_files (n : Nat) (a0 a1 a2 a3 b0 b1 b2 b3 : Int) (W : World) :
    (Op.equalIn (n + 3) 23 (.agg #[.int .i64 a0, .int .i64 a1, .int .i64 a2, .int .i64 a3]) (.agg #[.int .i64 b0, .int .i64 b1, .int .i64 b2, .int .i64 b3])).run Try.prog W
      = .ok (a0 == b0 && (a1 == b1 && (a2 == b2 && a3 == b3))) W := by
  have hi := Try.underlying3
  have hg := Try.isAgg3
  have hs := Try.sizeOf3
  have st := stoodP
  by_cases h0 : a0 = b0
  rotate_left
  · have e0 : (a0 == b0) = false := by simpa using h0
    unfold Op.equalIn
    simp only [run_underlying Try.underlying23, Sem.run_bind, Result.andThen_ok, List.forIn_toArray, List.forIn_nil, List.forIn_cons]
    go_simp
  subst h0
  by_cases h1 : a1 = b1
  rotate_left
  · have e1 : (a1 == b1) = false := by simpa using h1
    unfold Op.equalIn
    simp only [run_underlying Try.underlying23, Sem.run_bind, Result.andThen_ok, List.forIn_toArray, List.forIn_nil, List.forIn_cons]
    go_simp
  subst h1
  by_cases h2 : a2 = b2
  rotate_left
  · have e2 : (a2 == b2) = false := by simpa using h2
    unfold Op.equalIn
    simp only [run_underlying Try.underlying23, Sem.run_bind, Result.andThen_ok, List.forIn_toArray, List.forIn_nil, List.forIn_cons]
    go_simp
  subst h2
  by_cases h3 : a3 = b3
  rotate_left
  · have e3 : (a3 == b3) = false := by simpa using h3
    unfold Op.equalIn
    simp only [run_underlying Try.underlying23, Sem.run_bind, Result.andThen_ok, List.forIn_toArray, List.forIn_nil, List.forIn_cons]
    go_simp
  subst h3
  unfold Op.equalIn
  simp only [run_underlying Try.underlying23, Sem.run_bind, Result.andThen_ok, List.forIn_toArray, List.forIn_nil, List.forIn_cons]
  go_simp
theorem eq_pv (p q : List Int) (hp : p.length = 4) (hq : q.length = 4) (W : World) : (binOp .eql 23 (pv p) (pv q)).run Try.prog W = .ok (.bool (decide (p = q))) W := by
  obtain ⟨a0, a1, a2, a3, rfl⟩ := split4 hp
  obtain ⟨b0, b1, b2, b3, rfl⟩ := split4 hq
  have h := fun n => eq_files n a0 a1 a2 a3 b0 b1 b2 b3 W
  have e : decide ([a0, a1, a2, a3] = [b0, b1, b2, b3]) = (a0 == b0 && (a1 == b1 && (a2 == b2 && a3 == b3))) := by
    rw [Bool.eq_iff_iff, decide_eq_true_iff]
    simp only [List.cons.injEq, and_true, Bool.and_eq_true, beq_iff_eq]
  rw [e]
  generalize (a0 == b0 && (a1 == b1 && (a2 == b2 && a3 == b3))) = d at *
  have hu := Try.underlying23
  simp only [pv, ints, List.map_cons, List.map_nil]
  have h9 := h 9997
  go_simp
theorem ne_pv (p q : List Int) (hp : p.length = 4) (hq : q.length = 4) (W : World) : (binOp .neq 23 (pv p) (pv q)).run Try.prog W = .ok (.bool (!decide (p = q))) W := by
  obtain ⟨a0, a1, a2, a3, rfl⟩ := split4 hp
  obtain ⟨b0, b1, b2, b3, rfl⟩ := split4 hq
  have h := fun n => eq_files n a0 a1 a2 a3 b0 b1 b2 b3 W
  have e : decide ([a0, a1, a2, a3] = [b0, b1, b2, b3]) = (a0 == b0 && (a1 == b1 && (a2 == b2 && a3 == b3))) := by
    rw [Bool.eq_iff_iff, decide_eq_true_iff]
    simp only [List.cons.injEq, and_true, Bool.and_eq_true, beq_iff_eq]
  rw [e]
  generalize (a0 == b0 && (a1 == b1 && (a2 == b2 && a3 == b3))) = d at *
  have hu := Try.underlying23
  simp only [pv, ints, List.map_cons, List.map_nil]
  have h9 := h 9997
  go_simp
end Go.Proofs.Ytdlenjooidnofaa.Fi
