/- Processes compared by ==. -/
import Derived.Test.YtaeiigniakjbpaaDoorSig0
namespace Go.Proofs.YtaeiigniakjbpaaDoor.Sg
open Go.RowKit
set_option linter.unusedVariables false
set_option linter.unusedSimpArgs false
theorem infoP : (Tryd.prog.info? 25).map (·.size) = some 16 := by kernel_rfl
theorem info8 : (Tryd.prog.info? 23).map (·.size) = some 8 := by kernel_rfl
theorem stoodP : Tryd.prog.stoodInHeld 25 = false := by kernel_rfl
theorem eq_arr8 (n : Nat) (a0 a1 a2 a3 a4 a5 a6 a7 b0 b1 b2 b3 b4 b5 b6 b7 : Int) (W : World) :
    (Op.equalIn (n + 2) 23 (.agg #[.int .i64 a0, .int .i64 a1, .int .i64 a2, .int .i64 a3, .int .i64 a4, .int .i64 a5, .int .i64 a6, .int .i64 a7]) (.agg #[.int .i64 b0, .int .i64 b1, .int .i64 b2, .int .i64 b3, .int .i64 b4, .int .i64 b5, .int .i64 b6, .int .i64 b7])).run Tryd.prog W
      = .ok (a0 == b0 && (a1 == b1 && (a2 == b2 && (a3 == b3 && (a4 == b4 && (a5 == b5 && (a6 == b6 && (a7 == b7)))))))) W := by
  have hi := Tryd.underlying3
  have hg := Tryd.isAgg3
  have hs := Tryd.sizeOf3
  unfold Op.equalIn
  simp only [run_underlying Tryd.underlying23, Sem.run_bind, Result.andThen_ok]
  by_cases h0 : a0 = b0
  rotate_left
  · have e0 : (a0 == b0) = false := by simpa using h0
    go_simp
    rw [show List.range' 0 8 = [0, 1, 2, 3, 4, 5, 6, 7] from rfl]
    simp only [List.forIn_cons, List.forIn_nil]
    go_simp
  subst h0
  by_cases h1 : a1 = b1
  rotate_left
  · have e1 : (a1 == b1) = false := by simpa using h1
    go_simp
    rw [show List.range' 0 8 = [0, 1, 2, 3, 4, 5, 6, 7] from rfl]
    simp only [List.forIn_cons, List.forIn_nil]
    go_simp
  subst h1
  by_cases h2 : a2 = b2
  rotate_left
  · have e2 : (a2 == b2) = false := by simpa using h2
    go_simp
    rw [show List.range' 0 8 = [0, 1, 2, 3, 4, 5, 6, 7] from rfl]
    simp only [List.forIn_cons, List.forIn_nil]
    go_simp
  subst h2
  by_cases h3 : a3 = b3
  rotate_left
  · have e3 : (a3 == b3) = false := by simpa using h3
    go_simp
    rw [show List.range' 0 8 = [0, 1, 2, 3, 4, 5, 6, 7] from rfl]
    simp only [List.forIn_cons, List.forIn_nil]
    go_simp
  subst h3
  by_cases h4 : a4 = b4
  rotate_left
  · have e4 : (a4 == b4) = false := by simpa using h4
    go_simp
    rw [show List.range' 0 8 = [0, 1, 2, 3, 4, 5, 6, 7] from rfl]
    simp only [List.forIn_cons, List.forIn_nil]
    go_simp
  subst h4
  by_cases h5 : a5 = b5
  rotate_left
  · have e5 : (a5 == b5) = false := by simpa using h5
    go_simp
    rw [show List.range' 0 8 = [0, 1, 2, 3, 4, 5, 6, 7] from rfl]
    simp only [List.forIn_cons, List.forIn_nil]
    go_simp
  subst h5
  by_cases h6 : a6 = b6
  rotate_left
  · have e6 : (a6 == b6) = false := by simpa using h6
    go_simp
    rw [show List.range' 0 8 = [0, 1, 2, 3, 4, 5, 6, 7] from rfl]
    simp only [List.forIn_cons, List.forIn_nil]
    go_simp
  subst h6
  by_cases h7 : a7 = b7
  rotate_left
  · have e7 : (a7 == b7) = false := by simpa using h7
    go_simp
    rw [show List.range' 0 8 = [0, 1, 2, 3, 4, 5, 6, 7] from rfl]
    simp only [List.forIn_cons, List.forIn_nil]
    go_simp
  subst h7
  go_simp
  rw [show List.range' 0 8 = [0, 1, 2, 3, 4, 5, 6, 7] from rfl]
  simp only [List.forIn_cons, List.forIn_nil]
  go_simp
theorem eq_procs (n : Nat) (a0 a1 a2 a3 a4 a5 a6 a7 f0 f1 f2 f3 f4 f5 f6 f7 b0 b1 b2 b3 b4 b5 b6 b7 g0 g1 g2 g3 g4 g5 g6 g7 : Int) (W : World) :
    (Op.equalIn (n + 3) 25 (.agg #[.int .i64 a0, .int .i64 a1, .int .i64 a2, .int .i64 a3, .int .i64 a4, .int .i64 a5, .int .i64 a6, .int .i64 a7, .int .i64 f0, .int .i64 f1, .int .i64 f2, .int .i64 f3, .int .i64 f4, .int .i64 f5, .int .i64 f6, .int .i64 f7]) (.agg #[.int .i64 b0, .int .i64 b1, .int .i64 b2, .int .i64 b3, .int .i64 b4, .int .i64 b5, .int .i64 b6, .int .i64 b7, .int .i64 g0, .int .i64 g1, .int .i64 g2, .int .i64 g3, .int .i64 g4, .int .i64 g5, .int .i64 g6, .int .i64 g7])).run Tryd.prog W
      = .ok (a0 == b0 && (a1 == b1 && (a2 == b2 && (a3 == b3 && (a4 == b4 && (a5 == b5 && (a6 == b6 && (a7 == b7 && (f0 == g0 && (f1 == g1 && (f2 == g2 && (f3 == g3 && (f4 == g4 && (f5 == g5 && (f6 == g6 && (f7 == g7)))))))))))))))) W := by
  have hi := Tryd.underlying3
  have hg := Tryd.isAgg3
  have hs := Tryd.sizeOf3
  have hg8 := Tryd.isAgg23
  have hs8 := Tryd.sizeOf23
  have st := stoodP
  have ha := eq_arr8 n f0 f1 f2 f3 f4 f5 f6 f7 g0 g1 g2 g3 g4 g5 g6 g7 W
  generalize (f0 == g0 && (f1 == g1 && (f2 == g2 && (f3 == g3 && (f4 == g4 && (f5 == g5 && (f6 == g6 && (f7 == g7)))))))) = d at ha ⊢
  by_cases h0 : a0 = b0
  rotate_left
  · have e0 : (a0 == b0) = false := by simpa using h0
    unfold Op.equalIn
    simp only [run_underlying Tryd.underlying25, Sem.run_bind, Result.andThen_ok, List.forIn_toArray, List.forIn_nil, List.forIn_cons]
    go_simp
  subst h0
  by_cases h1 : a1 = b1
  rotate_left
  · have e1 : (a1 == b1) = false := by simpa using h1
    unfold Op.equalIn
    simp only [run_underlying Tryd.underlying25, Sem.run_bind, Result.andThen_ok, List.forIn_toArray, List.forIn_nil, List.forIn_cons]
    go_simp
  subst h1
  by_cases h2 : a2 = b2
  rotate_left
  · have e2 : (a2 == b2) = false := by simpa using h2
    unfold Op.equalIn
    simp only [run_underlying Tryd.underlying25, Sem.run_bind, Result.andThen_ok, List.forIn_toArray, List.forIn_nil, List.forIn_cons]
    go_simp
  subst h2
  by_cases h3 : a3 = b3
  rotate_left
  · have e3 : (a3 == b3) = false := by simpa using h3
    unfold Op.equalIn
    simp only [run_underlying Tryd.underlying25, Sem.run_bind, Result.andThen_ok, List.forIn_toArray, List.forIn_nil, List.forIn_cons]
    go_simp
  subst h3
  by_cases h4 : a4 = b4
  rotate_left
  · have e4 : (a4 == b4) = false := by simpa using h4
    unfold Op.equalIn
    simp only [run_underlying Tryd.underlying25, Sem.run_bind, Result.andThen_ok, List.forIn_toArray, List.forIn_nil, List.forIn_cons]
    go_simp
  subst h4
  by_cases h5 : a5 = b5
  rotate_left
  · have e5 : (a5 == b5) = false := by simpa using h5
    unfold Op.equalIn
    simp only [run_underlying Tryd.underlying25, Sem.run_bind, Result.andThen_ok, List.forIn_toArray, List.forIn_nil, List.forIn_cons]
    go_simp
  subst h5
  by_cases h6 : a6 = b6
  rotate_left
  · have e6 : (a6 == b6) = false := by simpa using h6
    unfold Op.equalIn
    simp only [run_underlying Tryd.underlying25, Sem.run_bind, Result.andThen_ok, List.forIn_toArray, List.forIn_nil, List.forIn_cons]
    go_simp
  subst h6
  by_cases h7 : a7 = b7
  rotate_left
  · have e7 : (a7 == b7) = false := by simpa using h7
    unfold Op.equalIn
    simp only [run_underlying Tryd.underlying25, Sem.run_bind, Result.andThen_ok, List.forIn_toArray, List.forIn_nil, List.forIn_cons]
    go_simp
  subst h7
  unfold Op.equalIn
  simp only [run_underlying Tryd.underlying25, Sem.run_bind, Result.andThen_ok, List.forIn_toArray, List.forIn_nil, List.forIn_cons]
  go_simp
  cases d <;> rfl
theorem eq_pv (p q : Ps) (hp : p.f.length = 8) (hq : q.f.length = 8) (W : World) : (binOp .eql 25 (pv p) (pv q)).run Tryd.prog W = .ok (.bool (decide (p = q))) W := by
  obtain ⟨a0, a1, a2, a3, a4, a5, a6, a7, f⟩ := p
  obtain ⟨b0, b1, b2, b3, b4, b5, b6, b7, g⟩ := q
  match f, hp, g, hq with
  | [f0, f1, f2, f3, f4, f5, f6, f7], _, [g0, g1, g2, g3, g4, g5, g6, g7], _ =>
    have h := fun n => eq_procs n a0 a1 a2 a3 a4 a5 a6 a7 f0 f1 f2 f3 f4 f5 f6 f7 b0 b1 b2 b3 b4 b5 b6 b7 g0 g1 g2 g3 g4 g5 g6 g7 W
    have e : decide (Ps.mk a0 a1 a2 a3 a4 a5 a6 a7 [f0, f1, f2, f3, f4, f5, f6, f7] = Ps.mk b0 b1 b2 b3 b4 b5 b6 b7 [g0, g1, g2, g3, g4, g5, g6, g7]) = (a0 == b0 && (a1 == b1 && (a2 == b2 && (a3 == b3 && (a4 == b4 && (a5 == b5 && (a6 == b6 && (a7 == b7 && (f0 == g0 && (f1 == g1 && (f2 == g2 && (f3 == g3 && (f4 == g4 && (f5 == g5 && (f6 == g6 && (f7 == g7)))))))))))))))) := by
      rw [Bool.eq_iff_iff, decide_eq_true_iff]
      simp only [Ps.mk.injEq, List.cons.injEq, and_true, Bool.and_eq_true, beq_iff_eq]
    rw [e]
    generalize (a0 == b0 && (a1 == b1 && (a2 == b2 && (a3 == b3 && (a4 == b4 && (a5 == b5 && (a6 == b6 && (a7 == b7 && (f0 == g0 && (f1 == g1 && (f2 == g2 && (f3 == g3 && (f4 == g4 && (f5 == g5 && (f6 == g6 && (f7 == g7)))))))))))))))) = d at *
    have hu := Tryd.underlying25
    simp only [pv, pc, ls, ints, List.cons_append, List.nil_append, List.map_cons, List.map_nil]
    have h9 := h 9997
    go_simp
theorem ne_pv (p q : Ps) (hp : p.f.length = 8) (hq : q.f.length = 8) (W : World) : (binOp .neq 25 (pv p) (pv q)).run Tryd.prog W = .ok (.bool (!decide (p = q))) W := by
  obtain ⟨a0, a1, a2, a3, a4, a5, a6, a7, f⟩ := p
  obtain ⟨b0, b1, b2, b3, b4, b5, b6, b7, g⟩ := q
  match f, hp, g, hq with
  | [f0, f1, f2, f3, f4, f5, f6, f7], _, [g0, g1, g2, g3, g4, g5, g6, g7], _ =>
    have h := fun n => eq_procs n a0 a1 a2 a3 a4 a5 a6 a7 f0 f1 f2 f3 f4 f5 f6 f7 b0 b1 b2 b3 b4 b5 b6 b7 g0 g1 g2 g3 g4 g5 g6 g7 W
    have e : decide (Ps.mk a0 a1 a2 a3 a4 a5 a6 a7 [f0, f1, f2, f3, f4, f5, f6, f7] = Ps.mk b0 b1 b2 b3 b4 b5 b6 b7 [g0, g1, g2, g3, g4, g5, g6, g7]) = (a0 == b0 && (a1 == b1 && (a2 == b2 && (a3 == b3 && (a4 == b4 && (a5 == b5 && (a6 == b6 && (a7 == b7 && (f0 == g0 && (f1 == g1 && (f2 == g2 && (f3 == g3 && (f4 == g4 && (f5 == g5 && (f6 == g6 && (f7 == g7)))))))))))))))) := by
      rw [Bool.eq_iff_iff, decide_eq_true_iff]
      simp only [Ps.mk.injEq, List.cons.injEq, and_true, Bool.and_eq_true, beq_iff_eq]
    rw [e]
    generalize (a0 == b0 && (a1 == b1 && (a2 == b2 && (a3 == b3 && (a4 == b4 && (a5 == b5 && (a6 == b6 && (a7 == b7 && (f0 == g0 && (f1 == g1 && (f2 == g2 && (f3 == g3 && (f4 == g4 && (f5 == g5 && (f6 == g6 && (f7 == g7)))))))))))))))) = d at *
    have hu := Tryd.underlying25
    simp only [pv, pc, ls, ints, List.cons_append, List.nil_append, List.map_cons, List.map_nil]
    have h9 := h 9997
    go_simp
end Go.Proofs.YtaeiigniakjbpaaDoor.Sg
