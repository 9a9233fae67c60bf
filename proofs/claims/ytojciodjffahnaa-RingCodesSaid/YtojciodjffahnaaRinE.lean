/- Package ring: pipes compared by ==. -/
import Derived.Test.YtojciodjffahnaaRin0
namespace Go.Proofs.Ytojciodjffahnaa.Ri
open Go.RowKit
set_option linter.unusedVariables false
set_option linter.unusedSimpArgs false
theorem infoP : (Try.prog.info? 26).map (·.size) = some 36 := by kernel_rfl
theorem stoodP : Try.prog.stoodInHeld 26 = false := by kernel_rfl
theorem loop_eq {P : Program} (body : Nat → Option Bool × Unit → Sem (ForInStep (Option Bool × Unit))) (v : Nat → Bool)
    (hb : ∀ i, i < 32 → ∀ W, (body i (none, ())).run P W = .ok (if v i then .yield (none, ()) else .done (some false, ())) W) (W : World) :
    ∀ m k, k + m = 32 → (forIn (List.range' k m) ((none, ()) : Option Bool × Unit) body).run P W = .ok (if (List.range' k m).all v then (none, ()) else (some false, ())) W
  | 0, _, _ => rfl
  | m + 1, k, h => by
    have ih := loop_eq body v hb W m (k + 1) (by omega)
    rw [List.range'_succ, List.forIn_cons, Sem.run_bind, hb k (by omega), List.all_cons]
    cases v k with
    | false => rfl
    | true =>
      simp only [if_true, Bool.true_and, Result.andThen]
      exact ih
theorem all_eq {x y : List UInt8} (hx : x.length = 32) (hy : y.length = 32) : (List.range' 0 32).all (fun i => x.getD i 0 == y.getD i 0) = (x == y) := by
  rw [Bool.eq_iff_iff, List.all_eq_true, beq_iff_eq]
  constructor
  · intro h
    apply List.ext_getElem (by omega)
    intro i h1 h2
    have := h i (by simp [List.mem_range']; omega)
    simp only [beq_iff_eq, List.getD_eq_getElem?_getD] at this
    rwa [List.getElem?_eq_getElem h1, List.getElem?_eq_getElem h2] at this
  · rintro rfl i _
    simp
theorem eq_arr (n : Nat) (x y : List UInt8) (hx : x.length = 32) (hy : y.length = 32) (W : World) :
    (Op.equalIn (n + 2) 24 (.agg (bytes x).toArray) (.agg (bytes y).toArray)).run Try.prog W = .ok (x == y) W := by
  have hi := Try.underlying5
  have hg := Try.isAgg5
  have hs := Try.sizeOf5
  unfold Op.equalIn
  simp only [run_underlying Try.underlying24, Sem.run_bind, Result.andThen_ok]
  go_simp
  rw [loop_eq _ (fun i => x.getD i 0 == y.getD i 0) ?_ W 32 0 rfl, all_eq hx hy]
  · cases x == y <;> rfl
  · intro i hi2 W
    have e1 := bytes_getD (l := x) (i := i) (by omega)
    have e2 := bytes_getD (l := y) (i := i) (by omega)
    have e3 : (((x.getD i 0).toNat : Int) == ((y.getD i 0).toNat : Int)) = (x.getD i 0 == y.getD i 0) := by
      rw [Bool.eq_iff_iff, beq_iff_eq, beq_iff_eq]
      exact ⟨fun h => UInt8.toNat_inj.1 (by omega), fun h => by rw [h]⟩
    rw [← e3]
    generalize ((x.getD i 0).toNat : Int) = u at *
    generalize ((y.getD i 0).toNat : Int) = v at *
    rw [e1, e2]
    unfold Op.equalIn
    clear e1 e2 e3 hi2 hx hy
    go_simp
    by_cases huv : u = v
    · subst huv; simp
    · rw [if_neg huv, if_neg huv]
theorem eq_pipes (n : Nat) (p q : Pp) (hp : p.d.length = 32) (hq : q.d.length = 32) (W : World) :
    (Op.equalIn (n + 3) 26 (pv p) (pv q)).run Try.prog W = .ok (same p q) W := by
  obtain ⟨a0, a1, a2, a3, x⟩ := p
  obtain ⟨b0, b1, b2, b3, y⟩ := q
  have hi := Try.underlying3
  have hg := Try.isAgg3
  have hs := Try.sizeOf3
  have hg8 := Try.isAgg24
  have hs8 := Try.sizeOf24
  have st := stoodP
  have ha := eq_arr n x y hp hq W
  have l1 : List.take 32 (bytes x) = bytes x := List.take_of_length_le (by rw [bytes_length]; exact Nat.le_of_eq hp)
  have l2 : List.take 32 (bytes y) = bytes y := List.take_of_length_le (by rw [bytes_length]; exact Nat.le_of_eq hq)
  unfold same pv pc
  simp only
  generalize (x == y) = d at ha ⊢
  generalize bytes x = X at *
  generalize bytes y = Y at *
  by_cases h0 : a0 = b0
  rotate_left
  · have e0 : (a0 == b0) = false := by simpa using h0
    unfold Op.equalIn
    simp only [run_underlying Try.underlying26, Sem.run_bind, Result.andThen_ok, List.forIn_toArray, List.forIn_nil, List.forIn_cons]
    go_simp
  subst h0
  by_cases h1 : a1 = b1
  rotate_left
  · have e1 : (a1 == b1) = false := by simpa using h1
    unfold Op.equalIn
    simp only [run_underlying Try.underlying26, Sem.run_bind, Result.andThen_ok, List.forIn_toArray, List.forIn_nil, List.forIn_cons]
    go_simp
  subst h1
  by_cases h2 : a2 = b2
  rotate_left
  · have e2 : (a2 == b2) = false := by simpa using h2
    unfold Op.equalIn
    simp only [run_underlying Try.underlying26, Sem.run_bind, Result.andThen_ok, List.forIn_toArray, List.forIn_nil, List.forIn_cons]
    go_simp
  subst h2
  by_cases h3 : a3 = b3
  rotate_left
  · have e3 : (a3 == b3) = false := by simpa using h3
    unfold Op.equalIn
    simp only [run_underlying Try.underlying26, Sem.run_bind, Result.andThen_ok, List.forIn_toArray, List.forIn_nil, List.forIn_cons]
    go_simp
  subst h3
  unfold Op.equalIn
  simp only [run_underlying Try.underlying26, Sem.run_bind, Result.andThen_ok, List.forIn_toArray, List.forIn_nil, List.forIn_cons]
  go_simp
  cases d <;> rfl
theorem eq_pv (p q : Pp) (hp : p.d.length = 32) (hq : q.d.length = 32) (v : Bool) (hv : same p q = v) (W : World) : (binOp .eql 26 (pv p) (pv q)).run Try.prog W = .ok (.bool v) W := by
  have h := fun n => eq_pipes n p q hp hq W
  rw [hv] at h
  have hu := Try.underlying26
  unfold pv at *
  generalize (pc p).toArray = X at *
  generalize (pc q).toArray = Y at *
  have h9 := h 9997
  go_simp
theorem ne_pv (p q : Pp) (hp : p.d.length = 32) (hq : q.d.length = 32) (v : Bool) (hv : same p q = v) (W : World) : (binOp .neq 26 (pv p) (pv q)).run Try.prog W = .ok (.bool (!v)) W := by
  have h := fun n => eq_pipes n p q hp hq W
  rw [hv] at h
  have hu := Try.underlying26
  unfold pv at *
  generalize (pc p).toArray = X at *
  generalize (pc q).toArray = Y at *
  have h9 := h 9997
  go_simp
end Go.Proofs.Ytojciodjffahnaa.Ri
