/- Lists of places as functions; counting; the least free place. -/
import Derived.Test.YtbieffenicojpaaTab0
namespace Go.Proofs.Ytbieffenicojpaa
open Go.RowKit
set_option linter.unusedVariables false
set_option linter.unusedSimpArgs false
/-- The list of the first n values of a function. -/
def mk {α : Type} (n : Nat) (f : Nat → α) : List α := (List.range n).map f
section
variable {α : Type} {n : Nat} {f g : Nat → α}
@[simp] theorem mk_len : (mk n f).length = n := by simp [mk]
theorem mk_get {i : Nat} (h : i < n) : (mk n f)[i]? = some (f i) := by simp [mk, h]
theorem mk_none {i : Nat} (h : n ≤ i) : (mk n f)[i]? = none := List.getElem?_eq_none (by simpa using h)
theorem mk_some {i : Nat} {q : α} (h : (mk n f)[i]? = some q) : i < n ∧ q = f i := by
  have hl : i < n := by simpa using get_lt h
  rw [mk_get hl] at h
  exact ⟨hl, by simpa using h.symm⟩
theorem mk_congr (h : ∀ i, i < n → f i = g i) : mk n f = mk n g := by
  apply List.ext_getElem?
  intro i
  by_cases hi : i < n
  · rw [mk_get hi, mk_get hi, h i hi]
  · rw [mk_none (by omega), mk_none (by omega)]
theorem mk_set {i : Nat} (q : α) (h : ∀ j, j < n → (if j = i then q else f j) = g j) : (mk n f).set i q = mk n g := by
  apply List.ext_getElem?
  intro j
  rw [List.getElem?_set]
  by_cases hj : j < n
  · rw [mk_get hj, mk_get hj, ← h j hj]
    by_cases e : i = j
    · subst e; simp [hj]
    · rw [if_neg e, if_neg (fun e' => e e'.symm)]
  · rw [mk_none (f := f) (by omega), mk_none (f := g) (by omega)]
    split
    · rw [mk_len, if_neg (by omega)]
    · rfl
theorem mk_rep (q : α) : List.replicate n q = mk n (fun _ => q) := by
  apply List.ext_getElem?
  intro i
  by_cases hi : i < n
  · rw [mk_get hi]; simp [hi]
  · rw [mk_none (by omega), List.getElem?_eq_none (by simp; omega)]
theorem mk_succ (f : Nat → α) (n : Nat) : mk n f ++ [f n] = mk (n + 1) f := by simp [mk, List.range_succ]
theorem map_mk {β : Type} (h : α → β) : (mk n f).map h = mk n (fun i => h (f i)) := by simp [mk]
theorem of_mk [Inhabited α] (L : List α) : L = mk L.length (fun i => L.getD i default) := by
  apply List.ext_getElem?
  intro i
  by_cases hi : i < L.length
  · rw [mk_get hi, List.getD_eq_getElem?_getD, List.getElem?_eq_getElem hi]; rfl
  · rw [mk_none (by omega), List.getElem?_eq_none (by omega)]
end
theorem names_all {n : Nat} {f : Nat → Pl} : ∀ k, k ≤ n → (∀ i, i < k → (f i).on = true) → names (mk n f) k = mk k (fun i => (i : Int) + 256 * (f i).gen)
  | 0, _, _ => rfl
  | k + 1, hk, h => by
    rw [names_on (mk_get (by omega)) (h k (by omega)), names_all k (by omega) (fun i hi => h i (by omega))]
    exact mk_succ (fun i => (i : Int) + 256 * (f i).gen) k
/-- How many places of the first k are taken. -/
def cnt (L : List Pl) : Nat → Nat
  | 0 => 0
  | k + 1 => cnt L k + (match L[k]? with | some q => if q.on then 1 else 0 | none => 0)
theorem names_cnt (L : List Pl) : ∀ k, (names L k).length = cnt L k
  | 0 => rfl
  | k + 1 => by
    unfold names cnt
    rw [List.length_append, names_cnt L k]
    congr 1
    cases h : L[k]? with
    | none => rfl
    | some q => dsimp only; split <;> rfl
theorem cnt_same {L L' : List Pl} : ∀ k, (∀ i, i < k → (L[i]?).map (·.on) = (L'[i]?).map (·.on)) → cnt L k = cnt L' k
  | 0, _ => rfl
  | k + 1, h => by
    unfold cnt
    rw [cnt_same k (fun i hi => h i (by omega))]
    congr 1
    have := h k (by omega)
    cases h1 : L[k]? <;> cases h2 : L'[k]? <;> simp [h1, h2] at this ⊢
    rw [this]
theorem cnt_set {L : List Pl} {i : Nat} {q q' : Pl} (hq : L[i]? = some q) : ∀ k, i < k → cnt (L.set i q') k + (if q.on then 1 else 0) = cnt L k + (if q'.on then 1 else 0)
  | 0, h => absurd h (by omega)
  | k + 1, h => by
    unfold cnt
    by_cases hk : i = k
    · subst hk
      rw [List.getElem?_set_self (get_lt hq), hq]
      have := cnt_same (L := L.set i q') (L' := L) i (fun j hj => by rw [List.getElem?_set_ne (by omega)])
      rw [this]
      dsimp only
      omega
    · rw [List.getElem?_set_ne hk]
      have := cnt_set (q' := q') hq k (by omega)
      omega
theorem first_free : ∀ L : List Pl, (∃ (i : Nat) (q : Pl), L[i]? = some q ∧ q.free = true ∧ ∀ (j : Nat) (y : Pl), j < i → L[j]? = some y → y.free = false) ∨ (∀ (j : Nat) (y : Pl), L[j]? = some y → y.free = false)
  | [] => .inr (by simp)
  | q :: L => by
    cases hq : q.free with
    | true => exact .inl ⟨0, q, rfl, hq, fun j y hj => absurd hj (by omega)⟩
    | false =>
      rcases first_free L with ⟨i, x, hx, hf, hb⟩ | hb
      · refine .inl ⟨i + 1, x, by simpa using hx, hf, fun j y hj hy => ?_⟩
        cases j with
        | zero => simp at hy; rw [← hy]; exact hq
        | succ j => exact hb j y (by omega) (by simpa using hy)
      · refine .inr fun j y hy => ?_
        cases j with
        | zero => simp at hy; rw [← hy]; exact hq
        | succ j => exact hb j y (by simpa using hy)
theorem free_off {q : Pl} (h : q.free = true) : q.on = false ∧ q.gen ≤ 1000000 := by
  unfold Pl.free at h
  simp at h
  exact h
theorem busy {q : Pl} (h : q.free = false) (hg : q.gen ≤ 1000000) : q.on = true := by
  unfold Pl.free at h
  simp at h
  cases hq : q.on with
  | true => rfl
  | false => exact absurd (h hq) (by omega)
theorem free_is_off {q : Pl} (h : q.on = true) : q.free = false := by simp [Pl.free, h]
end Go.Proofs.Ytbieffenicojpaa
