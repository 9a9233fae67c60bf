/- What is kept in a slice that is cut at its head and appended to (w = append(w, x), w = w[1:]); rows of two. -/
import Derived.Test.YtbieffenicojpaaBel2
import Derived.ArgAppend
namespace Go.Proofs.Ytbieffenicojpaa
open Go.RowKit
set_option linter.unusedVariables false
set_option linter.unusedSimpArgs false
/-- The slice '.slice A _ cap' holds xs in the block G, from any place of it on; with no room at all it has no block. -/
def RowAt (w : World) (A : Option Addr) (cap : Nat) (xs : List Int) (G : Option Nat) : Prop :=
  (cap = 0 ∧ xs = [] ∧ G = none) ∨ ∃ g off cur, G = some g ∧ A = some ⟨g, off, none⟩ ∧ Blk w g 3 cur ∧ xs.length ≤ cap ∧ cur.length = off + cap ∧ (cur.drop off).take xs.length = ints xs
section
variable {w w' : World} {A : Option Addr} {cap : Nat} {xs : List Int} {G : Option Nat} {M : Nat → Prop}
theorem RowAt.nil (w : World) : RowAt w none 0 [] none := .inl ⟨rfl, rfl, rfl⟩
theorem RowAt.le (h : RowAt w A cap xs G) : xs.length ≤ cap := by
  rcases h with ⟨rfl, rfl, _⟩ | ⟨g, off, cur, _, _, _, h, _⟩
  · simp
  · exact h
theorem RowAt.lt (h : RowAt w A cap xs G) {g : Nat} (hg : G = some g) : g < w.heap.size := by
  rcases h with ⟨_, _, rfl⟩ | ⟨g', off, cur, rfl, _, hb, _⟩
  · cases hg
  · cases hg; exact hb.lt
theorem RowAt.blk (h : RowAt w A cap xs G) {g : Nat} (hg : G = some g) : ∃ cur, Blk w g 3 cur := by
  rcases h with ⟨_, _, rfl⟩ | ⟨g', off, cur, rfl, _, hb, _⟩
  · cases hg
  · cases hg; exact ⟨_, hb⟩
theorem RowAt.keep (h : RowAt w A cap xs G) (k : Keep M w w') (hm : ∀ g, G = some g → ¬ M g) : RowAt w' A cap xs G := by
  rcases h with h | ⟨g, off, cur, rfl, hA, hb, r⟩
  · exact .inl h
  · exact .inr ⟨g, off, cur, rfl, hA, hb.keep k (hm g rfl), r⟩
theorem RowAt.get (h : RowAt w A cap xs G) {k : Nat} (hk : k < xs.length) : ∃ g off, G = some g ∧ A = some ⟨g, off, none⟩ ∧ w.cell? ⟨g, off + k, none⟩ = some (.int .i64 (xs.getD k 0)) := by
  rcases h with ⟨_, rfl, _⟩ | ⟨g, off, cur, rfl, rfl, hb, hle, hl, ht⟩
  · simp at hk
  · refine ⟨g, off, rfl, rfl, ?_⟩
    have h1 := congrArg (fun l => l[k]?) ht
    simp only [List.getElem?_take, if_pos hk, List.getElem?_drop, ints_get, List.getElem?_eq_getElem hk, Option.map_some] at h1
    rw [hb.cell, h1, List.getD_eq_getElem?_getD, List.getElem?_eq_getElem hk]
    rfl
theorem RowAt.reads (h : RowAt w A cap xs G) : Reads w A xs.length (ints xs) := by
  refine ⟨by simp, fun h0 => ?_⟩
  obtain ⟨g, off, _, rfl, _⟩ := h.get h0
  refine ⟨_, rfl, fun j u hu => ?_⟩
  have hj : j < xs.length := by have := get_lt hu; rwa [ints_len] at this
  obtain ⟨g', off', hG, e, hc⟩ := h.get hj
  cases e
  rw [add_lit, hc]
  rw [ints_get, List.getElem?_eq_getElem hj] at hu
  rw [List.getD_eq_getElem?_getD, List.getElem?_eq_getElem hj]
  exact hu
/-- x[1:]. -/
theorem RowAt.cut (h : RowAt w A cap xs G) (h0 : 0 < xs.length) (A' : Option Addr) (hA : 1 < cap → A' = A.map (·.add (1 * 1))) : RowAt w A' (cap - 1) xs.tail (if cap = 1 then none else G) := by
  rcases h with ⟨_, rfl, _⟩ | ⟨g, off, cur, rfl, rfl, hb, hle, hl, ht⟩
  · simp at h0
  · obtain ⟨x, l, rfl⟩ : ∃ x l, xs = x :: l := by cases xs with
      | nil => simp at h0
      | cons x l => exact ⟨x, l, rfl⟩
    simp only [List.length_cons] at hle ht
    by_cases h1 : cap = 1
    · rw [if_pos h1]
      have : l = [] := List.eq_nil_of_length_eq_zero (by omega)
      subst this
      exact .inl ⟨by omega, rfl, rfl⟩
    · rw [if_neg h1]
      have e := hA (by omega)
      refine .inr ⟨g, off + 1, cur, rfl, by rw [e]; simp [add_lit], hb, by simp only [List.tail_cons]; omega, by omega, ?_⟩
      cases hd : cur.drop off with
      | nil => rw [hd] at ht; simp [ints] at ht
      | cons y r =>
        rw [hd] at ht
        simp only [ints, List.map_cons, List.take_succ_cons, List.cons.injEq] at ht
        rw [← List.drop_drop, hd]
        exact ht.2
/-- append(x, one): x with its block or a new one. -/
theorem run_qap {P : Program} (t ty : TypeId) (ht : P.underlying t = some (.slice 3)) (hinfo : (P.info? 3).map (fun i => (i.zero, i.size, i.bytes)) = some (some (.int .i64 0), 1, 8))
    (n : Nat) (hn : xs.length = n) (h : RowAt w A cap xs G) (hsm : n ≤ 1000000) (B : Option Addr) (m c : Nat) (hm : m = 1) (x : Int) (hr : Reads w B 1 [.int .i64 x]) :
    ∃ A' cap' w' G', (Builtin.append_ #[t, t] ty #[.slice A n cap, .slice B m c]).run P w = .ok (.slice A' (n + m) cap') w' ∧ RowAt w' A' cap' (xs ++ [x]) G' ∧ Keep (fun k => G = some k) w w' ∧ (∀ g, G' = some g → G = some g ∨ w.heap.size ≤ g) := by
  subst hm
  subst hn
  obtain ⟨i, hi, hzz⟩ := Option.map_eq_some_iff.1 hinfo
  simp only [Prod.mk.injEq] at hzz
  obtain ⟨hz, hsize, hbytes⟩ := hzz
  obtain ⟨ad, rfl, hnew⟩ := hr.2 (by omega)
  have grown : ∀ {v' : Value} {w' : World}, (Builtin.append_ #[t, t] ty #[.slice A xs.length cap, .slice (some ad) 1 c]).run P w = .ok v' w' → w'.ownsRow w.heap.size 3 1 v' (xs.length + 1) (ints xs ++ [.int .i64 x]) → Keep Nob w w' →
      ∃ A' cap' w' G', (Builtin.append_ #[t, t] ty #[.slice A xs.length cap, .slice (some ad) 1 c]).run P w = .ok (.slice A' (xs.length + 1) cap') w' ∧ RowAt w' A' cap' (xs ++ [x]) G' ∧ Keep (fun k => G = some k) w w' ∧ (∀ g, G' = some g → G = some g ∨ w.heap.size ≤ g) := by
    intro v' w' h1 h2 h3
    rcases h2.2 with ⟨_, e⟩ | ⟨g, cap', cur, rfl, hlo, hg, hc1, _, hc2, hc3⟩
    · omega
    · refine ⟨_, cap', w', some g, h1, .inr ⟨g, 0, cur.toList, rfl, rfl, by simpa [Blk] using hg, by simpa using hc1, by simpa using hc2, ?_⟩, h3.mono (fun _ _ f => f.elim), fun g' e => .inr (by cases e; exact hlo)⟩
      rw [ints_snoc, ← hc3]
      simp
  have one : ∀ j u, [Value.int .i64 x][j]? = some u → w.cell? (ad.add j) = some u := hnew
  have kg : ∀ {w' : World}, w.grownBy w' none → Keep Nob w w' := fun g => ⟨g.os, g.tape, g.output, g.size, fun k hk _ => g.block k hk (by simp)⟩
  rcases h with ⟨rfl, rfl, rfl⟩ | ⟨g, off, cur, rfl, rfl, hb, hle, hl, htk⟩
  · cases A with
    | none =>
      obtain ⟨A', cap', w', h2, h3, h4, h5⟩ := run_ap (P := P) w t ty 3 1 8 (.int .i64 0) ht hinfo rfl (by decide) none 0 0 [] (Vec.nil _ _ _) (some ad) 1 c [.int .i64 x] hr (by simp [Value.oneCell']) (by unfold maxLen; omega) (by omega)
      refine grown h2 ?_ (h4.mono (fun k _ m => by obtain ⟨a, ha, _⟩ := m; cases ha))
      refine ⟨by simp, ?_⟩
      rcases h3.2 with ⟨e, e2⟩ | ⟨g, cap2, cur, e, _, r⟩
      · exact .inl ⟨e, e2⟩
      · refine .inr ⟨g, cap2, cur, e, ?_, r⟩
        simp only [Value.slice.injEq, true_and] at e
        rcases h5 g ⟨_, e.1, rfl⟩ with ⟨a, ha, _⟩ | e
        · cases ha
        · omega
    | some b =>
      obtain ⟨v', w', h2, h3, h4⟩ := run_append_arg_grows (P := P) w t ty 3 i (.int .i64 0) 1 8 ht hi hz hsize hbytes rfl (by decide) b 0 0 [] rfl (fun j u hj => by simp at hj) ad 1 c [.int .i64 x] rfl one (by omega) (by unfold maxLen; omega) (by omega)
      exact grown h2 h3 (kg h4)
  · by_cases hroom : xs.length + 1 ≤ cap
    · have hlt : off + xs.length < cur.length := by omega
      have h2 := run_append_room_cells (P := P) w t ty 3 i ht hi g off xs.length cap ad 1 c [.int .i64 x] (by rw [hsize]; rfl) one (by simp [Value.oneCell']) hroom
        (fun j hj => by
          obtain rfl : j = 0 := by simpa using hj
          rw [hsize, Nat.mul_one, Nat.add_zero, hb.cell, List.getElem?_eq_getElem hlt]; rfl) (fun j hj => hb.frozen _)
      rw [hsize, Nat.mul_one] at h2
      refine ⟨_, cap, _, some g, h2, .inr ⟨g, off, cur.set (off + xs.length) (.int .i64 x), rfl, rfl, hb.setCell _ _, by simpa using hroom, by simpa using hl, ?_⟩, (Keep.refl (fun k => some g = some k) w).setCell _ _ (fun _ => rfl), fun g' e => .inl e⟩
      rw [ints_snoc, ← htk]
      apply List.ext_getElem?
      intro j
      simp only [List.length_append, List.length_singleton, List.getElem?_take, List.getElem?_drop, List.getElem?_set]
      by_cases e1 : j < xs.length
      · rw [if_pos (by omega), if_neg (by omega), List.getElem?_append_left (by rw [List.length_take, List.length_drop]; omega), List.getElem?_take, if_pos e1, List.getElem?_drop]
      · have hlen : ((cur.drop off).take xs.length).length = xs.length := by rw [List.length_take, List.length_drop]; omega
        rw [List.getElem?_append_right (by omega), hlen]
        by_cases e2 : j = xs.length
        · subst e2
          rw [if_pos (by omega), if_pos rfl, if_pos hlt, Nat.sub_self]
          rfl
        · rw [if_neg (by omega), List.getElem?_eq_none (by simp; omega)]
    · have holds : ∀ j u, (ints xs)[j]? = some u → w.cell? ((⟨g, off, none⟩ : Addr).add j) = some u := by
        intro j u hu
        have hj : j < xs.length := by have := get_lt hu; rwa [ints_len] at this
        rw [add_lit, hb.cell]
        rw [← htk, List.getElem?_take, if_pos hj, List.getElem?_drop] at hu
        exact hu
      obtain ⟨v', w', h2, h3, h4⟩ := run_append_arg_grows (P := P) w t ty 3 i (.int .i64 0) 1 8 ht hi hz hsize hbytes rfl (by decide) ⟨g, off, none⟩ xs.length cap (ints xs) (by simp) holds ad 1 c [.int .i64 x] rfl one (by omega) (by unfold maxLen; omega) (by omega)
      exact grown h2 h3 (kg h4)
end
section
variable {P : Program} {w : World} {ops : Array Oper} {o : Oper} {a : Act} {K : Act → World → Prop} {Q : Exit → Act → World → Prop} {E : Prop}
/-- append at a step of a region that draws its order. -/
theorem step_qap (hgd : o.guard = none) (s x : Operand) (t : TypeId) (ho : o.op = .call { callee := .builtin .append, args := #[s, x], argTypes := #[t, t] })
    (ht : P.underlying t = some (.slice 3)) (hinfo : (P.info? 3).map (fun i => (i.zero, i.size, i.bytes)) = some (some (.int .i64 0), 1, 8))
    (A : Option Addr) (n cap : Nat) (xs : List Int) (G : Option Nat) (hs : a.eval s = .slice A n cap) (hn : xs.length = n) (hv : RowAt w A cap xs G) (hsm : n ≤ 1000000) (B : Option Addr) (m c : Nat) (hx : a.eval x = .slice B m c) (hm : m = 1) (y : Int) (hr : Reads w B 1 [.int .i64 y])
    (h : ∀ A' cap' w' G', RowAt w' A' cap' (xs ++ [y]) G' → Keep (fun k => G = some k) w w' → (∀ g, G' = some g → G = some g ∨ w.heap.size ≤ g) → K (a.put o.dst (.slice A' (n + m) cap')) w') :
    if Region.wanted o (yielded ops a.tmps) = true then Oper.wp P o a w K Q else E := by
  have hw : Region.wanted o (yielded ops a.tmps) = true := by simp [Region.wanted, hgd]
  rw [if_pos hw]
  obtain ⟨A', cap', w', G', h2, h3, h4, h5⟩ := run_qap (P := P) t o.type ht hinfo n hn hv hsm B m c hm y hr
  unfold Oper.wp
  simp [execOp, ho, resolve, invoke, builtin, hs, hx, h2, Result.andThen]
  exact h A' cap' w' G' h3 h4 h5
end
/-- A row of two. -/
def two {α : Type} (f : Nat → α) : List α := [f 0, f 1]
def up {α : Type} (f : Nat → α) (i : Nat) (v : α) (j : Nat) : α := if j = i then v else f j
theorem up_same {α : Type} (f : Nat → α) (i : Nat) (v : α) : up f i v i = v := by simp [up]
theorem up_ne {α : Type} {f : Nat → α} {i : Nat} {v : α} {j : Nat} (h : j ≠ i) : up f i v j = f j := by simp [up, h]
theorem two_get {α : Type} {f : Nat → α} {k : Nat} (h : k < 2) : (two f)[k]? = some (f k) := by
  rcases (show k = 0 ∨ k = 1 by omega) with rfl | rfl <;> rfl
theorem two_set {α : Type} {f : Nat → α} {k : Nat} (h : k < 2) (v : α) : (two f).set k v = two (up f k v) := by
  rcases (show k = 0 ∨ k = 1 by omega) with rfl | rfl <;> rfl
end Go.Proofs.Ytbieffenicojpaa
