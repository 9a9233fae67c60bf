import Derived.Test.YtgcikpgcoemfnaaGreatRows
import Derived.Deep.RegionHeld3
import Derived.BigQuiet
import Derived.WalkLawsBesides
import Derived.Test.YtgcikpgcoemfnaaGreatPs3
set_option linter.unusedVariables false
set_option linter.unusedSimpArgs false
namespace Go.Proofs.YtgcikpgcoemfnaaGreat.Qu
open Go.RowKit
def dc (l : List Bool) : List Value := l.map Value.bool
@[simp] theorem bools_len (l : List Bool) : (dc l).length = l.length := by simp [dc]
theorem gK {l : List Bool} {k : Nat} (h : k < l.length) : (dc l)[k]? = some (.bool (l.getD k false)) := by simp [dc, List.getD_eq_getElem?_getD, h]
theorem bools_set (l : List Bool) (k : Nat) (v : Bool) : (dc l).set k (.bool v) = dc (l.set k v) := by simp [dc, List.map_set]
theorem bools_rep (n : Nat) (v : Bool) : dc (List.replicate n v) = List.replicate n (.bool v) := by simp [dc]
def up (b : Nat → List Bool) (s : Nat) (l : List Bool) : Nat → List Bool := fun i => if i = s then l else b i
def gup (g : Nat → Nat) (s : Nat) (x : Nat) : Nat → Nat := fun i => if i = s then x else g i
def first (ns : List Nat) (i : Nat) : Nat := (ns.take i).sum
def dI (xs : List Int) : List Nat := (xs.take 4).map fun x => (min (max x 0) 64).toNat
theorem fO (xs : List Int) : (dI xs).length = min 4 xs.length := by simp [dI]
theorem sizes_get {xs : List Int} {i : Nat} (h : i < 4) (h2 : i < xs.length) : (dI xs)[i]? = some (min (max (xs.getD i 0) 0) 64).toNat := by
 simp [dI, h, h2, List.getD_eq_getElem?_getD]
theorem ly {xs : List Int} {i : Nat} (h : i < 4) (h2 : i < xs.length) : (dI xs).take (i + 1) = (dI xs).take i ++ [(min (max (xs.getD i 0) 0) 64).toNat] := by
 have h3 : i < (dI xs).length := by rw [fO]; omega
 have := sizes_get h h2
 rw [List.getElem?_eq_getElem h3] at this
 rw [List.take_succ_eq_append_getElem h3, Option.some.inj this]
def al (n : Nat) (b : Nat → List Bool) (s : Int) : Int × Int × (Nat → List Bool) :=
 if 0 ≤ s ∧ s < n then (if (b s.toNat).idxOf false < (b s.toNat).length then (((b s.toNat).idxOf false : Nat), 0, up b s.toNat ((b s.toNat).set ((b s.toNat).idxOf false) true)) else (0, 4, b)) else (0, 1, b)
def used (n : Nat) (b : Nat → List Bool) (s : Int) : Int := if 0 ≤ s ∧ s < n then (((b s.toNat).count true : Nat) : Int) else 0
def gz (g : Nat → Nat) (ns : List Nat) : List (List Value) := mk ns.length fun i => [.int .i64 (first ns i), .slice (some ⟨g i, 0, none⟩) (ns.getD i 0) (ns.getD i 0)]
def gk (g : Nat → Nat) (ns : List Nat) : List (List Value) := mk ns.length fun i => [.slice (some ⟨g i, 0, none⟩) (ns.getD i 0) (ns.getD i 0)]
structure IsQ (tQ tE : TypeId) (W : Nat) (rows : (Nat → Nat) → List Nat → List (List Value)) (w : World) (p : Nat) (A : Option Addr) (cap : Nat) (g : Nat → Nat) (ns : List Nat) (b : Nat → List Bool) : Prop where
 obj : Blk w p tQ [.slice A ns.length cap]
 row : Vec w tE W A ns.length cap (rows g ns).flatten
 tab : ∀ i, i < ns.length → Blk w (g i) 4 (dc (b i))
 len : ∀ i, i < ns.length → (b i).length = ns.getD i 0
 few : ns.length ≤ 4
 small : ∀ n ∈ ns, n ≤ 64
 inj : ∀ i j, i < ns.length → j < ns.length → g i = g j → i = j
def Rw (n : Nat) (g : Nat → Nat) : Nat → Prop := fun k => ∃ i, i < n ∧ g i = k
abbrev Quo (w : World) (p : Nat) (A : Option Addr) (cap : Nat) (g : Nat → Nat) (ns : List Nat) (b : Nat → List Bool) : Prop := IsQ 278 275 2 gz w p A cap g ns b
abbrev Dq (w : World) (p : Nat) (A : Option Addr) (cap : Nat) (g : Nat → Nat) (ns : List Nat) (b : Nat → List Bool) : Prop := IsQ 291 73 1 gk w p A cap g ns b
section
variable {tQ tE tQ' tE' : TypeId} {W W' : Nat} {rows rows' : (Nat → Nat) → List Nat → List (List Value)} {w w' : World} {p p' : Nat} {A A' : Option Addr} {cap cap' : Nat} {g g' : Nat → Nat} {ns ns' : List Nat} {b b' : Nat → List Bool}
theorem IsQ.head (h : IsQ tQ tE W rows w p A cap g ns b) : w.cell? ⟨p, 0, none⟩ = some (.slice A ns.length cap) := h.obj.cell 0
theorem IsQ.keep {M : Nat → Prop} (h : IsQ tQ tE W rows w p A cap g ns b) (k : Keep M w w') (hp : ¬ M p) (hA : ∀ x, Own A x → ¬ M x) (hg : ∀ i, i < ns.length → ¬ M (g i)) : IsQ tQ tE W rows w' p A cap g ns b :=
 ⟨h.obj.keep k hp, h.row.keep k hA, fun i hi => (h.tab i hi).keep k (hg i hi), h.len, h.few, h.small, h.inj⟩
theorem IsQ.nob (h : IsQ tQ tE W rows w p A cap g ns b) (k : Keep Nob w w') : IsQ tQ tE W rows w' p A cap g ns b := h.keep k (fun f => f) (fun _ _ f => f) (fun _ _ f => f)
theorem IsQ.wr (h : IsQ tQ tE W rows w p A cap g ns b) (h1 : tQ ≠ 4) (h2 : tE ≠ 4) {s : Nat} (hs : s < ns.length) (k : Nat) (v : Bool) :
  IsQ tQ tE W rows (w.setCell ⟨g s, k, none⟩ (.bool v)) p A cap g ns (up b s ((b s).set k v)) ∧ Keep (Rw ns.length g) w (w.setCell ⟨g s, k, none⟩ (.bool v)) := by
 have hb := h.tab s hs
 have kk : Keep (· = g s) w (w.setCell ⟨g s, k, none⟩ (.bool v)) := (Keep.refl _ w).setCell _ _ (fun _ => rfl)
 refine ⟨⟨h.obj.keep kk (h.obj.ne_ hb h1), h.row.keep kk (fun x hx e => by obtain ⟨cur, hx⟩ := h.row.blk hx; exact hx.ne_ hb h2 e), fun i hi => ?_, fun i hi => ?_, h.few, h.small, h.inj⟩, kk.mono (fun x _ e => ⟨s, hs, e.symm⟩)⟩
 ·unfold up
  by_cases e : i = s
  ·subst e
   rw [if_pos rfl, ← bools_set]
   exact hb.setCell k _
  ·rw [if_neg e]
   exact (h.tab i hi).keep kk (fun e' => e (h.inj i s hi hs e'))
 ·unfold up
  by_cases e : i = s
  ·subst e
   rw [if_pos rfl, List.length_set]
   exact h.len i hi
  ·rw [if_neg e]
   exact h.len i hi
theorem IsQ.size (h : IsQ tQ tE W rows w p A cap g ns b) {s : Nat} (hs : s < ns.length) : (b s).length ≤ 64 := by
 rw [h.len s hs, List.getD_eq_getElem?_getD, List.getElem?_eq_getElem hs]
 exact h.small _ (List.getElem_mem hs)
theorem IsQ.cell (h : IsQ tQ tE W rows w p A cap g ns b) {s : Nat} (hs : s < ns.length) {k : Nat} (hk : k < (b s).length) : w.cell? ⟨g s, k, none⟩ = some (.bool ((b s).getD k false)) := by
 rw [(h.tab s hs).cell, gK hk]
end
section
variable {w w' : World} {p : Nat} {A : Option Addr} {cap : Nat} {g : Nat → Nat} {ns : List Nat} {b : Nat → List Bool}
theorem Quo.at_ (h : Quo w p A cap g ns b) {s : Nat} (hs : s < ns.length) : ∃ r, A = some ⟨r, 0, none⟩ ∧ w.cell? ⟨r, s * 2, none⟩ = some (.int .i64 (first ns s)) ∧ w.cell? ⟨r, s * 2 + 1, none⟩ = some (.slice (some ⟨g s, 0, none⟩) (b s).length (b s).length) := by
 obtain ⟨r, cur, rfl, hb, hn, hc, ht⟩ := h.row.at_ (by omega)
 have hW : ∀ c ∈ gz g ns, c.length = 2 := fun c hc => by
  obtain ⟨i, _, rfl⟩ := List.mem_map.1 hc
  rfl
 have e0 := aE (gz g ns) hW s 0 (by decide)
 have e1 := aE (gz g ns) hW s 1 (by decide)
 rw [gz, dn hs, ← h.len s hs] at e0 e1
 rw [← gz, ← ht, List.getElem?_take, if_pos (by omega)] at e0 e1
 exact ⟨r, rfl, by rw [hb.cell]; exact e0, by rw [hb.cell]; exact e1⟩
theorem Dq.at_ (h : Dq w p A cap g ns b) {s : Nat} (hs : s < ns.length) : ∃ r, A = some ⟨r, 0, none⟩ ∧ w.cell? ⟨r, s, none⟩ = some (.slice (some ⟨g s, 0, none⟩) (b s).length (b s).length) := by
 obtain ⟨r, cur, rfl, hb, hn, hc, ht⟩ := h.row.at_ (by omega)
 have hW : ∀ c ∈ gk g ns, c.length = 1 := fun c hc => by
  obtain ⟨i, _, rfl⟩ := List.mem_map.1 hc
  rfl
 have e0 := aE (gk g ns) hW s 0 (by decide)
 rw [gk, dn hs, ← h.len s hs] at e0
 rw [← gk, ← ht, List.getElem?_take, if_pos (by omega)] at e0
 refine ⟨r, rfl, ?_⟩
 rw [hb.cell]
 simpa using e0
theorem dj {ns : List Nat} {i : Nat} (h : i < ns.length) : first ns (i + 1) = first ns i + ns.getD i 0 := by
 unfold first
 rw [List.take_succ_eq_append_getElem h, List.sum_append, List.getD_eq_getElem?_getD, List.getElem?_eq_getElem h]
 simp
theorem bV {ns : List Nat} (h : ∀ n ∈ ns, n ≤ 64) : ∀ i, i ≤ ns.length → first ns i ≤ 64 * i
 | 0, _ => by simp [first]
 | i + 1, hi => by
  have := bV h i (by omega)
  rw [dj (by omega), List.getD_eq_getElem?_getD, List.getElem?_eq_getElem (by omega)]
  have := h _ (List.getElem_mem (l := ns) (n := i) (by omega))
  simp
  omega
theorem ii (ns : List Nat) (n i : Nat) (h : i ≤ ns.length) : first (ns ++ [n]) i = first ns i := by
 unfold first
 rw [List.take_append_of_le_length h]
theorem fQ (ns : List Nat) (n i : Nat) (h : i < ns.length) : (ns ++ [n]).getD i 0 = ns.getD i 0 := by
 rw [List.getD_eq_getElem?_getD, List.getD_eq_getElem?_getD, List.getElem?_append_left h]
theorem eG (ns : List Nat) (n : Nat) : (ns ++ [n]).getD ns.length 0 = n := by
 rw [List.getD_eq_getElem?_getD, List.getElem?_append_right (Nat.le_refl _)]
 simp
theorem rowsR_snoc (g : Nat → Nat) (ns : List Nat) (n x : Nat) : gz (gup g ns.length x) (ns ++ [n]) = gz g ns ++ [[.int .i64 (first ns ns.length), .slice (some ⟨x, 0, none⟩) n n]] := by
 unfold gz
 rw [List.length_append, List.length_singleton, ← dE, ii _ _ _ (Nat.le_refl _), eG]
 congr 1
 ·refine gu (fun i hi => ?_)
  rw [ii _ _ _ (by omega), fQ _ _ _ hi, gup, if_neg (by omega)]
 ·rw [gup, if_pos rfl]
theorem rowsD_snoc (g : Nat → Nat) (ns : List Nat) (n x : Nat) : gk (gup g ns.length x) (ns ++ [n]) = gk g ns ++ [[.slice (some ⟨x, 0, none⟩) n n]] := by
 unfold gk
 rw [List.length_append, List.length_singleton, ← dE, eG]
 congr 1
 ·refine gu (fun i hi => ?_)
  rw [fQ _ _ _ hi, gup, if_neg (by omega)]
 ·rw [gup, if_pos rfl]
end
theorem IsQ.snoc {tQ tE : TypeId} {W : Nat} {rows : (Nat → Nat) → List Nat → List (List Value)} {w w1 w2 : World} {p : Nat} {A A2 : Option Addr} {cap cap2 : Nat} {g : Nat → Nat} {ns : List Nat} {b : Nat → List Bool}
  (h : IsQ tQ tE W rows w p A cap g ns b) (h1 : tQ ≠ 4) (h2 : tE ≠ 4) (h3 : tQ ≠ tE) (hf : ns.length < 4) (n x : Nat) (hn : n ≤ 64) (last : List Value) (hrow : rows (gup g ns.length x) (ns ++ [n]) = rows g ns ++ [last])
  (k1 : Keep Nob w w1) (hx : Blk w1 x 4 (dc (List.replicate n false))) (hxw : w.heap.size ≤ x)
  (hv : Vec w2 tE W A2 (ns.length + 1) cap2 ((rows g ns).flatten ++ last)) (k2 : Keep (Own A) w1 w2) :
  IsQ tQ tE W rows (w2.setCell ⟨p, 0, none⟩ (.slice A2 (ns.length + 1) cap2)) p A2 cap2 (gup g ns.length x) (ns ++ [n]) (up b ns.length (List.replicate n false)) := by
 have h' := h.nob k1
 have ho : ∀ y, Own A y → ∃ cur, Blk w1 y tE cur := fun y hy => h'.row.blk hy
 have hobj : Blk w2 p tQ [.slice A ns.length cap] := h'.obj.keep k2 (fun hy => by obtain ⟨c, hc⟩ := ho _ hy; exact h'.obj.ne_ hc h3 rfl)
 have k3 : Keep (· = p) w2 (w2.setCell ⟨p, 0, none⟩ (.slice A2 (ns.length + 1) cap2)) := (Keep.refl _ w2).setCell _ _ (fun _ => rfl)
 have hnew : Blk w2 x 4 (dc (List.replicate n false)) := hx.keep k2 (fun hy => by obtain ⟨c, hc⟩ := ho _ hy; exact hc.ne_ hx h2 rfl)
 have htab : ∀ i, i < ns.length → Blk w2 (g i) 4 (dc (b i)) := fun i hi => (h'.tab i hi).keep k2 (fun hy => by obtain ⟨c, hc⟩ := ho _ hy; exact hc.ne_ (h'.tab i hi) h2 rfl)
 refine ⟨?_, ?_, fun i hi => ?_, fun i hi => ?_, ?_, fun m hm => ?_, fun i j hi hj e => ?_⟩
 ·have := hobj.setCell 0 (.slice A2 (ns.length + 1) cap2)
  simpa using this
 ·rw [List.length_append, List.length_singleton, hrow, List.flatten_append, List.flatten_singleton]
  exact hv.keep k3 (fun y hy e => by obtain ⟨c, hc⟩ := hv.blk hy; exact hobj.ne_ hc h3 e.symm)
 ·rw [List.length_append, List.length_singleton] at hi
  unfold gup up
  by_cases e : i = ns.length
  ·rw [if_pos e, if_pos e]
   exact hnew.keep k3 (fun e' => hobj.ne_ hnew h1 e'.symm)
  ·rw [if_neg e, if_neg e]
   have := htab i (by omega)
   exact this.keep k3 (fun e' => hobj.ne_ this h1 e'.symm)
 ·rw [List.length_append, List.length_singleton] at hi
  unfold up
  by_cases e : i = ns.length
  ·rw [if_pos e, e, eG, List.length_replicate]
  ·rw [if_neg e, fQ _ _ _ (by omega)]
   exact h.len i (by omega)
 ·rw [List.length_append, List.length_singleton]; omega
 ·rcases List.mem_append.1 hm with hm | hm
  ·exact h.small m hm
  ·rw [List.mem_singleton.1 hm]; exact hn
 ·rw [List.length_append, List.length_singleton] at hi hj
  unfold gup at e
  by_cases e1 : i = ns.length
  ·by_cases e2 : j = ns.length
   ·omega
   ·rw [if_pos e1, if_neg e2] at e
    have := (h.tab j (by omega)).lt
    omega
  ·by_cases e2 : j = ns.length
   ·rw [if_neg e1, if_pos e2] at e
    have := (h.tab i (by omega)).lt
    omega
   ·rw [if_neg e1, if_neg e2] at e
    exact h.inj i j (by omega) (by omega) e
section
variable {P : Program} {w : World} {ops : Array Oper} {o : Oper} {a : Act} {K : Act → World → Prop} {Q : Exit → Act → World → Prop} {E : Prop}
theorem fo (hgd : o.guard = none) (s x : Operand) (t : TypeId) (ho : o.op = .call { callee := .builtin .append, args := #[s, x], argTypes := #[t, t] })
  (e sz by_ : Nat) (z : Value) (ht : P.underlying t = some (.slice e)) (hinfo : (P.info? e).map (fun i => (i.zero, i.size, i.bytes)) = some (some z, sz, by_)) (hzs : z.cells.size = sz) (hsz : 0 < sz)
  (A : Option Addr) (n cap : Nat) (xs : List Value) (hs : a.eval s = .slice A n cap) (hv : Vec w e sz A n cap xs) (B : Option Addr) (m c : Nat) (news : List Value) (hx : a.eval x = .slice B m c) (q : Nat) (hq : m * sz = q) (hr : ae w B q news) (h1 : ∀ u ∈ news, u.oneCell' = true)
  (h63 : n + m ≤ maxLen) (hby : (n + m) * by_ ≤ 140737488355328)
  (h : ∀ A' cap' w', Vec w' e sz A' (n + m) cap' (xs ++ news) → Keep (Own A) w w' → (∀ g, Own A' g → Own A g ∨ g = w.heap.size) → K (a.put o.dst (.slice A' (n + m) cap')) w') :
  if Region.wanted o (yielded ops a.tmps) = true then Oper.wp P o a w K Q else E := by
 have hw : Region.wanted o (yielded ops a.tmps) = true := by simp [Region.wanted, hgd]
 rw [if_pos hw]
 subst hq
 obtain ⟨A', cap', w', h2, h3, h4, h5⟩ := run_ap (P := P) w t o.type e sz by_ z ht hinfo hzs hsz A n cap xs hv B m c news hr h1 h63 hby
 unfold Oper.wp
 simp [execOp, ho, resolve, invoke, builtin, hs, hx, h2, Result.andThen]
 exact h A' cap' w' h3 h4 h5
end
theorem _root_.Go.Proofs.YtgcikpgcoemfnaaGreat.Keep.cell_nob {w0 w : World} (h : Keep Nob w0 w) {a : Addr} {v : Value} (hc : w0.cell? a = some v) : w.cell? a = some v := Keep.cell_from (h.mono (fun _ _ f => f.elim)) hc
end Go.Proofs.YtgcikpgcoemfnaaGreat.Qu
