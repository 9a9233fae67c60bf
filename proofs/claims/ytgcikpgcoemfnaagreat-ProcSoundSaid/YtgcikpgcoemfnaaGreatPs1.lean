import Derived.Maps.RangeWalk
import Derived.WideKeyEntry
import Derived.DeepKeys4
import Derived.Test.YtgcikpgcoemfnaaGreatPs0
set_option linter.unusedVariables false
set_option linter.unusedSimpArgs false
namespace Go.Proofs.YtgcikpgcoemfnaaGreat
open Go.RowKit Go.MapKept
open Go.Maps (Keyed)
open Go.ChangeMaps (setBlock heap_setBlock_same heap_setBlock_other)
def kv (x : MapEntry) : Value × Value := (x.key, x.val)
def MapIs (P : Program) (k : TypeId) (w : World) (b : Nat) (m : List (Value × Value)) : Prop :=
 ∃ es clock, w.heap[b]? = some (.map es clock) ∧ Stamped es clock ∧ (∀ x ∈ es.toList, ∃ l, keyOf P k x.key = some l) ∧ es.toList.map kv = m
def aQ (P : Program) (k : TypeId) (w : World) (b r : Nat) (m left : List (Value × Value)) : Prop :=
 ∃ es clock since seen c0, w.heap[b]? = some (.map es clock) ∧ Stamped es clock ∧ (∀ x ∈ es.toList, ∃ l, keyOf P k x.key = some l) ∧ es.toList.map kv = m ∧
  w.heap[r]? = some (.mapIter (some b) since seen c0) ∧ (∀ x ∈ es.toList, x.born < since) ∧ (leftOf es seen).toList.map kv = left ∧ since ≤ c0 ∧ since ≤ clock
section
variable {P : Program} {k : TypeId} {w w' : World} {b r : Nat} {m m1 m2 left : List (Value × Value)} {key : Value} {st : Nat}
theorem MapIs.lt (h : MapIs P k w b m) : b < w.heap.size := by
 obtain ⟨es, clock, hb, _⟩ := h
 exact (Array.getElem?_eq_some_iff.1 hb).1
theorem MapIs.new (w : World) : MapIs P k (w.alloc (.map #[] 0)) w.heap.size [] := ⟨#[], 0, (MapKept.heap_alloc w _).1, stamped_empty 0, by simp, by simp⟩
theorem MapIs.keep {M : Nat → Prop} (h : MapIs P k w b m) (hk : Keep M w w') (hm : ¬ M b) : MapIs P k w' b m := by
 have hl := h.lt
 obtain ⟨es, clock, hb, r⟩ := h
 exact ⟨es, clock, (hk.block b hl hm).trans hb, r⟩
theorem MapIs.nob (h : MapIs P k w b m) (hk : Keep Nob w w') : MapIs P k w' b m := h.keep hk (fun f => f)
theorem MapIs.ne_blk {g : Nat} {t : TypeId} {cs : List Value} (h : MapIs P k w b m) (hg : Blk w g t cs) : b ≠ g := by
 obtain ⟨es, clock, hb, _⟩ := h
 rintro rfl
 unfold Blk at hg
 rw [hb] at hg
 cases hg
theorem MapIs.ne_own {e sz n cap : Nat} {A : Option Addr} {xs : List Value} (h : MapIs P k w b m) (hv : Vec w e sz A n cap xs) : ¬ Own A b := fun ho => by
 obtain ⟨cur, hc⟩ := hv.blk ho
 exact h.ne_blk hc rfl
theorem gX (w : World) (b : Nat) (o : Obj) : Keep (· = b) w (setBlock w b o) :=
 ⟨rfl, rfl, rfl, by simp [setBlock], fun j _ hj => by simp [setBlock, Ne.symm hj]⟩
theorem lI (w : World) (b : Nat) (o : Obj) : (setBlock w b o).heap.size = w.heap.size := by simp [setBlock]
theorem MapIs.add {t e : TypeId} (h : MapIs P k w b m) (K : Keyed P k) (ht : P.underlying t = some (.map k e)) {kl : Lit} (hkey : keyOf P k key = some kl) (v : Value) (hno : ∀ p ∈ m, p.1 ≠ key) :
  ∃ w', (Instr.mapUpdate t (.map (some b)) key v).run P w = .ok () w' ∧ MapIs P k w' b (m ++ [(key, v)]) ∧ Keep (· = b) w w' ∧ w'.heap.size = w.heap.size := by
 obtain ⟨es, clock, hb, hs, hks, rfl⟩ := h
 have hno' : ∀ x ∈ es.toList, x.key ≠ key := fun x hx => hno _ (List.mem_map.2 ⟨x, hx, rfl⟩)
 rcases K.find w hkey es.toList hks with ⟨h1, h2⟩ | ⟨j, e0, h1, h2, h3⟩
 ·refine ⟨setBlock w b (.map (es.push ⟨key, v, clock⟩) (clock + 1)), ?_, ⟨es.push ⟨key, v, clock⟩, clock + 1, heap_setBlock_same hb _, stamped_push hs h2, ?_, by simp [kv]⟩, gX _ _ _, lI _ _ _⟩
  ·simp [Instr.mapUpdate, run_underlying ht, MapKept.run_getObj_map hb, K.check w false hkey, h1, MapKept.run_setObj_map _ hb, Result.andThen, setBlock]
  ·intro x hx
   simp only [Array.toList_push, List.mem_append, List.mem_singleton] at hx
   rcases hx with hx | rfl
   ·exact hks x hx
   ·exact ⟨_, hkey⟩
 ·exact absurd h3 (hno' e0 (List.mem_of_getElem? h2))
theorem MapIs.len {t e : TypeId} (h : MapIs P k w b m) (ht : P.underlying t = some (.map k e)) (ty : TypeId) : (Builtin.len_ #[t] ty #[.map (some b)]).run P w = .ok (.int .i64 m.length) w := by
 obtain ⟨es, clock, hb, _, _, rfl⟩ := h
 simp [Builtin.len_, run_underlying ht, MapKept.run_getObj_map hb, Result.andThen, goInt]
theorem aQ.is (h : aQ P k w b r m left) : MapIs P k w b m := by
 obtain ⟨es, clock, since, seen, c0, h1, h2, h3, h4, _⟩ := h
 exact ⟨es, clock, h1, h2, h3, h4⟩
theorem aQ.lt (h : aQ P k w b r m left) : r < w.heap.size := by
 obtain ⟨es, clock, since, seen, c0, _, _, _, _, hr, _⟩ := h
 exact (Array.getElem?_eq_some_iff.1 hr).1
theorem aQ.keep {M : Nat → Prop} (h : aQ P k w b r m left) (hk : Keep M w w') (hb : ¬ M b) (hr : ¬ M r) : aQ P k w' b r m left := by
 have h1 := h.is.lt
 have h2 := h.lt
 obtain ⟨es, clock, since, seen, c0, hb', a1, a2, a3, hr', rest⟩ := h
 exact ⟨es, clock, since, seen, c0, (hk.block b h1 hb).trans hb', a1, a2, a3, (hk.block r h2 hr).trans hr', rest⟩
theorem aQ.ne_blk {g : Nat} {t : TypeId} {cs : List Value} (h : aQ P k w b r m left) (hg : Blk w g t cs) : r ≠ g := by
 obtain ⟨es, clock, since, seen, c0, hb', a1, a2, a3, hr', rest⟩ := h
 rintro rfl
 unfold Blk at hg
 rw [hr'] at hg
 cases hg
theorem aQ.ne_own {e sz n cap : Nat} {A : Option Addr} {xs : List Value} (h : aQ P k w b r m left) (hv : Vec w e sz A n cap xs) : ¬ Own A r := fun ho => by
 obtain ⟨cur, hc⟩ := hv.blk ho
 exact h.ne_blk hc rfl
theorem MapIs.range {t e : TypeId} (h : MapIs P k w b m) (ht : P.underlying t = some (.map k e)) :
  ∃ w', (Instr.range t (.map (some b))).run P w = .ok (.pointer (some ⟨w.heap.size, 0, none⟩)) w' ∧ aQ P k w' b w.heap.size m m ∧ Keep Nob w w' ∧ w'.heap.size = w.heap.size + 1 := by
 have hlt := h.lt
 obtain ⟨es, clock, hb, hs, hks, rfl⟩ := h
 refine ⟨_, run_range_map w t k e b es clock ht hb, ⟨es, clock, clock, #[], clock, ((MapKept.heap_alloc w _).2 b hlt).trans hb, hs, hks, rfl, (MapKept.heap_alloc w _).1, hs.1, ?_, Nat.le_refl _, Nat.le_refl _⟩, (Keep.refl _ w).alloc _, by simp⟩
 have e1 : leftOf es #[] = es := by simp [leftOf]
 rw [e1]
theorem left_next {es : Array MapEntry} {seen : Array Nat} {e : MapEntry} (hn : (es.toList.map (·.born)).Nodup) (he : e ∈ (leftOf es seen).toList) :
  ((leftOf es seen).toList).Perm (e :: (leftOf es (seen.push e.born)).toList) := by
 have h1 : (leftOf es (seen.push e.born)).toList = ((leftOf es seen).toList).filter (fun x => x.born != e.born) := by
  simp only [leftOf, Array.toList_filter, List.filter_filter]
  apply List.filter_congr
  intro x _
  simp [Bool.and_comm, bne]
  rfl
 rw [h1]
 have hn' : (((leftOf es seen).toList).map (·.born)).Nodup := by
  simp only [leftOf, Array.toList_filter]
  exact ((List.filter_sublist).map _).nodup hn
 generalize (leftOf es seen).toList = l at he hn'
 induction l with
 | nil => cases he
 | cons a l ih =>
  simp only [List.map_cons, List.nodup_cons] at hn'
  rcases List.mem_cons.1 he with rfl | he'
  ·have : (List.filter (fun x : MapEntry => x.born != e.born) (e :: l)) = l := by
    rw [List.filter_cons_of_neg (by simp), List.filter_eq_self]
    intro x hx
    have : x.born ≠ e.born := fun e1 => hn'.1 (List.mem_map.2 ⟨x, hx, e1⟩)
    simpa using this
   rw [this]
  ·have hne : a.born ≠ e.born := fun e1 => hn'.1 (List.mem_map.2 ⟨e, he', e1.symm⟩)
   rw [List.filter_cons_of_pos (by simpa using hne)]
   exact ((ih he' hn'.2).cons a).trans (List.Perm.swap e a _)
theorem aQ.next (h : aQ P k w b r m left) (ty : TypeId) :
  (left = [] ∧ (Instr.next (.pointer (some ⟨r, 0, none⟩)) false ty).run P w = .ok (.tuple #[.bool false]) w) ∨
  ∃ key v left' w', left.Perm ((key, v) :: left') ∧ (Instr.next (.pointer (some ⟨r, 0, none⟩)) false ty).run P w = .ok (.tuple #[.bool true, key, v]) w' ∧ aQ P k w' b r m left' ∧ Keep (· = r) w w' ∧ w'.heap.size = w.heap.size ∧
   (Instr.entry (.pointer (some ⟨r, 0, none⟩))).run P w' = .ok (.tuple #[key, v]) w' := by
 have hne : r ≠ b := by
  obtain ⟨es, clock, since, seen, c0, hb, _, _, _, hr, _⟩ := h
  rintro rfl
  rw [hb] at hr
  cases hr
 obtain ⟨es, clock, since, seen, c0, hb, hs, hks, rfl, hr, hold, rfl, hsc, hsk⟩ := h
 rcases run_next_at (P := P) w ty r b since c0 seen es clock hr hb hold hsc with ⟨h0, hrun⟩ | ⟨e, he, w1, hal, hrun⟩
 ·refine .inl ⟨?_, hrun⟩
  have : leftOf es seen = #[] := Array.eq_empty_of_size_eq_zero h0
  rw [this]
  rfl
 ·have hem : e ∈ es.toList := by
   simp only [leftOf, Array.toList_filter, List.mem_filter] at he
   exact he.1
  have hr1 : w1.heap[r]? = some (.mapIter (some b) since seen c0) := by rcases hal with rfl | rfl <;> exact hr
  have hb1 : w1.heap[b]? = some (.map es clock) := by rcases hal with rfl | rfl <;> exact hb
  have hset := heap_set (o' := .mapIter (some b) since (seen.push e.born) clock) hr1
  have hb' : (setBlock w1 r (.mapIter (some b) since (seen.push e.born) clock)).heap[b]? = some (.map es clock) := (hset.2 b (fun e1 => hne e1.symm)).trans hb1
  have hk1 : Keep (· = r) w w1 := by rcases hal with rfl | rfl <;> first | exact Keep.refl _ _ | exact (Keep.refl _ _).drew
  refine .inr ⟨e.key, e.val, (leftOf es (seen.push e.born)).toList.map kv, setBlock w1 r (.mapIter (some b) since (seen.push e.born) clock), ?_, hrun,
   ⟨es, clock, since, seen.push e.born, clock, hb', hs, hks, rfl, hset.1, hold, rfl, hsk, hsk⟩, ?_, ?_, run_entry_at _ r b since seen es clock e hset.1 hb' hem ((stamped_iff es clock).1 hs).2.1⟩
  ·exact (left_next ((stamped_iff es clock).1 hs).2.1 he).map kv
  ·exact hk1.trans (gX _ _ _) (fun _ _ e => e)
  ·rcases hal with rfl | rfl <;> simp [setBlock]
end
section
variable {P : Program} {w : World} {ops : Array Oper} {rest : List Oper} {o : Oper} {a : Act} {Q : Exit → Act → World → Prop}
theorem lF (hg : o.guard = none) (x : Operand) (t : TypeId) (ho : o.op = .call { callee := .builtin .len, args := #[x], argTypes := #[t] }) (k e : TypeId) (ht : P.underlying t = some (.map k e))
  {b : Nat} {m : List (Value × Value)} (hx : a.eval x = .map (some b)) (h : MapIs P k w b m) (hK : wpList P ops Q rest (a.put o.dst (.int .i64 m.length)) w) : wpList P ops Q (o :: rest) a w := by
 refine wpList_plain hg fun K' hK' => ?_
 have hrun := h.len ht o.type
 unfold Oper.wp
 simp [execOp, ho, resolve, invoke, builtin, hx, hrun, Result.andThen]
 exact hK' _ _ hK
theorem jO (hg : o.guard = none) (t : TypeId) (x : Operand) (ho : o.op = .range t x) (k e : TypeId) (ht : P.underlying t = some (.map k e))
  {b : Nat} {m : List (Value × Value)} (hx : a.eval x = .map (some b)) (h : MapIs P k w b m)
  (hK : ∀ w', aQ P k w' b w.heap.size m m → Keep Nob w w' → w'.heap.size = w.heap.size + 1 → wpList P ops Q rest (a.put o.dst (.pointer (some ⟨w.heap.size, 0, none⟩))) w') : wpList P ops Q (o :: rest) a w := by
 refine wpList_plain hg fun K' hK' => ?_
 obtain ⟨w', hrun, h1, h2, h3⟩ := h.range ht
 unfold Oper.wp
 simp [execOp, ho, hx, hrun, Result.andThen]
 exact hK' _ _ (hK w' h1 h2 h3)
theorem lu (hg : o.guard = none) (it : Operand) (ho : o.op = .next it false) (k : TypeId) {b r : Nat} {m left : List (Value × Value)} (hit : a.eval it = .pointer (some ⟨r, 0, none⟩)) (h : aQ P k w b r m left)
  (hDone : left = [] → wpList P ops Q rest (a.put o.dst (.tuple #[.bool false])) w)
  (hMore : ∀ key v left' w', left.Perm ((key, v) :: left') → aQ P k w' b r m left' → Keep (· = r) w w' → w'.heap.size = w.heap.size → (Instr.entry (.pointer (some ⟨r, 0, none⟩))).run P w' = .ok (.tuple #[key, v]) w' →
   wpList P ops Q rest (a.put o.dst (.tuple #[.bool true, key, v])) w') : wpList P ops Q (o :: rest) a w := by
 refine wpList_plain hg fun K' hK' => ?_
 unfold Oper.wp
 rcases h.next o.type with ⟨h0, hrun⟩ | ⟨key, v, left', w', hp, hrun, h1, h2, h3, h4⟩
 ·simp [execOp, ho, hit, hrun, Result.andThen]
  exact hK' _ _ (hDone h0)
 ·simp [execOp, ho, hit, hrun, Result.andThen]
  exact hK' _ _ (hMore key v left' w' hp h1 h2 h3 h4)
end
end Go.Proofs.YtgcikpgcoemfnaaGreat
