/- Texts Map, packed. -/
import Derived.Maps.RangeWalk
import Derived.Maps.OwnOps
import Derived.WideKeyEntry
import Derived.DeepKeys4
import Derived.Test.YtgcikpgcoemfnaaGreatPu0
namespace Go.Proofs.YtgcikpgcoemfnaaGreat
open Go.RowKit Go.MapKept
set_option linter.unusedVariables false
set_option linter.unusedSimpArgs false
open Go.Maps (Keyed)
open Go.ChangeMaps (setBlock heap_setBlock_same heap_setBlock_other)
/-- An entry as a pair. -/
def kv (x : MapEntry) : Value × Value := (x.key, x.val)
/-- Block b is a map of just the entries m, in the order in which they came. -/
def MapIs (P : Program) (k : TypeId) (w : World) (b : Nat) (m : List (Value × Value)) : Prop :=
  ∃ es clock, w.heap[b]? = some (.map es clock) ∧ Stamped es clock ∧ (∀ x ∈ es.toList, ∃ l, keyOf P k x.key = some l) ∧ es.toList.map kv = m
section
variable {P : Program} {k : TypeId} {w w' : World} {b r : Nat} {m m1 m2 left : List (Value × Value)} {key : Value} {st : Nat}
theorem MapIs.lt (h : MapIs P k w b m) : b < w.heap.size := by
  obtain ⟨es, clock, hb, _⟩ := h
  exact (Array.getElem?_eq_some_iff.1 hb).1
theorem MapIs.new (w : World) : MapIs P k (w.alloc (.map #[] 0)) w.heap.size [] := ⟨#[], 0, (MapKept.heap_alloc w _).1, stamped_empty 0, by simp, by simp⟩
theorem MapIs.keep {M : Nat → Prop} (h : MapIs P k w b m) (hk : Keep M w w') (hm : ¬ M b) : MapIs P k w' b m := by
  have hl := h.lt
  obtain ⟨es, clock, hb, r⟩ := h
  exact ⟨es, clock, (hk.block b hl hm).trans hb, r⟩
theorem MapIs.nob (h : MapIs P k w b m) (hk : Keep Nob w w') : MapIs P k w' b m := h.keep hk (fun f => f)
theorem MapIs.ne_blk {g : Nat} {t : TypeId} {cs : List Value} (h : MapIs P k w b m) (hg : Blk w g t cs) : b ≠ g := by
  obtain ⟨es, clock, hb, _⟩ := h
  rintro rfl
  unfold Blk at hg
  rw [hb] at hg
  cases hg
theorem setBlock_keep (w : World) (b : Nat) (o : Obj) : Keep (· = b) w (setBlock w b o) :=
  ⟨rfl, rfl, rfl, by simp [setBlock], fun j _ hj => by simp [setBlock, Ne.symm hj]⟩
theorem setBlock_size (w : World) (b : Nat) (o : Obj) : (setBlock w b o).heap.size = w.heap.size := by simp [setBlock]
/-- A key that is not there is laid in. -/
theorem MapIs.add {t e : TypeId} (h : MapIs P k w b m) (K : Keyed P k) (ht : P.underlying t = some (.map k e)) {kl : Lit} (hkey : keyOf P k key = some kl) (v : Value) (hno : ∀ p ∈ m, p.1 ≠ key) :
    ∃ w', (Instr.mapUpdate t (.map (some b)) key v).run P w = .ok () w' ∧ MapIs P k w' b (m ++ [(key, v)]) ∧ Keep (· = b) w w' ∧ w'.heap.size = w.heap.size := by
  obtain ⟨es, clock, hb, hs, hks, rfl⟩ := h
  have hno' : ∀ x ∈ es.toList, x.key ≠ key := fun x hx => hno _ (List.mem_map.2 ⟨x, hx, rfl⟩)
  rcases K.find w hkey es.toList hks with ⟨h1, h2⟩ | ⟨j, e0, h1, h2, h3⟩
  · refine ⟨setBlock w b (.map (es.push ⟨key, v, clock⟩) (clock + 1)), ?_, ⟨es.push ⟨key, v, clock⟩, clock + 1, heap_setBlock_same hb _, stamped_push hs h2, ?_, by simp [kv]⟩, setBlock_keep _ _ _, setBlock_size _ _ _⟩
    · simp [Instr.mapUpdate, run_underlying ht, MapKept.run_getObj_map hb, K.check w false hkey, h1, MapKept.run_setObj_map _ hb, Result.andThen, setBlock]
    · intro x hx
      simp only [Array.toList_push, List.mem_append, List.mem_singleton] at hx
      rcases hx with hx | rfl
      · exact hks x hx
      · exact ⟨_, hkey⟩
  · exact absurd h3 (hno' e0 (List.mem_of_getElem? h2))
end
section
variable {P : Program} {w : World} {ops : Array Oper} {rest : List Oper} {o : Oper} {a : Act} {Q : Exit → Act → World → Prop}
end
end Go.Proofs.YtgcikpgcoemfnaaGreat
