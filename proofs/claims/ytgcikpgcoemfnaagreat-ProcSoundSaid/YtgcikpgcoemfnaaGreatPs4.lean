import Derived.Deep.MidRow
import Derived.Test.YtgcikpgcoemfnaaGreatPs2
set_option linter.unusedVariables false
set_option linter.unusedSimpArgs false
namespace Go.Proofs.YtgcikpgcoemfnaaGreat.Co
open Go.RowKit
theorem cS.store_mid {t e : TypeId} {n : Nat} {z q old : List Value} (F : cS t n z) (hq : cE n q) {w : World} {g off : Nat} (hb : Blk w g e old) (hl : off + n ≤ old.length) : (storeVar t ⟨g, off, none⟩ (.agg q.toArray)).run Tryz.prog w = .ok () (w.setRow g (splice old off q).toArray) := by
 have hst := run_storeCells_at (P := Tryz.prog) g off e q 0 old.toArray w hb (by simp [hq.len]; omega) hq.one
 have hi := F.i
 cases hx : Tryz.prog.info? t with
 | none => simp [hx] at hi
 | some i =>
  have hs : i.size = n := by simpa [hx] using hi
  simp only [Nat.add_zero] at hst
  simp [storeVar, sizeOf, typeInfo, hx, Value.cells, hq.len, hs, hst, splice, Sem.run_bind, Result.andThen]
theorem cS.wpList_stm {ops : Array Oper} {rest : List Oper} {o : Oper} {a : Act} {Q : Exit → Act → World → Prop} {w : World} {t e : TypeId} {n : Nat} {z q old : List Value} {g off : Nat} {x y : Operand} (F : cS t n z) (hgd : o.guard = none) (ho : o.op = .store t x y) (hx : a.eval x = .pointer (some ⟨g, off, none⟩)) (hy : a.eval y = .agg q.toArray) (hq : cE n q) (hb : Blk w g e old) (hl : off + n ≤ old.length)
  (h : ∀ w', Blk w' g e (splice old off q) → Keep (· = g) w w' → w'.heap.size = w.heap.size → wpList Tryz.prog ops Q rest (a.put o.dst undef) w') : wpList Tryz.prog ops Q (o :: rest) a w := by
 refine wpList_plain hgd fun K hK => ?_
 have hrun := F.store_mid hq hb hl
 have hh := h (w.setRow g (splice old off q).toArray) (hb.setRow _) ((Keep.refl _ w).setRow g _ (fun _ => rfl)) (by simp)
 unfold Oper.wp
 simp [execOp, ho, hx, hy, Instr.storeAt, Instr.sureAddr, hrun, Result.andThen]
 exact hK _ _ hh
theorem du {w : World} {g : Nat} {t : TypeId} {cs : List Value} (hb : Blk w g t cs) (o m : Nat) : w.rangeAt g o ((cs.drop o).take m) := fun j v hv => by
 rw [List.getElem?_take] at hv
 split at hv
 ·rw [List.getElem?_drop] at hv
  rw [hb.cell]
  exact hv
 ·cases hv
end Go.Proofs.YtgcikpgcoemfnaaGreat.Co
