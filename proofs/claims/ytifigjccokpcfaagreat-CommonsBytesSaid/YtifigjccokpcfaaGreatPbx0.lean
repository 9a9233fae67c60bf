/- Texts Base, packed. -/
import Derived.WalkKit
import Derived.Laws.CopyOwn
import Derived.Deep.OwnRows
import Derived.Deep.Draws
import Derived.Lib.Hide
import Derived.Maps.AppendAt
import Derived.Test.YtifigjccokpcfaaGreatPk0
namespace Go.Proofs.YtifigjccokpcfaaGreat
open Go.RowKit
set_option linter.unusedVariables false
set_option linter.unusedSimpArgs false
section
variable {M M' : Nat → Prop} {w w' w'' : World} {g r : Nat} {t t' : TypeId} {cs : List Value}
end
theorem splice_getD {α : Type} (L : List α) (off : Nat) (cs : List α) (h : off + cs.length ≤ L.length) (i : Nat) (d : α) :
    (splice L off cs).getD i d = if off ≤ i ∧ i < off + cs.length then cs.getD (i - off) d else L.getD i d := by
  rw [List.getD_eq_getElem?_getD, splice_get L off cs h]
  split <;> rfl
section
variable {P : Program} {w : World} {ops : Array Oper} {rest : List Oper} {o : Oper} {a : Act} {Q : Exit → Act → World → Prop}
end
end Go.Proofs.YtifigjccokpcfaaGreat
