/- Texts Base, packed. -/
import Derived.WalkKit
import Derived.Laws.CopyOwn
import Derived.Deep.OwnRows
import Derived.Deep.Draws
import Derived.Lib.Hide
import Derived.Maps.AppendAt
import Derived.Test.YtgcikpgcoemfnaaGreatPu0
set_option linter.unusedVariables false
set_option linter.unusedSimpArgs false
namespace Go.Proofs.YtgcikpgcoemfnaaGreat
open Go.RowKit
section
variable {M M' : Nat → Prop} {w w' w'' : World} {g r : Nat} {t t' : TypeId} {cs : List Value}
end
theorem add_of_add (a : Addr) : ∀ i j : Nat, (a.add i).add j = a.add (i + j)
 | 0, _ => by rw [Nat.zero_add]; rfl
 | _ + 1, 0 => rfl
 | i + 1, j + 1 => by simp [Addr.add, Nat.add_assoc]
section
variable {P : Program} {w : World} {ops : Array Oper} {rest : List Oper} {o : Oper} {a : Act} {Q : Exit → Act → World → Prop}
end
end Go.Proofs.YtgcikpgcoemfnaaGreat
