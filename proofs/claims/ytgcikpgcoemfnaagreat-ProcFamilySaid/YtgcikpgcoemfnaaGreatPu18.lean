/- Texts Sort, packed. -/
import Derived.Test.YtgcikpgcoemfnaaGreatRows
import Derived.Shelf.SlSortCmp.WholeK
import Derived.Deep.RegionHeld3
import Derived.Deep.QuietTactic
import Derived.BigQuiet
import Derived.StillTailTactics
import Derived.Test.YtgcikpgcoemfnaaGreatPu0
namespace Go.Proofs.YtgcikpgcoemfnaaGreat
open Go.RowKit Go.Shelf Go.Lib Go.Sort
set_option linter.unusedVariables false
set_option linter.unusedSimpArgs false
/-- Env first, then Name. -/
def ltR (x y : Rf) : Prop := x.1 < y.1 ∨ (x.1 = y.1 ∧ x.2 < y.2)
end Go.Proofs.YtgcikpgcoemfnaaGreat
