/- Texts Grp, Caps6, packed. -/
import Derived.Test.YtgcikpgcoemfnaaGreatPu0
import Derived.Test.YtgcikpgcoemfnaaGreatPu1
import Derived.Test.YtgcikpgcoemfnaaGreatPu7
import Derived.Test.YtgcikpgcoemfnaaGreatPu11
import Derived.Test.YtgcikpgcoemfnaaGreatPu18
namespace Go.Proofs.YtgcikpgcoemfnaaGreat
open Go.RowKit Go.MapKept
set_option linter.unusedVariables false
set_option linter.unusedSimpArgs false
open Go.Maps (Keyed)
theorem laid : laidOutB Tryz.prog = true := by kernel_rfl
theorem refRow : (253 : TypeId) < Tryz.prog.types.size := of_decide_eq_true (by kernel_rfl)
theorem intCells : Tryz.prog.cellsOf 3 = 1 := by kernel_rfl
theorem typesPos : ∃ k, Tryz.prog.types.size = k + 1 := by
  have h := refRow
  generalize Tryz.prog.types.size = z at h
  exact ⟨z - 1, (Nat.succ_pred_eq_of_pos (Nat.lt_of_le_of_lt (Nat.zero_le _) h)).symm⟩
theorem rval_inj {a b : Rf} (h : rval a = rval b) : a = b := by
  unfold rval at h
  simp at h
  exact Prod.ext h.1 h.2
section
variable {lo b : Nat} {w w' : World} {X : List (Rf × Cp)} {m m1 m2 : List (Value × Value)} {κ : Rf} {A : Option Addr} {st : Nat}
end
section
variable {w : World} {ops : Array Oper} {rest : List Oper} {o : Oper} {a : Act} {Q : Exit → Act → World → Prop}
end
end Go.Proofs.YtgcikpgcoemfnaaGreat
namespace Go.Proofs.YtgcikpgcoemfnaaGreat
open Go.RowKit
set_option linter.unusedVariables false
set_option linter.unusedSimpArgs false
theorem Keep.rows {n : Nat} {r : Nat → Nat} {e : Nat} {w w' : World} (he : e < n) (k : Keep (· = r e) w w') : Keep (Rows_ n r) w w' := k.mono (fun _ _ e1 => ⟨e, he, e1⟩)
end Go.Proofs.YtgcikpgcoemfnaaGreat
