/- Texts Quo0, packed. -/
import Derived.Test.YtgcikpgcoemfnaaGreatRows
import Derived.Deep.QuietTactic
import Derived.Deep.RegionHeld3
import Derived.BigQuiet
import Derived.WalkLawsBesides
import Derived.Outline
import Derived.Test.YtgcikpgcoemfnaaGreatPu0
import Derived.Test.YtgcikpgcoemfnaaGreatPwx0
import Derived.Test.YtgcikpgcoemfnaaGreatPwx1
import Derived.Test.YtgcikpgcoemfnaaGreatPu12
namespace Go.Proofs.YtgcikpgcoemfnaaGreat.Qu
open Go.RowKit
set_option linter.unusedVariables false
set_option linter.unusedSimpArgs false
section
variable {tQ tE tQ' tE' : TypeId} {W W' : Nat} {rows rows' : (Nat → Nat) → List Nat → List (List Value)} {w w' : World} {p p' : Nat} {A A' : Option Addr} {cap cap' : Nat} {g g' : Nat → Nat} {ns ns' : List Nat} {b b' : Nat → List Bool}
end
section
variable {w w' : World} {p : Nat} {A : Option Addr} {cap : Nat} {g : Nat → Nat} {ns : List Nat} {b : Nat → List Bool}
end
section
variable {P : Program} {w : World} {ops : Array Oper} {o : Oper} {a : Act} {K : Act → World → Prop} {Q : Exit → Act → World → Prop} {E : Prop}
end
theorem holds_ints {w : World} {A : Option Addr} {n c : Nat} {xs : List Int} (h : Holds w (.sl 8 (.int .i64)) xs [.slice A n c]) : Reads w A n (ints xs) := by
 have hl := (holds_len h).1
 have hl' : List.length (α := Int) xs = n := hl
 refine ⟨by rw [ints_len]; exact hl', fun h0 => ?_⟩
 obtain ⟨b0, off0, _, hA, _⟩ := holds_at (e := .int .i64) h (by decide) h0
 refine ⟨_, hA, fun j u hu => ?_⟩
 have hj : j < n := by have := get_lt hu; rw [ints_len] at this; omega
 obtain ⟨b, off, cs', rfl, _, hc, hk', hh⟩ := holds_at (e := .int .i64) h (by decide) hj
 cases hA
 obtain ⟨rfl, _⟩ := hh
 have := hc 0 _ rfl
 rw [show (Ty.int .i64).size = 1 from rfl, Nat.mul_one, Nat.add_zero] at this
 rw [add_lit, this]
 rw [ints_get] at hu
 have hk2 : j < List.length (α := Int) xs := hk'
 rw [List.getElem?_eq_getElem hk2] at hu
 rw [← hu]
 rfl
end Go.Proofs.YtgcikpgcoemfnaaGreat.Qu
