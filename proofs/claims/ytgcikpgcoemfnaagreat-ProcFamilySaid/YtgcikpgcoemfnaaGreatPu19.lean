/- Texts Com0, packed. -/
import Derived.ProofKit
import Derived.SizedLaws
import Derived.ChangeArms
import Derived.Test.YtgcikpgcoemfnaaGreatPu0
import Derived.Test.YtgcikpgcoemfnaaGreatPu4
import Derived.Test.YtgcikpgcoemfnaaGreatPu18
namespace Go.Proofs.YtgcikpgcoemfnaaGreat.Co
open Go.RowKit
set_option linter.unusedVariables false
set_option linter.unusedSimpArgs false
/-- Where a record lies: which Cap, at what place, how many bytes. -/
def wher (nb : Nat) (r : Rf) : Option (Nat × Nat × Nat) :=
  if r.1 = 1 then (if 0 ≤ r.2 ∧ r.2 < 8 then some (0, 24 * r.2.toNat, 24) else none)
  else if r.1 = 2 then (if 0 ≤ r.2 ∧ r.2 < 12 then some (0, 192 + 8 * r.2.toNat, 8) else none)
  else if r.1 = 3 then (if 4 ≤ r.2 then (if r.2 < 4 + nb then some (r.2.toNat - 3, 0, 40) else none) else if 0 ≤ r.2 then some (0, 288 + 40 * r.2.toNat, 40) else none)
  else if r.1 = 4 then some (0, 448, 40)
  else some (0, 488, 4)
theorem wher_in {nb : Nat} {r : Rf} {j at_ n : Nat} (h : wher nb r = some (j, at_, n)) : j ≤ nb ∧ at_ + n ≤ (if j = 0 then 492 else 40) ∧ n ≤ 40 ∧ 4 ≤ n := by
  unfold wher at h
  repeat' split at h
  all_goals first | (cases h; done) | (simp only [Option.some.injEq, Prod.mk.injEq] at h; obtain ⟨rfl, rfl, rfl⟩ := h; (try rw [if_neg (by omega)]); (try rw [if_pos rfl]); omega)
/-- Kind first, then Index. -/
def lt (a b : Rf) : Bool := decide (a.1 < b.1 ∨ a.1 = b.1 ∧ a.2 < b.2)
theorem lt_iff {a b : Rf} : lt a b = true ↔ ltR a b := by unfold lt ltR; exact decide_eq_true_iff
/-- One more is bad. -/
def ins (r : Rf) : List Rf → List Rf
  | [] => [r]
  | x :: l => if lt r x then r :: x :: l else x :: ins r l
theorem ins_perm (r : Rf) : ∀ l, (ins r l).Perm (r :: l)
  | [] => List.Perm.refl _
  | x :: l => by
    unfold ins
    split
    · exact List.Perm.refl _
    · exact ((ins_perm r l).cons x).trans (List.Perm.swap r x l)
theorem ins_mem {r x : Rf} {l : List Rf} : x ∈ ins r l ↔ x = r ∨ x ∈ l := by
  rw [(ins_perm r l).mem_iff, List.mem_cons]
theorem ltR_tri (a b : Rf) : ltR a b ∨ a = b ∨ ltR b a := by
  unfold ltR
  obtain ⟨a1, a2⟩ := a
  obtain ⟨b1, b2⟩ := b
  simp only [Prod.mk.injEq]
  omega
theorem ltR_tr {a b c : Rf} (h : ltR a b) (h' : ltR b c) : ltR a c := by
  unfold ltR at *
  omega
theorem ins_sorted {r : Rf} : ∀ {l : List Rf}, l.Pairwise ltR → r ∉ l → (ins r l).Pairwise ltR
  | [], _, _ => by simp [ins]
  | x :: l, h, hn => by
    have hp := List.pairwise_cons.1 h
    have hn' : r ≠ x ∧ r ∉ l := by
      rw [List.mem_cons, not_or] at hn
      exact hn
    unfold ins
    split
    · rename_i hl
      have hl := lt_iff.1 hl
      exact List.pairwise_cons.2 ⟨fun y hy => by
        rcases List.mem_cons.1 hy with rfl | hy
        · exact hl
        · exact ltR_tr hl (hp.1 y hy), h⟩
    · rename_i hl
      refine List.pairwise_cons.2 ⟨fun y hy => ?_, ins_sorted hp.2 hn'.2⟩
      rcases ins_mem.1 hy with rfl | hy
      · rcases ltR_tri x y with h1 | h1 | h1
        · exact h1
        · exact absurd h1.symm hn'.1
        · exact absurd (lt_iff.2 h1) hl
      · exact hp.1 y hy
/-- The front group's bytes. -/
def frontB (g : Int) : List UInt8 := [Cd.byt g, 211, Cd.byt (213 + g), 0]
theorem frontB_len (g : Int) : (frontB g).length = 4 := rfl
/-- What four bytes tell of the front group. -/
def fdec (l : List UInt8) : Int × Int := if l.length = 4 then (if (l.getD 0 0).toNat ≤ 7 then (if frontB ((l.getD 0 0).toNat : Int) = l then (((l.getD 0 0).toNat : Int), 1) else (0, 2)) else (0, 2)) else (0, 2)
/-- The bytes that the Caps reach: of each Cap, place and number of bytes where its region begins, if they are there. -/
abbrev Src := Nat → Nat → Nat → Option Nat
/-- What is loaded of a place. -/
def got (xs : List UInt8) (src : Src) (x : Nat × Nat × Nat) : List UInt8 := match src x.1 x.2.1 x.2.2 with
  | some b => (xs.drop (b + x.2.1)).take x.2.2
  | none => []
/-- What a record is, and what is bad then. -/
def pread {α : Type} (dec : List UInt8 → α × Int) (z : α) (xs : List UInt8) (src : Src) (nb : Nat) (bad : List Rf) (r : Rf) : (α × Int) × List Rf :=
  if r ∈ bad then ((z, 2), bad) else match wher nb r with
  | none => ((z, 2), bad)
  | some x => (dec (got xs src x), if (dec (got xs src x)).2 = 2 then ins r bad else bad)
/-- Whether bytes are written where a record is, and all bytes then. -/
def pwrite (xs : List UInt8) (src : Src) (nb : Nat) (bad : List Rf) (r : Rf) (b : List UInt8) : Bool × List UInt8 :=
  if r ∈ bad then (false, xs) else match wher nb r with
  | none => (false, xs)
  | some x => match src x.1 x.2.1 x.2.2 with
    | some base => (true, splice xs (base + x.2.1) b)
    | none => (false, xs)
section
variable {α : Type} {dec : List UInt8 → α × Int} {z : α} {xs : List UInt8} {src : Src} {nb : Nat} {bad : List Rf} {r : Rf}
theorem pread_bad (h : r ∈ bad) : pread dec z xs src nb bad r = ((z, 2), bad) := by unfold pread; rw [if_pos h]
theorem pread_none (h : r ∉ bad) (hw : wher nb r = none) : pread dec z xs src nb bad r = ((z, 2), bad) := by unfold pread; rw [if_neg h, hw]
theorem pread_some (h : r ∉ bad) {x : Nat × Nat × Nat} (hw : wher nb r = some x) {v : α} {d : Int} (hd : dec (got xs src x) = (v, d)) : pread dec z xs src nb bad r = ((v, d), if d = 2 then ins r bad else bad) := by
  unfold pread
  rw [if_neg h, hw]
  simp only [hd]
theorem pwrite_bad {b : List UInt8} (h : r ∈ bad) : pwrite xs src nb bad r b = (false, xs) := by unfold pwrite; rw [if_pos h]
theorem pwrite_none {b : List UInt8} (h : r ∉ bad) (hw : wher nb r = none) : pwrite xs src nb bad r b = (false, xs) := by unfold pwrite; rw [if_neg h, hw]
theorem pwrite_some {b : List UInt8} (h : r ∉ bad) {x : Nat × Nat × Nat} (hw : wher nb r = some x) {base : Nat} (hs : src x.1 x.2.1 x.2.2 = some base) : pwrite xs src nb bad r b = (true, splice xs (base + x.2.1) b) := by
  unfold pwrite
  rw [if_neg h, hw]
  simp only [hs]
end
theorem splice_len {α : Type} (L : List α) (off : Nat) (cs : List α) (h : off + cs.length ≤ L.length) : (splice L off cs).length = L.length := by
  unfold splice
  simp
  omega
end Go.Proofs.YtgcikpgcoemfnaaGreat.Co
