/- Texts Quo0, PrCut, packed. -/
import Derived.Test.YtgcikpgcoemfnaaGreatRows
import Derived.Deep.QuietTactic
import Derived.Deep.RegionHeld3
import Derived.BigQuiet
import Derived.WalkLawsBesides
import Derived.Outline
import Derived.Test.YtgcikpgcoemfnaaGreatPu0
import Derived.Test.YtgcikpgcoemfnaaGreatPyx0
import Derived.Test.YtgcikpgcoemfnaaGreatPyx1
import Derived.Test.YtgcikpgcoemfnaaGreatPu12
set_option linter.unusedVariables false
set_option linter.unusedSimpArgs false
namespace Go.Proofs.YtgcikpgcoemfnaaGreat.Qu
open Go.RowKit
section
variable {tQ tE tQ' tE' : TypeId} {W W' : Nat} {rows rows' : (Nat → Nat) → List Nat → List (List Value)} {w w' : World} {p p' : Nat} {A A' : Option Addr} {cap cap' : Nat} {g g' : Nat → Nat} {ns ns' : List Nat} {b b' : Nat → List Bool}
end
section
variable {w w' : World} {p : Nat} {A : Option Addr} {cap : Nat} {g : Nat → Nat} {ns : List Nat} {b : Nat → List Bool}
end
section
variable {P : Program} {w : World} {ops : Array Oper} {o : Oper} {a : Act} {K : Act → World → Prop} {Q : Exit → Act → World → Prop} {E : Prop}
end
theorem holds_ints {w : World} {A : Option Addr} {n c : Nat} {xs : List Int} (h : Holds w (.sl 8 (.int .i64)) xs [.slice A n c]) : Reads w A n (ints xs) := by
 have hl := (holds_len h).1
 have hl' : List.length (α := Int) xs = n := hl
 refine ⟨by rw [ints_len]; exact hl', fun h0 => ?_⟩
 obtain ⟨b0, off0, _, hA, _⟩ := holds_at (e := .int .i64) h (by decide) h0
 refine ⟨_, hA, fun j u hu => ?_⟩
 have hj : j < n := by have := get_lt hu; rw [ints_len] at this; omega
 obtain ⟨b, off, cs', rfl, _, hc, hk', hh⟩ := holds_at (e := .int .i64) h (by decide) hj
 cases hA
 obtain ⟨rfl, _⟩ := hh
 have := hc 0 _ rfl
 rw [show (Ty.int .i64).size = 1 from rfl, Nat.mul_one, Nat.add_zero] at this
 rw [add_lit, this]
 rw [ints_get] at hu
 have hk2 : j < List.length (α := Int) xs := hk'
 rw [List.getElem?_eq_getElem hk2] at hu
 rw [← hu]
 rfl
end Go.Proofs.YtgcikpgcoemfnaaGreat.Qu
namespace Go.Proofs.YtgcikpgcoemfnaaGreat.Pr
open Go.RowKit
theorem infoint : (Tryz.prog.info? 3).map (fun i => (i.zero, i.size, i.bytes)) = some (some (.int .i64 0), 1, 8) := by kernel_rfl
theorem sizeint : (Tryz.prog.info? 3).map (·.size) = some 1 := by kernel_rfl
/-- The head of a part of a row. -/
def hdI (A : Option Addr) (cap l : Nat) : Option Addr := if cap = l then A else A.map (·.add l)
theorem exec_lo {ρ : Operand → Value} {o : Oper} {x lo : Operand} {w : World} (ho : o.op = .slice 42 x (some lo) none none) (A : Option Addr) (len cap l : Nat) (hx : ρ x = .slice A len cap) (hlo : ρ lo = .int .i64 (l : Int)) (hl : l ≤ len) :
  (execOp ρ o).run Tryz.prog w = .ok (.value (.slice (hdI A cap l) (len - l) (cap - l))) w := by
 have hu := Tryz.underlying42
 have hel : Tryz.prog.elem 42 = 3 := by simp [Program.elem, hu]
 have hu' : Tryz.prog.underlying 42 = some (.slice (Tryz.prog.elem 42)) := by rw [hel]; exact hu
 have hrun := run_slice_l (P := Tryz.prog) w 42 A len cap hu' .i64 (l : Int) (by omega) (by omega)
 rw [hel, run_sizeOf' w 3 1 sizeint] at hrun
 simp only [Result.andThen, sliced, Int.toNat_natCast, Nat.mul_one] at hrun
 have hr2 := run_sliceAt_slice (P := Tryz.prog) w 42 (.slice A len cap) (some (.int .i64 l)) none none hu'
 rw [hrun] at hr2
 simp only [execOp, ho, hx, hlo, Option.map_some, Option.map_none]
 simp [hr2, Result.andThen, hdI]
theorem exec_hi {ρ : Operand → Value} {o : Oper} {x hi : Operand} {w : World} (ho : o.op = .slice 42 x none (some hi) none) (A : Option Addr) (len cap l : Nat) (hx : ρ x = .slice A len cap) (hhi : ρ hi = .int .i64 (l : Int)) (hl : l ≤ cap) :
  (execOp ρ o).run Tryz.prog w = .ok (.value (.slice (hdI A cap 0) l cap)) w := by
 have hu := Tryz.underlying42
 have hel : Tryz.prog.elem 42 = 3 := by simp [Program.elem, hu]
 have hu' : Tryz.prog.underlying 42 = some (.slice (Tryz.prog.elem 42)) := by rw [hel]; exact hu
 have hrun := run_slice_h (P := Tryz.prog) w 42 A len cap hu' .i64 (l : Int) (by omega) (by omega)
 rw [hel, run_sizeOf' w 3 1 sizeint] at hrun
 simp only [Result.andThen, sliced, Int.toNat_natCast, Nat.sub_zero, Nat.mul_one] at hrun
 have hr2 := run_sliceAt_slice (P := Tryz.prog) w 42 (.slice A len cap) none (some (.int .i64 l)) none hu'
 rw [hrun] at hr2
 simp only [execOp, ho, hx, hhi, Option.map_some, Option.map_none]
 simp [hr2, Result.andThen, hdI]
theorem reads_hi {w : World} {A : Option Addr} {n cap i : Nat} {l : List Int} (h : Vec w 3 1 A n cap (ints l)) (hl : l.length = n) (hi : i ≤ n) : Reads w (hdI A cap 0) i (ints (l.take i)) := by
 refine ⟨by rw [ints_len, List.length_take]; omega, fun h0 => ?_⟩
 obtain ⟨g, cur, hA, hb, hn, hc, ht⟩ := h.at_ (by omega)
 refine ⟨⟨g, 0, none⟩, by unfold hdI; rw [if_neg (by omega), hA]; rfl, fun j u hu => ?_⟩
 obtain ⟨ad, e1, e2⟩ := h.reads.2 (by omega)
 rw [hA] at e1
 cases e1
 refine e2 j u ?_
 rw [show ints l = ints (l.take i) ++ ints (l.drop i) by unfold ints; rw [← List.map_append, List.take_append_drop], List.getElem?_append_left (List.getElem?_eq_some_iff.1 hu).1]
 exact hu
theorem reads_lo {w : World} {A : Option Addr} {n cap i : Nat} {l : List Int} (h : Vec w 3 1 A n cap (ints l)) (hl : l.length = n) (hi : i ≤ n) : Reads w (hdI A cap i) (n - i) (ints (l.drop i)) := by
 refine ⟨by rw [ints_len, List.length_drop]; omega, fun h0 => ?_⟩
 obtain ⟨g, cur, hA, hb, hn, hc, ht⟩ := h.at_ (by omega)
 refine ⟨⟨g, i, none⟩, by unfold hdI; rw [if_neg (by omega), hA]; show some ((⟨g, 0, none⟩ : Addr).add i) = _; rw [add_lit, Nat.zero_add], fun j u hu => ?_⟩
 obtain ⟨ad, e1, e2⟩ := h.reads.2 (by omega)
 rw [hA] at e1
 cases e1
 have := e2 (i + j) u (by
  rw [show ints l = ints (l.take i) ++ ints (l.drop i) by unfold ints; rw [← List.map_append, List.take_append_drop], List.getElem?_append_right (by rw [ints_len, List.length_take]; omega), ints_len, List.length_take, show i + j - min i l.length = j by omega]
  exact hu)
 rw [add_lit] at this ⊢
 rw [Nat.zero_add] at this
 exact this
end Go.Proofs.YtgcikpgcoemfnaaGreat.Pr
