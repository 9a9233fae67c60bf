/- What the laws of signals read of their arguments. -/
import Derived.Test.YtaeiigniakjbpaaDoorSigN
import Derived.Test.YtaeiigniakjbpaaDoorSigM
import Derived.Test.YtaeiigniakjbpaaDoorRead
namespace Go.Proofs.YtaeiigniakjbpaaDoor
open Go.RowKit Sg
set_option linter.unusedVariables false
set_option linter.unusedSimpArgs false
theorem holds_ints {w : World} {A : Option Addr} {n c : Nat} {xs : List Int} (h : Holds w (.sl 8 (.int .i64)) xs [.slice A n c]) : Reads w A n (ints xs) := by
  have hl := (holds_len h).1
  have hl' : List.length (α := Int) xs = n := hl
  refine ⟨by rw [ints_len]; exact hl', fun h0 => ?_⟩
  obtain ⟨b0, off0, _, hA, _⟩ := holds_at (e := .int .i64) h (by decide) h0
  refine ⟨_, hA, fun j u hu => ?_⟩
  have hj : j < n := by
    rcases Nat.lt_or_ge j n with h1 | h1
    · exact h1
    · rw [List.getElem?_eq_none (by rw [ints_len]; omega)] at hu; cases hu
  obtain ⟨b, off, cs', rfl, _, hc, hk', hh⟩ := holds_at (e := .int .i64) h (by decide) hj
  cases hA
  obtain ⟨rfl, _⟩ := hh
  have := hc 0 _ rfl
  rw [show (Ty.int .i64).size = 1 from rfl, Nat.mul_one, Nat.add_zero] at this
  rw [add_lit, this]
  rw [ints_get] at hu
  have hk2 : j < List.length (α := Int) xs := hk'
  rw [List.getElem?_eq_getElem hk2] at hu
  rw [← hu]
  rfl
theorem wrap_sm {n : Int} (h0 : 0 ≤ n) (h1 : n < 4294967296) : IntKind.i64.wrap n = n := by
  simp [IntKind.wrap, IntKind.bits, IntKind.signed]
  omega
theorem wrap64_sm {n : Int} (h0 : 0 ≤ n) (h1 : n < 4294967296) : wrap64 n = n := by unfold wrap64; omega
theorem low3 (n : Int) : bits .and .i64 n 7 = n % 8 := i64_mask n 3 (by decide)
theorem bt_not {x n : Int} (h : bt x n = false) : (x / 2 ^ n.toNat % 2 == 0) = true := by
  have h2 : (x / 2 ^ n.toNat % 2 == 1) = false := h
  have h3 : ¬ x / 2 ^ n.toNat % 2 = 1 := by simpa using h2
  have : x / 2 ^ n.toNat % 2 = 0 := by omega
  rw [this]; rfl
theorem bt_yes {x n : Int} (h : bt x n = true) : (x / 2 ^ n.toNat % 2 == 1) = true := h
def OpTy14 : Ty := .pair (.int .i64) (.pair (.int .i64) (.pair (.int .i64) .unit))
theorem op14_at {w : World} {A : Option Addr} {n c : Nat} {xs : Ty.den (.sl 24 OpTy14)} (h : Holds w (.sl 24 OpTy14) xs [.slice A n c]) {k : Nat} (hk : k < n) :
    ∃ bb off oa ob oc, A = some ⟨bb, off, none⟩ ∧ (Lit.int .i64 oa).wf = true ∧ (Lit.int .i64 ob).wf = true ∧ (Lit.int .i64 oc).wf = true ∧ (∀ w', Keep Nob w w' → w'.cell? ⟨bb, off + k * 3, none⟩ = some (.int .i64 oa) ∧ w'.cell? ⟨bb, off + k * 3 + 1, none⟩ = some (.int .i64 ob) ∧ w'.cell? ⟨bb, off + k * 3 + 2, none⟩ = some (.int .i64 oc)) := by
  obtain ⟨bb, off, cs', rfl, hcl, hcc, hk', hh⟩ := holds_at (e := OpTy14) h (by decide) hk
  generalize xs.get ⟨k, hk'⟩ = x at hh
  obtain ⟨oa, ob, oc, u⟩ := x
  obtain ⟨c0, r0, e0, ⟨h0, f0⟩, ⟨c1, r1, e1, ⟨h1, f1⟩, ⟨c2, r2, e2, ⟨h2, f2⟩, t⟩⟩⟩ := hh
  have t : r2 = [] := t
  subst t
  simp only at h0 h1 h2
  rw [h2] at e2
  rw [e2, h1] at e1
  rw [e1, h0] at e0
  subst e0
  have g0 := hcc 0 _ rfl
  have g1 := hcc 1 _ rfl
  have g2 := hcc 2 _ rfl
  simp only [show OpTy14.size = 3 from rfl, Nat.add_zero] at g0 g1 g2
  refine ⟨bb, off, oa, ob, oc, rfl, f0, f1, f2, fun w' K => ⟨?_, ?_, ?_⟩⟩
  · rw [← g0]; exact World.cell?_of_block (w := w) (K.block _ (block_lt_of_cell g0) (fun f => f))
  · rw [← g1]; exact World.cell?_of_block (w := w) (K.block _ (block_lt_of_cell g1) (fun f => f))
  · rw [← g2]; exact World.cell?_of_block (w := w) (K.block _ (block_lt_of_cell g2) (fun f => f))
theorem wp_stl {o : Oper} {a : Act} {K : Act → World → Prop} {Q : Exit → Act → World → Prop} {w : World} {x y : Operand} {g : Nat} {q old : Ps} (ho : o.op = .store 25 x y) (hx : a.eval x = .pointer (some ⟨g, 0, none⟩)) (hy : a.eval y = .agg (pc q).toArray) (hq : q.f.length = 8) (hd : old.f.length = 8) (hb : Blk w g 25 (pc old))
    (h : ∀ w', Blk w' g 25 (pc q) → Keep (· = g) w w' → K (a.put o.dst undef) w') : Oper.wp Tryd.prog o a w K Q :=
  wp_store_ ho hx hy hq hd hb (h _ (hb.setRow _) ((Keep.refl _ w).setRow g _ (fun _ => rfl)))
end Go.Proofs.YtaeiigniakjbpaaDoor
