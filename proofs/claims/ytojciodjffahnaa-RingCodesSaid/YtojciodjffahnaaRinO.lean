/- A call in a script: an Op out of its row. -/
import Derived.Test.YtojciodjffahnaaRinN
import Derived.Test.YtojciodjffahnaaRinM
import Derived.Test.YtojciodjffahnaaRead
namespace Go.Proofs.Ytojciodjffahnaa
open Go.RowKit Ri
set_option linter.unusedVariables false
set_option linter.unusedSimpArgs false
def OpTy13 : Ty := .pair (.int .i64) (.pair (.int .i64) (.pair (.sl 1 .byte) .unit))
theorem op13_at {w : World} {A : Option Addr} {n c : Nat} {xs : Ty.den (.sl 40 OpTy13)} (h : Holds w (.sl 40 OpTy13) xs [.slice A n c]) {k : Nat} (hk : k < n) :
    ∃ bb off oa ov B m cB l, A = some ⟨bb, off, none⟩ ∧ (∀ w', Keep Nob w w' → w'.cell? ⟨bb, off + k * 3, none⟩ = some (.int .i64 oa) ∧ w'.cell? ⟨bb, off + k * 3 + 1, none⟩ = some (.int .i64 ov) ∧ w'.cell? ⟨bb, off + k * 3 + 2, none⟩ = some (.slice B m cB) ∧ Reads w' B m (bytes l)) ∧ m ≤ cB ∧ l.length = m := by
  obtain ⟨bb, off, cs', rfl, hcl, hcc, hk', hh⟩ := holds_at (e := OpTy13) h (by decide) hk
  generalize xs.get ⟨k, hk'⟩ = x at hh
  obtain ⟨oa, ov, l, u⟩ := x
  obtain ⟨c0, r0, e0, ⟨h0, f0⟩, ⟨c1, r1, e1, ⟨h1, f1⟩, ⟨c2, r2, e2, hs, t⟩⟩⟩ := hh
  have t : r2 = [] := t
  have hs' := hs
  obtain ⟨B, cB, heq, -⟩ := hs'
  subst heq
  have hB := holds_bytes hs
  subst t
  simp only at h0 h1 hB
  rw [e2, h1] at e1
  rw [e1, h0] at e0
  subst e0
  have g0 := hcc 0 _ rfl
  have g1 := hcc 1 _ rfl
  have g2 := hcc 2 _ rfl
  simp only [show OpTy13.size = 3 from rfl, Nat.add_zero] at g0 g1 g2
  refine ⟨bb, off, oa, ov, B, _, cB, l, rfl, fun w' K => ⟨?_, ?_, ?_, hB.2.1.nob K⟩, hB.2.2.1, hB.1⟩
  · rw [← g0]; exact World.cell?_of_block (w := w) (K.block _ (block_lt_of_cell g0) (fun f => f))
  · rw [← g1]; exact World.cell?_of_block (w := w) (K.block _ (block_lt_of_cell g1) (fun f => f))
  · rw [← g2]; exact World.cell?_of_block (w := w) (K.block _ (block_lt_of_cell g2) (fun f => f))
theorem reads_fresh {w w' : World} {A : Option Addr} {n : Nat} {xs : List Value} (h : Reads w A n xs) (k : Keep (· = w.heap.size) w w') : Reads w' A n xs := by
  refine ⟨h.1, fun h0 => ?_⟩
  obtain ⟨ad, rfl, hc⟩ := h.2 h0
  refine ⟨ad, rfl, fun j u hu => ?_⟩
  have hcu := hc j u hu
  rw [← hcu]
  have hlt := block_lt_of_cell hcu
  exact World.cell?_of_block (w := w) (k.block _ hlt (fun e => by have h3 : (ad.add j).block = w.heap.size := e; omega))
end Go.Proofs.Ytojciodjffahnaa
