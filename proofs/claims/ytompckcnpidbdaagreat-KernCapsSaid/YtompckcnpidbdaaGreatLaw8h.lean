/- Layer 8 (kern): what the walks share: reading an Op, a kernel made by a call. -/
import Derived.Test.YtompckcnpidbdaaGreatLaw8b
namespace Go.Proofs.YtompckcnpidbdaaGreat
open Go.RowKit
set_option linter.unusedVariables false
set_option linter.unusedSimpArgs false
abbrev OpTy8 : Ty := .pair (.int .i64) (.pair (.pair (.int .i64) (.pair (.int .i64) (.pair (.int .i64) (.pair (.int .i64) (.pair (.int .i64) (.pair (.int .i64) (.pair (.sl 1 .byte) .unit))))))) .unit)
theorem op8_cells {w : World} {x : OpTy8.den} {cs : List Value} (h : Holds w OpTy8 x cs) : ∃ (e o c a n t u : Int) (B : Option Addr) (m cb : Nat) (bs : List UInt8), cs = [.int .i64 e, .int .i64 o, .int .i64 c, .int .i64 a, .int .i64 n, .int .i64 t, .int .i64 u, .slice B m cb] ∧ Reads w B m (bytes bs) := by
  obtain ⟨c1, c2, rfl, ⟨rfl, _⟩, d1, d2, rfl, hc, hu⟩ := h
  obtain ⟨e1, e2, rfl, ⟨rfl, _⟩, f1, f2, rfl, ⟨rfl, _⟩, g1, g2, rfl, ⟨rfl, _⟩, h1, h2, rfl, ⟨rfl, _⟩, i1, i2, rfl, ⟨rfl, _⟩, j1, j2, rfl, ⟨rfl, _⟩, k1, k2, rfl, hs, hv⟩ := hc
  simp only [Holds] at hu hv
  subst hu hv
  have hl := holds_size _ _ _ hs
  simp only [Ty.size] at hl
  obtain ⟨v, rfl⟩ := List.length_eq_one_iff.1 hl
  have hs2 := hs
  obtain ⟨B, m, cb, hB⟩ : ∃ B m cb, v = .slice B m cb := by
    simp only [Holds] at hs
    obtain ⟨B, cb, hB, _⟩ := hs
    exact ⟨B, _, cb, by simpa using hB⟩
  subst hB
  have := holds_bytes hs2
  exact ⟨_, _, _, _, _, _, _, B, m, cb, _, rfl, this.2.1⟩
theorem op8_at {w : World} {A : Option Addr} {n c : Nat} {xs : Ty.den (.sl 80 OpTy8)} (h : Holds w (.sl 80 OpTy8) xs [.slice A n c]) {k : Nat} (hk : k < n) :
    ∃ (b off : Nat) (e o c a m t u : Int) (B : Option Addr) (l cb : Nat) (bs : List UInt8), A = some ⟨b, off, none⟩ ∧ Reads w B l (bytes bs) ∧ w.cell? ⟨b, off + k * 8, none⟩ = some (.int .i64 e) ∧ w.cell? ⟨b, off + k * 8 + 1, none⟩ = some (.int .i64 o) ∧ w.cell? ⟨b, off + k * 8 + 2, none⟩ = some (.int .i64 c) ∧ w.cell? ⟨b, off + k * 8 + 3, none⟩ = some (.int .i64 a) ∧
      w.cell? ⟨b, off + k * 8 + 4, none⟩ = some (.int .i64 m) ∧ w.cell? ⟨b, off + k * 8 + 5, none⟩ = some (.int .i64 t) ∧ w.cell? ⟨b, off + k * 8 + 6, none⟩ = some (.int .i64 u) ∧ w.cell? ⟨b, off + k * 8 + 7, none⟩ = some (.slice B l cb) := by
  obtain ⟨bb, off, cs', hA0, hcl, hcc, hk', hh⟩ := holds_at h (by decide) hk
  obtain ⟨e, o, c, a, m, t, u, B, l, cb, bs, rfl, hr⟩ := op8_cells hh
  have f0 := hcc 0 _ rfl
  have f1 := hcc 1 _ rfl
  have f2 := hcc 2 _ rfl
  have f3 := hcc 3 _ rfl
  have f4 := hcc 4 _ rfl
  have f5 := hcc 5 _ rfl
  have f6 := hcc 6 _ rfl
  have f7 := hcc 7 _ rfl
  simp only [show OpTy8.size = 8 from rfl, Nat.add_zero] at f0 f1 f2 f3 f4 f5 f6 f7
  exact ⟨bb, off, e, o, c, a, m, t, u, B, l, cb, bs, hA0, hr, f0, f1, f2, f3, f4, f5, f6, f7⟩
section
variable {w w0 wx wy : World} {K K' : Kn}
theorem Kn0.far (h : Kn0 w0 wx K) {g : Nat} {t : TypeId} {cs : List Value} (hb : Blk wx g t cs) (ht : ¬ MyT t) (hf : ¬ Fix t) (hg : w0.heap.size ≤ g) (k : Keep (· = g) wx wy) : Kn0 w0 wy K :=
  ⟨h.is.far hb ht hf k, h.lo, h.keep.at_ k hg⟩
theorem Kn0.args (h : Kn0 w0 wx K) (k : Keep Nob w w0) : Keep (From w.heap.size) w wx :=
  (k.mono (fun _ _ f => f.elim)).trans h.keep (fun b hb m => by have := k.size; have : w0.heap.size ≤ b := m; show w.heap.size ≤ b; omega)
theorem Kn0.below (h : Kn0 w0 wx K) (k : Keep Nob w w0) : Below w.heap.size w wx := (h.args k).done
/-- What was there ahead of the kernel stays. -/
theorem Kn0.elder (h : Kn0 w0 wx K) {g : Nat} {t : TypeId} {cs : List Value} (hb : Blk w0 g t cs) : Blk wx g t cs := hb.keep h.keep (fun m => by have := hb.lt; have : w0.heap.size ≤ g := m; omega)
end
theorem Kf.kn1 {W w' : World} {K : Kn} (h : Kf W w' K) : Kn0 W w' K := ⟨h.is, h.mine, h.keep.mono (fun _ _ f => f.elim)⟩
end Go.Proofs.YtompckcnpidbdaaGreat
