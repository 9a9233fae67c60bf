/- The Boot that the statements of layer 8 make of numbers: at its end it lies well and is good. -/
import Derived.Test.YtompckcnpidbdaaGreatBoot
namespace Go.Proofs.YtompckcnpidbdaaGreat
open Go.RowKit
set_option linter.unusedVariables false
set_option linter.unusedSimpArgs false
section
variable {w W W' : World} {ab lb pb : Nat} {A : Option Addr} {n c : Nat} {xs : List Int} {k : Nat} {b : Bt}
theorem Bs.farB (h : Bs w W ab lb pb A n c xs k b) {g : Nat} {cs : List Value} (hb : Blk W g 31 cs) (hp : g ≠ pb) (hg : w.heap.size ≤ g) (kk : Keep (· = g) W W') : Bs w W' ab lb pb A n c xs k b := by
  have ob : ∀ {x : Nat} {u : TypeId} {cs : List Value}, Blk W x u cs → u ≠ 31 → x ≠ g := fun hx hu => hx.ne_ hb hu
  have ov : ∀ {e sz n cap : Nat} {A : Option Addr} {xs : List Value}, Vec W e sz A n cap xs → e ≠ 31 → ∀ x, Own A x → x ≠ g := fun hv hu x hx => by
    obtain ⟨c, hc⟩ := hv.blk hx
    exact hc.ne_ hb hu
  exact ⟨⟨h.nx.a.keep kk (ob h.nx.a (by decide)), h.nx.l.keep kk (ob h.nx.l (by decide)), h.nx.r, h.nx.keep.at_ kk hg, h.nx.lo⟩, h.o.keep kk (fun e => hp e.symm), h.fr.keep kk (ov h.fr (by decide)), h.en.keep kk (ov h.en (by decide)), h.se.keep kk (ov h.se (by decide)), fun s hs => by obtain ⟨g', h1, h2, h3⟩ := h.sl s hs; exact ⟨g', h1, h2.keep kk (ob h2 (by decide)), h3⟩,
    h.sh.keep kk (ov h.sh (by decide)), fun s hs => by obtain ⟨g', h1, h2, h3⟩ := h.tos s hs; exact ⟨g', h1, h2.keep kk (ob h2 (by decide)), h3⟩, h.d1, h.d2, h.d3, h.d4, h.lp, h.lf, h.le, h.ls, h.lh⟩
theorem Bs.isBt (h : Bs w W ab lb pb A n c xs k b) (hf : 1 ≤ b.frames.length) : IsBt W b := by
  have e1 : ∀ {l : List Int} {A : Option Addr} {c : Nat}, Vec W 3 1 A l.length c (ints l) → Reads W A l.length (ints l) := fun hv => by
    have := hv.reads
    rwa [Nat.mul_one] at this
  refine ⟨e1 h.fr, ?_, e1 h.en, ?_, fun s hs => ?_, h.sh.reads, fun s hs => ?_⟩
  · obtain ⟨r, cur, hA, hb, hn, hc, ht⟩ := h.fr.at_ (by omega)
    omega
  · have := h.se.reads
    rwa [Nat.mul_one] at this
  · obtain ⟨g, h1, h2, _⟩ := h.sl s hs
    rw [h1]
    exact reads_all h2 (by rw [ints_len])
  · obtain ⟨g, h1, h2, _⟩ := h.tos s hs
    rw [h1]
    exact reads_all h2 (by rw [ints_len])
end
theorem bs_ok {b : Bt} {nn : Nat} (h0 : 1 ≤ nn ∧ nn ≤ 3) (hl : 1 ≤ b.lease ∧ b.lease ≤ 6) (h1 : b.frames.length = nn) (h2 : ∀ x ∈ b.frames, 1 ≤ x ∧ x ≤ 4) (h3 : b.envs.length = 5) (h4 : ∀ x ∈ b.envs, 0 ≤ x ∧ x < nn) (h5 : b.sects.length = 2) (h6 : ∀ s ∈ b.sects, s.xs.length = 2 ∧ InR nn s.xs) (h7 : b.shared.length = 3) (h8 : ∀ s ∈ b.shared, ShG b.frames nn s) : BtOk b (Qu.sizes b.frames) := by
  have hns : (Qu.sizes b.frames).length = nn := by rw [Qu.sizes_len]; omega
  refine ⟨rfl, by omega, by omega, by omega, by omega, by omega, by omega, by omega, fun x hx => by rw [h1]; exact h4 x hx, fun s hs => ⟨fun x hx => by rw [h1]; exact (h6 s hs).2 x hx, by rw [(h6 s hs).1]; decide⟩, fun s hs => ?_⟩
  obtain ⟨a1, a2, a3, a4, a5, a6, a7, a8, a9⟩ := h8 s hs
  obtain ⟨j, hj⟩ := Int.eq_ofNat_of_zero_le a1
  have hjn : j < b.frames.length := by omega
  have hg : ((Qu.sizes b.frames).getD s.ses.toNat 0 : Int) = b.frames.getD s.ses.toNat 0 := by
    rw [hj, Int.toNat_natCast]
    have e1 := Qu.sizes_get (xs := b.frames) (i := j) (by omega) hjn
    have e2 := h2 (b.frames.getD j 0) (by rw [List.getD_eq_getElem?_getD, List.getElem?_eq_getElem hjn]; exact List.getElem_mem hjn)
    rw [List.getD_eq_getElem?_getD, e1]
    simp only [Option.getD_some]
    omega
  exact ⟨a1, by rw [hns]; exact a2, a5, by rw [hg]; omega, a7, a8, by rw [hg]; omega, by rw [hns]; exact a4, by rw [a3]; decide⟩
/-- A Boot is written into its block. -/
theorem boot_blk {W : World} {g : Nat} {x y z u v : Value} (hb : Blk W g 31 [x, y, z, u, v]) (a b c d e : Value) : Blk (((((W.setCell ⟨g, 0, none⟩ a).setCell ⟨g, 1, none⟩ b).setCell ⟨g, 2, none⟩ c).setCell ⟨g, 3, none⟩ d).setCell ⟨g, 4, none⟩ e) g 31 [a, b, c, d, e] := by
  have := ((((hb.setCell 0 a).setCell 1 b).setCell 2 c).setCell 3 d).setCell 4 e
  simpa using this
theorem boot_keep (W : World) (g : Nat) (a b c d e : Value) : Keep (fun x => x = g) W (((((W.setCell ⟨g, 0, none⟩ a).setCell ⟨g, 1, none⟩ b).setCell ⟨g, 2, none⟩ c).setCell ⟨g, 3, none⟩ d).setCell ⟨g, 4, none⟩ e) :=
  (((((Keep.refl (fun x => x = g) W).setCell ⟨g, 0, none⟩ a (fun _ => rfl)).setCell ⟨g, 1, none⟩ b (fun _ => rfl)).setCell ⟨g, 2, none⟩ c (fun _ => rfl)).setCell ⟨g, 3, none⟩ d (fun _ => rfl)).setCell ⟨g, 4, none⟩ e (fun _ => rfl)
theorem infoBoot : (Tryz.prog.info? 31).map (·.size) = some 5 := by kernel_rfl
end Go.Proofs.YtompckcnpidbdaaGreat
