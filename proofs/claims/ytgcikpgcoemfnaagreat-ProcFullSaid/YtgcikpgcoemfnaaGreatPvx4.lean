/- Texts Same, packed. -/
import Derived.BigRegion
import Derived.Test.YtgcikpgcoemfnaaGreatPu0
import Derived.Test.YtgcikpgcoemfnaaGreatPvx0
import Derived.Test.YtgcikpgcoemfnaaGreatPvx1
import Derived.Test.YtgcikpgcoemfnaaGreatPu4
import Derived.Test.YtgcikpgcoemfnaaGreatPu18
import Derived.Test.YtgcikpgcoemfnaaGreatPu19
import Derived.Test.YtgcikpgcoemfnaaGreatPu1
import Derived.Test.YtgcikpgcoemfnaaGreatPu7
import Derived.Test.YtgcikpgcoemfnaaGreatPu11
import Derived.Test.YtgcikpgcoemfnaaGreatPu21
import Derived.Test.YtgcikpgcoemfnaaGreatPu22
import Derived.Test.YtgcikpgcoemfnaaGreatPu12
import Derived.Test.YtgcikpgcoemfnaaGreatPvx2
import Derived.Test.YtgcikpgcoemfnaaGreatPu14
import Derived.Test.YtgcikpgcoemfnaaGreatPu13
import Derived.Test.YtgcikpgcoemfnaaGreatPu15
import Derived.Test.YtgcikpgcoemfnaaGreatPu16
import Derived.Test.YtgcikpgcoemfnaaGreatPu24
import Derived.Test.YtgcikpgcoemfnaaGreatPu23
import Derived.Test.YtgcikpgcoemfnaaGreatPu5
import Derived.Test.YtgcikpgcoemfnaaGreatPu8
import Derived.Test.YtgcikpgcoemfnaaGreatPu20
import Derived.Test.YtgcikpgcoemfnaaGreatPu2
import Derived.Test.YtgcikpgcoemfnaaGreatPu9
import Derived.Test.YtgcikpgcoemfnaaGreatPu25
import Derived.Test.YtgcikpgcoemfnaaGreatPu10
import Derived.Test.YtgcikpgcoemfnaaGreatPu26
import Derived.Test.YtgcikpgcoemfnaaGreatPu27
import Derived.Test.YtgcikpgcoemfnaaGreatPu6
import Derived.Test.YtgcikpgcoemfnaaGreatPu28
import Derived.Test.YtgcikpgcoemfnaaGreatPu17
import Derived.Test.YtgcikpgcoemfnaaGreatPu29
import Derived.Test.YtgcikpgcoemfnaaGreatPu31
import Derived.Test.YtgcikpgcoemfnaaGreatPvx3
namespace Go.Proofs.YtgcikpgcoemfnaaGreat.Pn
open Go.RowKit Co
set_option linter.unusedVariables false
set_option linter.unusedSimpArgs false
theorem nought_eq {l : List UInt8} (h : Cd.allNought l = true) : l = List.replicate l.length 0 := by
  unfold Cd.allNought at h
  rw [List.all_eq_true] at h
  exact List.eq_replicate_iff.2 ⟨rfl, fun x hx => by simpa using h x hx⟩
theorem cd_key {l : List UInt8} {v : List Int} {d : Int} (h : Cd.dcd l = (v, d)) (hd : d ≠ 2) : l = if d = 1 then Cd.enc v else List.replicate 24 0 := by
  unfold Cd.dcd at h
  split at h
  · rename_i hl
    split at h
    · rename_i hz
      obtain ⟨rfl, rfl⟩ := Prod.mk.inj h
      rw [if_neg (by decide), ← hl]
      exact nought_eq hz
    · split at h
      · rename_i hg
        obtain ⟨rfl, rfl⟩ := Prod.mk.inj h
        rw [if_pos rfl]
        unfold Cd.gd at hg
        simp only [Bool.and_eq_true, beq_iff_eq] at hg
        exact hg.2.symm
      · exact absurd (Prod.mk.inj h).2.symm hd
  · exact absurd (Prod.mk.inj h).2.symm hd
theorem fi_key {l : List UInt8} {v : List Int} {d : Int} (h : Fi.dcd l = (v, d)) (hd : d ≠ 2) : l = if d = 1 then Fi.enc v else List.replicate 8 0 := by
  unfold Fi.dcd at h
  split at h
  · rename_i hl
    split at h
    · rename_i hz
      obtain ⟨rfl, rfl⟩ := Prod.mk.inj h
      rw [if_neg (by decide), ← hl]
      exact nought_eq hz
    · split at h
      · rename_i hg
        obtain ⟨rfl, rfl⟩ := Prod.mk.inj h
        rw [if_pos rfl]
        unfold Fi.gd at hg
        simp only [Bool.and_eq_true, beq_iff_eq] at hg
        exact hg.2.symm
      · exact absurd (Prod.mk.inj h).2.symm hd
  · exact absurd (Prod.mk.inj h).2.symm hd
theorem ri_key {l : List UInt8} {v : Ri.Pp} {d : Int} (h : Ri.dcd l = (v, d)) (hd : d ≠ 2) : l = if d = 1 then Ri.enc v else List.replicate 40 0 := by
  unfold Ri.dcd at h
  split at h
  · rename_i hl
    split at h
    · rename_i hz
      obtain ⟨rfl, rfl⟩ := Prod.mk.inj h
      rw [if_neg (by decide), ← hl]
      exact nought_eq hz
    · split at h
      · rename_i hg
        obtain ⟨rfl, rfl⟩ := Prod.mk.inj h
        rw [if_pos rfl]
        unfold Ri.gd at hg
        simp only [Bool.and_eq_true, beq_iff_eq] at hg
        exact hg.2.symm
      · exact absurd (Prod.mk.inj h).2.symm hd
  · exact absurd (Prod.mk.inj h).2.symm hd
theorem fd_key {l : List UInt8} {v : Int} {d : Int} (h : fdec l = (v, d)) (hd : d ≠ 2) : l = frontB v := by
  unfold fdec at h
  split at h
  · split at h
    · split at h
      · rename_i hg
        obtain ⟨rfl, rfl⟩ := Prod.mk.inj h
        exact hg.symm
      · exact absurd (Prod.mk.inj h).2.symm hd
    · exact absurd (Prod.mk.inj h).2.symm hd
  · exact absurd (Prod.mk.inj h).2.symm hd
/-- What a record's bytes are read as. -/
theorem rec_of {α : Type} {dec : List UInt8 → α × Int} {z : α} {xs : List UInt8} {nb : Nat} {bad : List Rf} {r : Rf} {a : α × Int} {at_ n : Nat} (hd : (dec []).2 = 2) (h : pread dec z xs (src2 0) nb bad r = (a, bad)) (ha : a.2 ≠ 2) (hw : wher nb r = some (0, at_, n)) : dec ((xs.drop at_).take n) = a := by
  obtain ⟨_, x, b, hx, hs, hg⟩ := live hd h ha
  rw [hw] at hx
  cases hx
  have hs : src2 0 0 at_ n = some b := hs
  cases hs
  have e : got xs (src2 0) (0, at_, n) = (xs.drop at_).take n := by
    show (List.drop (0 + at_) xs).take n = _
    rw [Nat.zero_add]
  rw [← e]
  exact hg
theorem at_of {xs ys : List UInt8} {a n : Nat} (h : (xs.drop a).take n = (ys.drop a).take n) {j : Nat} (h1 : a ≤ j) (h2 : j < a + n) : xs[j]? = ys[j]? := by
  have := congrArg (fun l => l[j - a]?) h
  simp only [List.getElem?_take, List.getElem?_drop] at this
  rw [if_pos (by omega), if_pos (by omega), show a + (j - a) = j by omega] at this
  exact this
/-- No record is bad. -/
structure AllG (S : Stt) : Prop where
  p : ∀ i : Nat, i < 8 → (S.p i).2 ≠ 2
  f : ∀ i : Nat, i < 12 → (S.f i).2 ≠ 2
  r : ∀ i : Nat, i < 4 → (S.r i).2 ≠ 2
  t : S.t.2 ≠ 2
  g : S.g.2 ≠ 2
section
variable {F : List UInt8 → Prop} {n : Nat} {bad : List Rf} {xs ys : List UInt8} {S : Stt}
theorem sto_same (h1 : Sto F n (src2 0) 2 bad xs S) (h2 : Sto F n (src2 0) 2 bad ys S) (G : AllG S) : xs.take 492 = ys.take 492 := by
  have hP : ∀ i : Nat, i < 8 → (xs.drop (24 * i)).take 24 = (ys.drop (24 * i)).take 24 := fun i hi => by
    have hw : wher 2 (1, (i : Int)) = some (0, 24 * i, 24) := by simp [wher]; omega
    rw [cd_key (rec_of (by decide) (h1.p i) (G.p i hi) hw) (G.p i hi), cd_key (rec_of (by decide) (h2.p i) (G.p i hi) hw) (G.p i hi)]
  have hF : ∀ i : Nat, i < 12 → (xs.drop (192 + 8 * i)).take 8 = (ys.drop (192 + 8 * i)).take 8 := fun i hi => by
    have hw : wher 2 (2, (i : Int)) = some (0, 192 + 8 * i, 8) := by simp [wher]; omega
    rw [fi_key (rec_of (by decide) (h1.f i) (G.f i hi) hw) (G.f i hi), fi_key (rec_of (by decide) (h2.f i) (G.f i hi) hw) (G.f i hi)]
  have hR : ∀ i : Nat, i < 4 → (xs.drop (288 + 40 * i)).take 40 = (ys.drop (288 + 40 * i)).take 40 := fun i hi => by
    have hw : wher 2 (3, (i : Int)) = some (0, 288 + 40 * i, 40) := by simp [wher]; omega
    rw [ri_key (rec_of (by decide) (h1.r i) (G.r i hi) hw) (G.r i hi), ri_key (rec_of (by decide) (h2.r i) (G.r i hi) hw) (G.r i hi)]
  have hT : (xs.drop 448).take 40 = (ys.drop 448).take 40 := by
    rw [ri_key (rec_of (by decide) h1.t G.t rfl) G.t, ri_key (rec_of (by decide) h2.t G.t rfl) G.t]
  have hG : (xs.drop 488).take 4 = (ys.drop 488).take 4 := by
    rw [fd_key (rec_of (by decide) h1.g G.g rfl) G.g, fd_key (rec_of (by decide) h2.g G.g rfl) G.g]
  apply List.ext_getElem?
  intro j
  rw [List.getElem?_take, List.getElem?_take]
  by_cases hj : j < 492
  · rw [if_pos hj, if_pos hj]
    by_cases h1 : j < 192
    · exact at_of (hP (j / 24) (by omega)) (by omega) (by omega)
    · by_cases h2 : j < 288
      · exact at_of (hF ((j - 192) / 8) (by omega)) (by omega) (by omega)
      · by_cases h3 : j < 448
        · exact at_of (hR ((j - 288) / 40) (by omega)) (by omega) (by omega)
        · by_cases h4 : j < 488
          · exact at_of hT (by omega) (by omega)
          · exact at_of hG (by omega) (by omega)
  · rw [if_neg hj, if_neg hj]
end
section
variable {F : List UInt8 → Prop} {w w1 : World} {K : Kn} {C : Cm} {S : Stt}
/-- The bytes of a session's commons behind calls. -/
theorem kraw_is (t : Kt F 2560 w K C (src2 0) S w1) (hs : K.L = spans2) : Calls Tryz.prog 21 #[.pointer (some ⟨K.q, 0, none⟩), .int .i64 0] w1 fun e w' => ∃ ys g, e = .returned (.tuple #[.slice (some ⟨g, 0, none⟩) 492 492, .int .i64 0]) ∧ Sto F 2560 (src2 0) C.brs.length C.bad ys S ∧ Blk w' g 5 (bytes (ys.take 492)) ∧ w1.heap.size ≤ g ∧
    Kt F 2560 w K C (src2 0) S w' ∧ Kp K C w1 w' := by
  have t0 := t
  obtain ⟨ys, h1, h2⟩ := t
  have hr : Reg w1 K.q K.m K.mr K.s K.B K.envs.length K.p K.r K.A K.cap ys K.T K.L := h2.is.k.reg
  have hl : (ys.take 492).length = 492 := by rw [List.length_take, h1.len]; rfl
  refine (raw_is hr 0 0 492 (by rw [hs]; rfl) (ys.take 492) rfl).mono ?_
  rintro e w' ⟨g, rfl, hb, hg, k⟩
  rw [hl]
  exact ⟨ys, g, rfl, h1, hb, hg, t0.nob k, k.mono (fun _ _ f => f.elim)⟩
theorem kregs_is (t : Kt F 2560 w K C (src2 0) S w1) : Calls Tryz.prog 18 #[.pointer (some ⟨K.k, 0, none⟩)] w1 fun e w' => e = .returned (.pointer (some ⟨K.q, 0, none⟩)) ∧ w1 = w' := by
  obtain ⟨ys, _, h2⟩ := t
  exact regs_is (K := { K with xs := ys }) h2.is.k
end
end Go.Proofs.YtgcikpgcoemfnaaGreat.Pn
