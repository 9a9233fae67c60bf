/- BellPlays: what holds between two steps of a script: two Bells, and what the document keeps of each. -/
import Derived.Test.YtbieffenicojpaaBel3
namespace Go.Proofs.Ytbieffenicojpaa
open Go.RowKit
set_option linter.unusedVariables false
set_option linter.unusedSimpArgs false
/-- The slice at A holds l. -/
def LiesAt (w : World) (A : Option Addr) (l : List Int) : Prop := ∀ k, k < l.length → ∃ g off, A = some ⟨g, off, none⟩ ∧ w.cell? ⟨g, off + k, none⟩ = some (.int .i64 (l.getD k 0))
theorem LiesAt.nob {w w' : World} {A : Option Addr} {l : List Int} (h : LiesAt w A l) (k : Keep Nob w w') : LiesAt w' A l := fun j hj => by
  obtain ⟨g, off, hA, hc⟩ := h j hj
  exact ⟨g, off, hA, Keep.cell_from (k.mono (fun _ _ f => f.elim)) hc⟩
theorem Vec.lies {w : World} {A : Option Addr} {n : Nat} {l : List Int} (h : Vec w 3 1 A l.length n (ints l)) : LiesAt w A l := fun j hj => by
  obtain ⟨g, cur, rfl, hb, _, _, ht⟩ := h.at_ (by omega)
  refine ⟨g, 0, rfl, ?_⟩
  have h1 := congrArg (fun l => l[j]?) ht
  simp only [Nat.mul_one, List.getElem?_take, if_pos hj, ints_get, List.getElem?_eq_getElem hj, Option.map_some] at h1
  rw [hb.cell, Nat.zero_add, h1, List.getD_eq_getElem?_getD, List.getElem?_eq_getElem hj]
  rfl
theorem RowAt.lies {w : World} {A : Option Addr} {cap : Nat} {l : List Int} {G : Option Nat} (h : RowAt w A cap l G) : LiesAt w A l := fun j hj => by
  obtain ⟨g, off, _, hA, hc⟩ := h.get hj
  exact ⟨g, off, hA, hc⟩
theorem up_self {α : Type} {l : Nat → α} {k : Nat} {v : α} (h : l k = v) (i : Nat) : up l k v i = l i := by
  unfold up
  by_cases e : i = k
  · rw [if_pos e, e, h]
  · rw [if_neg e]
theorem up_either1 {l : Nat → List Int} {k j : Nat} {x : Int} {r : List Int} (hkj : k ≠ j) (i : Nat) : up (up l k (x :: r).tail) j (l j) i = up l k r i := by
  unfold up
  by_cases e : i = j
  · rw [if_pos e, if_neg (by omega), e]
  · rw [if_neg e]
    rfl
theorem up_either2 {l : Nat → List Int} {k j : Nat} {r : List Int} (hl : l k = []) (i : Nat) : up (up l k ([] : List Int).tail) j r i = up l j r i := by
  have h := up_self (l := l) (k := k) (v := ([] : List Int).tail) hl
  unfold up at h ⊢
  by_cases e : i = j
  · rw [if_pos e, if_pos e]
  · rw [if_neg e, if_neg e]
    exact h i
theorem up_either3 {l : Nat → List Int} {k j : Nat} (hl : l k = []) (hlj : l j = []) (i : Nat) : up (up l k ([] : List Int).tail) j [] i = l i :=
  (up_either2 hl i).trans (up_self hlj i)
structure PS (w0 w : World) (b7 b8 b9 : Nat) (p c m : Nat → Nat) (A : Nat → Option Addr) (n : Nat → Nat) (G : Nat → Option Nat) (l q : Nat → List Int) : Prop where
  bs : Blk w b7 25 (two fun i => .pointer (some ⟨p i, 0, none⟩))
  ms : Blk w b8 27 (two fun i => .int .i64 (m i))
  ws : Blk w b9 29 (two fun i => .slice (A i) (q i).length (n i))
  bell : ∀ i, i < 2 → IsBell w (p i) (c i) (m i) (l i)
  row : ∀ i, i < 2 → RowAt w (A i) (n i) (q i) (G i)
  cne : ∀ i j, i < 2 → j < 2 → i ≠ j → c i ≠ c j
  gne : ∀ i j g, i < 2 → j < 2 → i ≠ j → G i = some g → G j ≠ some g
  loc : ∀ i, i < 2 → w0.heap.size ≤ c i
  log : ∀ i g, i < 2 → G i = some g → w0.heap.size ≤ g
  lo9 : w0.heap.size ≤ b9
  keep : Keep (From w0.heap.size) w0 w
section
variable {w0 w w' : World} {b7 b8 b9 : Nat} {p c m : Nat → Nat} {A : Nat → Option Addr} {n : Nat → Nat} {G : Nat → Option Nat} {l q : Nat → List Int} {k : Nat}
theorem PS.nob (h : PS w0 w b7 b8 b9 p c m A n G l q) (e : Keep Nob w w') : PS w0 w' b7 b8 b9 p c m A n G l q :=
  ⟨h.bs.keep e (fun f => f), h.ms.keep e (fun f => f), h.ws.keep e (fun f => f), fun i hi => (h.bell i hi).nob e, fun i hi => (h.row i hi).keep e (fun _ _ f => f), h.cne, h.gne, h.loc, h.log, h.lo9, h.keep.nob e⟩
theorem PS.cb (h : PS w0 w b7 b8 b9 p c m A n G l q) (hk : k < 2) : w.cell? ⟨b7, k, none⟩ = some (.pointer (some ⟨p k, 0, none⟩)) := by rw [h.bs.cell, two_get hk]
theorem PS.cm (h : PS w0 w b7 b8 b9 p c m A n G l q) (hk : k < 2) : w.cell? ⟨b8, k, none⟩ = some (.int .i64 (m k)) := by rw [h.ms.cell, two_get hk]
theorem PS.cw (h : PS w0 w b7 b8 b9 p c m A n G l q) (hk : k < 2) : w.cell? ⟨b9, k, none⟩ = some (.slice (A k) (q k).length (n k)) := by rw [h.ws.cell, two_get hk]
/-- What is done at one Bell's channel. -/
theorem PS.chan (h : PS w0 w b7 b8 b9 p c m A n G l q) (hk : k < 2) {l' : List Int} (h' : IsBell w' (p k) (c k) (m k) l') (e : Keep (· = c k) w w') : PS w0 w' b7 b8 b9 p c m A n G (up l k l') q := by
  have hc := (h.bell k hk).ch
  refine ⟨h.bs.keep e (fun x => hc.ne_ h.bs x.symm), h.ms.keep e (fun x => hc.ne_ h.ms x.symm), h.ws.keep e (fun x => hc.ne_ h.ws x.symm), fun i hi => ?_, fun i hi => (h.row i hi).keep e (fun g hg x => ?_), h.cne, h.gne, h.loc, h.log, h.lo9, h.keep.at_ e (h.loc k hk)⟩
  · by_cases ei : i = k
    · subst ei; rw [up_same]; exact h'
    · rw [up_ne ei]
      exact (h.bell i hi).keep e (fun x => hc.ne_ (h.bell i hi).obj x.symm) (h.cne i k hi hk ei)
  · obtain ⟨cur, hb⟩ := (h.row i hi).blk hg
    exact hc.ne_ hb x.symm
/-- A block of another make stays where a channel turns. -/
theorem PS.offC (h : PS w0 w b7 b8 b9 p c m A n G l q) (hk : k < 2) {x : Nat} {t : TypeId} {cs : List Value} (hb : Blk w x t cs) (e : Keep (· = c k) w w') : Blk w' x t cs := hb.keep e (fun y => (h.bell k hk).ch.ne_ hb y.symm)
theorem PS.ring (h : PS w0 w b7 b8 b9 p c m A n G l q) (hk : k < 2) (x : Int) :
    Calls Try.prog 8 #[.pointer (some ⟨p k, 0, none⟩), .int .i64 x] w fun e w' => e = .returned (.bool (decide ((l k).length < m k))) ∧ PS w0 w' b7 b8 b9 p c m A n G (up l k (rung (m k) (l k) x)) q ∧ Keep (· = c k) w w' := by
  refine (ring_is (h.bell k hk) x).mono ?_; rintro e w1 ⟨rfl, h1, k1, s1⟩
  exact ⟨rfl, h.chan hk h1 k1, k1⟩
theorem PS.take (h : PS w0 w b7 b8 b9 p c m A n G l q) (hk : k < 2) :
    Calls Try.prog 9 #[.pointer (some ⟨p k, 0, none⟩)] w fun e w' => e = .returned (.tuple #[.int .i64 ((l k).headD 0), .bool (!(l k).isEmpty)]) ∧ PS w0 w' b7 b8 b9 p c m A n G (up l k (l k).tail) q ∧ Keep (· = c k) w w' := by
  refine (take_is (h.bell k hk).isB).mono ?_; rintro e w1 ⟨rfl, ⟨p', hp, h1⟩, k1, s1⟩
  cases hp
  have k1 : Keep (· = c k) w w1 := k1.mono (fun x _ m => by cases m; rfl)
  exact ⟨rfl, h.chan hk h1 k1, k1⟩
theorem PS.drain (h : PS w0 w b7 b8 b9 p c m A n G l q) (hk : k < 2) :
    Calls Try.prog 11 #[.pointer (some ⟨p k, 0, none⟩)] w fun e w' => ∃ D d, e = .returned (.slice D (l k).length d) ∧ LiesAt w' D (l k) ∧ PS w0 w' b7 b8 b9 p c m A n G (up l k []) q ∧ Keep (· = c k) w w' := by
  refine (drain_is (h.bell k hk)).mono ?_; rintro e w1 ⟨D, d, rfl, H⟩
  have hv := H.v
  rw [List.take_length] at hv
  have hb := H.bell
  rw [List.drop_of_length_le (by omega)] at hb
  exact ⟨D, d, rfl, hv.lies, h.chan hk hb H.keep, H.keep⟩
theorem PS.either {j : Nat} (h : PS w0 w b7 b8 b9 p c m A n G l q) (hk : k < 2) (hj : j < 2) (hne : k ≠ j) :
    Calls Try.prog 12 #[.pointer (some ⟨p k, 0, none⟩), .pointer (some ⟨p j, 0, none⟩)] w fun e w' => e = .returned (eith (l k) (l j)) ∧ PS w0 w' b7 b8 b9 p c m A n G (up (up l k (l k).tail) j (eithB (l k) (l j))) q ∧ Keep (fun x => x = c k ∨ x = c j) w w' := by
  refine (either_is (h.bell k hk).isB (h.bell j hj).isB (fun x e e' => h.cne k j hk hj hne (Option.some.inj (e.trans e'.symm)))).mono ?_; rintro e w1 ⟨rfl, ⟨p1, e1, h1⟩, ⟨p2, e2, h2⟩, k1, s1⟩
  cases e1
  cases e2
  have k1 : Keep (fun x => x = c k ∨ x = c j) w w1 := k1.mono (fun x _ m => by rcases m with m | m <;> cases m; exact .inl rfl; exact .inr rfl)
  have hck := (h.bell k hk).ch
  have hcj := (h.bell j hj).ch
  have off : ∀ {x : Nat} {t : TypeId} {cs : List Value}, Blk w x t cs → ¬ (x = c k ∨ x = c j) := fun hb m => by
    rcases m with m | m
    · exact hck.ne_ hb m.symm
    · exact hcj.ne_ hb m.symm
  refine ⟨rfl, ⟨h.bs.keep k1 (off h.bs), h.ms.keep k1 (off h.ms), h.ws.keep k1 (off h.ws), fun i hi => ?_, fun i hi => (h.row i hi).keep k1 (fun g hg x => ?_), h.cne, h.gne, h.loc, h.log, h.lo9, h.keep.from_ k1 (fun x m => ?_)⟩, k1⟩
  · by_cases ej : i = j
    · subst ej; rw [up_same]; exact h2
    · rw [up_ne ej]
      obtain rfl : i = k := by omega
      rw [up_same]; exact h1
  · obtain ⟨cur, hb⟩ := (h.row i hi).blk hg
    exact off hb x
  · rcases m with rfl | rfl
    · exact h.loc k hk
    · exact h.loc j hj
theorem PS.len (h : PS w0 w b7 b8 b9 p c m A n G l q) (hk : k < 2) (N : Nat) (v : Int) (hv : ((l k).length : Int) = v) :
    Calls Try.prog 13 #[.pointer (some ⟨p k, 0, none⟩)] (w.drewN N) fun e w' => e = .returned (.int .i64 v) ∧ ∃ z, w' = w.drewN z := by
  subst hv
  exact (len_is ((h.bell k hk).nob ((Keep.refl Nob w).drewN N))).mono fun e w' ⟨h1, h2⟩ => ⟨h1, N, h2⟩
/-- A row of the document's turns: in its own block or in a new one; then its head is stored. -/
theorem PS.store (h : PS w0 w b7 b8 b9 p c m A n G l q) (hk : k < 2) {A' : Option Addr} {n' : Nat} {G' : Option Nat} {q' : List Int} (hr : RowAt w' A' n' q' G') (e : Keep (fun x => G k = some x) w w') (hG : ∀ g, G' = some g → G k = some g ∨ w.heap.size ≤ g) (N : Nat) (hN : q'.length = N) :
    PS w0 (w'.setCell ⟨b9, k, none⟩ (.slice A' N n')) b7 b8 b9 p c m (up A k A') (up n k n') (up G k G') l (up q k q') := by
  subst hN
  have off : ∀ {x : Nat} {t : TypeId} {cs : List Value}, Blk w x t cs → t ≠ 3 → ¬ G k = some x := fun hb ht hg => by
    obtain ⟨cur, hb2⟩ := (h.row k hk).blk hg
    exact hb.ne_ hb2 ht rfl
  have offc : ∀ i, i < 2 → ¬ G k = some (c i) := fun i hi hg => by
    obtain ⟨cur, hb2⟩ := (h.row k hk).blk hg
    exact (h.bell i hi).ch.ne_ hb2 rfl
  have b9' := h.ws.keep e (off h.ws (by decide))
  have e2 : Keep (· = b9) w' (w'.setCell ⟨b9, k, none⟩ (.slice A' q'.length n')) := (Keep.refl (· = b9) w').setCell ⟨b9, k, none⟩ _ (fun _ => rfl)
  have row' : ∀ i, i < 2 → RowAt w' (up A k A' i) (up n k n' i) (up q k q' i) (up G k G' i) := fun i hi => by
    by_cases ei : i = k
    · subst ei; simp only [up_same]; exact hr
    · simp only [up_ne ei]
      exact (h.row i hi).keep e (fun g hg => h.gne i k g hi hk ei hg)
  refine ⟨(h.bs.keep e (off h.bs (by decide))).keep e2 ?_, (h.ms.keep e (off h.ms (by decide))).keep e2 ?_, ?_, fun i hi => ((h.bell i hi).keep e (off (h.bell i hi).obj (by decide)) (offc i hi)).keep e2 ?_ ?_, fun i hi => (row' i hi).keep e2 (fun g hg x => ?_), h.cne, fun i j g hi hj hne hg hg2 => ?_, h.loc, fun i g hi hg => ?_, h.lo9, (h.keep.from_ e (fun x m => h.log k x hk m)).at_ e2 h.lo9⟩
  · exact (h.bs.keep e (off h.bs (by decide))).ne_ b9' (by decide)
  · exact (h.ms.keep e (off h.ms (by decide))).ne_ b9' (by decide)
  · have := b9'.setCell k (.slice A' q'.length n')
    rw [two_set hk] at this
    have hf : up (fun i => Value.slice (A i) (q i).length (n i)) k (.slice A' q'.length n') = fun i => .slice (up A k A' i) (up q k q' i).length (up n k n' i) := by
      funext i
      by_cases ei : i = k
      · subst ei; simp only [up_same]
      · simp only [up_ne ei]
    rw [hf] at this
    exact this
  · exact ((h.bell i hi).obj.keep e (off (h.bell i hi).obj (by decide))).ne_ b9' (by decide)
  · exact ((h.bell i hi).ch.keep e (offc i hi)).ne_ b9'
  · obtain ⟨cur, hb⟩ := (row' i hi).blk hg
    exact b9'.ne_ hb (by decide) x.symm
  · by_cases ei : i = k
    · subst ei
      rw [up_same] at hg
      rw [up_ne (Ne.symm hne)] at hg2
      rcases hG g hg with h1 | h1
      · exact h.gne i j g hi hj hne h1 hg2
      · have := (h.row j hj).lt hg2
        omega
    · rw [up_ne ei] at hg
      by_cases ej : j = k
      · subst ej
        rw [up_same] at hg2
        rcases hG g hg2 with h1 | h1
        · exact h.gne i j g hi hj hne hg h1
        · have := (h.row i hi).lt hg
          omega
      · exact h.gne i j g hi hj hne hg (by rwa [up_ne ej] at hg2)
  · by_cases ei : i = k
    · subst ei
      rw [up_same] at hg
      rcases hG g hg with h1 | h1
      · exact h.log i g hi h1
      · have := h.keep.size
        omega
    · rw [up_ne ei] at hg
      exact h.log i g hi hg
/-- In the same world. -/
theorem PS.put (h : PS w0 w b7 b8 b9 p c m A n G l q) (hk : k < 2) {A' : Option Addr} {n' : Nat} {G' : Option Nat} {q' : List Int} (hr : RowAt w A' n' q' G') (hG : ∀ g, G' = some g → G k = some g) (N : Nat) (hN : q'.length = N) :
    PS w0 (w.setCell ⟨b9, k, none⟩ (.slice A' N n')) b7 b8 b9 p c m (up A k A') (up n k n') (up G k G') l (up q k q') :=
  h.store hk hr (Keep.refl _ _) (fun g hg => .inl (hG g hg)) N hN
theorem PS.congr {l' q' : Nat → List Int} (h : PS w0 w b7 b8 b9 p c m A n G l q) (h1 : ∀ i, i < 2 → l i = l' i) (h2 : ∀ i, i < 2 → q i = q' i) : PS w0 w b7 b8 b9 p c m A n G l' q' := by
  refine ⟨h.bs, h.ms, ?_, fun i hi => h1 i hi ▸ h.bell i hi, fun i hi => h2 i hi ▸ h.row i hi, h.cne, h.gne, h.loc, h.log, h.lo9, h.keep⟩
  have e : (two fun i => Value.slice (A i) (q' i).length (n i)) = two fun i => .slice (A i) (q i).length (n i) := by
    simp only [two]
    rw [h2 0 (by decide), h2 1 (by decide)]
  rw [e]
  exact h.ws
theorem PS.small (h : PS w0 w b7 b8 b9 p c m A n G l q) (hk : k < 2) : (l k).length ≤ m k ∧ m k ≤ 64 := ⟨(h.bell k hk).room, (h.bell k hk).small⟩
end
set_option maxHeartbeats 1000000 in
/-- Rows that read the same are told so. -/
theorem same_at {A B : Option Addr} {n c d : Nat} {l : List Int} {w : World} (ha : LiesAt w A l) (hb : LiesAt w B l) (hn : n = l.length) (hl : n ≤ 1000000) :
    Calls Try.prog 10 #[.slice A n c, .slice B n d] w fun e w' => e = .returned (.bool true) ∧ Keep Nob w w' := by
  have HA := Lib.hid ha
  have HB := Lib.hid hb
  have HN := Lib.hid hn
  clear ha hb hn
  go_enter Try.func10, Try.ntmps10
  go_wp2
  go_loopw [5] (fun s wx => ∃ k : Nat, k ≤ n ∧ s = .int .i64 k ∧ Keep Nob w wx) (fun s _ => n - (intOf s).toNat)
  case atStart => exact ⟨0, Nat.zero_le _, rfl, Keep.refl _ _⟩
  case round =>
    obtain ⟨k, hk, rfl, hK⟩ := hrel
    by_cases hlt : k < n
    · obtain ⟨ga, oa, rfl, ca⟩ := HA.out.nob hK k (by rw [← HN.out]; exact hlt)
      obtain ⟨gb, ob, rfl, cb⟩ := HB.out.nob hK k (by rw [← HN.out]; exact hlt)
      generalize l.getD k 0 = x at *
      go_wp2_with fail
      go_region
      go_wp2
      go_roundw
      case rel => exact ⟨k + 1, by omega, by go_num, hK.drew⟩
      case measure => simp [intOf]; omega
    · obtain rfl : k = n := by omega
      go_wp2
      go_ret
      exact ⟨rfl, hK⟩
end Go.Proofs.Ytbieffenicojpaa
