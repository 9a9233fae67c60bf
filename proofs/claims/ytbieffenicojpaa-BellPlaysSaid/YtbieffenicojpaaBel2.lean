/- Contracts of package bell: Drain; a Bell that a call has made; the document's SameInts; awake. -/
import Derived.Test.YtbieffenicojpaaBel1
namespace Go.Proofs.Ytbieffenicojpaa
open Go.RowKit
set_option linter.unusedVariables false
set_option linter.unusedSimpArgs false
theorem ints_snoc (l : List Int) (x : Int) : ints (l ++ [x]) = ints l ++ [.int .i64 x] := by simp [ints]
theorem drop_head (l : List Int) (i : Nat) : (l.drop i).headD 0 = l.getD i 0 := by
  rw [List.headD_eq_head?_getD, List.head?_drop, List.getD_eq_getElem?_getD]
theorem drop_more (l : List Int) (i : Nat) : (!(l.drop i).isEmpty) = decide (i < l.length) := by
  by_cases h : i < l.length
  · rw [decide_eq_true h]
    cases hd : l.drop i with
    | nil =>
      have := congrArg List.length hd
      simp at this
      omega
    | cons x r => rfl
  · rw [decide_eq_false h, List.drop_of_length_le (by omega)]
    rfl
theorem take_next (l : List Int) {i : Nat} (h : i < l.length) : ints (l.take i) ++ [.int .i64 (l.getD i 0)] = ints (l.take (i + 1)) := by
  rw [List.take_succ_eq_append_getElem h, ints_snoc, List.getD_eq_getElem?_getD, List.getElem?_eq_getElem h]
  rfl
/-- What Drain has done behind i rounds. -/
structure Drn (w0 w : World) (p c cap : Nat) (l : List Int) (i : Nat) (A : Option Addr) (n : Nat) : Prop where
  le : i ≤ l.length
  v : Vec w 3 1 A i n (ints (l.take i))
  own : ∀ g, Own A g → w0.heap.size ≤ g
  bell : IsBell w p c cap (l.drop (i + 1))
  keep : Keep (· = c) w0 w
section
variable {w : World} {p c cap k : Nat} {l : List Int}
theorem take_drop (h : IsBell w p c cap (l.drop k)) :
    Calls Try.prog 9 #[.pointer (some ⟨p, 0, none⟩)] w fun e w' => e = .returned (.tuple #[.int .i64 (l.getD k 0), .bool (decide (k < l.length))]) ∧ IsBell w' p c cap (l.drop (k + 1)) ∧ Keep (· = c) w w' ∧ w'.heap.size = w.heap.size := by
  refine (take_is h.isB).mono ?_; rintro e w1 ⟨rfl, ⟨p', hp, h1⟩, k1, s1⟩
  cases hp
  rw [List.tail_drop] at h1
  exact ⟨by rw [drop_head, drop_more], h1, k1.mono (fun x _ m => by cases m; rfl), s1⟩
theorem vec_off {e sz n m : Nat} {A : Option Addr} {xs : List Value} {w' : World} (h : IsBell w p c cap l) (v : Vec w e sz A n m xs) (k : Keep (· = c) w w') : Vec w' e sz A n m xs :=
  v.keep k (fun g hg ec => by
    subst ec
    rcases v.2 with ⟨he, _⟩ | ⟨g', cap', cur, he, _, hg', _⟩
    · obtain ⟨a, rfl, _⟩ := hg
      cases he
    · obtain ⟨a, rfl, hb⟩ := hg
      cases he
      exact h.ch.ne_ (g := g') (t := e) (cs := cur.toList) (by simpa [Blk] using hg') hb.symm)
theorem turn_row {w1 w2 : World} {i n : Nat} {A : Option Addr} (H : Drn w w1 p c cap l i A n) (o : Obj) (k : Keep (Own A) (w1.alloc o) w2) {e sz m n2 : Nat} {A2 : Option Addr} {xs : List Value} (_ : Vec w2 e sz A2 m n2 xs) : IsBell w2 p c cap (l.drop (i + 1)) ∧ Keep (· = c) w w2 := by
  have ka : Keep Nob w1 (w1.alloc o) := (Keep.refl _ _).alloc _
  have na : ¬ Own A p := by
    rintro ⟨a, rfl, hb⟩
    rcases H.v.2 with ⟨he, _⟩ | ⟨g', cap', cur, he, _, hg', _⟩
    · cases he
    · cases he
      have hb : g' = p := hb
      subst hb
      have hb2 : Blk w1 g' 3 cur.toList := by simpa [Blk] using hg'
      exact H.bell.obj.ne_ hb2 (by decide) rfl
  have nc : ¬ Own A c := by
    rintro ⟨a, rfl, hb⟩
    rcases H.v.2 with ⟨he, _⟩ | ⟨g', cap', cur, he, _, hg', _⟩
    · cases he
    · cases he
      have hb : g' = c := hb
      subst hb
      exact H.bell.ch.ne_ (g := g') (t := 3) (cs := cur.toList) (by simpa [Blk] using hg') rfl
  exact ⟨(H.bell.nob ka).keep k na nc, (H.keep.trans ka (fun _ _ f => f.elim)).trans k (fun x hx m => absurd (H.own x m) (by omega))⟩
set_option maxHeartbeats 1000000 in
theorem drain_is (h : IsBell w p c cap l) :
    Calls Try.prog 11 #[.pointer (some ⟨p, 0, none⟩)] w fun e w' => ∃ A n, e = .returned (.slice A l.length n) ∧ Drn w w' p c cap l l.length A n := by
  have hsm := h.small
  have hrm := h.room
  have t0 := take_drop (k := 0) (l := l) h
  go_enter Try.func11, Try.ntmps11
  go_wp2_with fail
  refine t0.mono ?_; rintro e w1 ⟨rfl, h1, k1, s1⟩
  clear t0
  go_wp2_with fail
  go_loopw [3, 4, 5] (fun s3 s4 s5 wx => ∃ (i : Nat) (A : Option Addr) (n : Nat), s3 = .slice A i n ∧ s4 = .int .i64 (l.getD i 0) ∧ s5 = .bool (decide (i < l.length)) ∧ Drn w wx p c cap l i A n) (fun s3 _ _ _ => 100 - lenOf s3)
  case atStart => exact ⟨0, none, 0, rfl, rfl, rfl, Nat.zero_le _, Vec.nil _ _ _, (fun g ⟨a, ha, _⟩ => by cases ha), h1, k1⟩
  case round =>
    obtain ⟨i, A, n, rfl, rfl, rfl, H⟩ := hrel
    have hle := H.le
    by_cases hlt : i < l.length
    · rw [decide_eq_true hlt]
      have hv := H.v
      have hkp := H.keep
      have hto := take_next l hlt
      generalize l.getD i 0 = x at *
      go_wp2_with (at_builtin; go_loud (refine wpList_ap rfl _ _ 28 rfl 3 1 8 (.int .i64 0) Try.underlying28 infoint rfl (by decide) A i n _ rfl (hv.keep ((Keep.refl Nob wr).alloc _) (fun _ _ f => f)) (some ⟨wr.heap.size, 0, none⟩) 1 1 [.int .i64 x] rfl _ (Nat.mul_one _) (reads_all (Blk.new wr 3 [.int .i64 x]) rfl) (by simp [Value.oneCell']) (by unfold maxLen; omega) (by omega) ?_); intro A2 n2 w2 hv2 hk2 ho2)
      obtain ⟨b2, kk⟩ := turn_row H _ hk2 hv2
      refine (take_drop b2).mono ?_; rintro e w3 ⟨rfl, h3, k3, s3⟩
      have hv3 := vec_off b2 hv2 k3
      rw [hto] at hv3
      clear hv hv2
      go_wp2_with fail
      go_roundw
      case rel => exact ⟨i + 1, A2, n2, rfl, rfl, rfl, by omega, hv3, fun g hg => (ho2 g hg).elim (H.own g) (fun e => by have := hkp.size; simp at e; omega), h3, kk.trans k3 (fun _ _ m => m)⟩
      case measure => simp only [lenOf]; omega
    · rw [decide_eq_false hlt]
      obtain rfl : i = l.length := by omega
      go_wp2_with fail
      go_ret
      exact ⟨A, n, rfl, H⟩
end
set_option maxHeartbeats 1000000 in
theorem same_yes {A B : Option Addr} {n c d : Nat} {l : List Int} {w : World} (ha : Vec w 3 1 A n c (ints l)) (hb : Vec w 3 1 B n d (ints l)) (hl : l.length ≤ 1000000) :
    Calls Try.prog 10 #[.slice A n c, .slice B n d] w fun e w' => e = .returned (.bool true) ∧ Keep Nob w w' := by
  have hn : n = l.length := by have := ha.len; rw [ints_len] at this; omega
  go_enter Try.func10, Try.ntmps10
  go_wp2
  go_loopw [5] (fun s wx => ∃ k : Nat, k ≤ n ∧ s = .int .i64 k ∧ Keep Nob w wx) (fun s _ => n - (intOf s).toNat)
  case atStart => exact ⟨0, Nat.zero_le _, rfl, Keep.refl _ _⟩
  case round =>
    obtain ⟨k, hk, rfl, hK⟩ := hrel
    by_cases hlt : k < n
    · obtain ⟨ga, _, rfl, ba, _, _, ta⟩ := (ha.keep hK (fun _ _ f => f)).at_ (by omega)
      obtain ⟨gb, _, rfl, bb, _, _, tb⟩ := (hb.keep hK (fun _ _ f => f)).at_ (by omega)
      obtain ⟨x, hx⟩ : ∃ x, (ints l)[k]? = some (.int .i64 x) := ⟨l.getD k 0, by rw [ints_get, List.getElem?_eq_getElem (by omega), List.getD_eq_getElem?_getD, List.getElem?_eq_getElem (by omega)]; rfl⟩
      have ca : wr.cell? ⟨ga, k, none⟩ = some (.int .i64 x) := by rw [ba.cell, ← hx, ← ta, List.getElem?_take, if_pos (by omega)]
      have cb : wr.cell? ⟨gb, k, none⟩ = some (.int .i64 x) := by rw [bb.cell, ← hx, ← tb, List.getElem?_take, if_pos (by omega)]
      clear ba bb ta tb hx
      go_wp2_with fail
      go_region
      go_wp2
      go_roundw
      case rel => exact ⟨k + 1, by omega, by go_num, hK.drew⟩
      case measure => simp [intOf]; omega
    · obtain rfl : k = n := by omega
      go_wp2
      go_ret
      exact ⟨rfl, hK⟩
/-- A Bell that a call has made. -/
structure B0 (w0 w : World) (p c cap : Nat) (l : List Int) : Prop where
  bell : IsBell w p c cap l
  loc : w0.heap.size ≤ c
  lop : w0.heap.size ≤ p
  keep : Keep (From w0.heap.size) w0 w
section
variable {w0 w w' : World} {p c cap : Nat} {l : List Int}
theorem B0.nob (h : B0 w0 w p c cap l) (k : Keep Nob w w') : B0 w0 w' p c cap l := ⟨h.bell.nob k, h.loc, h.lop, h.keep.nob k⟩
theorem B0.at_ (h : B0 w0 w p c cap l) {l' : List Int} (h' : IsBell w' p c cap l') (k : Keep (· = c) w w') : B0 w0 w' p c cap l' := ⟨h', h.loc, h.lop, h.keep.at_ k h.loc⟩
theorem B0.new (k : Keep (From w0.heap.size) w0 w) (n : Int) (m : Nat) (hm : min (max n 1) 64 = m) :
    Calls Try.prog 6 #[.int .i64 n] w fun e w' => ∃ p, e = .returned (.pointer (some ⟨p, 0, none⟩)) ∧ B0 w0 w' p w.heap.size m [] ∧ p = w.heap.size + 1 ∧ Keep Nob w w' ∧ w'.heap.size = w.heap.size + 2 := by
  refine (new_is w n m hm).mono ?_; rintro e w1 ⟨p, rfl, h, rfl, k1, s1⟩
  have h2 : B0 w0 w1 (w.heap.size + 1) w.heap.size m [] := ⟨h, k.size, Nat.le_succ_of_le k.size, k.nob k1⟩
  exact ⟨_, rfl, h2, rfl, k1, s1⟩
theorem B0.ring (h : B0 w0 w p c cap l) (x : Int) :
    Calls Try.prog 8 #[.pointer (some ⟨p, 0, none⟩), .int .i64 x] w fun e w' => e = .returned (.bool (decide (l.length < cap))) ∧ B0 w0 w' p c cap (rung cap l x) ∧ Keep (· = c) w w' := by
  refine (ring_is h.bell x).mono ?_; rintro e w1 ⟨rfl, h1, k1, s1⟩
  exact ⟨rfl, h.at_ h1 k1, k1⟩
theorem B0.take (h : B0 w0 w p c cap l) :
    Calls Try.prog 9 #[.pointer (some ⟨p, 0, none⟩)] w fun e w' => e = .returned (.tuple #[.int .i64 (l.headD 0), .bool (!l.isEmpty)]) ∧ B0 w0 w' p c cap l.tail ∧ Keep (· = c) w w' := by
  refine (take_is h.bell.isB).mono ?_; rintro e w1 ⟨rfl, ⟨p', hp, h1⟩, k1, s1⟩
  cases hp
  have k1 : Keep (· = c) w w1 := k1.mono (fun x _ m => by cases m; rfl)
  exact ⟨rfl, h.at_ h1 k1, k1⟩
theorem B0.drain (h : B0 w0 w p c cap l) :
    Calls Try.prog 11 #[.pointer (some ⟨p, 0, none⟩)] w fun e w' => ∃ A n, e = .returned (.slice A l.length n) ∧ Vec w' 3 1 A l.length n (ints l) ∧ (∀ g, Own A g → w.heap.size ≤ g) ∧ B0 w0 w' p c cap [] ∧ Keep (· = c) w w' := by
  refine (drain_is h.bell).mono ?_; rintro e w1 ⟨A, n, rfl, H⟩
  have hv := H.v
  rw [List.take_length] at hv
  have hb := H.bell
  rw [List.drop_of_length_le (by omega)] at hb
  exact ⟨A, n, rfl, hv, H.own, h.at_ hb H.keep, H.keep⟩
end
set_option maxHeartbeats 4000000 in
theorem awake_is (w : World) : Calls Try.prog 7 #[] w fun e w' => e = .returned (.bool true) ∧ Keep Nob w w' := by
  go_enter Try.func7, Try.ntmps7
  go_wp2_with fail
  refine (B0.new (Keep.refl (From w.heap.size) w) 1 1 (by decide)).mono ?_; rintro e w1 ⟨p, rfl, h1, -⟩
  go_wp2_with fail
  refine (h1.ring 5).mono ?_; rintro e w2 ⟨rfl, h2, -⟩
  rw [show rung 1 [] 5 = [5] from rfl] at h2
  go_wp2_with fail
  refine (h2.ring 6).mono ?_; rintro e w3 ⟨rfl, h3, -⟩
  rw [show rung 1 [5] 6 = [5] from rfl] at h3
  go_wp2_with fail
  refine h3.take.mono ?_; rintro e w4 ⟨rfl, h4, -⟩
  go_wp2_with fail
  refine h4.take.mono ?_; rintro e w5 ⟨rfl, h5, -⟩
  go_wp2_with fail
  go_ret
  exact ⟨rfl, h5.keep.mono (fun x hx m => absurd (show w.heap.size ≤ x from m) (Nat.not_le_of_lt hx))⟩
end Go.Proofs.Ytbieffenicojpaa
