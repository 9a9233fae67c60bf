/- The document's PipeOf. -/
import Derived.Test.YtojciodjffahnaaRinS
import Derived.Test.YtojciodjffahnaaRin3
import Derived.Deep.RegionHeld3
import Derived.Deep.CutBlock
namespace Go.Proofs.Ytojciodjffahnaa.Ri
open Go.RowKit
set_option linter.unusedVariables false
set_option linter.unusedSimpArgs false
theorem pc_set_ (a b c d : Int) (l : List UInt8) (j : Nat) (y : UInt8) (u : Int) (hu : ((y.toNat : Nat) : Int) = u) : (pc ⟨a, b, c, d, l⟩).set (4 + j) (.int .u8 u) = pc ⟨a, b, c, d, l.set j y⟩ := by
  rw [Nat.add_comm]
  show _ :: _ :: _ :: _ :: (bytes l).set j _ = _
  rw [bytes_set l j y u hu]; rfl
/-- The Data while it is read: the first k bytes are there. -/
def got (l : List UInt8) (k : Nat) : List UInt8 := (l.drop 8).take k ++ List.replicate (32 - k) 0
theorem got_len {l : List UInt8} (h : l.length = 40) {k : Nat} (hk : k ≤ 32) : (got l k).length = 32 := by simp [got, h]; omega
theorem got_zero (l : List UInt8) : got l 0 = nod := by simp [got, nod]
theorem got_all {l : List UInt8} (h : l.length = 40) : got l 32 = l.drop 8 := by
  unfold got
  rw [List.take_of_length_le (by simp [h])]; simp
theorem got_set {l : List UInt8} (h : l.length = 40) {k : Nat} (hk : k < 32) : (got l k).set k (l.getD (8 + k) 0) = got l (k + 1) := by
  have hl : ((l.drop 8).take k).length = k := by simp [h]; omega
  have hd : (l.drop 8).getD k 0 = l.getD (8 + k) 0 := by simp [List.getD_eq_getElem?_getD, List.getElem?_drop]
  unfold got
  rw [List.set_append_right _ _ (by rw [hl]; exact Nat.le_refl _), hl, Nat.sub_self, show 32 - k = (32 - (k + 1)) + 1 from by omega, List.replicate_succ, List.set_cons_zero, take_one (by simp [h]; omega), hd, List.append_assoc]
  rfl
set_option maxHeartbeats 4000000 in
set_option maxRecDepth 100000 in
theorem pipeof_is (l : List UInt8) (hl : l.length ≤ 1000) (w : World) (R : Pp) (d : Int) (hd : dcd l = (R, d)) :
    Calls Try.prog 17 #[.string (str l)] w fun e w' => e = .returned (.tuple #[pv R, .int .i64 d]) ∧ Keep Nob w w' := by
  have hsz := str_size l
  have HB := Lib.hid (fun w v h => rblank_is (w := w) (l := l) (by omega) v h)
  have hat : ∀ k (hk : k < (str l).size), (str l)[k] = l.getD k 0 := fun k hk => str_at l k hk
  have HAT := Lib.hid hat
  have HD := Lib.hid hd
  have hl8 : l.length = 40 ∨ l.length ≠ 40 := by omega
  rcases hl8 with h8 | h8
  rotate_left
  · have hne : (((str l).size : Int) != 40) = true := by rw [hsz]; simpa using (show ((l.length : Nat) : Int) ≠ 40 from by omega)
    have hsl : (str l).size ≤ 1000 := by rw [hsz]; exact hl
    have hd2 : (noP, (2 : Int)) = (R, d) := by rw [← HD.out, dcd, if_neg h8]
    cases hd2
    clear HB HAT hd HD hat hsz hl h8
    generalize str l = s at *
    go_enter Try.func17, Try.ntmps17
    go_upto_region 1 with (refine wpList_al rfl rfl ?_; intro w0 hz0 kz hs0; clear hs0)
    go_wp2_with (first | (refine wpList_bu0 rfl rfl ?_) | (refine wpList_st rfl _ _ rfl _ noP noP rfl rfl rfl rfl hz0 ?_; intro w2 hr2 hk2 hs2; clear hs2))
    (try simp only [Exit.inBlock, Exit.then])
    refine bodyPost_ret (v := .tuple #[pv noP, .int .i64 2]) (results_pair rfl _ _ w.heap.size noP rfl rfl hr2 _ rfl) rfl ?_
    exact ⟨rfl, kz.trans hk2 (fun b hb e => by have h3 : b = w.heap.size := e; omega)⟩
  cases hn : allNought l with
  | true =>
    have hd2 : (noP, (0 : Int)) = (R, d) := by rw [← HD.out, dcd, if_pos h8, hn, if_pos rfl]
    cases hd2
    have HB2 := Lib.hid (fun w => HB.out w true hn)
    have hsz2 : (str l).size = 40 := by rw [hsz, h8]
    clear HB HAT hd HD hat hsz hl hn
    generalize str l = s at *
    go_enter Try.func17, Try.ntmps17
    go_upto_region 1 with (refine wpList_al rfl rfl ?_; intro w0 hz0 kz hs0; clear hs0)
    go_wp2_with fail
    refine (HB2.out _).mono ?_; rintro e w1 ⟨rfl, rfl⟩
    go_wp2_with (first | (refine wpList_bu0 rfl rfl ?_) | (refine wpList_st rfl _ _ rfl _ noP noP rfl rfl rfl rfl hz0 ?_; intro w2 hr2 hk2 hs2; clear hs2))
    (try simp only [Exit.inBlock, Exit.then])
    refine bodyPost_ret (v := .tuple #[pv noP, .int .i64 0]) (results_pair rfl _ _ w.heap.size noP rfl rfl hr2 _ rfl) rfl ?_
    exact ⟨rfl, kz.trans hk2 (fun b hb e => by have h3 : b = w.heap.size := e; omega)⟩
  | false =>
  have HB2 := Lib.hid (fun w => HB.out w false hn)
  have hsz2 : (str l).size = 40 := by rw [hsz, h8]
  have hd2 : (if gd l then (rd l, (1 : Int)) else (noP, 2)) = (R, d) := by rw [← HD.out]; unfold dcd; rw [if_pos h8, hn]; rfl
  have hgd : (okd (rd l) && enc (rd l) == l) = gd l := rfl
  rw [← hgd] at hd2
  have hsl : (str l).toList = l := str_tl l
  have HY := Lib.hid (fun (i : Int) (k : Nat) (hi : i = k) (hk : k < 40) => index_str (str l) i k hi (by omega) _ (HAT.out k (by omega)))
  have y0 := HY.out 1 1 rfl (by omega)
  have y1 := HY.out 2 2 rfl (by omega)
  have y2 := HY.out 3 3 rfl (by omega)
  have y3 := HY.out 4 4 rfl (by omega)
  have u0 := u8_lt (l.getD 1 0)
  have u1 := u8_lt (l.getD 2 0)
  have u2 := u8_lt (l.getD 3 0)
  have u3 := u8_lt (l.getD 4 0)
  have HG := Lib.hid (fun k (hk : k < 32) => got_set h8 hk)
  have HGL := Lib.hid (fun k (hk : k ≤ 32) => got_len h8 hk)
  have hrl : (rd l).d.length = 32 := rd_len h8
  have hrd : Pp.mk ((l.getD 1 0).toNat : Int) ((l.getD 2 0).toNat : Int) ((l.getD 3 0).toNat : Int) ((l.getD 4 0).toNat : Int) (got l 32) = rd l := by rw [got_all h8]; rfl
  have i0 : IntKind.i64.wrap ((l.getD 1 0).toNat : Int) = ((l.getD 1 0).toNat : Int) := wrap_small_i64 _ (by omega) (by omega)
  have i1 : IntKind.i64.wrap ((l.getD 2 0).toNat : Int) = ((l.getD 2 0).toNat : Int) := wrap_small_i64 _ (by omega) (by omega)
  have i2 : IntKind.i64.wrap ((l.getD 3 0).toNat : Int) = ((l.getD 3 0).toNat : Int) := wrap_small_i64 _ (by omega) (by omega)
  have i3 : IntKind.i64.wrap ((l.getD 4 0).toNat : Int) = ((l.getD 4 0).toNat : Int) := wrap_small_i64 _ (by omega) (by omega)
  generalize rd l = P at *
  generalize ((l.getD 1 0).toNat : Int) = x0 at *
  generalize ((l.getD 2 0).toNat : Int) = x1 at *
  generalize ((l.getD 3 0).toNat : Int) = x2 at *
  generalize ((l.getD 4 0).toNat : Int) = x3 at *
  have hRD : P = ⟨x0, x1, x2, x3, got l 32⟩ := hrd.symm
  have HRD := Lib.hid hRD
  have HRL := Lib.hid hrl
  have QO := Lib.hid (fun w v h => pipeok_is P w v h)
  have QB := Lib.hid (fun w => pipebytes_is P hrl w)
  have HD2 := Lib.hid hd2
  have HSL := Lib.hid hsl
  clear HB hd HD hat hsz hl hn hd2 hsl u0 u1 u2 u3 hgd h8 hrd hRD hrl HAT
  generalize str l = s at *
  unfold pv at QO QB
  go_enter Try.func17, Try.ntmps17
  go_upto_region 1 with (refine wpList_al rfl rfl ?_; intro w0 hz0 kz hs0; clear hs0)
  go_wp2_with fail
  refine (HB2.out _).mono ?_; rintro e w1 ⟨rfl, rfl⟩
  go_upto_region 5 with fail
  have hz1 := hz0.drew
  have k1 := kz.drew
  clear hz0 kz HB2
  refine wp_region_held_drew (S := (fun _ => True)) (by kernel_rfl) trivial (fun hHeld => ?_)
  generalize w0.drew = wd at *
  refine wpAnyH_take (i := 0) (v := ?_) rfl (by kernel_rfl) (by kernel_rfl) (by kernel_rfl) (fun _ _ _ h => h) (Or.inl ⟨by rfl, ?_⟩) (by assumption) ?_
  rotate_left
  · (intro w hSw; (try dsimp only at hSw); go_simp; try with_reducible rfl)
  try simp only [Act.put, List.getElem_toArray, List.getElem_cons_zero, List.getElem_cons_succ, List.setIfInBounds_toArray, List.set_cons_zero, List.set_cons_succ]
  refine wpAnyH_take (i := 1) (v := ?_) rfl (by kernel_rfl) (by kernel_rfl) (by kernel_rfl) (fun _ _ _ h => h) (Or.inl ⟨by rfl, ?_⟩) (by assumption) ?_
  rotate_left
  · (intro w hSw; (try dsimp only at hSw); go_simp; try with_reducible rfl)
  try simp only [Act.put, List.getElem_toArray, List.getElem_cons_zero, List.getElem_cons_succ, List.setIfInBounds_toArray, List.set_cons_zero, List.set_cons_succ]
  refine wpAnyH_take (i := 2) (v := ?_) rfl (by kernel_rfl) (by kernel_rfl) (by kernel_rfl) (fun _ _ _ h => h) (Or.inl ⟨by rfl, ?_⟩) (by assumption) ?_
  rotate_left
  · (intro w hSw; (try dsimp only at hSw); go_simp; try with_reducible rfl)
  try simp only [Act.put, List.getElem_toArray, List.getElem_cons_zero, List.getElem_cons_succ, List.setIfInBounds_toArray, List.set_cons_zero, List.set_cons_succ]
  refine wpAnyH_take (i := 3) (v := ?_) rfl (by kernel_rfl) (by kernel_rfl) (by kernel_rfl) (fun _ _ _ h => h) (Or.inl ⟨by rfl, ?_⟩) (by assumption) ?_
  rotate_left
  · (intro w hSw; (try dsimp only at hSw); go_simp; try with_reducible rfl)
  try simp only [Act.put, List.getElem_toArray, List.getElem_cons_zero, List.getElem_cons_succ, List.setIfInBounds_toArray, List.set_cons_zero, List.set_cons_succ]
  refine wpAnyH_take (i := 4) (v := ?_) rfl (by kernel_rfl) (by kernel_rfl) (by kernel_rfl) (fun _ _ _ h => h) (Or.inl ⟨by rfl, ?_⟩) (by assumption) ?_
  rotate_left
  · (intro w hSw; (try dsimp only at hSw); go_simp; try with_reducible rfl)
  try simp only [Act.put, List.getElem_toArray, List.getElem_cons_zero, List.getElem_cons_succ, List.setIfInBounds_toArray, List.set_cons_zero, List.set_cons_succ]
  refine wpAnyH_take (i := 5) (v := ?_) rfl (by kernel_rfl) (by kernel_rfl) (by kernel_rfl) (fun _ _ _ h => h) (Or.inl ⟨by rfl, ?_⟩) (by assumption) ?_
  rotate_left
  · (intro w hSw; (try dsimp only at hSw); go_simp; try with_reducible rfl)
  try simp only [Act.put, List.getElem_toArray, List.getElem_cons_zero, List.getElem_cons_succ, List.setIfInBounds_toArray, List.set_cons_zero, List.set_cons_succ]
  refine wpAnyH_take (i := 6) (v := ?_) rfl (by kernel_rfl) (by kernel_rfl) (by kernel_rfl) (fun _ _ _ h => h) (Or.inl ⟨by rfl, ?_⟩) (by assumption) ?_
  rotate_left
  · (intro w hSw; (try dsimp only at hSw); go_simp; try with_reducible rfl)
  try simp only [Act.put, List.getElem_toArray, List.getElem_cons_zero, List.getElem_cons_succ, List.setIfInBounds_toArray, List.set_cons_zero, List.set_cons_succ]
  refine wpAnyH_take (i := 7) (v := ?_) rfl (by kernel_rfl) (by kernel_rfl) (by kernel_rfl) (fun _ _ _ h => h) (Or.inl ⟨by rfl, ?_⟩) (by assumption) ?_
  rotate_left
  · (intro w hSw; (try dsimp only at hSw); go_simp; try with_reducible rfl)
  try simp only [Act.put, List.getElem_toArray, List.getElem_cons_zero, List.getElem_cons_succ, List.setIfInBounds_toArray, List.set_cons_zero, List.set_cons_succ]
  refine wpAnyH_take (i := 8) (v := ?_) rfl (by kernel_rfl) (by kernel_rfl) (by kernel_rfl) (fun _ _ _ h => h) (Or.inl ⟨by rfl, ?_⟩) (by assumption) ?_
  rotate_left
  · (intro w hSw; (try dsimp only at hSw); go_simp; try with_reducible rfl)
  try simp only [Act.put, List.getElem_toArray, List.getElem_cons_zero, List.getElem_cons_succ, List.setIfInBounds_toArray, List.set_cons_zero, List.set_cons_succ]
  refine wpAnyH_take (i := 9) (v := ?_) rfl (by kernel_rfl) (by kernel_rfl) (by kernel_rfl) (fun _ _ _ h => h) (Or.inl ⟨by rfl, ?_⟩) (by assumption) ?_
  rotate_left
  · (intro w hSw; (try dsimp only at hSw); go_simp; try with_reducible rfl)
  try simp only [Act.put, List.getElem_toArray, List.getElem_cons_zero, List.getElem_cons_succ, List.setIfInBounds_toArray, List.set_cons_zero, List.set_cons_succ]
  refine wpAnyH_take (i := 10) (v := ?_) rfl (by kernel_rfl) (by kernel_rfl) (by kernel_rfl) (fun _ _ _ h => h) (Or.inl ⟨by rfl, ?_⟩) (by assumption) ?_
  rotate_left
  · (intro w hSw; (try dsimp only at hSw); go_simp; try with_reducible rfl)
  try simp only [Act.put, List.getElem_toArray, List.getElem_cons_zero, List.getElem_cons_succ, List.setIfInBounds_toArray, List.set_cons_zero, List.set_cons_succ]
  refine wpAnyH_take (i := 11) (v := ?_) rfl (by kernel_rfl) (by kernel_rfl) (by kernel_rfl) (fun _ _ _ h => h) (Or.inl ⟨by rfl, ?_⟩) (by assumption) ?_
  rotate_left
  · (intro w hSw; (try dsimp only at hSw); go_simp; try with_reducible rfl)
  try simp only [Act.put, List.getElem_toArray, List.getElem_cons_zero, List.getElem_cons_succ, List.setIfInBounds_toArray, List.set_cons_zero, List.set_cons_succ]
  refine wpAnyH_take (i := 12) (v := ?_) rfl (by kernel_rfl) (by kernel_rfl) (by kernel_rfl) (fun _ _ _ h => h) (Or.inl ⟨by rfl, ?_⟩) (by assumption) ?_
  rotate_left
  · (intro w hSw; (try dsimp only at hSw); refine exec_bu (.tmp 15) (.tmp 18) (.tmp 21) (.tmp 24) ?_ x0 x1 x2 x3 ?_ ?_ ?_ ?_ <;> rfl)
  try simp only [Act.put, List.getElem_toArray, List.getElem_cons_zero, List.getElem_cons_succ, List.setIfInBounds_toArray, List.set_cons_zero, List.set_cons_succ]
  refine wpAnyH_ready (rs := [13]) (by kernel_rfl) (by simp) ?_
  refine AllReadyH.cons rfl (fun K hK => ?_) AllReadyH.nil
  refine wp_al rfl ?_; intro wa hp0 kA sA; clear sA
  refine hK.out _ _ ?_ (fun hHeld => ?_)
  · exact trivial
  clear hK K
  try simp only [Act.put, List.getElem_toArray, List.getElem_cons_zero, List.getElem_cons_succ, List.setIfInBounds_toArray, List.set_cons_zero, List.set_cons_succ]
  have hgr : w.heap.size ≠ wd.heap.size := by have := hz1.lt; omega
  have hgd : wd.heap.size ≤ wd.heap.size := Nat.le_refl _
  generalize hgpe : wd.heap.size = gp at *
  refine wpAnyH_ready (rs := [14]) (by kernel_rfl) (by simp) ?_
  refine AllReadyH.cons rfl (fun K hK => ?_) AllReadyH.nil
  rw [if_pos (by rfl)]
  refine wp_store_ (old := noP) (q := ⟨x0, x1, x2, x3, nod⟩) rfl rfl rfl rfl rfl hp0 ?_
  have kB := (Keep.refl (· = gp) wa).setRow gp (pc ⟨x0, x1, x2, x3, nod⟩).toArray (fun _ => rfl)
  have hp1 : Blk _ gp 26 (pc ⟨x0, x1, x2, x3, nod⟩) := hp0.setRow _
  refine hK.out _ _ ?_ (fun hHeld => ?_)
  · exact trivial
  clear hK K
  try simp only [Act.put, List.getElem_toArray, List.getElem_cons_zero, List.getElem_cons_succ, List.setIfInBounds_toArray, List.set_cons_zero, List.set_cons_succ]
  refine wpAnyH_done (by kernel_rfl) ?_ _
  clear hp0 hgd
  generalize wa.setRow gp (pc ⟨x0, x1, x2, x3, nod⟩).toArray = w2 at *
  have hz2 : Blk w2 w.heap.size 26 (pc noP) := (hz1.nob kA).keep kB hgr
  have hk2 : Keep Nob w w2 := (k1.nobt kA).trans kB (fun b hb e => by have h3 : b = gp := e; have := k1.size; omega)
  have hgn : w.heap.size ≤ gp := by have := k1.size; omega
  clear hz1 k1 kA kB i0 i1 i2 i3 y0 y1 y2 y3
  rw [← got_zero l] at hp1
  go_wp2_with fail
  go_loopw [5] (fun s5 wx => ∃ k : Nat, k ≤ 32 ∧ s5 = .int .i64 k ∧ Blk wx gp 26 (pc ⟨x0, x1, x2, x3, got l k⟩) ∧ Blk wx w.heap.size 26 (pc noP) ∧ Keep Nob w wx) (fun s5 _ => 32 - (intOf s5).toNat)
  case atStart => exact ⟨0, Nat.zero_le _, rfl, hp1, hz2, hk2⟩
  case round =>
    obtain ⟨k, hk, rfl, hp3, hz3, hk3⟩ := hrel
    clear hp1 hz2 hk2
    by_cases hlt : k < 32
    · obtain ⟨i, hi⟩ : ∃ i : Int, (8 : Int) + (k : Int) = i := ⟨_, rfl⟩
      have hwi : IntKind.i64.wrap (8 + (k : Int)) = i := by rw [hi]; exact wrap_small_i64 _ (by omega) (by omega)
      have y := HY.out i (8 + k) (by omega) (by omega)
      have hset := HG.out k hlt
      have hgl := HGL.out k hk
      generalize l.getD (8 + k) 0 = t at *
      have HSET := Lib.hid hset
      have fr := hp3.frozen (4 + k)
      have cc : ∃ x, _ = some x := ⟨_, cellD hp3 (k := k) (by rw [hgl]; exact hlt)⟩
      obtain ⟨x, cc⟩ := cc
      obtain ⟨u, hu⟩ : ∃ u, ((t.toNat : Nat) : Int) = u := ⟨_, rfl⟩
      rw [hu] at y
      have hp4 : Blk (wr.setCell ⟨gp, 4 + k, none⟩ (.int .u8 u)) gp 26 (pc ⟨x0, x1, x2, x3, got l (k + 1)⟩) := by
        have := hp3.setCell (4 + k) (.int .u8 u)
        rw [pc_set_ _ _ _ _ _ k _ _ hu, HSET.out] at this
        exact this
      have hz4 := hz3.far (p := ⟨gp, 4 + k, none⟩) hgr (.int .u8 u)
      have hk4 := hk3.setCell ⟨gp, 4 + k, none⟩ (.int .u8 u) (fun h => absurd h (by show ¬ gp < _; omega))
      clear hp3 hz3 hk3 hset HSET hu hgl hi
      go_wp2_with fail
      go_round
      case rel => exact ⟨k + 1, by omega, by go_num, hp4, hz4, hk4⟩
      case measure => simp [intOf]; omega
    · obtain rfl : k = 32 := by omega
      clear HG HGL HY hlt hk
      have hp7 := hp3
      rw [← HRD.out] at hp7
      have hr7 := hz3
      have hk7 := hk3
      clear hp3 hz3 hk3
      have hd3 := HD2.out
      cases ho : okd P with
      | false =>
        have hd4 : (noP, (2 : Int)) = (R, d) := by rw [← hd3, ho]; rfl
        cases hd4
        have QQ := Lib.hid (fun w => QO.out w false ho)
        clear QO hd3 HD2 ho HSL
        go_wp2_with (refine wpList_ld rfl (.tmp 4) rfl gp P rfl HRL.out hp7 ?_)
        refine (QQ.out _).mono ?_; rintro e w8 ⟨rfl, k8⟩
        have hr8 := hr7.nob k8
        have hk8 := hk7.nobt k8
        clear hp7 hr7 hk7 k8
        go_wp2_with (first | (refine wpList_bu0 rfl rfl ?_) | (refine wpList_st rfl _ _ rfl _ noP noP rfl rfl rfl rfl hr8 ?_; intro w9 hr9 hk9 hs9; clear hs9))
        (try simp only [Exit.inBlock, Exit.then])
        refine bodyPost_ret (v := .tuple #[pv noP, .int .i64 2]) (results_pair rfl _ _ w.heap.size noP rfl rfl hr9 _ rfl) rfl ?_
        exact ⟨rfl, hk8.trans hk9 (fun b hb e => by have h3 : b = w.heap.size := e; omega)⟩
      | true =>
      have QQ := Lib.hid (fun w => QO.out w true ho)
      have heq : ((str (enc P)).toList == s.toList) = (enc P == l) := by rw [HSL.out, str_tl]
      rw [ho, Bool.true_and] at hd3
      clear QO HD2 ho HSL
      generalize str (enc P) = X at *
      generalize (enc P == l) = v at *
      go_wp2_with (refine wpList_ld rfl (.tmp 4) rfl gp P rfl HRL.out hp7 ?_)
      refine (QQ.out _).mono ?_; rintro e w8 ⟨rfl, k8⟩
      have hr8 := hr7.nob k8
      have hp8 := hp7.nob k8
      have hk8 := hk7.nobt k8
      clear hp7 hr7 hk7 k8
      go_wp2_with (refine wpList_ldw (by rfl) (.tmp 4) rfl gp P rfl HRL.out hp8 ?_)
      refine (QB.out _).mono ?_; rintro e w9 ⟨rfl, k9⟩
      have hr9 := hr8.nob k9
      have hp9 := hp8.nob k9
      have hk9 := hk8.nobt k9
      clear hp8 hr8 hk8 k9
      cases v with
      | false =>
        have hd4 : (noP, (2 : Int)) = (R, d) := by rw [← hd3]; rfl
        cases hd4
        clear hd3
        go_wp2_with (first | (refine wpList_bu0 rfl rfl ?_) | (refine wpList_st rfl _ _ rfl _ noP noP rfl rfl rfl rfl hr9 ?_; intro wa hra hka hsa; clear hsa))
        (try simp only [Exit.inBlock, Exit.then])
        refine bodyPost_ret (v := .tuple #[pv noP, .int .i64 2]) (results_pair rfl _ _ w.heap.size noP rfl rfl hra _ rfl) rfl ?_
        exact ⟨rfl, hk9.trans hka (fun b hb e => by have h3 : b = w.heap.size := e; omega)⟩
      | true =>
        rw [if_pos rfl] at hd3
        have hd4 : P = R ∧ (1 : Int) = d := by cases hd3; exact ⟨rfl, rfl⟩
        obtain ⟨rfl, rfl⟩ := hd4
        go_wp2_with (first | (refine wpList_ld rfl (.tmp 4) rfl gp P rfl HRL.out hp9 ?_) | (refine wpList_st rfl _ _ rfl _ P noP rfl rfl HRL.out rfl hr9 ?_; intro wa hra hka hsa; clear hsa))
        (try simp only [Exit.inBlock, Exit.then])
        refine bodyPost_ret (v := .tuple #[pv P, .int .i64 1]) (results_pair rfl _ _ w.heap.size P HRL.out rfl hra _ rfl) rfl ?_
        exact ⟨rfl, hk9.trans hka (fun b hb e => by have h3 : b = w.heap.size := e; omega)⟩
end Go.Proofs.Ytojciodjffahnaa.Ri
