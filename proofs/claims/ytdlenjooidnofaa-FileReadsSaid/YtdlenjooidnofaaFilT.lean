/- The document's FileOf. -/
import Derived.Test.YtdlenjooidnofaaFilS
import Derived.BigRegion
namespace Go.Proofs.Ytdlenjooidnofaa.Fi
open Go.RowKit
set_option linter.unusedVariables false
set_option linter.unusedSimpArgs false
set_option maxHeartbeats 4000000 in
theorem fileof_is (l : List UInt8) (hl : l.length ≤ 1000) (w : World) (R : List Int) (d : Int) (hd : dcd l = (R, d)) :
    Calls Try.prog 14 #[.string (str l)] w fun e w' => e = .returned (.tuple #[pv R, .int .i64 d]) ∧ Keep Nob w w' := by
  have hsz := str_size l
  have hz0 : Blk (w.alloc (.cells #[.int .i64 0, .int .i64 0, .int .i64 0, .int .i64 0] 23)) w.heap.size 23 (ints noP) := Blk.new w _ _
  have kz : Keep Nob w (w.alloc (.cells #[.int .i64 0, .int .i64 0, .int .i64 0, .int .i64 0] 23)) := (Keep.refl Nob w).alloc _
  have HB := Lib.hid (fun w v h => rblank_is (w := w) (l := l) (by omega) v h)
  have hat : ∀ k (hk : k < (str l).size), (str l)[k] = l.getD k 0 := fun k hk => str_at l k hk
  have HAT := Lib.hid hat
  have HD := Lib.hid hd
  have hl8 : l.length = 8 ∨ l.length ≠ 8 := by omega
  rcases hl8 with h8 | h8
  rotate_left
  · have hne : (((str l).size : Int) != 8) = true := by rw [hsz]; simpa using (show ((l.length : Nat) : Int) ≠ 8 from by omega)
    have hsl : (str l).size ≤ 1000 := by rw [hsz]; exact hl
    have hd2 : (noP, (2 : Int)) = (R, d) := by rw [← HD.out, dcd, if_neg h8]
    cases hd2
    clear HB HAT hd HD hat hsz hl h8
    generalize str l = s at *
    go_enter Try.func14, Try.ntmps14
    go_wp2_with (refine wpList_st rfl _ _ rfl _ noP noP rfl rfl rfl rfl hz0 ?_; intro w2 hr2 hk2 hs2; clear hs2)
    (try simp only [Exit.inBlock, Exit.then])
    refine bodyPost_ret (v := .tuple #[pv noP, .int .i64 2]) (results_pair rfl _ _ w.heap.size noP rfl rfl hr2 _ rfl) rfl ?_
    exact ⟨rfl, kz.trans hk2 (fun b hb e => by have h3 : b = w.heap.size := e; omega)⟩
  cases hn : allNought l with
  | true =>
    have hd2 : (noP, (0 : Int)) = (R, d) := by rw [← HD.out, dcd, if_pos h8, hn, if_pos rfl]
    cases hd2
    have HB2 := Lib.hid (fun w => HB.out w true hn)
    have hsz2 : (str l).size = 8 := by rw [hsz, h8]
    clear HB HAT hd HD hat hsz hl hn
    generalize str l = s at *
    go_enter Try.func14, Try.ntmps14
    go_wp2_with fail
    refine (HB2.out _).mono ?_; rintro e w1 ⟨rfl, rfl⟩
    go_wp2_with (refine wpList_st rfl _ _ rfl _ noP noP rfl rfl rfl rfl hz0 ?_; intro w2 hr2 hk2 hs2; clear hs2)
    (try simp only [Exit.inBlock, Exit.then])
    refine bodyPost_ret (v := .tuple #[pv noP, .int .i64 0]) (results_pair rfl _ _ w.heap.size noP rfl rfl hr2 _ rfl) rfl ?_
    exact ⟨rfl, kz.trans hk2 (fun b hb e => by have h3 : b = w.heap.size := e; omega)⟩
  | false =>
  have HB2 := Lib.hid (fun w => HB.out w false hn)
  have hsz2 : (str l).size = 8 := by rw [hsz, h8]
  have hd2 : (if gd l then (rd l, (1 : Int)) else (noP, 2)) = (R, d) := by rw [← HD.out]; unfold dcd; rw [if_pos h8, hn]; rfl
  have hgd : (okd (rd l) && enc (rd l) == l) = gd l := rfl
  rw [← hgd] at hd2
  have hsl : (str l).toList = l := str_tl l
  have y0 := index_str (str l) 0 0 rfl (by omega) _ (HAT.out 0 (by omega))
  have y1 := index_str (str l) 1 1 rfl (by omega) _ (HAT.out 1 (by omega))
  have y2 := index_str (str l) 2 2 rfl (by omega) _ (HAT.out 2 (by omega))
  have y3 := index_str (str l) 3 3 rfl (by omega) _ (HAT.out 3 (by omega))
  have u0 := u8_lt (l.getD 0 0)
  have u1 := u8_lt (l.getD 1 0)
  have u2 := u8_lt (l.getD 2 0)
  have u3 := u8_lt (l.getD 3 0)
  have hrd : [((l.getD 0 0).toNat : Int), ((l.getD 1 0).toNat : Int), ((l.getD 2 0).toNat : Int), ((l.getD 3 0).toNat : Int)] = rd l := rfl
  have i0 : IntKind.i64.wrap ((l.getD 0 0).toNat : Int) = ((l.getD 0 0).toNat : Int) := wrap_small_i64 _ (by omega) (by omega)
  have i1 : IntKind.i64.wrap ((l.getD 1 0).toNat : Int) = ((l.getD 1 0).toNat : Int) := wrap_small_i64 _ (by omega) (by omega)
  have i2 : IntKind.i64.wrap ((l.getD 2 0).toNat : Int) = ((l.getD 2 0).toNat : Int) := wrap_small_i64 _ (by omega) (by omega)
  have i3 : IntKind.i64.wrap ((l.getD 3 0).toNat : Int) = ((l.getD 3 0).toNat : Int) := wrap_small_i64 _ (by omega) (by omega)
  generalize rd l = P at *
  generalize ((l.getD 0 0).toNat : Int) = x0 at *
  generalize ((l.getD 1 0).toNat : Int) = x1 at *
  generalize ((l.getD 2 0).toNat : Int) = x2 at *
  generalize ((l.getD 3 0).toNat : Int) = x3 at *
  subst hrd
  generalize str l = s at *
  have QO := Lib.hid (fun w v h => fileok_is [x0, x1, x2, x3] rfl w v h)
  have QB := Lib.hid (fun w => filebytes_is [x0, x1, x2, x3] rfl w)
  have HD2 := Lib.hid hd2
  have HSL := Lib.hid hsl
  clear HB hd HD hat hsz hl hn hd2 hsl u0 u1 u2 u3 hgd HAT h8
  unfold pv at QO QB
  go_enter Try.func14, Try.ntmps14
  go_wp2_with fail
  refine (HB2.out _).mono ?_; rintro e w1 ⟨rfl, rfl⟩
  go_wp2_with fail
  go_region
  have hp5 : Blk (((w.alloc (.cells #[.int .i64 0, .int .i64 0, .int .i64 0, .int .i64 0] 23)).alloc (.cells #[.int .i64 x0, .int .i64 x1, .int .i64 x2, .int .i64 x3] 23)).drew) (w.heap.size + 1) 23 (ints [x0, x1, x2, x3]) := by
    have := (Blk.new (w.alloc (.cells #[.int .i64 0, .int .i64 0, .int .i64 0, .int .i64 0] 23)) 23 (ints [x0, x1, x2, x3])).drew
    rw [show (w.alloc (.cells #[.int .i64 0, .int .i64 0, .int .i64 0, .int .i64 0] 23)).heap.size = w.heap.size + 1 from by simp] at this
    exact this
  have hr5 : Blk (((w.alloc (.cells #[.int .i64 0, .int .i64 0, .int .i64 0, .int .i64 0] 23)).alloc (.cells #[.int .i64 x0, .int .i64 x1, .int .i64 x2, .int .i64 x3] 23)).drew) w.heap.size 23 (ints noP) := (hz0.alloc _).drew
  have hk5 : Keep Nob w (((w.alloc (.cells #[.int .i64 0, .int .i64 0, .int .i64 0, .int .i64 0] 23)).alloc (.cells #[.int .i64 x0, .int .i64 x1, .int .i64 x2, .int .i64 x3] 23)).drew) := (kz.alloc _).drew
  clear hz0 kz y0 y1 y2 y3 i0 i1 i2 i3
  generalize (((w.alloc (.cells #[.int .i64 0, .int .i64 0, .int .i64 0, .int .i64 0] 23)).alloc (.cells #[.int .i64 x0, .int .i64 x1, .int .i64 x2, .int .i64 x3] 23)).drew) = w5 at *
  have hgr : w.heap.size ≠ w.heap.size + 1 := by omega
  generalize w.heap.size + 1 = gp at *
  obtain ⟨c0, c1, c2, c3⟩ := cells4 hp5
  have hd3 := HD2.out
  cases ho : okd [x0, x1, x2, x3] with
  | false =>
    have hd4 : (noP, (2 : Int)) = (R, d) := by rw [← hd3, ho]; rfl
    cases hd4
    have QQ := Lib.hid (fun w => QO.out w false ho)
    clear QO hd3 HD2 ho HSL
    go_wp2_with fail
    refine (QQ.out _).mono ?_; rintro e w7 ⟨rfl, k7⟩
    have hr7 := hr5.nob k7
    have hk7 := hk5.nobt k7
    clear hp5 hr5 hk5 k7 c0 c1 c2 c3
    go_wp2_with (refine wpList_st rfl _ _ rfl _ noP noP rfl rfl rfl rfl hr7 ?_; intro w8 hr8 hk8 hs8; clear hs8)
    (try simp only [Exit.inBlock, Exit.then])
    refine bodyPost_ret (v := .tuple #[pv noP, .int .i64 2]) (results_pair rfl _ _ w.heap.size noP rfl rfl hr8 _ rfl) rfl ?_
    exact ⟨rfl, hk7.trans hk8 (fun b hb e => by have h3 : b = w.heap.size := e; omega)⟩
  | true =>
  have QQ := Lib.hid (fun w => QO.out w true ho)
  have heq : ((str (enc [x0, x1, x2, x3])).toList == s.toList) = (enc [x0, x1, x2, x3] == l) := by rw [HSL.out, str_tl]
  rw [ho, Bool.true_and] at hd3
  clear QO HD2 ho HSL
  generalize str (enc [x0, x1, x2, x3]) = X at *
  generalize (enc [x0, x1, x2, x3] == l) = v at *
  go_wp2_with fail
  refine (QQ.out _).mono ?_; rintro e w7 ⟨rfl, k7⟩
  have hr7 := hr5.nob k7
  have hp7 := hp5.nob k7
  have hk7 := hk5.nobt k7
  clear hp5 hr5 hk5 k7 c0 c1 c2 c3
  obtain ⟨c0, c1, c2, c3⟩ := cells4 hp7
  go_wp2_with fail
  refine (QB.out _).mono ?_; rintro e w8 ⟨rfl, k8⟩
  have hr8 := hr7.nob k8
  have hp8 := hp7.nob k8
  have hk8 := hk7.nobt k8
  clear hp7 hr7 hk7 k8 c0 c1 c2 c3
  obtain ⟨c0, c1, c2, c3⟩ := cells4 hp8
  cases v with
  | false =>
    have hd4 : (noP, (2 : Int)) = (R, d) := by rw [← hd3]; rfl
    cases hd4
    clear hd3
    go_wp2_with (refine wpList_st rfl _ _ rfl _ noP noP rfl rfl rfl rfl hr8 ?_; intro w9 hr9 hk9 hs9; clear hs9)
    (try simp only [Exit.inBlock, Exit.then])
    refine bodyPost_ret (v := .tuple #[pv noP, .int .i64 2]) (results_pair rfl _ _ w.heap.size noP rfl rfl hr9 _ rfl) rfl ?_
    exact ⟨rfl, hk8.trans hk9 (fun b hb e => by have h3 : b = w.heap.size := e; omega)⟩
  | true =>
    rw [if_pos rfl] at hd3
    cases hd3
    go_wp2_with (refine wpList_st rfl _ _ rfl _ [x0, x1, x2, x3] noP rfl rfl rfl rfl hr8 ?_; intro w9 hr9 hk9 hs9; clear hs9)
    (try simp only [Exit.inBlock, Exit.then])
    refine bodyPost_ret (v := .tuple #[pv [x0, x1, x2, x3], .int .i64 1]) (results_pair rfl _ _ w.heap.size [x0, x1, x2, x3] rfl rfl hr9 _ rfl) rfl ?_
    exact ⟨rfl, hk8.trans hk9 (fun b hb e => by have h3 : b = w.heap.size := e; omega)⟩
end Go.Proofs.Ytdlenjooidnofaa.Fi
