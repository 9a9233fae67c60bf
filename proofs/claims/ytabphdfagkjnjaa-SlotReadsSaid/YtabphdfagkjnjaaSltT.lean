/- The document's ProcOf. -/
import Derived.Test.YtabphdfagkjnjaaSltS
import Derived.BigRegion
namespace Go.Proofs.Ytabphdfagkjnjaa
open Go.RowKit
set_option linter.unusedVariables false
set_option linter.unusedSimpArgs false
theorem index_str (s : ByteArray) (i : Int) (k : Nat) (hi : i = k) (hk : k < s.size) (x : UInt8) (hx : s[k] = x) (W : World) : (Instr.index 9 (.string s) (.int .i64 i)).run Try.prog W = .ok (.int .u8 (x.toNat : Int)) W := by
  subst hi
  have h0 : (0 : Int) ≤ (k : Int) := by omega
  have hk2 : s[k]? = some x := by rw [getElem?_pos s k hk, hx]
  simp [Instr.index, asIntOf, run_underlying Try.underlying9, hk2, Sem.run_bind, Result.andThen]
def tpt (l : List UInt8) (k : Nat) : List Int := ((rd l).drop 4).take k ++ List.replicate (4 - k) 0
theorem tpt_len (l : List UInt8) {k : Nat} (hk : k ≤ 4) : (tpt l k).length = 4 := by
  rcases (show k = 0 ∨ k = 1 ∨ k = 2 ∨ k = 3 ∨ k = 4 from by omega) with rfl | rfl | rfl | rfl | rfl <;> simp [tpt, rd] <;> omega
theorem tpt_set (l : List UInt8) {k : Nat} (hk : k < 4) : (tpt l k).set k ((rd l).getD (4 + k) 0) = tpt l (k + 1) := by
  rcases (show k = 0 ∨ k = 1 ∨ k = 2 ∨ k = 3 from by omega) with rfl | rfl | rfl | rfl <;> rfl
theorem ints_getD_ {l : List Int} {k : Nat} (h : k < l.length) : (ints l)[k]? = some (.int .i64 (l.getD k 0)) := by
  rw [ints_get, List.getD_eq_getElem?_getD, List.getElem?_eq_getElem h]; rfl
section
variable {ρ : Operand → Value} {o : Oper} {x y : Operand} {w : World} {g : Nat} {q old : List Int}
theorem exec_store_ (ho : o.op = .store 24 x y) (hx : ρ x = .pointer (some ⟨g, 0, none⟩)) (hy : ρ y = .agg (ints q).toArray) (hq : q.length = 16) (hd : old.length = 16) (hb : Blk w g 24 (ints old)) :
    (execOp ρ o).run Try.prog w = .ok .skip (w.setRow g (ints q).toArray) := by
  have := run_storeVar_row (P := Try.prog) w g 24 24 (ints old).toArray (ints q).toArray hb (by rw [infoP_]; simp [hq]) (by simp [hq, hd]) (by rw [Array.all_eq_true_iff_forall_mem]; intro v hv; exact ints_one q v (by simpa using hv))
  simp [execOp, ho, hx, hy, Instr.storeAt, Instr.sureAddr, this, Result.andThen]
theorem wp_store_ {a : Act} {K : Act → World → Prop} {Q : Exit → Act → World → Prop} (ho : o.op = .store 24 x y) (hx : a.eval x = .pointer (some ⟨g, 0, none⟩)) (hy : a.eval y = .agg (ints q).toArray) (hq : q.length = 16) (hd : old.length = 16) (hb : Blk w g 24 (ints old))
    (h : K (a.put o.dst undef) (w.setRow g (ints q).toArray)) : Oper.wp Try.prog o a w K Q := by
  unfold Oper.wp
  rw [exec_store_ ho hx hy hq hd hb]
  exact h
end
section
variable {ops : Array Oper} {rest : List Oper} {o : Oper} {a : Act} {Q : Exit → Act → World → Prop} {w : World}
/-- A whole process is stored, loaded. -/
theorem wpList_st (hgd : o.guard = none) (x y : Operand) (ho : o.op = .store 24 x y) (g : Nat) (q old : List Int) (hx : a.eval x = .pointer (some ⟨g, 0, none⟩)) (hy : a.eval y = .agg (ints q).toArray) (hq : q.length = 16) (hd : old.length = 16) (hb : Blk w g 24 (ints old))
    (h : ∀ w', Blk w' g 24 (ints q) → Keep (· = g) w w' → w'.heap.size = w.heap.size → wpList Try.prog ops Q rest (a.put o.dst undef) w') : wpList Try.prog ops Q (o :: rest) a w := by
  refine wpList_plain hgd fun K hK => ?_
  have hrun := run_storeVar_row (P := Try.prog) w g 24 24 (ints old).toArray (ints q).toArray hb (by rw [infoP_]; simp [hq]) (by simp [hq, hd]) (by rw [Array.all_eq_true_iff_forall_mem]; intro v hv; exact ints_one q v (by simpa using hv))
  have hh := h (w.setRow g (ints q).toArray) (hb.setRow _) ((Keep.refl _ w).setRow g _ (fun _ => rfl)) (by simp)
  unfold Oper.wp
  simp [execOp, ho, hx, hy, Instr.storeAt, Instr.sureAddr, hrun, Result.andThen]
  exact hK _ _ hh
theorem wpList_ld (hgd : o.guard = none) (x : Operand) (ho : o.op = .load 24 x) (g : Nat) (q : List Int) (hx : a.eval x = .pointer (some ⟨g, 0, none⟩)) (hq : q.length = 16) (hb : Blk w g 24 (ints q))
    (h : wpList Try.prog ops Q rest (a.put o.dst (.agg (ints q).toArray)) w) : wpList Try.prog ops Q (o :: rest) a w := by
  refine wpList_plain hgd fun K hK => ?_
  have hrun := run_loadVar_row (P := Try.prog) w g 24 24 (ints q).toArray (0, 0) _ hb Try.underlying24 rfl (by rw [infoP_]; simp [hq])
  unfold Oper.wp
  simp [execOp, ho, hx, Instr.loadAt, Instr.sureAddr, hrun, Result.andThen]
  exact hK _ _ h
end
set_option maxHeartbeats 4000000 in
set_option maxRecDepth 100000 in
theorem procof_is (l : List UInt8) (hl : l.length ≤ 1000) (w : World) (R : List Int) (d : Int) (hd : dcd l = (R, d)) :
    Calls Try.prog 16 #[.string (str l)] w fun e w' => e = .returned (.tuple #[pv R, .int .i64 d]) ∧ Keep Nob w w' := by
  have hsz := str_size l
  have hz0 : Blk (w.alloc (.cells #[.int .i64 0, .int .i64 0, .int .i64 0, .int .i64 0, .int .i64 0, .int .i64 0, .int .i64 0, .int .i64 0, .int .i64 0, .int .i64 0, .int .i64 0, .int .i64 0, .int .i64 0, .int .i64 0, .int .i64 0, .int .i64 0] 24)) w.heap.size 24 (ints noP) := Blk.new w _ _
  have kz : Keep Nob w (w.alloc (.cells #[.int .i64 0, .int .i64 0, .int .i64 0, .int .i64 0, .int .i64 0, .int .i64 0, .int .i64 0, .int .i64 0, .int .i64 0, .int .i64 0, .int .i64 0, .int .i64 0, .int .i64 0, .int .i64 0, .int .i64 0, .int .i64 0] 24)) := (Keep.refl Nob w).alloc _
  have HB := Lib.hid (fun w v h => rblank_is (w := w) (l := l) (by omega) v h)
  have hat : ∀ k (hk : k < (str l).size), (str l)[k] = l.getD k 0 := fun k hk => str_at l k hk
  have HAT := Lib.hid hat
  have HD := Lib.hid hd
  have hl24 : l.length = 24 ∨ l.length ≠ 24 := by omega
  rcases hl24 with h24 | h24
  rotate_left
  · have hne : (((str l).size : Int) != 24) = true := by rw [hsz]; simpa using (show ((l.length : Nat) : Int) ≠ 24 from by omega)
    have hsl : (str l).size ≤ 1000 := by rw [hsz]; exact hl
    have hd2 : (noP, (2 : Int)) = (R, d) := by rw [← HD.out, dcd, if_neg h24]
    cases hd2
    clear HB HAT hd HD hat hsz hl h24
    generalize str l = s at *
    go_enter Try.func16, Try.ntmps16
    go_wp2_with (refine wpList_st rfl _ _ rfl _ noP noP rfl rfl rfl rfl hz0 ?_; intro w2 hr2 hk2 hs2; clear hs2)
    (try simp only [Exit.inBlock, Exit.then])
    refine bodyPost_ret (v := .tuple #[pv noP, .int .i64 2]) (results_pair rfl _ _ w.heap.size noP rfl rfl hr2 _ rfl) rfl ?_
    exact ⟨rfl, kz.trans hk2 (fun b hb e => by have h3 : b = w.heap.size := e; omega)⟩
  cases hn : allNought l with
  | true =>
    have hd2 : (noP, (0 : Int)) = (R, d) := by rw [← HD.out, dcd, if_pos h24, hn, if_pos rfl]
    cases hd2
    have HB2 := Lib.hid (fun w => HB.out w true hn)
    have hsz2 : (str l).size = 24 := by rw [hsz, h24]
    clear HB HAT hd HD hat hsz hl hn
    generalize str l = s at *
    go_enter Try.func16, Try.ntmps16
    go_wp2_with fail
    refine (HB2.out _).mono ?_; rintro e w1 ⟨rfl, rfl⟩
    go_wp2_with (refine wpList_st rfl _ _ rfl _ noP noP rfl rfl rfl rfl hz0 ?_; intro w2 hr2 hk2 hs2; clear hs2)
    (try simp only [Exit.inBlock, Exit.then])
    refine bodyPost_ret (v := .tuple #[pv noP, .int .i64 0]) (results_pair rfl _ _ w.heap.size noP rfl rfl hr2 _ rfl) rfl ?_
    exact ⟨rfl, kz.trans hk2 (fun b hb e => by have h3 : b = w.heap.size := e; omega)⟩
  | false =>
  have HB2 := Lib.hid (fun w => HB.out w false hn)
  have hsz2 : (str l).size = 24 := by rw [hsz, h24]
  have hd2 : (if gd l then (rd l, (1 : Int)) else (noP, 2)) = (R, d) := by rw [← HD.out]; unfold dcd; rw [if_pos h24, hn]; rfl
  have HD2 := Lib.hid hd2
  have H24 := Lib.hid h24
  clear HB hd HD hat hsz hl hn hd2
  generalize hs : str l = s at *
  have HS := Lib.hid hs
  clear hs
  go_enter Try.func16, Try.ntmps16
  go_wp2_with fail
  refine (HB2.out _).mono ?_; rintro e w1 ⟨rfl, rfl⟩
  have kz2 := kz.alloc (.cells #[.int .i64 0, .int .i64 0, .int .i64 0, .int .i64 0] 56)
  go_wp2_with fail
  have hr2 : Blk ((w.alloc (.cells #[.int .i64 0, .int .i64 0, .int .i64 0, .int .i64 0, .int .i64 0, .int .i64 0, .int .i64 0, .int .i64 0, .int .i64 0, .int .i64 0, .int .i64 0, .int .i64 0, .int .i64 0, .int .i64 0, .int .i64 0, .int .i64 0] 24)).alloc (.cells #[.int .i64 0, .int .i64 0, .int .i64 0, .int .i64 0] 56)) w.heap.size 24 (ints noP) := hz0.alloc _
  have ht2 : Blk ((w.alloc (.cells #[.int .i64 0, .int .i64 0, .int .i64 0, .int .i64 0, .int .i64 0, .int .i64 0, .int .i64 0, .int .i64 0, .int .i64 0, .int .i64 0, .int .i64 0, .int .i64 0, .int .i64 0, .int .i64 0, .int .i64 0, .int .i64 0] 24)).alloc (.cells #[.int .i64 0, .int .i64 0, .int .i64 0, .int .i64 0] 56)) (w.heap.size + 1) 56 (ints (tpt l 0)) := by
    have := Blk.new (w.alloc (.cells #[.int .i64 0, .int .i64 0, .int .i64 0, .int .i64 0, .int .i64 0, .int .i64 0, .int .i64 0, .int .i64 0, .int .i64 0, .int .i64 0, .int .i64 0, .int .i64 0, .int .i64 0, .int .i64 0, .int .i64 0, .int .i64 0] 24)) 56 (ints [0, 0, 0, 0])
    rw [show (w.alloc (.cells #[.int .i64 0, .int .i64 0, .int .i64 0, .int .i64 0, .int .i64 0, .int .i64 0, .int .i64 0, .int .i64 0, .int .i64 0, .int .i64 0, .int .i64 0, .int .i64 0, .int .i64 0, .int .i64 0, .int .i64 0, .int .i64 0] 24)).heap.size = w.heap.size + 1 from by simp] at this
    exact this
  have hgr : w.heap.size ≠ w.heap.size + 1 := by omega
  have hgn : w.heap.size ≤ w.heap.size + 1 := by omega
  generalize ((w.alloc (.cells #[.int .i64 0, .int .i64 0, .int .i64 0, .int .i64 0, .int .i64 0, .int .i64 0, .int .i64 0, .int .i64 0, .int .i64 0, .int .i64 0, .int .i64 0, .int .i64 0, .int .i64 0, .int .i64 0, .int .i64 0, .int .i64 0] 24)).alloc (.cells #[.int .i64 0, .int .i64 0, .int .i64 0, .int .i64 0] 56)) = w2 at *
  generalize w.heap.size + 1 = gt at *
  clear hz0 kz
  go_loopw [5] (fun s5 wx => ∃ k : Nat, k ≤ 4 ∧ s5 = .int .i64 k ∧ Blk wx gt 56 (ints (tpt l k)) ∧ Blk wx w.heap.size 24 (ints noP) ∧ Keep Nob w wx) (fun s5 _ => 4 - (intOf s5).toNat)
  case atStart => exact ⟨0, Nat.zero_le _, rfl, ht2, hr2, kz2⟩
  case round =>
    obtain ⟨k, hk, rfl, ht3, hr3, hk3⟩ := hrel
    clear ht2 hr2 kz2
    by_cases hlt : k < 4
    · have x1 := index_str s (4 + 2 * (k : Int)) (4 + 2 * k) (by omega) (by omega) _ (HAT.out (4 + 2 * k) (by omega))
      have x2 := index_str s (5 + 2 * (k : Int)) (5 + 2 * k) (by omega) (by omega) _ (HAT.out (5 + 2 * k) (by omega))
      have hor := or_two (l.getD (4 + 2 * k) 0) (l.getD (5 + 2 * k) 0)
      have hset := tpt_set l hlt
      rw [rd_two k hlt, num, show 4 + 2 * k + 1 = 5 + 2 * k from by omega] at hset
      have u1 := u8_lt (l.getD (4 + 2 * k) 0)
      have u2 := u8_lt (l.getD (5 + 2 * k) 0)
      generalize l.getD (4 + 2 * k) 0 = b1 at *
      generalize l.getD (5 + 2 * k) 0 = b2 at *
      obtain ⟨v, hv⟩ : ∃ v, ((b1.toNat : Int) * 256 + (b2.toNat : Int)) = v := ⟨_, rfl⟩
      rw [hv] at hor hset
      clear hv
      have fr := ht3.frozen k
      have cc : ∃ x, _ = some x := ⟨_, (ht3.cell k).trans (ints_getD_ (by rw [tpt_len l (by omega)]; exact hlt))⟩
      obtain ⟨x, cc⟩ := cc
      have ht4 : Blk ((wr.setCell ⟨gt, k, none⟩ (.int .i64 v)).drew) gt 56 (ints (tpt l (k + 1))) := by
        have := (ht3.setCell k (.int .i64 v)).drew
        rw [ints_set, hset] at this
        exact this
      have hr4 := (hr3.far (p := ⟨gt, k, none⟩) hgr (.int .i64 v)).drew
      have hk4 : Keep Nob w ((wr.setCell ⟨gt, k, none⟩ (.int .i64 v)).drew) := (hk3.setCell ⟨gt, k, none⟩ _ (fun h => absurd h (by show ¬ gt < _; omega))).drew
      clear ht3 hr3 hk3 hset
      go_wp2_with fail
      go_region
      go_wp2_with fail
      go_round
      case rel => exact ⟨k + 1, by omega, by go_num, ht4, hr4, hk4⟩
      case measure => simp [intOf]; omega
    · obtain rfl : k = 4 := by omega
      clear hlt hk
      have hgl := ht3.lt
      have e4 : ints (tpt l 4) = [.int .i64 (num l 4), .int .i64 (num l 6), .int .i64 (num l 8), .int .i64 (num l 10)] := rfl
      rw [e4] at ht3
      clear e4
      have y0 := index_str s 0 0 rfl (by omega) _ (HAT.out 0 (by omega))
      have y1 := index_str s 1 1 rfl (by omega) _ (HAT.out 1 (by omega))
      have y2 := index_str s 2 2 rfl (by omega) _ (HAT.out 2 (by omega))
      have y3 := index_str s 3 3 rfl (by omega) _ (HAT.out 3 (by omega))
      have hR8 : rpt l 8 = [((l.getD 0 0).toNat : Int), ((l.getD 1 0).toNat : Int), ((l.getD 2 0).toNat : Int), ((l.getD 3 0).toNat : Int), num l 4, num l 6, num l 8, num l 10, 0, 0, 0, 0, 0, 0, 0, 0] := rfl
      have u0 := u8_lt (l.getD 0 0)
      have u1 := u8_lt (l.getD 1 0)
      have u2 := u8_lt (l.getD 2 0)
      have u3 := u8_lt (l.getD 3 0)
      have i0 : IntKind.i64.wrap ((l.getD 0 0).toNat : Int) = ((l.getD 0 0).toNat : Int) := wrap_small_i64 _ (by omega) (by omega)
      have i1 : IntKind.i64.wrap ((l.getD 1 0).toNat : Int) = ((l.getD 1 0).toNat : Int) := wrap_small_i64 _ (by omega) (by omega)
      have i2 : IntKind.i64.wrap ((l.getD 2 0).toNat : Int) = ((l.getD 2 0).toNat : Int) := wrap_small_i64 _ (by omega) (by omega)
      have i3 : IntKind.i64.wrap ((l.getD 3 0).toNat : Int) = ((l.getD 3 0).toNat : Int) := wrap_small_i64 _ (by omega) (by omega)
      generalize ((l.getD 0 0).toNat : Int) = x0 at *
      generalize ((l.getD 1 0).toNat : Int) = x1 at *
      generalize ((l.getD 2 0).toNat : Int) = x2 at *
      generalize ((l.getD 3 0).toNat : Int) = x3 at *
      generalize num l 4 = n4 at *
      generalize num l 6 = n5 at *
      generalize num l 8 = n6 at *
      generalize num l 10 = n7 at *
      have t0 : wr.cell? ⟨gt, 0, none⟩ = some (.int .i64 n4) := ht3.cell 0
      have t1 : wr.cell? ⟨gt, 1, none⟩ = some (.int .i64 n5) := ht3.cell 1
      have t2 : wr.cell? ⟨gt, 2, none⟩ = some (.int .i64 n6) := ht3.cell 2
      have t3 : wr.cell? ⟨gt, 3, none⟩ = some (.int .i64 n7) := ht3.cell 3
      clear u0 u1 u2 u3
      have hge : w.heap.size ≤ wr.heap.size := hk3.size
      have hgr2 : w.heap.size ≠ wr.heap.size := by have := hr3.lt; omega
      have hsa : wr.drew.cell? ⟨gt, 0, none⟩ = some (.int .i64 n4) ∧ wr.drew.cell? ⟨gt, 1, none⟩ = some (.int .i64 n5) ∧ wr.drew.cell? ⟨gt, 2, none⟩ = some (.int .i64 n6) ∧ wr.drew.cell? ⟨gt, 3, none⟩ = some (.int .i64 n7) := by
        have h := ht3.drew
        exact ⟨h.cell 0, h.cell 1, h.cell 2, h.cell 3⟩
      have hsb : ((wr.alloc (.cells #[.int .i64 0, .int .i64 0, .int .i64 0, .int .i64 0, .int .i64 0, .int .i64 0, .int .i64 0, .int .i64 0, .int .i64 0, .int .i64 0, .int .i64 0, .int .i64 0, .int .i64 0, .int .i64 0, .int .i64 0, .int .i64 0] 24)).drew).cell? ⟨gt, 0, none⟩ = some (.int .i64 n4) ∧ ((wr.alloc (.cells #[.int .i64 0, .int .i64 0, .int .i64 0, .int .i64 0, .int .i64 0, .int .i64 0, .int .i64 0, .int .i64 0, .int .i64 0, .int .i64 0, .int .i64 0, .int .i64 0, .int .i64 0, .int .i64 0, .int .i64 0, .int .i64 0] 24)).drew).cell? ⟨gt, 1, none⟩ = some (.int .i64 n5) ∧ ((wr.alloc (.cells #[.int .i64 0, .int .i64 0, .int .i64 0, .int .i64 0, .int .i64 0, .int .i64 0, .int .i64 0, .int .i64 0, .int .i64 0, .int .i64 0, .int .i64 0, .int .i64 0, .int .i64 0, .int .i64 0, .int .i64 0, .int .i64 0] 24)).drew).cell? ⟨gt, 2, none⟩ = some (.int .i64 n6) ∧ ((wr.alloc (.cells #[.int .i64 0, .int .i64 0, .int .i64 0, .int .i64 0, .int .i64 0, .int .i64 0, .int .i64 0, .int .i64 0, .int .i64 0, .int .i64 0, .int .i64 0, .int .i64 0, .int .i64 0, .int .i64 0, .int .i64 0, .int .i64 0] 24)).drew).cell? ⟨gt, 3, none⟩ = some (.int .i64 n7) := by
        have h := (ht3.alloc (.cells #[.int .i64 0, .int .i64 0, .int .i64 0, .int .i64 0, .int .i64 0, .int .i64 0, .int .i64 0, .int .i64 0, .int .i64 0, .int .i64 0, .int .i64 0, .int .i64 0, .int .i64 0, .int .i64 0, .int .i64 0, .int .i64 0] 24)).drew
        exact ⟨h.cell 0, h.cell 1, h.cell 2, h.cell 3⟩
      have hn5 : Blk ((wr.alloc (.cells #[.int .i64 0, .int .i64 0, .int .i64 0, .int .i64 0, .int .i64 0, .int .i64 0, .int .i64 0, .int .i64 0, .int .i64 0, .int .i64 0, .int .i64 0, .int .i64 0, .int .i64 0, .int .i64 0, .int .i64 0, .int .i64 0] 24)).drew) wr.heap.size 24 (ints noP) := (Blk.new wr 24 (ints noP)).drew
      have hsc : (((wr.alloc (.cells #[.int .i64 0, .int .i64 0, .int .i64 0, .int .i64 0, .int .i64 0, .int .i64 0, .int .i64 0, .int .i64 0, .int .i64 0, .int .i64 0, .int .i64 0, .int .i64 0, .int .i64 0, .int .i64 0, .int .i64 0, .int .i64 0] 24)).drew).setRow wr.heap.size (ints (rpt l 8)).toArray).cell? ⟨gt, 0, none⟩ = some (.int .i64 n4) ∧ (((wr.alloc (.cells #[.int .i64 0, .int .i64 0, .int .i64 0, .int .i64 0, .int .i64 0, .int .i64 0, .int .i64 0, .int .i64 0, .int .i64 0, .int .i64 0, .int .i64 0, .int .i64 0, .int .i64 0, .int .i64 0, .int .i64 0, .int .i64 0] 24)).drew).setRow wr.heap.size (ints (rpt l 8)).toArray).cell? ⟨gt, 1, none⟩ = some (.int .i64 n5) ∧ (((wr.alloc (.cells #[.int .i64 0, .int .i64 0, .int .i64 0, .int .i64 0, .int .i64 0, .int .i64 0, .int .i64 0, .int .i64 0, .int .i64 0, .int .i64 0, .int .i64 0, .int .i64 0, .int .i64 0, .int .i64 0, .int .i64 0, .int .i64 0] 24)).drew).setRow wr.heap.size (ints (rpt l 8)).toArray).cell? ⟨gt, 2, none⟩ = some (.int .i64 n6) ∧ (((wr.alloc (.cells #[.int .i64 0, .int .i64 0, .int .i64 0, .int .i64 0, .int .i64 0, .int .i64 0, .int .i64 0, .int .i64 0, .int .i64 0, .int .i64 0, .int .i64 0, .int .i64 0, .int .i64 0, .int .i64 0, .int .i64 0, .int .i64 0] 24)).drew).setRow wr.heap.size (ints (rpt l 8)).toArray).cell? ⟨gt, 3, none⟩ = some (.int .i64 n7) := by
        have h := (ht3.alloc (.cells #[.int .i64 0, .int .i64 0, .int .i64 0, .int .i64 0, .int .i64 0, .int .i64 0, .int .i64 0, .int .i64 0, .int .i64 0, .int .i64 0, .int .i64 0, .int .i64 0, .int .i64 0, .int .i64 0, .int .i64 0, .int .i64 0] 24)).drew.setRow_far (b := wr.heap.size) (by omega) (ints (rpt l 8)).toArray
        exact ⟨h.cell 0, h.cell 1, h.cell 2, h.cell 3⟩
      have hp5 : Blk (((wr.alloc (.cells #[.int .i64 0, .int .i64 0, .int .i64 0, .int .i64 0, .int .i64 0, .int .i64 0, .int .i64 0, .int .i64 0, .int .i64 0, .int .i64 0, .int .i64 0, .int .i64 0, .int .i64 0, .int .i64 0, .int .i64 0, .int .i64 0] 24)).drew).setRow wr.heap.size (ints (rpt l 8)).toArray) wr.heap.size 24 (ints (rpt l 8)) := hn5.setRow _
      have hr5 : Blk (((wr.alloc (.cells #[.int .i64 0, .int .i64 0, .int .i64 0, .int .i64 0, .int .i64 0, .int .i64 0, .int .i64 0, .int .i64 0, .int .i64 0, .int .i64 0, .int .i64 0, .int .i64 0, .int .i64 0, .int .i64 0, .int .i64 0, .int .i64 0] 24)).drew).setRow wr.heap.size (ints (rpt l 8)).toArray) w.heap.size 24 (ints noP) := (hr3.alloc (.cells #[.int .i64 0, .int .i64 0, .int .i64 0, .int .i64 0, .int .i64 0, .int .i64 0, .int .i64 0, .int .i64 0, .int .i64 0, .int .i64 0, .int .i64 0, .int .i64 0, .int .i64 0, .int .i64 0, .int .i64 0, .int .i64 0] 24)).drew.setRow_far (b := wr.heap.size) hgr2 _
      have hk5 : Keep Nob w (((wr.alloc (.cells #[.int .i64 0, .int .i64 0, .int .i64 0, .int .i64 0, .int .i64 0, .int .i64 0, .int .i64 0, .int .i64 0, .int .i64 0, .int .i64 0, .int .i64 0, .int .i64 0, .int .i64 0, .int .i64 0, .int .i64 0, .int .i64 0] 24)).drew).setRow wr.heap.size (ints (rpt l 8)).toArray) := (hk3.alloc (.cells #[.int .i64 0, .int .i64 0, .int .i64 0, .int .i64 0, .int .i64 0, .int .i64 0, .int .i64 0, .int .i64 0, .int .i64 0, .int .i64 0, .int .i64 0, .int .i64 0, .int .i64 0, .int .i64 0, .int .i64 0, .int .i64 0] 24)).drew.setRow wr.heap.size _ (fun h => absurd h (by omega))
      have HSA := Lib.hid hsa
      have HSB := Lib.hid hsb
      have HSC := Lib.hid hsc
      clear hsa hsb hsc t0 t1 t2 t3
      go_wp2_with fail
      refine wp_region_held_drew (S := fun w' => w'.cell? ⟨gt, 0, none⟩ = some (.int .i64 n4) ∧ w'.cell? ⟨gt, 1, none⟩ = some (.int .i64 n5) ∧ w'.cell? ⟨gt, 2, none⟩ = some (.int .i64 n6) ∧ w'.cell? ⟨gt, 3, none⟩ = some (.int .i64 n7)) (by kernel_rfl) HSA.out (fun hHeld => ?_)
      refine wpAnyH_take (i := 0) (v := ?_) rfl (by kernel_rfl) (by kernel_rfl) (by kernel_rfl) (fun _ _ _ h => h) (Or.inl ⟨by rfl, ?_⟩) (by assumption) ?_
      rotate_left
      · (intro w hSw; (try dsimp only at hSw); obtain ⟨t0, t1, t2, t3⟩ := hSw; go_simp; try with_reducible rfl)
      try simp only [Act.put, List.getElem_toArray, List.getElem_cons_zero, List.getElem_cons_succ, List.setIfInBounds_toArray, List.set_cons_zero, List.set_cons_succ]
      refine wpAnyH_take (i := 1) (v := ?_) rfl (by kernel_rfl) (by kernel_rfl) (by kernel_rfl) (fun _ _ _ h => h) (Or.inl ⟨by rfl, ?_⟩) (by assumption) ?_
      rotate_left
      · (intro w hSw; (try dsimp only at hSw); obtain ⟨t0, t1, t2, t3⟩ := hSw; go_simp; try with_reducible rfl)
      try simp only [Act.put, List.getElem_toArray, List.getElem_cons_zero, List.getElem_cons_succ, List.setIfInBounds_toArray, List.set_cons_zero, List.set_cons_succ]
      refine wpAnyH_take (i := 2) (v := ?_) rfl (by kernel_rfl) (by kernel_rfl) (by kernel_rfl) (fun _ _ _ h => h) (Or.inl ⟨by rfl, ?_⟩) (by assumption) ?_
      rotate_left
      · (intro w hSw; (try dsimp only at hSw); obtain ⟨t0, t1, t2, t3⟩ := hSw; go_simp; try with_reducible rfl)
      try simp only [Act.put, List.getElem_toArray, List.getElem_cons_zero, List.getElem_cons_succ, List.setIfInBounds_toArray, List.set_cons_zero, List.set_cons_succ]
      refine wpAnyH_take (i := 3) (v := ?_) rfl (by kernel_rfl) (by kernel_rfl) (by kernel_rfl) (fun _ _ _ h => h) (Or.inl ⟨by rfl, ?_⟩) (by assumption) ?_
      rotate_left
      · (intro w hSw; (try dsimp only at hSw); obtain ⟨t0, t1, t2, t3⟩ := hSw; go_simp; try with_reducible rfl)
      try simp only [Act.put, List.getElem_toArray, List.getElem_cons_zero, List.getElem_cons_succ, List.setIfInBounds_toArray, List.set_cons_zero, List.set_cons_succ]
      refine wpAnyH_take (i := 4) (v := ?_) rfl (by kernel_rfl) (by kernel_rfl) (by kernel_rfl) (fun _ _ _ h => h) (Or.inl ⟨by rfl, ?_⟩) (by assumption) ?_
      rotate_left
      · (intro w hSw; (try dsimp only at hSw); obtain ⟨t0, t1, t2, t3⟩ := hSw; go_simp; try with_reducible rfl)
      try simp only [Act.put, List.getElem_toArray, List.getElem_cons_zero, List.getElem_cons_succ, List.setIfInBounds_toArray, List.set_cons_zero, List.set_cons_succ]
      refine wpAnyH_take (i := 5) (v := ?_) rfl (by kernel_rfl) (by kernel_rfl) (by kernel_rfl) (fun _ _ _ h => h) (Or.inl ⟨by rfl, ?_⟩) (by assumption) ?_
      rotate_left
      · (intro w hSw; (try dsimp only at hSw); obtain ⟨t0, t1, t2, t3⟩ := hSw; go_simp; try with_reducible rfl)
      try simp only [Act.put, List.getElem_toArray, List.getElem_cons_zero, List.getElem_cons_succ, List.setIfInBounds_toArray, List.set_cons_zero, List.set_cons_succ]
      refine wpAnyH_take (i := 6) (v := ?_) rfl (by kernel_rfl) (by kernel_rfl) (by kernel_rfl) (fun _ _ _ h => h) (Or.inl ⟨by rfl, ?_⟩) (by assumption) ?_
      rotate_left
      · (intro w hSw; (try dsimp only at hSw); obtain ⟨t0, t1, t2, t3⟩ := hSw; go_simp; try with_reducible rfl)
      try simp only [Act.put, List.getElem_toArray, List.getElem_cons_zero, List.getElem_cons_succ, List.setIfInBounds_toArray, List.set_cons_zero, List.set_cons_succ]
      refine wpAnyH_take (i := 7) (v := ?_) rfl (by kernel_rfl) (by kernel_rfl) (by kernel_rfl) (fun _ _ _ h => h) (Or.inl ⟨by rfl, ?_⟩) (by assumption) ?_
      rotate_left
      · (intro w hSw; (try dsimp only at hSw); obtain ⟨t0, t1, t2, t3⟩ := hSw; go_simp; try with_reducible rfl)
      try simp only [Act.put, List.getElem_toArray, List.getElem_cons_zero, List.getElem_cons_succ, List.setIfInBounds_toArray, List.set_cons_zero, List.set_cons_succ]
      refine wpAnyH_take (i := 8) (v := ?_) rfl (by kernel_rfl) (by kernel_rfl) (by kernel_rfl) (fun _ _ _ h => h) (Or.inl ⟨by rfl, ?_⟩) (by assumption) ?_
      rotate_left
      · (intro w hSw; (try dsimp only at hSw); obtain ⟨t0, t1, t2, t3⟩ := hSw; go_simp; try with_reducible rfl)
      try simp only [Act.put, List.getElem_toArray, List.getElem_cons_zero, List.getElem_cons_succ, List.setIfInBounds_toArray, List.set_cons_zero, List.set_cons_succ]
      refine wpAnyH_take (i := 9) (v := ?_) rfl (by kernel_rfl) (by kernel_rfl) (by kernel_rfl) (fun _ _ _ h => h) (Or.inl ⟨by rfl, ?_⟩) (by assumption) ?_
      rotate_left
      · (intro w hSw; (try dsimp only at hSw); obtain ⟨t0, t1, t2, t3⟩ := hSw; go_simp; try with_reducible rfl)
      try simp only [Act.put, List.getElem_toArray, List.getElem_cons_zero, List.getElem_cons_succ, List.setIfInBounds_toArray, List.set_cons_zero, List.set_cons_succ]
      refine wpAnyH_take (i := 10) (v := ?_) rfl (by kernel_rfl) (by kernel_rfl) (by kernel_rfl) (fun _ _ _ h => h) (Or.inl ⟨by rfl, ?_⟩) (by assumption) ?_
      rotate_left
      · (intro w hSw; (try dsimp only at hSw); obtain ⟨t0, t1, t2, t3⟩ := hSw; go_simp; try with_reducible rfl)
      try simp only [Act.put, List.getElem_toArray, List.getElem_cons_zero, List.getElem_cons_succ, List.setIfInBounds_toArray, List.set_cons_zero, List.set_cons_succ]
      refine wpAnyH_take (i := 11) (v := ?_) rfl (by kernel_rfl) (by kernel_rfl) (by kernel_rfl) (fun _ _ _ h => h) (Or.inl ⟨by rfl, ?_⟩) (by assumption) ?_
      rotate_left
      · (intro w hSw; (try dsimp only at hSw); obtain ⟨t0, t1, t2, t3⟩ := hSw; go_simp; try with_reducible rfl)
      try simp only [Act.put, List.getElem_toArray, List.getElem_cons_zero, List.getElem_cons_succ, List.setIfInBounds_toArray, List.set_cons_zero, List.set_cons_succ]
      refine wpAnyH_take (i := 12) (v := ?_) rfl (by kernel_rfl) (by kernel_rfl) (by kernel_rfl) (fun _ _ _ h => h) (Or.inl ⟨by rfl, ?_⟩) (by assumption) ?_
      rotate_left
      · (intro w hSw; (try dsimp only at hSw); obtain ⟨t0, t1, t2, t3⟩ := hSw; go_simp; try with_reducible rfl)
      try simp only [Act.put, List.getElem_toArray, List.getElem_cons_zero, List.getElem_cons_succ, List.setIfInBounds_toArray, List.set_cons_zero, List.set_cons_succ]
      refine wpAnyH_take (i := 13) (v := ?_) rfl (by kernel_rfl) (by kernel_rfl) (by kernel_rfl) (fun _ _ _ h => h) (Or.inl ⟨by rfl, ?_⟩) (by assumption) ?_
      rotate_left
      · (intro w hSw; (try dsimp only at hSw); obtain ⟨t0, t1, t2, t3⟩ := hSw; go_simp; try with_reducible rfl)
      try simp only [Act.put, List.getElem_toArray, List.getElem_cons_zero, List.getElem_cons_succ, List.setIfInBounds_toArray, List.set_cons_zero, List.set_cons_succ]
      refine wpAnyH_take (i := 14) (v := ?_) rfl (by kernel_rfl) (by kernel_rfl) (by kernel_rfl) (fun _ _ _ h => h) (Or.inl ⟨by rfl, ?_⟩) (by assumption) ?_
      rotate_left
      · (intro w hSw; (try dsimp only at hSw); obtain ⟨t0, t1, t2, t3⟩ := hSw; go_simp; try with_reducible rfl)
      try simp only [Act.put, List.getElem_toArray, List.getElem_cons_zero, List.getElem_cons_succ, List.setIfInBounds_toArray, List.set_cons_zero, List.set_cons_succ]
      refine wpAnyH_take (i := 15) (v := ?_) rfl (by kernel_rfl) (by kernel_rfl) (by kernel_rfl) (fun _ _ _ h => h) (Or.inl ⟨by rfl, ?_⟩) (by assumption) ?_
      rotate_left
      · (intro w hSw; (try dsimp only at hSw); obtain ⟨t0, t1, t2, t3⟩ := hSw; go_simp; try with_reducible rfl)
      try simp only [Act.put, List.getElem_toArray, List.getElem_cons_zero, List.getElem_cons_succ, List.setIfInBounds_toArray, List.set_cons_zero, List.set_cons_succ]
      refine wpAnyH_take (i := 16) (v := ?_) rfl (by kernel_rfl) (by kernel_rfl) (by kernel_rfl) (fun _ _ _ h => h) (Or.inl ⟨by rfl, ?_⟩) (by assumption) ?_
      rotate_left
      · (intro w hSw; (try dsimp only at hSw); obtain ⟨t0, t1, t2, t3⟩ := hSw; go_simp; try with_reducible rfl)
      try simp only [Act.put, List.getElem_toArray, List.getElem_cons_zero, List.getElem_cons_succ, List.setIfInBounds_toArray, List.set_cons_zero, List.set_cons_succ]
      refine wpAnyH_take (i := 17) (v := ?_) rfl (by kernel_rfl) (by kernel_rfl) (by kernel_rfl) (fun _ _ _ h => h) (Or.inl ⟨by rfl, ?_⟩) (by assumption) ?_
      rotate_left
      · (intro w hSw; (try dsimp only at hSw); obtain ⟨t0, t1, t2, t3⟩ := hSw; go_simp; try with_reducible rfl)
      try simp only [Act.put, List.getElem_toArray, List.getElem_cons_zero, List.getElem_cons_succ, List.setIfInBounds_toArray, List.set_cons_zero, List.set_cons_succ]
      refine wpAnyH_take (i := 18) (v := ?_) rfl (by kernel_rfl) (by kernel_rfl) (by kernel_rfl) (fun _ _ _ h => h) (Or.inl ⟨by rfl, ?_⟩) (by assumption) ?_
      rotate_left
      · (intro w hSw; (try dsimp only at hSw); obtain ⟨t0, t1, t2, t3⟩ := hSw; go_simp; try with_reducible rfl)
      try simp only [Act.put, List.getElem_toArray, List.getElem_cons_zero, List.getElem_cons_succ, List.setIfInBounds_toArray, List.set_cons_zero, List.set_cons_succ]
      refine wpAnyH_take (i := 19) (v := ?_) rfl (by kernel_rfl) (by kernel_rfl) (by kernel_rfl) (fun _ _ _ h => h) (Or.inl ⟨by rfl, ?_⟩) (by assumption) ?_
      rotate_left
      · (intro w hSw; (try dsimp only at hSw); obtain ⟨t0, t1, t2, t3⟩ := hSw; go_simp; try with_reducible rfl)
      try simp only [Act.put, List.getElem_toArray, List.getElem_cons_zero, List.getElem_cons_succ, List.setIfInBounds_toArray, List.set_cons_zero, List.set_cons_succ]
      refine wpAnyH_take (i := 20) (v := ?_) rfl (by kernel_rfl) (by kernel_rfl) (by kernel_rfl) (fun _ _ _ h => h) (Or.inl ⟨by rfl, ?_⟩) (by assumption) ?_
      rotate_left
      · (intro w hSw; (try dsimp only at hSw); obtain ⟨t0, t1, t2, t3⟩ := hSw; go_simp; try with_reducible rfl)
      try simp only [Act.put, List.getElem_toArray, List.getElem_cons_zero, List.getElem_cons_succ, List.setIfInBounds_toArray, List.set_cons_zero, List.set_cons_succ]
      refine wpAnyH_ready (rs := [21]) (by kernel_rfl) (by simp) ?_
      refine AllReadyH.cons rfl (fun K hK => ?_) AllReadyH.nil
      go_simp
      refine hK.out _ _ ?_ (fun hHeld => ?_)
      · exact HSB.out
      clear hK K
      try simp only [Act.put, List.getElem_toArray, List.getElem_cons_zero, List.getElem_cons_succ, List.setIfInBounds_toArray, List.set_cons_zero, List.set_cons_succ]
      refine wpAnyH_ready (rs := [22]) (by kernel_rfl) (by simp) ?_
      refine AllReadyH.cons rfl (fun K hK => ?_) AllReadyH.nil
      rw [if_pos (by rfl)]
      refine wp_store_ (old := noP) (q := rpt l 8) rfl rfl (by rw [hR8]; rfl) (rpt_len H24.out (by decide)) rfl hn5 ?_
      refine hK.out _ _ ?_ (fun hHeld => ?_)
      · exact HSC.out
      clear hK K
      try simp only [Act.put, List.getElem_toArray, List.getElem_cons_zero, List.getElem_cons_succ, List.setIfInBounds_toArray, List.set_cons_zero, List.set_cons_succ]
      refine wpAnyH_done (by kernel_rfl) ?_ _
      clear ht3 hr3 hk3 hn5 HSA HSB HSC hR8 y0 y1 y2 y3 i0 i1 i2 i3
      generalize (((wr.alloc (.cells #[.int .i64 0, .int .i64 0, .int .i64 0, .int .i64 0, .int .i64 0, .int .i64 0, .int .i64 0, .int .i64 0, .int .i64 0, .int .i64 0, .int .i64 0, .int .i64 0, .int .i64 0, .int .i64 0, .int .i64 0, .int .i64 0] 24)).drew).setRow wr.heap.size (ints (rpt l 8)).toArray) = w5 at *
      generalize wr.heap.size = gp at *
      go_wp2_with fail
      go_loopw [7] (fun s7 wx => ∃ k : Nat, k ≤ 8 ∧ s7 = .int .i64 k ∧ Blk wx gp 24 (ints (rpt l (8 + k))) ∧ Blk wx w.heap.size 24 (ints noP) ∧ Keep Nob w wx) (fun s7 _ => 8 - (intOf s7).toNat)
      case atStart => exact ⟨0, Nat.zero_le _, rfl, hp5, hr5, hk5⟩
      case round =>
        obtain ⟨k, hk, rfl, hp6, hr6, hk6⟩ := hrel
        clear hp5 hr5 hk5
        by_cases hlt : k < 8
        · have y1 := index_str s (12 + (k : Int)) (12 + k) (by omega) (by omega) _ (HAT.out (12 + k) (by omega))
          have hset := rpt_set H24.out (k := 8 + k) (by omega)
          rw [rd_fds H24.out k hlt] at hset
          have hu := u8_lt (l.getD (12 + k) 0)
          have hwr : IntKind.i64.wrap ((l.getD (12 + k) 0).toNat : Int) = ((l.getD (12 + k) 0).toNat : Int) := wrap_small_i64 _ (by omega) (by omega)
          generalize ((l.getD (12 + k) 0).toNat : Int) = u at *
          have fr := hp6.frozen (8 + k)
          have cc : ∃ x, _ = some x := ⟨_, (hp6.cell (8 + k)).trans (ints_getD_ (by rw [rpt_len H24.out (by omega)]; omega))⟩
          obtain ⟨x, cc⟩ := cc
          have hp7 : Blk (wr.setCell ⟨gp, 8 + k, none⟩ (.int .i64 u)) gp 24 (ints (rpt l (8 + (k + 1)))) := by
            have := hp6.setCell (8 + k) (.int .i64 u)
            rw [ints_set, hset] at this
            exact this
          have hr7 := hr6.far (p := ⟨gp, 8 + k, none⟩) hgr2 (.int .i64 u)
          have hk7 : Keep Nob w (wr.setCell ⟨gp, 8 + k, none⟩ (.int .i64 u)) := hk6.setCell ⟨gp, 8 + k, none⟩ _ (fun h => absurd h (by show ¬ gp < _; omega))
          clear hp6 hr6 hk6 hset
          go_wp2_with fail
          go_round
          case rel => exact ⟨k + 1, by omega, by go_num, hp7, hr7, hk7⟩
          case measure => simp [intOf]; omega
        · obtain rfl : k = 8 := by omega
          rw [show 8 + 8 = 16 from rfl, rpt_all H24.out] at hp6
          clear hlt hk
          have hsl : s.toList = l := by rw [← HS.out, str_tl]
          have hgd : (okd (rd l) && enc (rd l) == l) = gd l := rfl
          have hd3 := HD2.out
          have hrl := rd_len H24.out
          have hrw := rd_wf H24.out
          rw [← hgd] at hd3
          clear hgd
          generalize rd l = P at *
          have HRL := Lib.hid hrl
          have Q1 := Lib.hid (fun w v h => procok_is P hrl hrw w v h)
          clear hrl hrw
          obtain ⟨p0, p1, p2, p3, p4, p5, p6, p7, p8, p9, p10, p11, p12, p13, p14, p15, rfl⟩ := split16 HRL.out
          obtain ⟨c0, c1, c2, c3, c4, c5, c6, c7, c8, c9, c10, c11, c12, c13, c14, c15⟩ := cells16 hp6
          cases ho : okd [p0, p1, p2, p3, p4, p5, p6, p7, p8, p9, p10, p11, p12, p13, p14, p15] with
          | false =>
            have hd4 : (noP, (2 : Int)) = (R, d) := by rw [← hd3, ho]; rfl
            cases hd4
            have QQ := Lib.hid (fun w => Q1.out w false ho)
            clear Q1 hd3 HD2 ho hsl HAT
            go_wp2_with fail
            refine (QQ.out _).mono ?_; rintro e w7 ⟨rfl, k7⟩
            have hr7 := hr6.nob k7
            have hk7 := hk6.nobt k7
            clear hp6 hr6 hk6 k7 c0 c1 c2 c3 c4 c5 c6 c7 c8 c9 c10 c11 c12 c13 c14 c15
            go_wp2_with (refine wpList_st rfl _ _ rfl _ noP noP rfl rfl rfl rfl hr7 ?_; intro w8 hr8 hk8 hs8; clear hs8)
            (try simp only [Exit.inBlock, Exit.then])
            refine bodyPost_ret (v := .tuple #[pv noP, .int .i64 2]) (results_pair rfl _ _ w.heap.size noP rfl rfl hr8 _ rfl) rfl ?_
            exact ⟨rfl, hk7.trans hk8 (fun b hb e => by have h3 : b = w.heap.size := e; omega)⟩
          | true =>
          have QQ := Lib.hid (fun w => Q1.out w true ho)
          have QB := Lib.hid (fun w => procbytes_is [p0, p1, p2, p3, p4, p5, p6, p7, p8, p9, p10, p11, p12, p13, p14, p15] HRL.out ho w)
          have heq : ((str (enc [p0, p1, p2, p3, p4, p5, p6, p7, p8, p9, p10, p11, p12, p13, p14, p15])).toList == s.toList) = (enc [p0, p1, p2, p3, p4, p5, p6, p7, p8, p9, p10, p11, p12, p13, p14, p15] == l) := by rw [hsl, str_tl]
          rw [ho, Bool.true_and] at hd3
          clear Q1 HD2 ho hsl HAT
          generalize str (enc [p0, p1, p2, p3, p4, p5, p6, p7, p8, p9, p10, p11, p12, p13, p14, p15]) = X at *
          generalize (enc [p0, p1, p2, p3, p4, p5, p6, p7, p8, p9, p10, p11, p12, p13, p14, p15] == l) = v at *
          go_wp2_with fail
          refine (QQ.out _).mono ?_; rintro e w7 ⟨rfl, k7⟩
          have hr7 := hr6.nob k7
          have hp7 := hp6.nob k7
          have hk7 := hk6.nobt k7
          clear hp6 hr6 hk6 k7 c0 c1 c2 c3 c4 c5 c6 c7 c8 c9 c10 c11 c12 c13 c14 c15
          obtain ⟨c0, c1, c2, c3, c4, c5, c6, c7, c8, c9, c10, c11, c12, c13, c14, c15⟩ := cells16 hp7
          go_wp2_with fail
          refine (QB.out _).mono ?_; rintro e w8 ⟨rfl, k8⟩
          have hr8 := hr7.nob k8
          have hp8 := hp7.nob k8
          have hk8 := hk7.nobt k8
          clear hp7 hr7 hk7 k8 c0 c1 c2 c3 c4 c5 c6 c7 c8 c9 c10 c11 c12 c13 c14 c15
          obtain ⟨c0, c1, c2, c3, c4, c5, c6, c7, c8, c9, c10, c11, c12, c13, c14, c15⟩ := cells16 hp8
          cases v with
          | false =>
            have hd4 : (noP, (2 : Int)) = (R, d) := by rw [← hd3]; rfl
            cases hd4
            clear hd3
            go_wp2_with (refine wpList_st rfl _ _ rfl _ noP noP rfl rfl rfl rfl hr8 ?_; intro w9 hr9 hk9 hs9; clear hs9)
            (try simp only [Exit.inBlock, Exit.then])
            refine bodyPost_ret (v := .tuple #[pv noP, .int .i64 2]) (results_pair rfl _ _ w.heap.size noP rfl rfl hr9 _ rfl) rfl ?_
            exact ⟨rfl, hk8.trans hk9 (fun b hb e => by have h3 : b = w.heap.size := e; omega)⟩
          | true =>
            rw [if_pos rfl] at hd3
            cases hd3
            go_wp2_with (refine wpList_st rfl _ _ rfl _ [p0, p1, p2, p3, p4, p5, p6, p7, p8, p9, p10, p11, p12, p13, p14, p15] noP rfl rfl HRL.out rfl hr8 ?_; intro w9 hr9 hk9 hs9; clear hs9)
            (try simp only [Exit.inBlock, Exit.then])
            refine bodyPost_ret (v := .tuple #[pv [p0, p1, p2, p3, p4, p5, p6, p7, p8, p9, p10, p11, p12, p13, p14, p15], .int .i64 1]) (results_pair rfl _ _ w.heap.size [p0, p1, p2, p3, p4, p5, p6, p7, p8, p9, p10, p11, p12, p13, p14, p15] HRL.out rfl hr9 _ rfl) rfl ?_
            exact ⟨rfl, hk8.trans hk9 (fun b hb e => by have h3 : b = w.heap.size := e; omega)⟩
end Go.Proofs.Ytabphdfagkjnjaa
