/- Package ofile: get. -/
import Derived.Test.YtdlenjooidnofaaFil3
import Derived.BigRegion
import Derived.Deep.RegionHeld3
import Derived.Deep.CutBlock
namespace Go.Proofs.Ytdlenjooidnofaa.Fi
open Go.RowKit
set_option linter.unusedVariables false
set_option linter.unusedSimpArgs false
set_option maxHeartbeats 4000000 in
set_option maxRecDepth 100000 in
theorem get_is_ (l : List UInt8) (hl : l.length = 8) (g c : Nat) (w : World) (hr : Reads w (some ⟨g, 0, none⟩) 8 (bytes l)) (R : List Int) (hR : rd l = R) (v : Bool) (hv : gd l = v) :
    Calls Try.prog 27 #[.slice (some ⟨g, 0, none⟩) 8 c] w fun e w' => e = .returned (.tuple #[pv R, .bool v]) ∧ Keep Nob w w' := by
  have hlt := block_lt_of_cell (reads_at hr (k := 0) (by decide))
  have hlt' : g < w.heap.size := hlt
  have h0 := reads_at hr (k := 0) (by decide)
  have h1 := reads_at hr (k := 1) (by decide)
  have h2 := reads_at hr (k := 2) (by decide)
  have h3 := reads_at hr (k := 3) (by decide)
  have u0 := u8_lt (l.getD 0 0)
  have u1 := u8_lt (l.getD 1 0)
  have u2 := u8_lt (l.getD 2 0)
  have u3 := u8_lt (l.getD 3 0)
  have hgd : (okd (rd l) && enc (rd l) == l) = v := hv
  rw [hR] at hgd
  have hR4 : [((l.getD 0 0).toNat : Int), ((l.getD 1 0).toNat : Int), ((l.getD 2 0).toNat : Int), ((l.getD 3 0).toNat : Int)] = R := hR
  have HRL := Lib.hid (show R.length = 4 from by rw [← hR]; exact rd_len l)
  obtain ⟨x0, hx0⟩ : ∃ x, ((l.getD 0 0).toNat : Int) = x := ⟨_, rfl⟩
  obtain ⟨x1, hx1⟩ : ∃ x, ((l.getD 1 0).toNat : Int) = x := ⟨_, rfl⟩
  obtain ⟨x2, hx2⟩ : ∃ x, ((l.getD 2 0).toNat : Int) = x := ⟨_, rfl⟩
  obtain ⟨x3, hx3⟩ : ∃ x, ((l.getD 3 0).toNat : Int) = x := ⟨_, rfl⟩
  rw [hx0, hx1, hx2, hx3] at hR4
  rw [hx0] at h0 u0
  rw [hx1] at h1 u1
  rw [hx2] at h2 u2
  rw [hx3] at h3 u3
  have i0 : IntKind.i64.wrap x0 = x0 := wrap_small_i64 _ (by omega) (by omega)
  have i1 : IntKind.i64.wrap x1 = x1 := wrap_small_i64 _ (by omega) (by omega)
  have i2 : IntKind.i64.wrap x2 = x2 := wrap_small_i64 _ (by omega) (by omega)
  have i3 : IntKind.i64.wrap x3 = x3 := wrap_small_i64 _ (by omega) (by omega)
  have HR := Lib.hid hr
  have HR4 := Lib.hid hR4
  have HGD := Lib.hid hgd
  clear hR hv hr hx0 hx1 hx2 hx3 hlt hR4 hgd
  go_enter Try.func27, Try.ntmps27
  go_wp2_with fail
  go_region
  have hp1 : Blk (((w.alloc (.cells #[.int .i64 0, .int .i64 0, .int .i64 0, .int .i64 0] 23)).alloc (.cells #[.int .i64 x0, .int .i64 x1, .int .i64 x2, .int .i64 x3] 23)).drew) (w.heap.size + 1) 23 (ints R) := by
    rw [← HR4.out]
    have := (Blk.new (w.alloc (.cells #[.int .i64 0, .int .i64 0, .int .i64 0, .int .i64 0] 23)) 23 (ints [x0, x1, x2, x3])).drew
    rw [show (w.alloc (.cells #[.int .i64 0, .int .i64 0, .int .i64 0, .int .i64 0] 23)).heap.size = w.heap.size + 1 from by simp] at this
    exact this
  have hr1 : Blk (((w.alloc (.cells #[.int .i64 0, .int .i64 0, .int .i64 0, .int .i64 0] 23)).alloc (.cells #[.int .i64 x0, .int .i64 x1, .int .i64 x2, .int .i64 x3] 23)).drew) w.heap.size 23 (ints noP) := ((Blk.new w 23 (ints noP)).alloc _).drew
  have hk1 : Keep Nob w (((w.alloc (.cells #[.int .i64 0, .int .i64 0, .int .i64 0, .int .i64 0] 23)).alloc (.cells #[.int .i64 x0, .int .i64 x1, .int .i64 x2, .int .i64 x3] 23)).drew) := (((Keep.refl Nob w).alloc _).alloc _).drew
  generalize (((w.alloc (.cells #[.int .i64 0, .int .i64 0, .int .i64 0, .int .i64 0] 23)).alloc (.cells #[.int .i64 x0, .int .i64 x1, .int .i64 x2, .int .i64 x3] 23)).drew) = w1 at *
  have hgr : w.heap.size ≠ w.heap.size + 1 := by omega
  have hgn : w.heap.size ≤ w.heap.size + 1 := by omega
  generalize w.heap.size + 1 = gp at *
  clear h0 h1 h2 h3 u0 u1 u2 u3 HR4 i0 i1 i2 i3
  go_wp2_with (refine wpList_mk rfl _ _ 24 rfl 5 (.int .u8 0) 1 Try.underlying24 Try.info5 rfl .i64 .i64 8 _ rfl rfl rfl (by omega) (by omega) ?_; intro w5 hb5 hk5 hs5)
  clear hs5
  have hp5 := hp1.nob hk5
  have hr5 := hr1.nob hk5
  have hk6 := hk1.nobt hk5
  have hR5 := (HR.out.nob hk1).nob hk5
  have hgw : w1.heap.size ≠ gp := by have := hp1.lt; omega
  have hga : w1.heap.size ≠ w.heap.size := by have := hr1.lt; omega
  have hgb : w1.heap.size ≠ g := by have := hk1.size; omega
  have hge : w.heap.size ≤ w1.heap.size := hk1.size
  rw [← bytes_replicate] at hb5
  clear hp1 hr1 hk1 hk5
  generalize w1.heap.size = ga at *
  have hpd := hp5.drew
  have hrd := hr5.drew
  have hkd := hk6.drew
  have hRd := hR5.nob ((Keep.refl Nob w5).drew)
  have hbd := hb5.drew
  clear hp5 hr5 hk6 hR5 hb5
  have hgr' : gp ≠ w.heap.size := Ne.symm hgr
  have hgd := HGD.out
  clear HGD
  cases ho : okd R with
  | true =>
    rw [ho, Bool.true_and] at hgd
    have ho2 := put_is_ R HRL.out ga _ hbd true ho
    simp only [pv, if_true] at ho2
    have HO := Lib.hid ho2
    have HV := Lib.hid hgd
    clear ho2 ho hgd
    refine wp_region_held_drew (S := (fun w' => Blk w' gp 23 (ints R))) (by kernel_rfl) hpd (fun hHeld => ?_)
    refine wpAnyH_take (i := 0) (v := ?_) rfl (by kernel_rfl) (by kernel_rfl) (by kernel_rfl) (fun _ _ _ h => h) (Or.inl ⟨by rfl, ?_⟩) (by assumption) ?_
    rotate_left
    · (intro w hSw; (try dsimp only at hSw); refine exec_load (x := .tmp 4) ?_ ?_ HRL.out hSw <;> rfl)
    try simp only [Act.put, List.getElem_toArray, List.getElem_cons_zero, List.getElem_cons_succ, List.setIfInBounds_toArray, List.set_cons_zero, List.set_cons_succ]
    refine wpAnyH_take (i := 1) (v := ?_) rfl (by kernel_rfl) (by kernel_rfl) (by kernel_rfl) (fun _ _ _ h => h) (Or.inl ⟨by rfl, ?_⟩) (by assumption) ?_
    rotate_left
    · (intro w hSw; (try dsimp only at hSw); refine exec_load (x := .tmp 4) ?_ ?_ HRL.out hSw <;> rfl)
    try simp only [Act.put, List.getElem_toArray, List.getElem_cons_zero, List.getElem_cons_succ, List.setIfInBounds_toArray, List.set_cons_zero, List.set_cons_succ]
    refine wpAnyH_take (i := 2) (v := ?_) rfl (by kernel_rfl) (by kernel_rfl) (by kernel_rfl) (fun _ _ _ h => h) (Or.inl ⟨by rfl, ?_⟩) (by assumption) ?_
    rotate_left
    · (intro w hSw; (try dsimp only at hSw); go_simp; try with_reducible rfl)
    try simp only [Act.put, List.getElem_toArray, List.getElem_cons_zero, List.getElem_cons_succ, List.setIfInBounds_toArray, List.set_cons_zero, List.set_cons_succ]
    refine wpAnyH_ready (rs := [3]) (by kernel_rfl) (by simp) ?_
    refine AllReadyH.cons rfl (fun K hK => ?_) AllReadyH.nil
    go_simp
    with_reducible_and_instances apply Calls.mono HO.out; rintro e w6 ⟨rfl, z6, k6⟩
    have hp6 := hpd.keep k6 (Ne.symm hgw)
    have hr6 := hrd.keep k6 (Ne.symm hga)
    refine hK.out _ _ ?_ (fun hHeld => ?_)
    · exact hp6
    clear hK K
    try simp only [Act.put, List.getElem_toArray, List.getElem_cons_zero, List.getElem_cons_succ, List.setIfInBounds_toArray, List.set_cons_zero, List.set_cons_succ]
    refine wpAnyH_take (i := 4) (v := ?_) rfl (by kernel_rfl) (by kernel_rfl) (by kernel_rfl) (fun _ _ _ h => h) (Or.inl ⟨by rfl, ?_⟩) (by assumption) ?_
    rotate_left
    · (intro w hSw; (try dsimp only at hSw); go_simp; try with_reducible rfl)
    try simp only [Act.put, List.getElem_toArray, List.getElem_cons_zero, List.getElem_cons_succ, List.setIfInBounds_toArray, List.set_cons_zero, List.set_cons_succ]
    refine wpAnyH_take (i := 5) (v := ?_) rfl (by kernel_rfl) (by kernel_rfl) (by kernel_rfl) (fun _ _ _ h => h) (Or.inl ⟨by rfl, ?_⟩) (by assumption) ?_
    rotate_left
    · (intro w hSw; (try dsimp only at hSw); go_simp; try with_reducible rfl)
    try simp only [Act.put, List.getElem_toArray, List.getElem_cons_zero, List.getElem_cons_succ, List.setIfInBounds_toArray, List.set_cons_zero, List.set_cons_succ]
    refine wpAnyH_take (i := 6) (v := ?_) rfl (by kernel_rfl) (by kernel_rfl) (by kernel_rfl) (fun _ _ _ h => h) (Or.inl ⟨by rfl, ?_⟩) (by assumption) ?_
    rotate_left
    · (intro w hSw; (try dsimp only at hSw); go_simp; try with_reducible rfl)
    try simp only [Act.put, List.getElem_toArray, List.getElem_cons_zero, List.getElem_cons_succ, List.setIfInBounds_toArray, List.set_cons_zero, List.set_cons_succ]
    refine wpAnyH_ready (rs := [7]) (by kernel_rfl) (by simp) ?_
    refine AllReadyH.cons rfl (fun K hK => ?_) AllReadyH.nil
    go_simp
    refine (equal_is _ _ _ _ _ _ (enc R) l _ (reads_all z6 (by rw [bytes_length, enc_len])) (hRd.keep k6 (fun ad e => by cases e; exact Ne.symm hgb)) v HV.out).mono ?_; rintro e w7 ⟨rfl, rfl⟩
    refine hK.out _ _ ?_ (fun hHeld => ?_)
    · exact hp6
    clear hK K
    try simp only [Act.put, List.getElem_toArray, List.getElem_cons_zero, List.getElem_cons_succ, List.setIfInBounds_toArray, List.set_cons_zero, List.set_cons_succ]
    refine wpAnyH_take (i := 8) (v := ?_) rfl (by kernel_rfl) (by kernel_rfl) (by kernel_rfl) (fun _ _ _ h => h) (Or.inl ⟨by rfl, ?_⟩) (by assumption) ?_
    rotate_left
    · (intro w hSw; (try dsimp only at hSw); go_simp; try with_reducible rfl)
    try simp only [Act.put, List.getElem_toArray, List.getElem_cons_zero, List.getElem_cons_succ, List.setIfInBounds_toArray, List.set_cons_zero, List.set_cons_succ]
    refine wpAnyH_ready (rs := [9]) (by kernel_rfl) (by simp) ?_
    refine AllReadyH.cons rfl (fun K hK => ?_) AllReadyH.nil
    rw [if_pos (by rfl)]
    refine wp_store_ (old := noP) (q := R) rfl rfl rfl HRL.out rfl hr6 ?_
    refine hK.out _ _ ?_ (fun hHeld => ?_)
    · exact hp6.setRow_far hgr' _
    clear hK K
    try simp only [Act.put, List.getElem_toArray, List.getElem_cons_zero, List.getElem_cons_succ, List.setIfInBounds_toArray, List.set_cons_zero, List.set_cons_succ]
    refine wpAnyH_take (i := 10) (v := ?_) rfl (by kernel_rfl) (by kernel_rfl) (by kernel_rfl) (fun _ _ _ h => h) (Or.inl ⟨by rfl, ?_⟩) (by assumption) ?_
    rotate_left
    · (intro w hSw; (try dsimp only at hSw); go_simp; try with_reducible rfl)
    try simp only [Act.put, List.getElem_toArray, List.getElem_cons_zero, List.getElem_cons_succ, List.setIfInBounds_toArray, List.set_cons_zero, List.set_cons_succ]
    refine wpAnyH_done (by kernel_rfl) ?_ _
    have fin := (hkd.trans k6 (fun b hb e => by have h3 : b = ga := e; omega)).setRow w.heap.size (ints R).toArray (fun h => absurd h (Nat.lt_irrefl _))
    have hr7 := hr6.setRow (ints R)
    go_wp2
    (try simp only [Exit.inBlock, Exit.then])
    refine bodyPost_ret (v := .tuple #[pv R, .bool v]) (results_pair rfl _ _ w.heap.size R HRL.out rfl hr7 _ rfl) rfl ?_
    exact ⟨rfl, fin⟩
  | false =>
    rw [ho, Bool.false_and] at hgd
    have ho2 := put_is_ R HRL.out ga _ hbd false ho
    simp only [pv, if_false, Bool.false_eq_true] at ho2
    have HO := Lib.hid ho2
    clear ho2 ho
    subst hgd
    refine wp_region_held_drew (S := (fun w' => Blk w' gp 23 (ints R))) (by kernel_rfl) hpd (fun hHeld => ?_)
    refine wpAnyH_take (i := 0) (v := ?_) rfl (by kernel_rfl) (by kernel_rfl) (by kernel_rfl) (fun _ _ _ h => h) (Or.inl ⟨by rfl, ?_⟩) (by assumption) ?_
    rotate_left
    · (intro w hSw; (try dsimp only at hSw); refine exec_load (x := .tmp 4) ?_ ?_ HRL.out hSw <;> rfl)
    try simp only [Act.put, List.getElem_toArray, List.getElem_cons_zero, List.getElem_cons_succ, List.setIfInBounds_toArray, List.set_cons_zero, List.set_cons_succ]
    refine wpAnyH_take (i := 1) (v := ?_) rfl (by kernel_rfl) (by kernel_rfl) (by kernel_rfl) (fun _ _ _ h => h) (Or.inl ⟨by rfl, ?_⟩) (by assumption) ?_
    rotate_left
    · (intro w hSw; (try dsimp only at hSw); refine exec_load (x := .tmp 4) ?_ ?_ HRL.out hSw <;> rfl)
    try simp only [Act.put, List.getElem_toArray, List.getElem_cons_zero, List.getElem_cons_succ, List.setIfInBounds_toArray, List.set_cons_zero, List.set_cons_succ]
    refine wpAnyH_take (i := 2) (v := ?_) rfl (by kernel_rfl) (by kernel_rfl) (by kernel_rfl) (fun _ _ _ h => h) (Or.inl ⟨by rfl, ?_⟩) (by assumption) ?_
    rotate_left
    · (intro w hSw; (try dsimp only at hSw); go_simp; try with_reducible rfl)
    try simp only [Act.put, List.getElem_toArray, List.getElem_cons_zero, List.getElem_cons_succ, List.setIfInBounds_toArray, List.set_cons_zero, List.set_cons_succ]
    refine wpAnyH_ready (rs := [3]) (by kernel_rfl) (by simp) ?_
    refine AllReadyH.cons rfl (fun K hK => ?_) AllReadyH.nil
    go_simp
    with_reducible_and_instances apply Calls.mono HO.out; rintro e w6 ⟨rfl, z6, k6⟩
    have hp6 := hpd.keep k6 (Ne.symm hgw)
    have hr6 := hrd.keep k6 (Ne.symm hga)
    refine hK.out _ _ ?_ (fun hHeld => ?_)
    · exact hp6
    clear hK K
    try simp only [Act.put, List.getElem_toArray, List.getElem_cons_zero, List.getElem_cons_succ, List.setIfInBounds_toArray, List.set_cons_zero, List.set_cons_succ]
    refine wpAnyH_take (i := 4) (v := ?_) rfl (by kernel_rfl) (by kernel_rfl) (by kernel_rfl) (fun _ _ _ h => h) (Or.inl ⟨by rfl, ?_⟩) (by assumption) ?_
    rotate_left
    · (intro w hSw; (try dsimp only at hSw); go_simp; try with_reducible rfl)
    try simp only [Act.put, List.getElem_toArray, List.getElem_cons_zero, List.getElem_cons_succ, List.setIfInBounds_toArray, List.set_cons_zero, List.set_cons_succ]
    refine wpAnyH_take (i := 5) (v := undef) rfl (by kernel_rfl) (by kernel_rfl) (by kernel_rfl) (fun _ _ _ h => h) (Or.inr ⟨by rfl, rfl⟩) (by assumption) ?_
    try simp only [Act.put, List.getElem_toArray, List.getElem_cons_zero, List.getElem_cons_succ, List.setIfInBounds_toArray, List.set_cons_zero, List.set_cons_succ]
    refine wpAnyH_take (i := 6) (v := undef) rfl (by kernel_rfl) (by kernel_rfl) (by kernel_rfl) (fun _ _ _ h => h) (Or.inr ⟨by rfl, rfl⟩) (by assumption) ?_
    try simp only [Act.put, List.getElem_toArray, List.getElem_cons_zero, List.getElem_cons_succ, List.setIfInBounds_toArray, List.set_cons_zero, List.set_cons_succ]
    refine wpAnyH_take (i := 7) (v := undef) rfl (by kernel_rfl) (by kernel_rfl) (by kernel_rfl) (fun _ _ _ h => h) (Or.inr ⟨by rfl, rfl⟩) (by assumption) ?_
    try simp only [Act.put, List.getElem_toArray, List.getElem_cons_zero, List.getElem_cons_succ, List.setIfInBounds_toArray, List.set_cons_zero, List.set_cons_succ]
    refine wpAnyH_take (i := 8) (v := ?_) rfl (by kernel_rfl) (by kernel_rfl) (by kernel_rfl) (fun _ _ _ h => h) (Or.inl ⟨by rfl, ?_⟩) (by assumption) ?_
    rotate_left
    · (intro w hSw; (try dsimp only at hSw); go_simp; try with_reducible rfl)
    try simp only [Act.put, List.getElem_toArray, List.getElem_cons_zero, List.getElem_cons_succ, List.setIfInBounds_toArray, List.set_cons_zero, List.set_cons_succ]
    refine wpAnyH_ready (rs := [9]) (by kernel_rfl) (by simp) ?_
    refine AllReadyH.cons rfl (fun K hK => ?_) AllReadyH.nil
    rw [if_pos (by rfl)]
    refine wp_store_ (old := noP) (q := R) rfl rfl rfl HRL.out rfl hr6 ?_
    refine hK.out _ _ ?_ (fun hHeld => ?_)
    · exact hp6.setRow_far hgr' _
    clear hK K
    try simp only [Act.put, List.getElem_toArray, List.getElem_cons_zero, List.getElem_cons_succ, List.setIfInBounds_toArray, List.set_cons_zero, List.set_cons_succ]
    refine wpAnyH_take (i := 10) (v := ?_) rfl (by kernel_rfl) (by kernel_rfl) (by kernel_rfl) (fun _ _ _ h => h) (Or.inl ⟨by rfl, ?_⟩) (by assumption) ?_
    rotate_left
    · (intro w hSw; (try dsimp only at hSw); go_simp; try with_reducible rfl)
    try simp only [Act.put, List.getElem_toArray, List.getElem_cons_zero, List.getElem_cons_succ, List.setIfInBounds_toArray, List.set_cons_zero, List.set_cons_succ]
    refine wpAnyH_done (by kernel_rfl) ?_ _
    have fin := (hkd.trans k6 (fun b hb e => by have h3 : b = ga := e; omega)).setRow w.heap.size (ints R).toArray (fun h => absurd h (Nat.lt_irrefl _))
    have hr7 := hr6.setRow (ints R)
    go_wp2
    (try simp only [Exit.inBlock, Exit.then])
    refine bodyPost_ret (v := .tuple #[pv R, .bool false]) (results_pair rfl _ _ w.heap.size R HRL.out rfl hr7 _ rfl) rfl ?_
    exact ⟨rfl, fin⟩
end Go.Proofs.Ytdlenjooidnofaa.Fi
