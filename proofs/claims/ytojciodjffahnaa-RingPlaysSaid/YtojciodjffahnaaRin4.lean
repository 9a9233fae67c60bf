/- Package ring: read. -/
import Derived.Test.YtojciodjffahnaaRin3
import Derived.BigRegion
import Derived.Deep.RegionHeld3
import Derived.Deep.CutBlock
namespace Go.Proofs.Ytojciodjffahnaa.Ri
open Go.RowKit
set_option linter.unusedVariables false
set_option linter.unusedSimpArgs false
theorem pc_splice (a b c d : Int) (l : List UInt8) (h : l.length = 32) : splice (pc ⟨a, b, c, d, nod⟩) 4 (bytes l) = pc ⟨a, b, c, d, l⟩ := by
  unfold splice
  show _ ++ (bytes l ++ List.drop (4 + (bytes l).length) _) = _
  rw [bytes_length, h]
  show _ ++ (bytes l ++ []) = _
  rw [List.append_nil]; rfl
set_option maxHeartbeats 4000000 in
set_option maxRecDepth 100000 in
theorem read_is (l : List UInt8) (hl : l.length = 40) (g c : Nat) (hc : 40 ≤ c) (w : World) (hr : Reads w (some ⟨g, 0, none⟩) 40 (bytes l)) (R : Pp) (hR : rd l = R) (v : Bool) (hv : gd l = v) :
    Calls Try.prog 33 #[.slice (some ⟨g, 0, none⟩) 40 c] w fun e w' => e = .returned (.tuple #[pv R, .bool v]) ∧ Keep Nob w w' := by
  have hlt := block_lt_of_cell (reads_at hr (k := 0) (by decide))
  have hlt' : g < w.heap.size := hlt
  have h0 := reads_at hr (k := 1) (by decide)
  have h1 := reads_at hr (k := 2) (by decide)
  have h2 := reads_at hr (k := 3) (by decide)
  have h3 := reads_at hr (k := 4) (by decide)
  have u0 := u8_lt (l.getD 1 0)
  have u1 := u8_lt (l.getD 2 0)
  have u2 := u8_lt (l.getD 3 0)
  have u3 := u8_lt (l.getD 4 0)
  have hgd : (okd (rd l) && enc (rd l) == l) = v := hv
  have HRL := Lib.hid (show R.d.length = 32 from by rw [← hR]; exact rd_len hl)
  have hr8 : Reads w (some ⟨g, 8, none⟩) 32 (bytes (l.drop 8)) := by
    refine ⟨by simp [hl], fun _ => ⟨_, rfl, fun j u hu => ?_⟩⟩
    obtain ⟨ad, e1, e2⟩ := hr.2 (by decide)
    cases e1
    have e3 := e2 (8 + j) u (by rw [bytes_drop, List.getElem?_drop] at hu; exact hu)
    rw [add_lit] at e3 ⊢
    rwa [Nat.zero_add] at e3
  have hl8 : (l.drop 8).length = 32 := by simp [hl]
  rw [hR] at hgd
  have hR4 : Pp.mk ((l.getD 1 0).toNat : Int) ((l.getD 2 0).toNat : Int) ((l.getD 3 0).toNat : Int) ((l.getD 4 0).toNat : Int) (l.drop 8) = R := hR
  obtain ⟨x0, hx0⟩ : ∃ x, ((l.getD 1 0).toNat : Int) = x := ⟨_, rfl⟩
  obtain ⟨x1, hx1⟩ : ∃ x, ((l.getD 2 0).toNat : Int) = x := ⟨_, rfl⟩
  obtain ⟨x2, hx2⟩ : ∃ x, ((l.getD 3 0).toNat : Int) = x := ⟨_, rfl⟩
  obtain ⟨x3, hx3⟩ : ∃ x, ((l.getD 4 0).toNat : Int) = x := ⟨_, rfl⟩
  rw [hx0, hx1, hx2, hx3] at hR4
  rw [hx0] at h0 u0
  rw [hx1] at h1 u1
  rw [hx2] at h2 u2
  rw [hx3] at h3 u3
  have i0 : IntKind.i64.wrap x0 = x0 := wrap_small_i64 _ (by omega) (by omega)
  have i1 : IntKind.i64.wrap x1 = x1 := wrap_small_i64 _ (by omega) (by omega)
  have i2 : IntKind.i64.wrap x2 = x2 := wrap_small_i64 _ (by omega) (by omega)
  have i3 : IntKind.i64.wrap x3 = x3 := wrap_small_i64 _ (by omega) (by omega)
  have HR := Lib.hid hr
  have HR8 := Lib.hid hr8
  have HL8 := Lib.hid hl8
  generalize l.drop 8 = m at *
  have HR4 := Lib.hid hR4
  have HGD := Lib.hid hgd
  have hc8 : ¬ (c = 8) := by omega
  have hcl : 40 ≤ c := hc
  have q0 : ∀ w2, Keep Nob w w2 → w2.cell? ⟨g, 1, none⟩ = some (.int .u8 x0) ∧ w2.cell? ⟨g, 2, none⟩ = some (.int .u8 x1) ∧ w2.cell? ⟨g, 3, none⟩ = some (.int .u8 x2) ∧ w2.cell? ⟨g, 4, none⟩ = some (.int .u8 x3) := fun w2 k => by
    have f : ∀ a v, w.cell? a = some v → a.block < w.heap.size → w2.cell? a = some v := fun a v h hb => by
      rw [← h]; exact World.cell?_of_block (w := w) (k.block _ hb (fun f => f))
    exact ⟨f _ _ h0 hlt', f _ _ h1 hlt', f _ _ h2 hlt', f _ _ h3 hlt'⟩
  have HQ0 := Lib.hid q0
  clear hR hv hr hx0 hx1 hx2 hx3 hlt hR4 hgd hr8 hl8 hc h0 h1 h2 h3 u0 u1 u2 u3 q0
  go_enter Try.func33, Try.ntmps33
  go_wp2_with (refine wpList_al rfl rfl ?_; intro w0 hr0 hk0 hs0; clear hs0)
  have hr0 := hr0.drew
  have hk0 := hk0.drew
  refine wp_region_held_drew (S := (fun w' => w'.cell? ⟨g, 1, none⟩ = some (.int .u8 x0) ∧ w'.cell? ⟨g, 2, none⟩ = some (.int .u8 x1) ∧ w'.cell? ⟨g, 3, none⟩ = some (.int .u8 x2) ∧ w'.cell? ⟨g, 4, none⟩ = some (.int .u8 x3))) (by kernel_rfl) (HQ0.out _ hk0) (fun hHeld => ?_)
  generalize w0.drew = wd at *
  refine wpAnyH_take (i := 0) (v := ?_) rfl (by kernel_rfl) (by kernel_rfl) (by kernel_rfl) (fun _ _ _ h => h) (Or.inl ⟨by rfl, ?_⟩) (by assumption) ?_
  rotate_left
  · (intro w hSw; (try dsimp only at hSw); obtain ⟨s1, s2, s3, s4⟩ := hSw; go_simp; try with_reducible rfl)
  try simp only [Act.put, List.getElem_toArray, List.getElem_cons_zero, List.getElem_cons_succ, List.setIfInBounds_toArray, List.set_cons_zero, List.set_cons_succ]
  refine wpAnyH_take (i := 1) (v := ?_) rfl (by kernel_rfl) (by kernel_rfl) (by kernel_rfl) (fun _ _ _ h => h) (Or.inl ⟨by rfl, ?_⟩) (by assumption) ?_
  rotate_left
  · (intro w hSw; (try dsimp only at hSw); obtain ⟨s1, s2, s3, s4⟩ := hSw; go_simp; try with_reducible rfl)
  try simp only [Act.put, List.getElem_toArray, List.getElem_cons_zero, List.getElem_cons_succ, List.setIfInBounds_toArray, List.set_cons_zero, List.set_cons_succ]
  refine wpAnyH_take (i := 2) (v := ?_) rfl (by kernel_rfl) (by kernel_rfl) (by kernel_rfl) (fun _ _ _ h => h) (Or.inl ⟨by rfl, ?_⟩) (by assumption) ?_
  rotate_left
  · (intro w hSw; (try dsimp only at hSw); obtain ⟨s1, s2, s3, s4⟩ := hSw; go_simp; try with_reducible rfl)
  try simp only [Act.put, List.getElem_toArray, List.getElem_cons_zero, List.getElem_cons_succ, List.setIfInBounds_toArray, List.set_cons_zero, List.set_cons_succ]
  refine wpAnyH_take (i := 3) (v := ?_) rfl (by kernel_rfl) (by kernel_rfl) (by kernel_rfl) (fun _ _ _ h => h) (Or.inl ⟨by rfl, ?_⟩) (by assumption) ?_
  rotate_left
  · (intro w hSw; (try dsimp only at hSw); obtain ⟨s1, s2, s3, s4⟩ := hSw; go_simp; try with_reducible rfl)
  try simp only [Act.put, List.getElem_toArray, List.getElem_cons_zero, List.getElem_cons_succ, List.setIfInBounds_toArray, List.set_cons_zero, List.set_cons_succ]
  refine wpAnyH_take (i := 4) (v := ?_) rfl (by kernel_rfl) (by kernel_rfl) (by kernel_rfl) (fun _ _ _ h => h) (Or.inl ⟨by rfl, ?_⟩) (by assumption) ?_
  rotate_left
  · (intro w hSw; (try dsimp only at hSw); obtain ⟨s1, s2, s3, s4⟩ := hSw; go_simp; try with_reducible rfl)
  try simp only [Act.put, List.getElem_toArray, List.getElem_cons_zero, List.getElem_cons_succ, List.setIfInBounds_toArray, List.set_cons_zero, List.set_cons_succ]
  refine wpAnyH_take (i := 5) (v := ?_) rfl (by kernel_rfl) (by kernel_rfl) (by kernel_rfl) (fun _ _ _ h => h) (Or.inl ⟨by rfl, ?_⟩) (by assumption) ?_
  rotate_left
  · (intro w hSw; (try dsimp only at hSw); obtain ⟨s1, s2, s3, s4⟩ := hSw; go_simp; try with_reducible rfl)
  try simp only [Act.put, List.getElem_toArray, List.getElem_cons_zero, List.getElem_cons_succ, List.setIfInBounds_toArray, List.set_cons_zero, List.set_cons_succ]
  refine wpAnyH_take (i := 6) (v := ?_) rfl (by kernel_rfl) (by kernel_rfl) (by kernel_rfl) (fun _ _ _ h => h) (Or.inl ⟨by rfl, ?_⟩) (by assumption) ?_
  rotate_left
  · (intro w hSw; (try dsimp only at hSw); obtain ⟨s1, s2, s3, s4⟩ := hSw; go_simp; try with_reducible rfl)
  try simp only [Act.put, List.getElem_toArray, List.getElem_cons_zero, List.getElem_cons_succ, List.setIfInBounds_toArray, List.set_cons_zero, List.set_cons_succ]
  refine wpAnyH_take (i := 7) (v := ?_) rfl (by kernel_rfl) (by kernel_rfl) (by kernel_rfl) (fun _ _ _ h => h) (Or.inl ⟨by rfl, ?_⟩) (by assumption) ?_
  rotate_left
  · (intro w hSw; (try dsimp only at hSw); obtain ⟨s1, s2, s3, s4⟩ := hSw; go_simp; try with_reducible rfl)
  try simp only [Act.put, List.getElem_toArray, List.getElem_cons_zero, List.getElem_cons_succ, List.setIfInBounds_toArray, List.set_cons_zero, List.set_cons_succ]
  refine wpAnyH_take (i := 8) (v := ?_) rfl (by kernel_rfl) (by kernel_rfl) (by kernel_rfl) (fun _ _ _ h => h) (Or.inl ⟨by rfl, ?_⟩) (by assumption) ?_
  rotate_left
  · (intro w hSw; (try dsimp only at hSw); obtain ⟨s1, s2, s3, s4⟩ := hSw; go_simp; try with_reducible rfl)
  try simp only [Act.put, List.getElem_toArray, List.getElem_cons_zero, List.getElem_cons_succ, List.setIfInBounds_toArray, List.set_cons_zero, List.set_cons_succ]
  refine wpAnyH_take (i := 9) (v := ?_) rfl (by kernel_rfl) (by kernel_rfl) (by kernel_rfl) (fun _ _ _ h => h) (Or.inl ⟨by rfl, ?_⟩) (by assumption) ?_
  rotate_left
  · (intro w hSw; (try dsimp only at hSw); obtain ⟨s1, s2, s3, s4⟩ := hSw; go_simp; try with_reducible rfl)
  try simp only [Act.put, List.getElem_toArray, List.getElem_cons_zero, List.getElem_cons_succ, List.setIfInBounds_toArray, List.set_cons_zero, List.set_cons_succ]
  refine wpAnyH_take (i := 10) (v := ?_) rfl (by kernel_rfl) (by kernel_rfl) (by kernel_rfl) (fun _ _ _ h => h) (Or.inl ⟨by rfl, ?_⟩) (by assumption) ?_
  rotate_left
  · (intro w hSw; (try dsimp only at hSw); obtain ⟨s1, s2, s3, s4⟩ := hSw; go_simp; try with_reducible rfl)
  try simp only [Act.put, List.getElem_toArray, List.getElem_cons_zero, List.getElem_cons_succ, List.setIfInBounds_toArray, List.set_cons_zero, List.set_cons_succ]
  refine wpAnyH_take (i := 11) (v := ?_) rfl (by kernel_rfl) (by kernel_rfl) (by kernel_rfl) (fun _ _ _ h => h) (Or.inl ⟨by rfl, ?_⟩) (by assumption) ?_
  rotate_left
  · (intro w hSw; (try dsimp only at hSw); obtain ⟨s1, s2, s3, s4⟩ := hSw; go_simp; try with_reducible rfl)
  try simp only [Act.put, List.getElem_toArray, List.getElem_cons_zero, List.getElem_cons_succ, List.setIfInBounds_toArray, List.set_cons_zero, List.set_cons_succ]
  refine wpAnyH_take (i := 12) (v := ?_) rfl (by kernel_rfl) (by kernel_rfl) (by kernel_rfl) (fun _ _ _ h => h) (Or.inl ⟨by rfl, ?_⟩) (by assumption) ?_
  rotate_left
  · (intro w hSw; (try dsimp only at hSw); obtain ⟨s1, s2, s3, s4⟩ := hSw; go_simp; try with_reducible rfl)
  try simp only [Act.put, List.getElem_toArray, List.getElem_cons_zero, List.getElem_cons_succ, List.setIfInBounds_toArray, List.set_cons_zero, List.set_cons_succ]
  refine wpAnyH_take (i := 13) (v := ?_) rfl (by kernel_rfl) (by kernel_rfl) (by kernel_rfl) (fun _ _ _ h => h) (Or.inl ⟨by rfl, ?_⟩) (by assumption) ?_
  rotate_left
  · (intro w hSw; (try dsimp only at hSw); obtain ⟨s1, s2, s3, s4⟩ := hSw; go_simp; try with_reducible rfl)
  try simp only [Act.put, List.getElem_toArray, List.getElem_cons_zero, List.getElem_cons_succ, List.setIfInBounds_toArray, List.set_cons_zero, List.set_cons_succ]
  refine wpAnyH_take (i := 14) (v := ?_) rfl (by kernel_rfl) (by kernel_rfl) (by kernel_rfl) (fun _ _ _ h => h) (Or.inl ⟨by rfl, ?_⟩) (by assumption) ?_
  rotate_left
  · (intro w hSw; (try dsimp only at hSw); obtain ⟨s1, s2, s3, s4⟩ := hSw; go_simp; try with_reducible rfl)
  try simp only [Act.put, List.getElem_toArray, List.getElem_cons_zero, List.getElem_cons_succ, List.setIfInBounds_toArray, List.set_cons_zero, List.set_cons_succ]
  refine wpAnyH_take (i := 15) (v := ?_) rfl (by kernel_rfl) (by kernel_rfl) (by kernel_rfl) (fun _ _ _ h => h) (Or.inl ⟨by rfl, ?_⟩) (by assumption) ?_
  rotate_left
  · (intro w hSw; (try dsimp only at hSw); obtain ⟨s1, s2, s3, s4⟩ := hSw; go_simp; try with_reducible rfl)
  try simp only [Act.put, List.getElem_toArray, List.getElem_cons_zero, List.getElem_cons_succ, List.setIfInBounds_toArray, List.set_cons_zero, List.set_cons_succ]
  refine wpAnyH_take (i := 16) (v := ?_) rfl (by kernel_rfl) (by kernel_rfl) (by kernel_rfl) (fun _ _ _ h => h) (Or.inl ⟨by rfl, ?_⟩) (by assumption) ?_
  rotate_left
  · (intro w hSw; (try dsimp only at hSw); obtain ⟨s1, s2, s3, s4⟩ := hSw; refine exec_bu (.tmp 9) (.tmp 13) (.tmp 17) (.tmp 21) ?_ x0 x1 x2 x3 ?_ ?_ ?_ ?_ <;> rfl)
  try simp only [Act.put, List.getElem_toArray, List.getElem_cons_zero, List.getElem_cons_succ, List.setIfInBounds_toArray, List.set_cons_zero, List.set_cons_succ]
  refine wpAnyH_ready (rs := [17]) (by kernel_rfl) (by simp) ?_
  refine AllReadyH.cons rfl (fun K hK => ?_) AllReadyH.nil
  refine wp_al rfl ?_; intro wa hp0 kA sA; clear sA
  refine hK.out _ _ ?_ (fun hHeld => ?_)
  · exact HQ0.out _ (hk0.nobt kA)
  clear hK K
  try simp only [Act.put, List.getElem_toArray, List.getElem_cons_zero, List.getElem_cons_succ, List.setIfInBounds_toArray, List.set_cons_zero, List.set_cons_succ]
  have hgr : w.heap.size ≠ wd.heap.size := by have := hr0.lt; omega
  have hgp : g ≠ wd.heap.size := by have := hk0.size; omega
  have hgd : wd.heap.size ≤ wd.heap.size := Nat.le_refl _
  generalize hgpe : wd.heap.size = gp at *
  refine wpAnyH_ready (rs := [18]) (by kernel_rfl) (by simp) ?_
  refine AllReadyH.cons rfl (fun K hK => ?_) AllReadyH.nil
  rw [if_pos (by rfl)]
  refine wp_store_ (old := noP) (q := ⟨x0, x1, x2, x3, nod⟩) rfl rfl rfl rfl rfl hp0 ?_
  have kB := (Keep.refl (· = gp) wa).setRow gp (pc ⟨x0, x1, x2, x3, nod⟩).toArray (fun _ => rfl)
  have hp1 : Blk _ gp 26 (pc ⟨x0, x1, x2, x3, nod⟩) := hp0.setRow _
  refine hK.out _ _ ?_ (fun hHeld => ?_)
  · exact (by have := HQ0.out _ (hk0.nobt kA |>.trans kB (fun b hb e => by have h3 : b = gp := e; have := hk0.size; omega)); exact this)
  clear hK K
  try simp only [Act.put, List.getElem_toArray, List.getElem_cons_zero, List.getElem_cons_succ, List.setIfInBounds_toArray, List.set_cons_zero, List.set_cons_succ]
  refine wpAnyH_done (by kernel_rfl) ?_ _
  clear hp0 hgd
  generalize wa.setRow gp (pc ⟨x0, x1, x2, x3, nod⟩).toArray = w1 at *
  have hr1 : Blk w1 w.heap.size 26 (pc noP) := hr0.nob kA |>.keep kB hgr
  have hk1 : Keep Nob w w1 := (hk0.nobt kA).trans kB (fun b hb e => by have h3 : b = gp := e; have := hk0.size; omega)
  have hgn : w.heap.size ≤ gp := by have := hk0.size; omega
  clear hr0 hk0 kA kB HQ0 i0 i1 i2 i3
  obtain ⟨w2, hcp, hp2, hk2, hs2⟩ := run_cp (P := Try.prog) w1.drew 22 22 5 Try.underlying22 Try.size5 (some ⟨gp, 4, none⟩) (some ⟨g, 8, none⟩) 32 32 32 (c - 8) gp 4 _ 26 hp1.drew (bytes m) (HR8.out.nob hk1.drew) (fun _ => rfl) (by rw [pc_len (by rfl)]; exact Nat.le_refl _) (bytes_one _)
  rw [List.take_of_length_le (by rw [bytes_length, HL8.out]; exact Nat.le_refl _), pc_splice _ _ _ _ _ HL8.out, HR4.out] at hp2
  have hr2 : Blk w2 w.heap.size 26 (pc noP) := hr1.drew.keep hk2 hgr
  have hk2 : Keep Nob w w2 := hk1.drew.trans hk2 (fun b hb e => by have h3 : b = gp := e; omega)
  clear hp1 hr1 hk1 HR4 HR8 HL8
  clear hs2
  go_upto_region 2 with fail
  go_region
  clear hcp hc8 hcl
  go_wp2_with (refine wpList_mk rfl _ _ 22 rfl 5 (.int .u8 0) 1 Try.underlying22 Try.info5 rfl .i64 .i64 40 _ rfl rfl rfl (by omega) (by omega) ?_; intro w5 hb5 hk5 hs5)
  clear hs5
  have hp5 := hp2.nob hk5
  have hr5 := hr2.nob hk5
  have hk6 := hk2.nobt hk5
  have hR5 := (HR.out.nob hk2).nob hk5
  have hgw : w2.heap.size ≠ gp := by have := hp2.lt; omega
  have hga : w2.heap.size ≠ w.heap.size := by have := hr2.lt; omega
  have hgb : w2.heap.size ≠ g := by have := hk2.size; omega
  have hge : w.heap.size ≤ w2.heap.size := hk2.size
  rw [← bytes_replicate] at hb5
  clear hp2 hr2 hk2 hk5
  generalize w2.heap.size = ga at *
  have hpd := hp5.drew
  have hrd := hr5.drew
  have hkd := hk6.drew
  have hRd := hR5.nob ((Keep.refl Nob w5).drew)
  have hbd := hb5.drew
  clear hp5 hr5 hk6 hR5 hb5
  have hgr' : gp ≠ w.heap.size := Ne.symm hgr
  have hgd := HGD.out
  clear HGD
  cases ho : okd R with
  | true =>
    rw [ho, Bool.true_and] at hgd
    have ho2 := write_is R HRL.out ga _ hbd true ho
    simp only [pv, if_true] at ho2
    have HO := Lib.hid ho2
    have HV := Lib.hid hgd
    clear ho2 ho hgd
    refine wp_region_held_drew (S := (fun w' => Blk w' gp 26 (pc R))) (by kernel_rfl) hpd (fun hHeld => ?_)
    refine wpAnyH_take (i := 0) (v := ?_) rfl (by kernel_rfl) (by kernel_rfl) (by kernel_rfl) (fun _ _ _ h => h) (Or.inl ⟨by rfl, ?_⟩) (by assumption) ?_
    rotate_left
    · (intro w hSw; (try dsimp only at hSw); refine exec_load (x := .tmp 4) ?_ ?_ HRL.out hSw <;> rfl)
    try simp only [Act.put, List.getElem_toArray, List.getElem_cons_zero, List.getElem_cons_succ, List.setIfInBounds_toArray, List.set_cons_zero, List.set_cons_succ]
    refine wpAnyH_take (i := 1) (v := ?_) rfl (by kernel_rfl) (by kernel_rfl) (by kernel_rfl) (fun _ _ _ h => h) (Or.inl ⟨by rfl, ?_⟩) (by assumption) ?_
    rotate_left
    · (intro w hSw; (try dsimp only at hSw); refine exec_load (x := .tmp 4) ?_ ?_ HRL.out hSw <;> rfl)
    try simp only [Act.put, List.getElem_toArray, List.getElem_cons_zero, List.getElem_cons_succ, List.setIfInBounds_toArray, List.set_cons_zero, List.set_cons_succ]
    refine wpAnyH_take (i := 2) (v := ?_) rfl (by kernel_rfl) (by kernel_rfl) (by kernel_rfl) (fun _ _ _ h => h) (Or.inl ⟨by rfl, ?_⟩) (by assumption) ?_
    rotate_left
    · (intro w hSw; (try dsimp only at hSw); go_simp; try with_reducible rfl)
    try simp only [Act.put, List.getElem_toArray, List.getElem_cons_zero, List.getElem_cons_succ, List.setIfInBounds_toArray, List.set_cons_zero, List.set_cons_succ]
    refine wpAnyH_ready (rs := [3]) (by kernel_rfl) (by simp) ?_
    refine AllReadyH.cons rfl (fun K hK => ?_) AllReadyH.nil
    go_simp
    with_reducible_and_instances apply Calls.mono HO.out; rintro e w6 ⟨rfl, z6, k6⟩
    have hp6 := hpd.keep k6 (Ne.symm hgw)
    have hr6 := hrd.keep k6 (Ne.symm hga)
    refine hK.out _ _ ?_ (fun hHeld => ?_)
    · exact hp6
    clear hK K
    try simp only [Act.put, List.getElem_toArray, List.getElem_cons_zero, List.getElem_cons_succ, List.setIfInBounds_toArray, List.set_cons_zero, List.set_cons_succ]
    refine wpAnyH_take (i := 4) (v := ?_) rfl (by kernel_rfl) (by kernel_rfl) (by kernel_rfl) (fun _ _ _ h => h) (Or.inl ⟨by rfl, ?_⟩) (by assumption) ?_
    rotate_left
    · (intro w hSw; (try dsimp only at hSw); go_simp; try with_reducible rfl)
    try simp only [Act.put, List.getElem_toArray, List.getElem_cons_zero, List.getElem_cons_succ, List.setIfInBounds_toArray, List.set_cons_zero, List.set_cons_succ]
    refine wpAnyH_take (i := 5) (v := ?_) rfl (by kernel_rfl) (by kernel_rfl) (by kernel_rfl) (fun _ _ _ h => h) (Or.inl ⟨by rfl, ?_⟩) (by assumption) ?_
    rotate_left
    · (intro w hSw; (try dsimp only at hSw); go_simp; try with_reducible rfl)
    try simp only [Act.put, List.getElem_toArray, List.getElem_cons_zero, List.getElem_cons_succ, List.setIfInBounds_toArray, List.set_cons_zero, List.set_cons_succ]
    refine wpAnyH_take (i := 6) (v := ?_) rfl (by kernel_rfl) (by kernel_rfl) (by kernel_rfl) (fun _ _ _ h => h) (Or.inl ⟨by rfl, ?_⟩) (by assumption) ?_
    rotate_left
    · (intro w hSw; (try dsimp only at hSw); go_simp; try with_reducible rfl)
    try simp only [Act.put, List.getElem_toArray, List.getElem_cons_zero, List.getElem_cons_succ, List.setIfInBounds_toArray, List.set_cons_zero, List.set_cons_succ]
    refine wpAnyH_ready (rs := [7]) (by kernel_rfl) (by simp) ?_
    refine AllReadyH.cons rfl (fun K hK => ?_) AllReadyH.nil
    go_simp
    refine (equal_is _ _ _ _ _ _ (enc R) l _ (reads_all z6 (by rw [bytes_length, enc_len HRL.out])) (hRd.keep k6 (fun ad e => by cases e; exact Ne.symm hgb)) v HV.out).mono ?_; rintro e w7 ⟨rfl, rfl⟩
    refine hK.out _ _ ?_ (fun hHeld => ?_)
    · exact hp6
    clear hK K
    try simp only [Act.put, List.getElem_toArray, List.getElem_cons_zero, List.getElem_cons_succ, List.setIfInBounds_toArray, List.set_cons_zero, List.set_cons_succ]
    refine wpAnyH_take (i := 8) (v := ?_) rfl (by kernel_rfl) (by kernel_rfl) (by kernel_rfl) (fun _ _ _ h => h) (Or.inl ⟨by rfl, ?_⟩) (by assumption) ?_
    rotate_left
    · (intro w hSw; (try dsimp only at hSw); go_simp; try with_reducible rfl)
    try simp only [Act.put, List.getElem_toArray, List.getElem_cons_zero, List.getElem_cons_succ, List.setIfInBounds_toArray, List.set_cons_zero, List.set_cons_succ]
    refine wpAnyH_ready (rs := [9]) (by kernel_rfl) (by simp) ?_
    refine AllReadyH.cons rfl (fun K hK => ?_) AllReadyH.nil
    rw [if_pos (by rfl)]
    refine wp_store_ (old := noP) (q := R) rfl rfl rfl HRL.out rfl hr6 ?_
    refine hK.out _ _ ?_ (fun hHeld => ?_)
    · exact hp6.setRow_far hgr' _
    clear hK K
    try simp only [Act.put, List.getElem_toArray, List.getElem_cons_zero, List.getElem_cons_succ, List.setIfInBounds_toArray, List.set_cons_zero, List.set_cons_succ]
    refine wpAnyH_take (i := 10) (v := ?_) rfl (by kernel_rfl) (by kernel_rfl) (by kernel_rfl) (fun _ _ _ h => h) (Or.inl ⟨by rfl, ?_⟩) (by assumption) ?_
    rotate_left
    · (intro w hSw; (try dsimp only at hSw); go_simp; try with_reducible rfl)
    try simp only [Act.put, List.getElem_toArray, List.getElem_cons_zero, List.getElem_cons_succ, List.setIfInBounds_toArray, List.set_cons_zero, List.set_cons_succ]
    refine wpAnyH_done (by kernel_rfl) ?_ _
    have fin := (hkd.trans k6 (fun b hb e => by have h3 : b = ga := e; omega)).setRow w.heap.size (pc R).toArray (fun h => absurd h (Nat.lt_irrefl _))
    have hr7 := hr6.setRow (pc R)
    go_wp2
    (try simp only [Exit.inBlock, Exit.then])
    refine bodyPost_ret (v := .tuple #[pv R, .bool v]) (results_pair rfl _ _ w.heap.size R HRL.out rfl hr7 _ rfl) rfl ?_
    exact ⟨rfl, fin⟩
  | false =>
    rw [ho, Bool.false_and] at hgd
    have ho2 := write_is R HRL.out ga _ hbd false ho
    simp only [pv, if_false, Bool.false_eq_true] at ho2
    have HO := Lib.hid ho2
    clear ho2 ho
    subst hgd
    refine wp_region_held_drew (S := (fun w' => Blk w' gp 26 (pc R))) (by kernel_rfl) hpd (fun hHeld => ?_)
    refine wpAnyH_take (i := 0) (v := ?_) rfl (by kernel_rfl) (by kernel_rfl) (by kernel_rfl) (fun _ _ _ h => h) (Or.inl ⟨by rfl, ?_⟩) (by assumption) ?_
    rotate_left
    · (intro w hSw; (try dsimp only at hSw); refine exec_load (x := .tmp 4) ?_ ?_ HRL.out hSw <;> rfl)
    try simp only [Act.put, List.getElem_toArray, List.getElem_cons_zero, List.getElem_cons_succ, List.setIfInBounds_toArray, List.set_cons_zero, List.set_cons_succ]
    refine wpAnyH_take (i := 1) (v := ?_) rfl (by kernel_rfl) (by kernel_rfl) (by kernel_rfl) (fun _ _ _ h => h) (Or.inl ⟨by rfl, ?_⟩) (by assumption) ?_
    rotate_left
    · (intro w hSw; (try dsimp only at hSw); refine exec_load (x := .tmp 4) ?_ ?_ HRL.out hSw <;> rfl)
    try simp only [Act.put, List.getElem_toArray, List.getElem_cons_zero, List.getElem_cons_succ, List.setIfInBounds_toArray, List.set_cons_zero, List.set_cons_succ]
    refine wpAnyH_take (i := 2) (v := ?_) rfl (by kernel_rfl) (by kernel_rfl) (by kernel_rfl) (fun _ _ _ h => h) (Or.inl ⟨by rfl, ?_⟩) (by assumption) ?_
    rotate_left
    · (intro w hSw; (try dsimp only at hSw); go_simp; try with_reducible rfl)
    try simp only [Act.put, List.getElem_toArray, List.getElem_cons_zero, List.getElem_cons_succ, List.setIfInBounds_toArray, List.set_cons_zero, List.set_cons_succ]
    refine wpAnyH_ready (rs := [3]) (by kernel_rfl) (by simp) ?_
    refine AllReadyH.cons rfl (fun K hK => ?_) AllReadyH.nil
    go_simp
    with_reducible_and_instances apply Calls.mono HO.out; rintro e w6 ⟨rfl, z6, k6⟩
    have hp6 := hpd.keep k6 (Ne.symm hgw)
    have hr6 := hrd.keep k6 (Ne.symm hga)
    refine hK.out _ _ ?_ (fun hHeld => ?_)
    · exact hp6
    clear hK K
    try simp only [Act.put, List.getElem_toArray, List.getElem_cons_zero, List.getElem_cons_succ, List.setIfInBounds_toArray, List.set_cons_zero, List.set_cons_succ]
    refine wpAnyH_take (i := 4) (v := ?_) rfl (by kernel_rfl) (by kernel_rfl) (by kernel_rfl) (fun _ _ _ h => h) (Or.inl ⟨by rfl, ?_⟩) (by assumption) ?_
    rotate_left
    · (intro w hSw; (try dsimp only at hSw); go_simp; try with_reducible rfl)
    try simp only [Act.put, List.getElem_toArray, List.getElem_cons_zero, List.getElem_cons_succ, List.setIfInBounds_toArray, List.set_cons_zero, List.set_cons_succ]
    refine wpAnyH_take (i := 5) (v := undef) rfl (by kernel_rfl) (by kernel_rfl) (by kernel_rfl) (fun _ _ _ h => h) (Or.inr ⟨by rfl, rfl⟩) (by assumption) ?_
    try simp only [Act.put, List.getElem_toArray, List.getElem_cons_zero, List.getElem_cons_succ, List.setIfInBounds_toArray, List.set_cons_zero, List.set_cons_succ]
    refine wpAnyH_take (i := 6) (v := undef) rfl (by kernel_rfl) (by kernel_rfl) (by kernel_rfl) (fun _ _ _ h => h) (Or.inr ⟨by rfl, rfl⟩) (by assumption) ?_
    try simp only [Act.put, List.getElem_toArray, List.getElem_cons_zero, List.getElem_cons_succ, List.setIfInBounds_toArray, List.set_cons_zero, List.set_cons_succ]
    refine wpAnyH_take (i := 7) (v := undef) rfl (by kernel_rfl) (by kernel_rfl) (by kernel_rfl) (fun _ _ _ h => h) (Or.inr ⟨by rfl, rfl⟩) (by assumption) ?_
    try simp only [Act.put, List.getElem_toArray, List.getElem_cons_zero, List.getElem_cons_succ, List.setIfInBounds_toArray, List.set_cons_zero, List.set_cons_succ]
    refine wpAnyH_take (i := 8) (v := ?_) rfl (by kernel_rfl) (by kernel_rfl) (by kernel_rfl) (fun _ _ _ h => h) (Or.inl ⟨by rfl, ?_⟩) (by assumption) ?_
    rotate_left
    · (intro w hSw; (try dsimp only at hSw); go_simp; try with_reducible rfl)
    try simp only [Act.put, List.getElem_toArray, List.getElem_cons_zero, List.getElem_cons_succ, List.setIfInBounds_toArray, List.set_cons_zero, List.set_cons_succ]
    refine wpAnyH_ready (rs := [9]) (by kernel_rfl) (by simp) ?_
    refine AllReadyH.cons rfl (fun K hK => ?_) AllReadyH.nil
    rw [if_pos (by rfl)]
    refine wp_store_ (old := noP) (q := R) rfl rfl rfl HRL.out rfl hr6 ?_
    refine hK.out _ _ ?_ (fun hHeld => ?_)
    · exact hp6.setRow_far hgr' _
    clear hK K
    try simp only [Act.put, List.getElem_toArray, List.getElem_cons_zero, List.getElem_cons_succ, List.setIfInBounds_toArray, List.set_cons_zero, List.set_cons_succ]
    refine wpAnyH_take (i := 10) (v := ?_) rfl (by kernel_rfl) (by kernel_rfl) (by kernel_rfl) (fun _ _ _ h => h) (Or.inl ⟨by rfl, ?_⟩) (by assumption) ?_
    rotate_left
    · (intro w hSw; (try dsimp only at hSw); go_simp; try with_reducible rfl)
    try simp only [Act.put, List.getElem_toArray, List.getElem_cons_zero, List.getElem_cons_succ, List.setIfInBounds_toArray, List.set_cons_zero, List.set_cons_succ]
    refine wpAnyH_done (by kernel_rfl) ?_ _
    have fin := (hkd.trans k6 (fun b hb e => by have h3 : b = ga := e; omega)).setRow w.heap.size (pc R).toArray (fun h => absurd h (Nat.lt_irrefl _))
    have hr7 := hr6.setRow (pc R)
    go_wp2
    (try simp only [Exit.inBlock, Exit.then])
    refine bodyPost_ret (v := .tuple #[pv R, .bool false]) (results_pair rfl _ _ w.heap.size R HRL.out rfl hr7 _ rfl) rfl ?_
    exact ⟨rfl, fin⟩
end Go.Proofs.Ytojciodjffahnaa.Ri
