/- Texts Rin4, Rin5, RinT, packed. -/
import Derived.BigRegion
import Derived.Deep.RegionHeld3
import Derived.Deep.CutBlock
import Derived.Test.YtngchjejmnfanaaGreatPu0
import Derived.Test.YtngchjejmnfanaaGreatPu3
import Derived.Test.YtngchjejmnfanaaGreatPu4
import Derived.Test.YtngchjejmnfanaaGreatPu5
namespace Go.Proofs.YtngchjejmnfanaaGreat.Ri
open Go.RowKit Cd
set_option linter.unusedVariables false
set_option linter.unusedSimpArgs false
theorem pc_splice (a b c d : Int) (l : List UInt8) (h : l.length = 32) : splice (pc ⟨a, b, c, d, nod⟩) 4 (bytes l) = pc ⟨a, b, c, d, l⟩ := by
  unfold splice
  show _ ++ (bytes l ++ List.drop (4 + (bytes l).length) _) = _
  rw [bytes_length, h]
  show _ ++ (bytes l ++ []) = _
  rw [List.append_nil]; rfl
set_option maxHeartbeats 4000000 in
set_option maxRecDepth 100000 in
theorem read_is (l : List UInt8) (hl : l.length = 40) (g c : Nat) (hc : 40 ≤ c) (w : World) (hr : Reads w (some ⟨g, 0, none⟩) 40 (bytes l)) (R : Pp) (hR : rd l = R) (v : Bool) (hv : gd l = v) :
    Calls Tryz.prog 289 #[.slice (some ⟨g, 0, none⟩) 40 c] w fun e w' => e = .returned (.tuple #[pv R, .bool v]) ∧ Keep Nob w w' := by
  have hlt := block_lt_of_cell (reads_at hr (k := 0) (by decide))
  have hlt' : g < w.heap.size := hlt
  have h0 := reads_at hr (k := 1) (by decide)
  have h1 := reads_at hr (k := 2) (by decide)
  have h2 := reads_at hr (k := 3) (by decide)
  have h3 := reads_at hr (k := 4) (by decide)
  have u0 := u8_lt (l.getD 1 0)
  have u1 := u8_lt (l.getD 2 0)
  have u2 := u8_lt (l.getD 3 0)
  have u3 := u8_lt (l.getD 4 0)
  have hgd : (okd (rd l) && enc (rd l) == l) = v := hv
  have HRL := Lib.hid (show R.d.length = 32 from by rw [← hR]; exact rd_len hl)
  have hr8 : Reads w (some ⟨g, 8, none⟩) 32 (bytes (l.drop 8)) := by
    refine ⟨by simp [hl], fun _ => ⟨_, rfl, fun j u hu => ?_⟩⟩
    obtain ⟨ad, e1, e2⟩ := hr.2 (by decide)
    cases e1
    have e3 := e2 (8 + j) u (by rw [bytes_drop, List.getElem?_drop] at hu; exact hu)
    rw [add_lit] at e3 ⊢
    rwa [Nat.zero_add] at e3
  have hl8 : (l.drop 8).length = 32 := by simp [hl]
  rw [hR] at hgd
  have hR4 : Pp.mk ((l.getD 1 0).toNat : Int) ((l.getD 2 0).toNat : Int) ((l.getD 3 0).toNat : Int) ((l.getD 4 0).toNat : Int) (l.drop 8) = R := hR
  obtain ⟨x0, hx0⟩ : ∃ x, ((l.getD 1 0).toNat : Int) = x := ⟨_, rfl⟩
  obtain ⟨x1, hx1⟩ : ∃ x, ((l.getD 2 0).toNat : Int) = x := ⟨_, rfl⟩
  obtain ⟨x2, hx2⟩ : ∃ x, ((l.getD 3 0).toNat : Int) = x := ⟨_, rfl⟩
  obtain ⟨x3, hx3⟩ : ∃ x, ((l.getD 4 0).toNat : Int) = x := ⟨_, rfl⟩
  rw [hx0, hx1, hx2, hx3] at hR4
  rw [hx0] at h0 u0
  rw [hx1] at h1 u1
  rw [hx2] at h2 u2
  rw [hx3] at h3 u3
  have i0 : IntKind.i64.wrap x0 = x0 := wrap_small_i64 _ (by omega) (by omega)
  have i1 : IntKind.i64.wrap x1 = x1 := wrap_small_i64 _ (by omega) (by omega)
  have i2 : IntKind.i64.wrap x2 = x2 := wrap_small_i64 _ (by omega) (by omega)
  have i3 : IntKind.i64.wrap x3 = x3 := wrap_small_i64 _ (by omega) (by omega)
  have HR := Lib.hid hr
  have HR8 := Lib.hid hr8
  have HL8 := Lib.hid hl8
  generalize l.drop 8 = m at *
  have HR4 := Lib.hid hR4
  have HGD := Lib.hid hgd
  have hc8 : ¬ (c = 8) := by omega
  have hcl : 40 ≤ c := hc
  have q0 : ∀ w2, Keep Nob w w2 → w2.cell? ⟨g, 1, none⟩ = some (.int .u8 x0) ∧ w2.cell? ⟨g, 2, none⟩ = some (.int .u8 x1) ∧ w2.cell? ⟨g, 3, none⟩ = some (.int .u8 x2) ∧ w2.cell? ⟨g, 4, none⟩ = some (.int .u8 x3) := fun w2 k => by
    have f : ∀ a v, w.cell? a = some v → a.block < w.heap.size → w2.cell? a = some v := fun a v h hb => by
      rw [← h]; exact World.cell?_of_block (w := w) (k.block _ hb (fun f => f))
    exact ⟨f _ _ h0 hlt', f _ _ h1 hlt', f _ _ h2 hlt', f _ _ h3 hlt'⟩
  have HQ0 := Lib.hid q0
  clear hR hv hr hx0 hx1 hx2 hx3 hlt hR4 hgd hr8 hl8 hc h0 h1 h2 h3 u0 u1 u2 u3 q0
  go_enter Tryz.func289, Tryz.ntmps289
  go_wp2_with (refine wpList_al rfl rfl ?_; intro w0 hr0 hk0 hs0; clear hs0)
  have hr0 := hr0.drew
  have hk0 := hk0.drew
  refine wp_region_held_drew (S := (fun w' => w'.cell? ⟨g, 1, none⟩ = some (.int .u8 x0) ∧ w'.cell? ⟨g, 2, none⟩ = some (.int .u8 x1) ∧ w'.cell? ⟨g, 3, none⟩ = some (.int .u8 x2) ∧ w'.cell? ⟨g, 4, none⟩ = some (.int .u8 x3))) (by kernel_rfl) (HQ0.out _ hk0) (fun hHeld => ?_)
  generalize w0.drew = wd at *
  refine wpAnyH_take (i := 0) (v := ?_) rfl (by kernel_rfl) (by kernel_rfl) (by kernel_rfl) (fun _ _ _ h => h) (Or.inl ⟨by rfl, ?_⟩) (by assumption) ?_
  rotate_left
  · (intro w hSw; (try dsimp only at hSw); obtain ⟨s1, s2, s3, s4⟩ := hSw; go_simp; try with_reducible rfl)
  try simp only [Act.put, List.getElem_toArray, List.getElem_cons_zero, List.getElem_cons_succ, List.setIfInBounds_toArray, List.set_cons_zero, List.set_cons_succ]
  refine wpAnyH_take (i := 1) (v := ?_) rfl (by kernel_rfl) (by kernel_rfl) (by kernel_rfl) (fun _ _ _ h => h) (Or.inl ⟨by rfl, ?_⟩) (by assumption) ?_
  rotate_left
  · (intro w hSw; (try dsimp only at hSw); obtain ⟨s1, s2, s3, s4⟩ := hSw; go_simp; try with_reducible rfl)
  try simp only [Act.put, List.getElem_toArray, List.getElem_cons_zero, List.getElem_cons_succ, List.setIfInBounds_toArray, List.set_cons_zero, List.set_cons_succ]
  refine wpAnyH_take (i := 2) (v := ?_) rfl (by kernel_rfl) (by kernel_rfl) (by kernel_rfl) (fun _ _ _ h => h) (Or.inl ⟨by rfl, ?_⟩) (by assumption) ?_
  rotate_left
  · (intro w hSw; (try dsimp only at hSw); obtain ⟨s1, s2, s3, s4⟩ := hSw; go_simp; try with_reducible rfl)
  try simp only [Act.put, List.getElem_toArray, List.getElem_cons_zero, List.getElem_cons_succ, List.setIfInBounds_toArray, List.set_cons_zero, List.set_cons_succ]
  refine wpAnyH_take (i := 3) (v := ?_) rfl (by kernel_rfl) (by kernel_rfl) (by kernel_rfl) (fun _ _ _ h => h) (Or.inl ⟨by rfl, ?_⟩) (by assumption) ?_
  rotate_left
  · (intro w hSw; (try dsimp only at hSw); obtain ⟨s1, s2, s3, s4⟩ := hSw; go_simp; try with_reducible rfl)
  try simp only [Act.put, List.getElem_toArray, List.getElem_cons_zero, List.getElem_cons_succ, List.setIfInBounds_toArray, List.set_cons_zero, List.set_cons_succ]
  refine wpAnyH_take (i := 4) (v := ?_) rfl (by kernel_rfl) (by kernel_rfl) (by kernel_rfl) (fun _ _ _ h => h) (Or.inl ⟨by rfl, ?_⟩) (by assumption) ?_
  rotate_left
  · (intro w hSw; (try dsimp only at hSw); obtain ⟨s1, s2, s3, s4⟩ := hSw; go_simp; try with_reducible rfl)
  try simp only [Act.put, List.getElem_toArray, List.getElem_cons_zero, List.getElem_cons_succ, List.setIfInBounds_toArray, List.set_cons_zero, List.set_cons_succ]
  refine wpAnyH_take (i := 5) (v := ?_) rfl (by kernel_rfl) (by kernel_rfl) (by kernel_rfl) (fun _ _ _ h => h) (Or.inl ⟨by rfl, ?_⟩) (by assumption) ?_
  rotate_left
  · (intro w hSw; (try dsimp only at hSw); obtain ⟨s1, s2, s3, s4⟩ := hSw; go_simp; try with_reducible rfl)
  try simp only [Act.put, List.getElem_toArray, List.getElem_cons_zero, List.getElem_cons_succ, List.setIfInBounds_toArray, List.set_cons_zero, List.set_cons_succ]
  refine wpAnyH_take (i := 6) (v := ?_) rfl (by kernel_rfl) (by kernel_rfl) (by kernel_rfl) (fun _ _ _ h => h) (Or.inl ⟨by rfl, ?_⟩) (by assumption) ?_
  rotate_left
  · (intro w hSw; (try dsimp only at hSw); obtain ⟨s1, s2, s3, s4⟩ := hSw; go_simp; try with_reducible rfl)
  try simp only [Act.put, List.getElem_toArray, List.getElem_cons_zero, List.getElem_cons_succ, List.setIfInBounds_toArray, List.set_cons_zero, List.set_cons_succ]
  refine wpAnyH_take (i := 7) (v := ?_) rfl (by kernel_rfl) (by kernel_rfl) (by kernel_rfl) (fun _ _ _ h => h) (Or.inl ⟨by rfl, ?_⟩) (by assumption) ?_
  rotate_left
  · (intro w hSw; (try dsimp only at hSw); obtain ⟨s1, s2, s3, s4⟩ := hSw; go_simp; try with_reducible rfl)
  try simp only [Act.put, List.getElem_toArray, List.getElem_cons_zero, List.getElem_cons_succ, List.setIfInBounds_toArray, List.set_cons_zero, List.set_cons_succ]
  refine wpAnyH_take (i := 8) (v := ?_) rfl (by kernel_rfl) (by kernel_rfl) (by kernel_rfl) (fun _ _ _ h => h) (Or.inl ⟨by rfl, ?_⟩) (by assumption) ?_
  rotate_left
  · (intro w hSw; (try dsimp only at hSw); obtain ⟨s1, s2, s3, s4⟩ := hSw; go_simp; try with_reducible rfl)
  try simp only [Act.put, List.getElem_toArray, List.getElem_cons_zero, List.getElem_cons_succ, List.setIfInBounds_toArray, List.set_cons_zero, List.set_cons_succ]
  refine wpAnyH_take (i := 9) (v := ?_) rfl (by kernel_rfl) (by kernel_rfl) (by kernel_rfl) (fun _ _ _ h => h) (Or.inl ⟨by rfl, ?_⟩) (by assumption) ?_
  rotate_left
  · (intro w hSw; (try dsimp only at hSw); obtain ⟨s1, s2, s3, s4⟩ := hSw; go_simp; try with_reducible rfl)
  try simp only [Act.put, List.getElem_toArray, List.getElem_cons_zero, List.getElem_cons_succ, List.setIfInBounds_toArray, List.set_cons_zero, List.set_cons_succ]
  refine wpAnyH_take (i := 10) (v := ?_) rfl (by kernel_rfl) (by kernel_rfl) (by kernel_rfl) (fun _ _ _ h => h) (Or.inl ⟨by rfl, ?_⟩) (by assumption) ?_
  rotate_left
  · (intro w hSw; (try dsimp only at hSw); obtain ⟨s1, s2, s3, s4⟩ := hSw; go_simp; try with_reducible rfl)
  try simp only [Act.put, List.getElem_toArray, List.getElem_cons_zero, List.getElem_cons_succ, List.setIfInBounds_toArray, List.set_cons_zero, List.set_cons_succ]
  refine wpAnyH_take (i := 11) (v := ?_) rfl (by kernel_rfl) (by kernel_rfl) (by kernel_rfl) (fun _ _ _ h => h) (Or.inl ⟨by rfl, ?_⟩) (by assumption) ?_
  rotate_left
  · (intro w hSw; (try dsimp only at hSw); obtain ⟨s1, s2, s3, s4⟩ := hSw; go_simp; try with_reducible rfl)
  try simp only [Act.put, List.getElem_toArray, List.getElem_cons_zero, List.getElem_cons_succ, List.setIfInBounds_toArray, List.set_cons_zero, List.set_cons_succ]
  refine wpAnyH_take (i := 12) (v := ?_) rfl (by kernel_rfl) (by kernel_rfl) (by kernel_rfl) (fun _ _ _ h => h) (Or.inl ⟨by rfl, ?_⟩) (by assumption) ?_
  rotate_left
  · (intro w hSw; (try dsimp only at hSw); obtain ⟨s1, s2, s3, s4⟩ := hSw; go_simp; try with_reducible rfl)
  try simp only [Act.put, List.getElem_toArray, List.getElem_cons_zero, List.getElem_cons_succ, List.setIfInBounds_toArray, List.set_cons_zero, List.set_cons_succ]
  refine wpAnyH_take (i := 13) (v := ?_) rfl (by kernel_rfl) (by kernel_rfl) (by kernel_rfl) (fun _ _ _ h => h) (Or.inl ⟨by rfl, ?_⟩) (by assumption) ?_
  rotate_left
  · (intro w hSw; (try dsimp only at hSw); obtain ⟨s1, s2, s3, s4⟩ := hSw; go_simp; try with_reducible rfl)
  try simp only [Act.put, List.getElem_toArray, List.getElem_cons_zero, List.getElem_cons_succ, List.setIfInBounds_toArray, List.set_cons_zero, List.set_cons_succ]
  refine wpAnyH_take (i := 14) (v := ?_) rfl (by kernel_rfl) (by kernel_rfl) (by kernel_rfl) (fun _ _ _ h => h) (Or.inl ⟨by rfl, ?_⟩) (by assumption) ?_
  rotate_left
  · (intro w hSw; (try dsimp only at hSw); obtain ⟨s1, s2, s3, s4⟩ := hSw; go_simp; try with_reducible rfl)
  try simp only [Act.put, List.getElem_toArray, List.getElem_cons_zero, List.getElem_cons_succ, List.setIfInBounds_toArray, List.set_cons_zero, List.set_cons_succ]
  refine wpAnyH_take (i := 15) (v := ?_) rfl (by kernel_rfl) (by kernel_rfl) (by kernel_rfl) (fun _ _ _ h => h) (Or.inl ⟨by rfl, ?_⟩) (by assumption) ?_
  rotate_left
  · (intro w hSw; (try dsimp only at hSw); obtain ⟨s1, s2, s3, s4⟩ := hSw; go_simp; try with_reducible rfl)
  try simp only [Act.put, List.getElem_toArray, List.getElem_cons_zero, List.getElem_cons_succ, List.setIfInBounds_toArray, List.set_cons_zero, List.set_cons_succ]
  refine wpAnyH_take (i := 16) (v := ?_) rfl (by kernel_rfl) (by kernel_rfl) (by kernel_rfl) (fun _ _ _ h => h) (Or.inl ⟨by rfl, ?_⟩) (by assumption) ?_
  rotate_left
  · (intro w hSw; (try dsimp only at hSw); obtain ⟨s1, s2, s3, s4⟩ := hSw; refine exec_bu (.tmp 9) (.tmp 13) (.tmp 17) (.tmp 21) ?_ x0 x1 x2 x3 ?_ ?_ ?_ ?_ <;> rfl)
  try simp only [Act.put, List.getElem_toArray, List.getElem_cons_zero, List.getElem_cons_succ, List.setIfInBounds_toArray, List.set_cons_zero, List.set_cons_succ]
  refine wpAnyH_ready (rs := [17]) (by kernel_rfl) (by simp) ?_
  refine AllReadyH.cons rfl (fun K hK => ?_) AllReadyH.nil
  refine wp_al rfl ?_; intro wa hp0 kA sA; clear sA
  refine hK.out _ _ ?_ (fun hHeld => ?_)
  · exact HQ0.out _ (hk0.nobt kA)
  clear hK K
  try simp only [Act.put, List.getElem_toArray, List.getElem_cons_zero, List.getElem_cons_succ, List.setIfInBounds_toArray, List.set_cons_zero, List.set_cons_succ]
  have hgr : w.heap.size ≠ wd.heap.size := by have := hr0.lt; omega
  have hgp : g ≠ wd.heap.size := by have := hk0.size; omega
  have hgd : wd.heap.size ≤ wd.heap.size := Nat.le_refl _
  generalize hgpe : wd.heap.size = gp at *
  refine wpAnyH_ready (rs := [18]) (by kernel_rfl) (by simp) ?_
  refine AllReadyH.cons rfl (fun K hK => ?_) AllReadyH.nil
  rw [if_pos (by rfl)]
  refine wp_store_ (old := noP) (q := ⟨x0, x1, x2, x3, nod⟩) rfl rfl rfl rfl rfl hp0 ?_
  have kB := (Keep.refl (· = gp) wa).setRow gp (pc ⟨x0, x1, x2, x3, nod⟩).toArray (fun _ => rfl)
  have hp1 : Blk _ gp 44 (pc ⟨x0, x1, x2, x3, nod⟩) := hp0.setRow _
  refine hK.out _ _ ?_ (fun hHeld => ?_)
  · exact (by have := HQ0.out _ (hk0.nobt kA |>.trans kB (fun b hb e => by have h3 : b = gp := e; have := hk0.size; omega)); exact this)
  clear hK K
  try simp only [Act.put, List.getElem_toArray, List.getElem_cons_zero, List.getElem_cons_succ, List.setIfInBounds_toArray, List.set_cons_zero, List.set_cons_succ]
  refine wpAnyH_done (by kernel_rfl) ?_ _
  clear hp0 hgd
  generalize wa.setRow gp (pc ⟨x0, x1, x2, x3, nod⟩).toArray = w1 at *
  have hr1 : Blk w1 w.heap.size 44 (pc noP) := hr0.nob kA |>.keep kB hgr
  have hk1 : Keep Nob w w1 := (hk0.nobt kA).trans kB (fun b hb e => by have h3 : b = gp := e; have := hk0.size; omega)
  have hgn : w.heap.size ≤ gp := by have := hk0.size; omega
  clear hr0 hk0 kA kB HQ0 i0 i1 i2 i3
  obtain ⟨w2, hcp, hp2, hk2, hs2⟩ := run_cp (P := Tryz.prog) w1.drew 36 36 5 Tryz.underlying36 Tryz.size5 (some ⟨gp, 4, none⟩) (some ⟨g, 8, none⟩) 32 32 32 (c - 8) gp 4 _ 44 hp1.drew (bytes m) (HR8.out.nob hk1.drew) (fun _ => rfl) (by rw [pc_len (by rfl)]; exact Nat.le_refl _) (bytes_one _)
  rw [List.take_of_length_le (by rw [bytes_length, HL8.out]; exact Nat.le_refl _), pc_splice _ _ _ _ _ HL8.out, HR4.out] at hp2
  have hr2 : Blk w2 w.heap.size 44 (pc noP) := hr1.drew.keep hk2 hgr
  have hk2 : Keep Nob w w2 := hk1.drew.trans hk2 (fun b hb e => by have h3 : b = gp := e; omega)
  clear hp1 hr1 hk1 HR4 HR8 HL8
  clear hs2
  go_upto_region 2 with fail
  go_region
  clear hcp hc8 hcl
  go_wp2_with (refine wpList_mk rfl _ _ 36 rfl 5 (.int .u8 0) 1 Tryz.underlying36 Tryz.info5 rfl .i64 .i64 40 _ rfl rfl rfl (by omega) (by omega) ?_; intro w5 hb5 hk5 hs5)
  clear hs5
  have hp5 := hp2.nob hk5
  have hr5 := hr2.nob hk5
  have hk6 := hk2.nobt hk5
  have hR5 := (HR.out.nob hk2).nob hk5
  have hgw : w2.heap.size ≠ gp := by have := hp2.lt; omega
  have hga : w2.heap.size ≠ w.heap.size := by have := hr2.lt; omega
  have hgb : w2.heap.size ≠ g := by have := hk2.size; omega
  have hge : w.heap.size ≤ w2.heap.size := hk2.size
  rw [← bytes_replicate] at hb5
  clear hp2 hr2 hk2 hk5
  generalize w2.heap.size = ga at *
  have hpd := hp5.drew
  have hrd := hr5.drew
  have hkd := hk6.drew
  have hRd := hR5.nob ((Keep.refl Nob w5).drew)
  have hbd := hb5.drew
  clear hp5 hr5 hk6 hR5 hb5
  have hgr' : gp ≠ w.heap.size := Ne.symm hgr
  have hgd := HGD.out
  clear HGD
  cases ho : okd R with
  | true =>
    rw [ho, Bool.true_and] at hgd
    have ho2 := write_is R HRL.out ga _ hbd true ho
    simp only [pv, if_true] at ho2
    have HO := Lib.hid ho2
    have HV := Lib.hid hgd
    clear ho2 ho hgd
    refine wp_region_held_drew (S := (fun w' => Blk w' gp 44 (pc R))) (by kernel_rfl) hpd (fun hHeld => ?_)
    refine wpAnyH_take (i := 0) (v := ?_) rfl (by kernel_rfl) (by kernel_rfl) (by kernel_rfl) (fun _ _ _ h => h) (Or.inl ⟨by rfl, ?_⟩) (by assumption) ?_
    rotate_left
    · (intro w hSw; (try dsimp only at hSw); refine exec_load (x := .tmp 4) ?_ ?_ HRL.out hSw <;> rfl)
    try simp only [Act.put, List.getElem_toArray, List.getElem_cons_zero, List.getElem_cons_succ, List.setIfInBounds_toArray, List.set_cons_zero, List.set_cons_succ]
    refine wpAnyH_take (i := 1) (v := ?_) rfl (by kernel_rfl) (by kernel_rfl) (by kernel_rfl) (fun _ _ _ h => h) (Or.inl ⟨by rfl, ?_⟩) (by assumption) ?_
    rotate_left
    · (intro w hSw; (try dsimp only at hSw); refine exec_load (x := .tmp 4) ?_ ?_ HRL.out hSw <;> rfl)
    try simp only [Act.put, List.getElem_toArray, List.getElem_cons_zero, List.getElem_cons_succ, List.setIfInBounds_toArray, List.set_cons_zero, List.set_cons_succ]
    refine wpAnyH_take (i := 2) (v := ?_) rfl (by kernel_rfl) (by kernel_rfl) (by kernel_rfl) (fun _ _ _ h => h) (Or.inl ⟨by rfl, ?_⟩) (by assumption) ?_
    rotate_left
    · (intro w hSw; (try dsimp only at hSw); go_simp; try with_reducible rfl)
    try simp only [Act.put, List.getElem_toArray, List.getElem_cons_zero, List.getElem_cons_succ, List.setIfInBounds_toArray, List.set_cons_zero, List.set_cons_succ]
    refine wpAnyH_ready (rs := [3]) (by kernel_rfl) (by simp) ?_
    refine AllReadyH.cons rfl (fun K hK => ?_) AllReadyH.nil
    go_simp
    with_reducible_and_instances apply Calls.mono HO.out; rintro e w6 ⟨rfl, z6, k6⟩
    have hp6 := hpd.keep k6 (Ne.symm hgw)
    have hr6 := hrd.keep k6 (Ne.symm hga)
    refine hK.out _ _ ?_ (fun hHeld => ?_)
    · exact hp6
    clear hK K
    try simp only [Act.put, List.getElem_toArray, List.getElem_cons_zero, List.getElem_cons_succ, List.setIfInBounds_toArray, List.set_cons_zero, List.set_cons_succ]
    refine wpAnyH_take (i := 4) (v := ?_) rfl (by kernel_rfl) (by kernel_rfl) (by kernel_rfl) (fun _ _ _ h => h) (Or.inl ⟨by rfl, ?_⟩) (by assumption) ?_
    rotate_left
    · (intro w hSw; (try dsimp only at hSw); go_simp; try with_reducible rfl)
    try simp only [Act.put, List.getElem_toArray, List.getElem_cons_zero, List.getElem_cons_succ, List.setIfInBounds_toArray, List.set_cons_zero, List.set_cons_succ]
    refine wpAnyH_take (i := 5) (v := ?_) rfl (by kernel_rfl) (by kernel_rfl) (by kernel_rfl) (fun _ _ _ h => h) (Or.inl ⟨by rfl, ?_⟩) (by assumption) ?_
    rotate_left
    · (intro w hSw; (try dsimp only at hSw); go_simp; try with_reducible rfl)
    try simp only [Act.put, List.getElem_toArray, List.getElem_cons_zero, List.getElem_cons_succ, List.setIfInBounds_toArray, List.set_cons_zero, List.set_cons_succ]
    refine wpAnyH_take (i := 6) (v := ?_) rfl (by kernel_rfl) (by kernel_rfl) (by kernel_rfl) (fun _ _ _ h => h) (Or.inl ⟨by rfl, ?_⟩) (by assumption) ?_
    rotate_left
    · (intro w hSw; (try dsimp only at hSw); go_simp; try with_reducible rfl)
    try simp only [Act.put, List.getElem_toArray, List.getElem_cons_zero, List.getElem_cons_succ, List.setIfInBounds_toArray, List.set_cons_zero, List.set_cons_succ]
    refine wpAnyH_ready (rs := [7]) (by kernel_rfl) (by simp) ?_
    refine AllReadyH.cons rfl (fun K hK => ?_) AllReadyH.nil
    go_simp
    refine (equal_is _ _ _ _ _ _ (enc R) l _ (reads_all z6 (by rw [bytes_length, enc_len HRL.out])) (hRd.keep k6 (fun ad e => by cases e; exact Ne.symm hgb)) v HV.out).mono ?_; rintro e w7 ⟨rfl, rfl⟩
    refine hK.out _ _ ?_ (fun hHeld => ?_)
    · exact hp6
    clear hK K
    try simp only [Act.put, List.getElem_toArray, List.getElem_cons_zero, List.getElem_cons_succ, List.setIfInBounds_toArray, List.set_cons_zero, List.set_cons_succ]
    refine wpAnyH_take (i := 8) (v := ?_) rfl (by kernel_rfl) (by kernel_rfl) (by kernel_rfl) (fun _ _ _ h => h) (Or.inl ⟨by rfl, ?_⟩) (by assumption) ?_
    rotate_left
    · (intro w hSw; (try dsimp only at hSw); go_simp; try with_reducible rfl)
    try simp only [Act.put, List.getElem_toArray, List.getElem_cons_zero, List.getElem_cons_succ, List.setIfInBounds_toArray, List.set_cons_zero, List.set_cons_succ]
    refine wpAnyH_ready (rs := [9]) (by kernel_rfl) (by simp) ?_
    refine AllReadyH.cons rfl (fun K hK => ?_) AllReadyH.nil
    rw [if_pos (by rfl)]
    refine wp_store_ (old := noP) (q := R) rfl rfl rfl HRL.out rfl hr6 ?_
    refine hK.out _ _ ?_ (fun hHeld => ?_)
    · exact hp6.setRow_far hgr' _
    clear hK K
    try simp only [Act.put, List.getElem_toArray, List.getElem_cons_zero, List.getElem_cons_succ, List.setIfInBounds_toArray, List.set_cons_zero, List.set_cons_succ]
    refine wpAnyH_take (i := 10) (v := ?_) rfl (by kernel_rfl) (by kernel_rfl) (by kernel_rfl) (fun _ _ _ h => h) (Or.inl ⟨by rfl, ?_⟩) (by assumption) ?_
    rotate_left
    · (intro w hSw; (try dsimp only at hSw); go_simp; try with_reducible rfl)
    try simp only [Act.put, List.getElem_toArray, List.getElem_cons_zero, List.getElem_cons_succ, List.setIfInBounds_toArray, List.set_cons_zero, List.set_cons_succ]
    refine wpAnyH_done (by kernel_rfl) ?_ _
    have fin := (hkd.trans k6 (fun b hb e => by have h3 : b = ga := e; omega)).setRow w.heap.size (pc R).toArray (fun h => absurd h (Nat.lt_irrefl _))
    have hr7 := hr6.setRow (pc R)
    go_wp2
    (try simp only [Exit.inBlock, Exit.then])
    refine bodyPost_ret (v := .tuple #[pv R, .bool v]) (results_pair rfl _ _ w.heap.size R HRL.out rfl hr7 _ rfl) rfl ?_
    exact ⟨rfl, fin⟩
  | false =>
    rw [ho, Bool.false_and] at hgd
    have ho2 := write_is R HRL.out ga _ hbd false ho
    simp only [pv, if_false, Bool.false_eq_true] at ho2
    have HO := Lib.hid ho2
    clear ho2 ho
    subst hgd
    refine wp_region_held_drew (S := (fun w' => Blk w' gp 44 (pc R))) (by kernel_rfl) hpd (fun hHeld => ?_)
    refine wpAnyH_take (i := 0) (v := ?_) rfl (by kernel_rfl) (by kernel_rfl) (by kernel_rfl) (fun _ _ _ h => h) (Or.inl ⟨by rfl, ?_⟩) (by assumption) ?_
    rotate_left
    · (intro w hSw; (try dsimp only at hSw); refine exec_load (x := .tmp 4) ?_ ?_ HRL.out hSw <;> rfl)
    try simp only [Act.put, List.getElem_toArray, List.getElem_cons_zero, List.getElem_cons_succ, List.setIfInBounds_toArray, List.set_cons_zero, List.set_cons_succ]
    refine wpAnyH_take (i := 1) (v := ?_) rfl (by kernel_rfl) (by kernel_rfl) (by kernel_rfl) (fun _ _ _ h => h) (Or.inl ⟨by rfl, ?_⟩) (by assumption) ?_
    rotate_left
    · (intro w hSw; (try dsimp only at hSw); refine exec_load (x := .tmp 4) ?_ ?_ HRL.out hSw <;> rfl)
    try simp only [Act.put, List.getElem_toArray, List.getElem_cons_zero, List.getElem_cons_succ, List.setIfInBounds_toArray, List.set_cons_zero, List.set_cons_succ]
    refine wpAnyH_take (i := 2) (v := ?_) rfl (by kernel_rfl) (by kernel_rfl) (by kernel_rfl) (fun _ _ _ h => h) (Or.inl ⟨by rfl, ?_⟩) (by assumption) ?_
    rotate_left
    · (intro w hSw; (try dsimp only at hSw); go_simp; try with_reducible rfl)
    try simp only [Act.put, List.getElem_toArray, List.getElem_cons_zero, List.getElem_cons_succ, List.setIfInBounds_toArray, List.set_cons_zero, List.set_cons_succ]
    refine wpAnyH_ready (rs := [3]) (by kernel_rfl) (by simp) ?_
    refine AllReadyH.cons rfl (fun K hK => ?_) AllReadyH.nil
    go_simp
    with_reducible_and_instances apply Calls.mono HO.out; rintro e w6 ⟨rfl, z6, k6⟩
    have hp6 := hpd.keep k6 (Ne.symm hgw)
    have hr6 := hrd.keep k6 (Ne.symm hga)
    refine hK.out _ _ ?_ (fun hHeld => ?_)
    · exact hp6
    clear hK K
    try simp only [Act.put, List.getElem_toArray, List.getElem_cons_zero, List.getElem_cons_succ, List.setIfInBounds_toArray, List.set_cons_zero, List.set_cons_succ]
    refine wpAnyH_take (i := 4) (v := ?_) rfl (by kernel_rfl) (by kernel_rfl) (by kernel_rfl) (fun _ _ _ h => h) (Or.inl ⟨by rfl, ?_⟩) (by assumption) ?_
    rotate_left
    · (intro w hSw; (try dsimp only at hSw); go_simp; try with_reducible rfl)
    try simp only [Act.put, List.getElem_toArray, List.getElem_cons_zero, List.getElem_cons_succ, List.setIfInBounds_toArray, List.set_cons_zero, List.set_cons_succ]
    refine wpAnyH_take (i := 5) (v := undef) rfl (by kernel_rfl) (by kernel_rfl) (by kernel_rfl) (fun _ _ _ h => h) (Or.inr ⟨by rfl, rfl⟩) (by assumption) ?_
    try simp only [Act.put, List.getElem_toArray, List.getElem_cons_zero, List.getElem_cons_succ, List.setIfInBounds_toArray, List.set_cons_zero, List.set_cons_succ]
    refine wpAnyH_take (i := 6) (v := undef) rfl (by kernel_rfl) (by kernel_rfl) (by kernel_rfl) (fun _ _ _ h => h) (Or.inr ⟨by rfl, rfl⟩) (by assumption) ?_
    try simp only [Act.put, List.getElem_toArray, List.getElem_cons_zero, List.getElem_cons_succ, List.setIfInBounds_toArray, List.set_cons_zero, List.set_cons_succ]
    refine wpAnyH_take (i := 7) (v := undef) rfl (by kernel_rfl) (by kernel_rfl) (by kernel_rfl) (fun _ _ _ h => h) (Or.inr ⟨by rfl, rfl⟩) (by assumption) ?_
    try simp only [Act.put, List.getElem_toArray, List.getElem_cons_zero, List.getElem_cons_succ, List.setIfInBounds_toArray, List.set_cons_zero, List.set_cons_succ]
    refine wpAnyH_take (i := 8) (v := ?_) rfl (by kernel_rfl) (by kernel_rfl) (by kernel_rfl) (fun _ _ _ h => h) (Or.inl ⟨by rfl, ?_⟩) (by assumption) ?_
    rotate_left
    · (intro w hSw; (try dsimp only at hSw); go_simp; try with_reducible rfl)
    try simp only [Act.put, List.getElem_toArray, List.getElem_cons_zero, List.getElem_cons_succ, List.setIfInBounds_toArray, List.set_cons_zero, List.set_cons_succ]
    refine wpAnyH_ready (rs := [9]) (by kernel_rfl) (by simp) ?_
    refine AllReadyH.cons rfl (fun K hK => ?_) AllReadyH.nil
    rw [if_pos (by rfl)]
    refine wp_store_ (old := noP) (q := R) rfl rfl rfl HRL.out rfl hr6 ?_
    refine hK.out _ _ ?_ (fun hHeld => ?_)
    · exact hp6.setRow_far hgr' _
    clear hK K
    try simp only [Act.put, List.getElem_toArray, List.getElem_cons_zero, List.getElem_cons_succ, List.setIfInBounds_toArray, List.set_cons_zero, List.set_cons_succ]
    refine wpAnyH_take (i := 10) (v := ?_) rfl (by kernel_rfl) (by kernel_rfl) (by kernel_rfl) (fun _ _ _ h => h) (Or.inl ⟨by rfl, ?_⟩) (by assumption) ?_
    rotate_left
    · (intro w hSw; (try dsimp only at hSw); go_simp; try with_reducible rfl)
    try simp only [Act.put, List.getElem_toArray, List.getElem_cons_zero, List.getElem_cons_succ, List.setIfInBounds_toArray, List.set_cons_zero, List.set_cons_succ]
    refine wpAnyH_done (by kernel_rfl) ?_ _
    have fin := (hkd.trans k6 (fun b hb e => by have h3 : b = ga := e; omega)).setRow w.heap.size (pc R).toArray (fun h => absurd h (Nat.lt_irrefl _))
    have hr7 := hr6.setRow (pc R)
    go_wp2
    (try simp only [Exit.inBlock, Exit.then])
    refine bodyPost_ret (v := .tuple #[pv R, .bool false]) (results_pair rfl _ _ w.heap.size R HRL.out rfl hr7 _ rfl) rfl ?_
    exact ⟨rfl, fin⟩
end Go.Proofs.YtngchjejmnfanaaGreat.Ri
namespace Go.Proofs.YtngchjejmnfanaaGreat.Ri
open Go.RowKit Cd
set_option linter.unusedVariables false
set_option linter.unusedSimpArgs false
/-- A Codec of pipes lies at p. -/
def IsC (w : World) (p : Nat) : Prop := Blk w p 395 [.int .i64 40, .func (.func 288) #[] #[], .func (.func 289) #[] #[]]
theorem IsC.nob {w w' : World} {p : Nat} (h : IsC w p) (k : Keep Nob w w') : IsC w' p := Blk.nob h k
theorem new_is (w : World) : Calls Tryz.prog 287 #[.int .i64 40, .func (.func 288) #[] #[], .func (.func 289) #[] #[]] w fun e w' => e = .returned (.pointer (some ⟨w.heap.size, 0, none⟩)) ∧ IsC w' w.heap.size ∧ Keep Nob w w' := by
  go_enter Tryz.func287, Tryz.ntmps287
  go_wp2
  go_ret
  exact ⟨rfl, Blk.new w 395 [.int .i64 40, .func (.func 288) #[] #[], .func (.func 289) #[] #[]], (Keep.refl Nob w).alloc _⟩
theorem rows_is (w : World) : Calls Tryz.prog 225 #[] w fun e w' => ∃ p, e = .returned (.pointer (some ⟨p, 0, none⟩)) ∧ IsC w' p ∧ Keep Nob w w' := by
  go_enter Tryz.func225, Tryz.ntmps225
  go_wp2_with fail
  refine (new_is w).mono ?_; rintro e w1 ⟨rfl, h1, k1⟩
  go_wp2
  go_ret
  exact ⟨_, rfl, h1, k1⟩
set_option maxRecDepth 100000 in
theorem pnil (f : Fn) (a b : Array Value) (w : World) : (binOp .eql 393 (.func f a b) .nilFunc).run Tryz.prog w = .ok (.bool false) w := by
  have := Tryz.underlying393
  first
  | (rfl; done)
  | (go_simp; done)
set_option maxRecDepth 100000 in
theorem gnil (f : Fn) (a b : Array Value) (w : World) : (binOp .eql 336 (.func f a b) .nilFunc).run Tryz.prog w = .ok (.bool false) w := by
  have := Tryz.underlying336
  first
  | (rfl; done)
  | (go_simp; done)
/-- What Encode tells: the bytes, or none. -/
def Told (w0 w : World) (P : Pp) (v : Bool) (x : Value) : Prop := match v with
  | true => ∃ A m, x = .slice A 40 m ∧ Vec w 5 1 A 40 m (bytes (enc P)) ∧ (∀ g, Own A g → w0.heap.size ≤ g)
  | false => x = .slice none 0 0
theorem Told.from_ {w0 w0' w : World} {P : Pp} {v : Bool} {x : Value} (h : Told w0' w P v x) (hs : w0.heap.size ≤ w0'.heap.size) : Told w0 w P v x := by
  cases v with
  | true => obtain ⟨A, m, h1, h2, h3⟩ := h; exact ⟨A, m, h1, h2, fun g hg => Nat.le_trans hs (h3 g hg)⟩
  | false => exact h
set_option maxHeartbeats 4000000 in
set_option maxRecDepth 100000 in
theorem cenc_is (p : Nat) (P : Pp) (hl : P.d.length = 32) (w : World) (h : IsC w p) (v : Bool) (hv : okd P = v) :
    Calls Tryz.prog 236 #[.pointer (some ⟨p, 0, none⟩), pv P] w fun e w' => ∃ x, e = .returned (.tuple #[x, .bool v]) ∧ Told w w' P v x ∧ Keep Nob w w' := by
  have hnil := pnil
  have ho := fun g w hz => write_is P hl g w hz v hv
  simp only [pv] at ho ⊢
  have HO := Lib.hid ho
  have HL := Lib.hid hl
  clear ho hl
  go_enter Tryz.func236, Tryz.ntmps236
  go_wp2_with (first | (refine wpList_box rfl 44 _ rfl _ rfl ?_; intro w1 hb1 hk1 hs1; clear hs1; have hb1 : Blk w1 w.heap.size 44 (pc P) := hb1; have c0 : w1.cell? ⟨p, 0, none⟩ = some (.int .i64 40) := Blk.cell (h.nob hk1) 0) | (refine wpList_mk rfl _ _ 36 rfl 5 (.int .u8 0) 1 Tryz.underlying36 Tryz.info5 rfl .i64 .i64 40 _ rfl rfl rfl (by omega) (by omega) ?_; intro w2 hb2 hk2 hs2; clear hs2))
  rw [← bytes_replicate] at hb2
  have hC2 := (h.nob hk1).nob hk2
  have hB2 := hb1.nob hk2
  have hK2 := hk1.nobt hk2
  have hge : w.heap.size ≤ w1.heap.size := hk1.size
  have hne : w.heap.size ≠ w1.heap.size := by have := hb1.lt; omega
  have hpe : p ≠ w1.heap.size := by have := (h.nob hk1).lt; omega
  clear c0 hb1 hk1 hk2 h
  generalize w1.heap.size = g at *
  have hC := hC2.nob (Keep.nobdrew w2)
  have hB := hB2.drew
  have kk := hK2.drew
  have hz := hb2.drew
  clear hC2 hB2 hK2 hb2
  have c1 : w2.drew.cell? ⟨p, 1, none⟩ = some (.func (.func 288) #[] #[]) := Blk.cell hC 1
  refine wp_region_held_drew (S := (fun w' => w'.cell? ⟨p, 1, none⟩ = some (.func (.func 288) #[] #[]) ∧ Blk w' w.heap.size 44 (pc P))) (by kernel_rfl) ⟨c1, hB⟩ (fun hHeld => ?_)
  refine wpAnyH_take (i := 0) (v := ?_) rfl (by kernel_rfl) (by kernel_rfl) (by kernel_rfl) (fun _ _ _ h => h) (Or.inl ⟨by rfl, ?_⟩) (by assumption) ?_
  rotate_left
  · (intro w hSw; (try dsimp only at hSw); obtain ⟨s1, s2⟩ := hSw; go_simp; try with_reducible rfl)
  try simp only [Act.put, List.getElem_toArray, List.getElem_cons_zero, List.getElem_cons_succ, List.setIfInBounds_toArray, List.set_cons_zero, List.set_cons_succ]
  refine wpAnyH_take (i := 1) (v := ?_) rfl (by kernel_rfl) (by kernel_rfl) (by kernel_rfl) (fun _ _ _ h => h) (Or.inl ⟨by rfl, ?_⟩) (by assumption) ?_
  rotate_left
  · (intro w hSw; (try dsimp only at hSw); obtain ⟨s1, s2⟩ := hSw; go_simp; try with_reducible rfl)
  try simp only [Act.put, List.getElem_toArray, List.getElem_cons_zero, List.getElem_cons_succ, List.setIfInBounds_toArray, List.set_cons_zero, List.set_cons_succ]
  refine wpAnyH_take (i := 2) (v := ?_) rfl (by kernel_rfl) (by kernel_rfl) (by kernel_rfl) (fun _ _ _ h => h) (Or.inl ⟨by rfl, ?_⟩) (by assumption) ?_
  rotate_left
  · (intro w hSw; (try dsimp only at hSw); obtain ⟨s1, s2⟩ := hSw; go_simp; try with_reducible rfl)
  try simp only [Act.put, List.getElem_toArray, List.getElem_cons_zero, List.getElem_cons_succ, List.setIfInBounds_toArray, List.set_cons_zero, List.set_cons_succ]
  refine wpAnyH_take (i := 3) (v := ?_) rfl (by kernel_rfl) (by kernel_rfl) (by kernel_rfl) (fun _ _ _ h => h) (Or.inl ⟨by rfl, ?_⟩) (by assumption) ?_
  rotate_left
  · (intro w hSw; (try dsimp only at hSw); obtain ⟨s1, s2⟩ := hSw; go_simp; try with_reducible rfl)
  try simp only [Act.put, List.getElem_toArray, List.getElem_cons_zero, List.getElem_cons_succ, List.setIfInBounds_toArray, List.set_cons_zero, List.set_cons_succ]
  refine wpAnyH_take (i := 4) (v := ?_) rfl (by kernel_rfl) (by kernel_rfl) (by kernel_rfl) (fun _ _ _ h => h) (Or.inl ⟨by rfl, ?_⟩) (by assumption) ?_
  rotate_left
  · (intro w hSw; (try dsimp only at hSw); obtain ⟨s1, s2⟩ := hSw; go_simp; try with_reducible rfl)
  try simp only [Act.put, List.getElem_toArray, List.getElem_cons_zero, List.getElem_cons_succ, List.setIfInBounds_toArray, List.set_cons_zero, List.set_cons_succ]
  refine wpAnyH_take (i := 5) (v := ?_) rfl (by kernel_rfl) (by kernel_rfl) (by kernel_rfl) (fun _ _ _ h => h) (Or.inl ⟨by rfl, ?_⟩) (by assumption) ?_
  rotate_left
  · (intro w hSw; (try dsimp only at hSw); obtain ⟨s1, s2⟩ := hSw; go_simp; try with_reducible rfl)
  try simp only [Act.put, List.getElem_toArray, List.getElem_cons_zero, List.getElem_cons_succ, List.setIfInBounds_toArray, List.set_cons_zero, List.set_cons_succ]
  refine wpAnyH_take (i := 6) (v := ?_) rfl (by kernel_rfl) (by kernel_rfl) (by kernel_rfl) (fun _ _ _ h => h) (Or.inl ⟨by rfl, ?_⟩) (by assumption) ?_
  rotate_left
  · (intro w hSw; (try dsimp only at hSw); obtain ⟨s1, s2⟩ := hSw; go_simp; try with_reducible rfl)
  try simp only [Act.put, List.getElem_toArray, List.getElem_cons_zero, List.getElem_cons_succ, List.setIfInBounds_toArray, List.set_cons_zero, List.set_cons_succ]
  refine wpAnyH_take (i := 7) (v := ?_) rfl (by kernel_rfl) (by kernel_rfl) (by kernel_rfl) (fun _ _ _ h => h) (Or.inl ⟨by rfl, ?_⟩) (by assumption) ?_
  rotate_left
  · (intro w hSw; (try dsimp only at hSw); obtain ⟨s1, s2⟩ := hSw; go_simp; try with_reducible rfl)
  try simp only [Act.put, List.getElem_toArray, List.getElem_cons_zero, List.getElem_cons_succ, List.setIfInBounds_toArray, List.set_cons_zero, List.set_cons_succ]
  refine wpAnyH_take (i := 8) (v := ?_) rfl (by kernel_rfl) (by kernel_rfl) (by kernel_rfl) (fun _ _ _ h => h) (Or.inl ⟨by rfl, ?_⟩) (by assumption) ?_
  rotate_left
  · (intro w hSw; (try dsimp only at hSw); obtain ⟨s1, s2⟩ := hSw; go_simp; try with_reducible rfl)
  try simp only [Act.put, List.getElem_toArray, List.getElem_cons_zero, List.getElem_cons_succ, List.setIfInBounds_toArray, List.set_cons_zero, List.set_cons_succ]
  refine wpAnyH_take (i := 9) (v := ?_) rfl (by kernel_rfl) (by kernel_rfl) (by kernel_rfl) (fun _ _ _ h => h) (Or.inl ⟨by rfl, ?_⟩) (by assumption) ?_
  rotate_left
  · (intro w hSw; (try dsimp only at hSw); obtain ⟨s1, s2⟩ := hSw; go_simp; try with_reducible rfl)
  try simp only [Act.put, List.getElem_toArray, List.getElem_cons_zero, List.getElem_cons_succ, List.setIfInBounds_toArray, List.set_cons_zero, List.set_cons_succ]
  refine wpAnyH_take (i := 10) (v := ?_) rfl (by kernel_rfl) (by kernel_rfl) (by kernel_rfl) (fun _ _ _ h => h) (Or.inl ⟨by rfl, ?_⟩) (by assumption) ?_
  rotate_left
  · (intro w hSw; (try dsimp only at hSw); obtain ⟨s1, s2⟩ := hSw; refine exec_load (x := .tmp 3) ?_ ?_ HL.out s2 <;> rfl)
  try simp only [Act.put, List.getElem_toArray, List.getElem_cons_zero, List.getElem_cons_succ, List.setIfInBounds_toArray, List.set_cons_zero, List.set_cons_succ]
  refine wpAnyH_take (i := 11) (v := ?_) rfl (by kernel_rfl) (by kernel_rfl) (by kernel_rfl) (fun _ _ _ h => h) (Or.inl ⟨by rfl, ?_⟩) (by assumption) ?_
  rotate_left
  · (intro w hSw; (try dsimp only at hSw); obtain ⟨s1, s2⟩ := hSw; go_simp; try with_reducible rfl)
  try simp only [Act.put, List.getElem_toArray, List.getElem_cons_zero, List.getElem_cons_succ, List.setIfInBounds_toArray, List.set_cons_zero, List.set_cons_succ]
  refine wpAnyH_ready (rs := [12]) (by kernel_rfl) (by simp) ?_
  refine AllReadyH.cons rfl (fun K hK => ?_) AllReadyH.nil
  go_simp
  with_reducible_and_instances apply Calls.mono (HO.out g _ hz); rintro e w6 ⟨rfl, z6, k6⟩
  have hC6 : IsC w6 p := Blk.keep hC k6 hpe
  have hB6 := hB.keep k6 hne
  have hK6 : Keep Nob w w6 := kk.trans k6 (fun b hb e => by have h3 : b = g := e; omega)
  refine hK.out _ _ ?_ (fun hHeld => ?_)
  · exact ⟨Blk.cell hC6 1, hB6⟩
  clear hK K
  try simp only [Act.put, List.getElem_toArray, List.getElem_cons_zero, List.getElem_cons_succ, List.setIfInBounds_toArray, List.set_cons_zero, List.set_cons_succ]
  refine wpAnyH_take (i := 13) (v := ?_) rfl (by kernel_rfl) (by kernel_rfl) (by kernel_rfl) (fun _ _ _ h => h) (Or.inl ⟨by rfl, ?_⟩) (by assumption) ?_
  rotate_left
  · (intro w hSw; (try dsimp only at hSw); obtain ⟨s1, s2⟩ := hSw; go_simp; try with_reducible rfl)
  try simp only [Act.put, List.getElem_toArray, List.getElem_cons_zero, List.getElem_cons_succ, List.setIfInBounds_toArray, List.set_cons_zero, List.set_cons_succ]
  refine wpAnyH_take (i := 14) (v := ?_) rfl (by kernel_rfl) (by kernel_rfl) (by kernel_rfl) (fun _ _ _ h => h) (Or.inl ⟨by rfl, ?_⟩) (by assumption) ?_
  rotate_left
  · (intro w hSw; (try dsimp only at hSw); obtain ⟨s1, s2⟩ := hSw; go_simp; try with_reducible rfl)
  try simp only [Act.put, List.getElem_toArray, List.getElem_cons_zero, List.getElem_cons_succ, List.setIfInBounds_toArray, List.set_cons_zero, List.set_cons_succ]
  refine wpAnyH_done (by kernel_rfl) ?_ _
  cases v with
  | false =>
    go_wp2
    go_ret2
    exact ⟨_, rfl, rfl, hK6⟩
  | true =>
    rw [if_pos rfl] at z6
    have r6 := reads_all z6 (by rw [bytes_length, enc_len HL.out])
    go_wp2_with fail
    refine (clone_is _ _ _ _ _ r6 (by omega)).mono ?_; rintro e w7 ⟨A, m, rfl, v7, k7, o7⟩
    go_wp2
    go_ret2
    exact ⟨_, rfl, ⟨A, m, rfl, v7, fun b hb => Nat.le_trans hK6.size (o7 b hb)⟩, hK6.nobt k7⟩
/-- What a Codec's Decode tells. -/
def cdcd (l : List UInt8) : Pp × Bool := if l.length = 40 then (if gd l then (rd l, true) else (noP, false)) else (noP, false)
set_option maxHeartbeats 4000000 in
set_option maxRecDepth 100000 in
theorem cdec_is (p : Nat) (A : Option Addr) (n cap : Nat) (l : List UInt8) (w : World) (h : IsC w p) (hr : Reads w A n (bytes l)) (hn : n ≤ 140737488351232) (R : Pp) (v : Bool) (hd : cdcd l = (R, v)) :
    Calls Tryz.prog 226 #[.pointer (some ⟨p, 0, none⟩), .slice A n cap] w fun e w' => e = .returned (.tuple #[pv R, .bool v]) ∧ Keep Nob w w' := by
  have hl : l.length = n := by simpa using hr.1
  have hnil := gnil
  have HH := Lib.hid h
  clear h
  by_cases h24 : n = 40
  rotate_left
  · have hd2 : (noP, false) = (R, v) := by rw [← hd, cdcd, if_neg (by omega)]
    cases hd2
    have hne : ((n : Int) != 40) = true := by simpa using (show (n : Int) ≠ 40 from by omega)
    clear hd hl h24
    go_enter Tryz.func226, Tryz.ntmps226
    go_upto_region 1 with (refine wpList_al rfl rfl ?_; intro w1 hR1 hk1 hs1; clear hs1)
    go_upto_region 2 with (refine wpList_al rfl rfl ?_; intro w2 hZ0 hk2 hs2; clear hs2)
    have hR0 := hR1.nob hk2
    have hK0 : Keep Nob w w2 := hk1.nobt hk2
    have hrz : w.heap.size ≠ w1.heap.size := by have := hR1.lt; omega
    have hC0 := HH.out.nob hK0
    have hr0 := hr.nob hK0
    have c2 : w2.cell? ⟨p, 2, none⟩ = some (.func (.func 289) #[] #[]) := Blk.cell hC0 2
    have c0 : w2.cell? ⟨p, 0, none⟩ = some (.int .i64 40) := Blk.cell hC0 0
    clear hR1 hk1 hk2
    generalize w1.heap.size = z at *
    go_wp2_with (first | (refine wpList_ld rfl _ rfl z noP rfl rfl hZ0 ?_) | (refine wpList_st rfl _ _ rfl _ noP noP rfl rfl rfl rfl hR0 ?_; intro w3 hr2 hk2 hs2; clear hs2))
    (try simp only [Exit.inBlock, Exit.then])
    refine bodyPost_ret (v := .tuple #[pv noP, .bool false]) (results_pair rfl _ _ w.heap.size noP rfl rfl hr2 _ rfl) rfl ?_
    exact ⟨rfl, hK0.trans hk2 (fun b hb e => by have h3 : b = w.heap.size := e; omega)⟩
  subst h24
  have hd2 : (if gd l then (rd l, true) else (noP, false)) = (R, v) := by rw [← hd, cdcd, if_pos hl]
  have HD := Lib.hid hd2
  have HL := Lib.hid hl
  clear hd hd2 hl
  go_enter Tryz.func226, Tryz.ntmps226
  go_upto_region 1 with (refine wpList_al rfl rfl ?_; intro w1 hR1 hk1 hs1; clear hs1)
  go_upto_region 2 with (refine wpList_al rfl rfl ?_; intro w2 hZ0 hk2 hs2; clear hs2)
  have hR0 := hR1.nob hk2
  have hK0 : Keep Nob w w2 := hk1.nobt hk2
  have hrz : w.heap.size ≠ w1.heap.size := by have := hR1.lt; omega
  have hC0 := HH.out.nob hK0
  have hr0 := hr.nob hK0
  have c2 : w2.cell? ⟨p, 2, none⟩ = some (.func (.func 289) #[] #[]) := Blk.cell hC0 2
  have c0 : w2.cell? ⟨p, 0, none⟩ = some (.int .i64 40) := Blk.cell hC0 0
  clear hR1 hk1 hk2
  generalize w1.heap.size = z at *
  go_upto_region 4 with fail
  have hRd := hR0.drew
  have hZd := hZ0.drew
  have hKd := hK0.drew
  have hCd := hC0.nob (Keep.nobdrew _)
  have hrd := hr0.nob (Keep.nobdrew _)
  clear hR0 hZ0 hK0 hC0 hr0 c0 c2 HH hr
  have c2 : w2.drew.cell? ⟨p, 2, none⟩ = some (.func (.func 289) #[] #[]) := Blk.cell hCd 2
  obtain ⟨Q, hQ⟩ : ∃ Q, rd l = Q := ⟨_, rfl⟩
  obtain ⟨b, hb⟩ : ∃ b, gd l = b := ⟨_, rfl⟩
  have HG := Lib.hid (fun g c hc w hr => read_is l HL.out g c hc w hr Q hQ b hb)
  rw [hQ, hb] at HD
  have hql : Q.d.length = 32 := by rw [← hQ]; exact rd_len HL.out
  have HQ := Lib.hid hql
  clear hQ hb hql
  go_cut [7, 8] from 24 to 33 (fun s7 s8 wx => ∃ g, s7 = .pointer (some ⟨g, 0, none⟩) ∧ s8 = .bool b ∧ Blk wx g 44 (pc Q) ∧ Blk wx w.heap.size 44 (pc noP) ∧ Blk wx z 44 (pc noP) ∧ Keep Nob w wx)
  case first =>
    go_wp2_with fail
    refine wp_region_held_drew (S := (fun w' => w'.cell? ⟨p, 2, none⟩ = some (.func (.func 289) #[] #[]))) (by kernel_rfl) c2 (fun hHeld => ?_)
    generalize w2.drew = wd at *
    refine wpAnyH_take (i := 0) (v := ?_) rfl (by kernel_rfl) (by kernel_rfl) (by kernel_rfl) (fun _ _ _ h => h) (Or.inl ⟨by rfl, ?_⟩) (by assumption) ?_
    rotate_left
    · (intro w hSw; (try dsimp only at hSw); go_simp; try with_reducible rfl)
    try simp only [Act.put, List.getElem_toArray, List.getElem_cons_zero, List.getElem_cons_succ, List.setIfInBounds_toArray, List.set_cons_zero, List.set_cons_succ]
    refine wpAnyH_take (i := 1) (v := ?_) rfl (by kernel_rfl) (by kernel_rfl) (by kernel_rfl) (fun _ _ _ h => h) (Or.inl ⟨by rfl, ?_⟩) (by assumption) ?_
    rotate_left
    · (intro w hSw; (try dsimp only at hSw); go_simp; try with_reducible rfl)
    try simp only [Act.put, List.getElem_toArray, List.getElem_cons_zero, List.getElem_cons_succ, List.setIfInBounds_toArray, List.set_cons_zero, List.set_cons_succ]
    refine wpAnyH_take (i := 2) (v := ?_) rfl (by kernel_rfl) (by kernel_rfl) (by kernel_rfl) (fun _ _ _ h => h) (Or.inl ⟨by rfl, ?_⟩) (by assumption) ?_
    rotate_left
    · (intro w hSw; (try dsimp only at hSw); go_simp; try with_reducible rfl)
    try simp only [Act.put, List.getElem_toArray, List.getElem_cons_zero, List.getElem_cons_succ, List.setIfInBounds_toArray, List.set_cons_zero, List.set_cons_succ]
    refine wpAnyH_take (i := 3) (v := ?_) rfl (by kernel_rfl) (by kernel_rfl) (by kernel_rfl) (fun _ _ _ h => h) (Or.inl ⟨by rfl, ?_⟩) (by assumption) ?_
    rotate_left
    · (intro w hSw; (try dsimp only at hSw); go_simp; try with_reducible rfl)
    try simp only [Act.put, List.getElem_toArray, List.getElem_cons_zero, List.getElem_cons_succ, List.setIfInBounds_toArray, List.set_cons_zero, List.set_cons_succ]
    refine wpAnyH_take (i := 4) (v := ?_) rfl (by kernel_rfl) (by kernel_rfl) (by kernel_rfl) (fun _ _ _ h => h) (Or.inl ⟨by rfl, ?_⟩) (by assumption) ?_
    rotate_left
    · (intro w hSw; (try dsimp only at hSw); go_simp; try with_reducible rfl)
    try simp only [Act.put, List.getElem_toArray, List.getElem_cons_zero, List.getElem_cons_succ, List.setIfInBounds_toArray, List.set_cons_zero, List.set_cons_succ]
    refine wpAnyH_ready (rs := [5, 10]) (by kernel_rfl) (by simp) ?_
    refine AllReadyH.cons rfl (fun K hK => ?_) ?_
    · go_simp
      refine (clone_is A 40 cap l _ hrd (by omega)).mono ?_; rintro e w_1 ⟨A_4, c_5, rfl, v_3, k_2, _⟩
      obtain ⟨g_6, cur, rfl, _, hc_8, _, _⟩ := v_3.at_ (by decide)
      have hr_7 : Reads w_1 (some ⟨g_6, 0, none⟩) 40 (bytes l) := v_3.reads
      have hC_9 := hCd.nob k_2
      have hR_10 := hRd.nob k_2
      have hZ_11 := hZd.nob k_2
      have hI_12 := hrd.nob k_2
      have kk_13 := hKd.nobt k_2
      refine hK.out _ _ ?_ (fun hHeld => ?_)
      · exact Blk.cell hC_9 2
      clear hK K
      try simp only [Act.put, List.getElem_toArray, List.getElem_cons_zero, List.getElem_cons_succ, List.setIfInBounds_toArray, List.set_cons_zero, List.set_cons_succ]
      refine wpAnyH_ready (rs := [6, 10]) (by kernel_rfl) (by simp) ?_
      refine AllReadyH.cons rfl (fun K hK => ?_) ?_
      · go_simp
        refine (HG.out g_6 c_5 hc_8 _ hr_7).mono ?_; rintro e w_14 ⟨rfl, k_15⟩
        have hC_16 := hC_9.nob k_15
        have hR_17 := hR_10.nob k_15
        have hZ_18 := hZ_11.nob k_15
        have hI_19 := hI_12.nob k_15
        have kk_20 := kk_13.nobt k_15
        unfold pv
        refine hK.out _ _ ?_ (fun hHeld => ?_)
        · exact Blk.cell hC_16 2
        clear hK K
        try simp only [Act.put, List.getElem_toArray, List.getElem_cons_zero, List.getElem_cons_succ, List.setIfInBounds_toArray, List.set_cons_zero, List.set_cons_succ]
        refine wpAnyH_take (i := 7) (v := ?_) rfl (by kernel_rfl) (by kernel_rfl) (by kernel_rfl) (fun _ _ _ h => h) (Or.inl ⟨by rfl, ?_⟩) (by assumption) ?_
        rotate_left
        · (intro w hSw; (try dsimp only at hSw); go_simp; try with_reducible rfl)
        try simp only [Act.put, List.getElem_toArray, List.getElem_cons_zero, List.getElem_cons_succ, List.setIfInBounds_toArray, List.set_cons_zero, List.set_cons_succ]
        refine wpAnyH_take (i := 8) (v := ?_) rfl (by kernel_rfl) (by kernel_rfl) (by kernel_rfl) (fun _ _ _ h => h) (Or.inl ⟨by rfl, ?_⟩) (by assumption) ?_
        rotate_left
        · (intro w hSw; (try dsimp only at hSw); go_simp; try with_reducible rfl)
        try simp only [Act.put, List.getElem_toArray, List.getElem_cons_zero, List.getElem_cons_succ, List.setIfInBounds_toArray, List.set_cons_zero, List.set_cons_succ]
        refine wpAnyH_take (i := 9) (v := ?_) rfl (by kernel_rfl) (by kernel_rfl) (by kernel_rfl) (fun _ _ _ h => h) (Or.inl ⟨by rfl, ?_⟩) (by assumption) ?_
        rotate_left
        · (intro w hSw; (try dsimp only at hSw); go_simp; try with_reducible rfl)
        try simp only [Act.put, List.getElem_toArray, List.getElem_cons_zero, List.getElem_cons_succ, List.setIfInBounds_toArray, List.set_cons_zero, List.set_cons_succ]
        refine wpAnyH_ready (rs := [10]) (by kernel_rfl) (by simp) ?_
        refine AllReadyH.cons rfl (fun K hK => ?_) AllReadyH.nil
        refine wp_al rfl ?_; intro w_22 hn_21 ka_23 sa_24; clear sa_24
        have e_25 : w.heap.size ≤ w_14.heap.size := kk_20.size
        have e_26 : w.heap.size ≠ w_14.heap.size := by have := hR_17.lt; omega
        have e_27 : z ≠ w_14.heap.size := by have := hZ_18.lt; omega
        have e_28 : p ≠ w_14.heap.size := by have := Blk.lt hC_16; omega
        have hC_30 := hC_16.nob ka_23
        have hR_31 := hR_17.nob ka_23
        have hZ_32 := hZ_18.nob ka_23
        have hI_33 := hI_19.nob ka_23
        have kk_34 := kk_20.nobt ka_23
        refine hK.out _ _ ?_ (fun hHeld => ?_)
        · exact Blk.cell hC_30 2
        clear hK K
        try simp only [Act.put, List.getElem_toArray, List.getElem_cons_zero, List.getElem_cons_succ, List.setIfInBounds_toArray, List.set_cons_zero, List.set_cons_succ]
        generalize w_14.heap.size = gn_29 at *
        refine wpAnyH_ready (rs := [11]) (by kernel_rfl) (by simp) ?_
        refine AllReadyH.cons rfl (fun K hK => ?_) AllReadyH.nil
        rw [if_pos (by rfl)]
        refine wp_store_ (old := noP) (q := Q) rfl rfl rfl HQ.out rfl hn_21 ?_
        refine hK.out _ _ ?_ (fun hHeld => ?_)
        · exact Blk.cell (Blk.setRow_far hC_30 e_28 _) 2
        clear hK K
        try simp only [Act.put, List.getElem_toArray, List.getElem_cons_zero, List.getElem_cons_succ, List.setIfInBounds_toArray, List.set_cons_zero, List.set_cons_succ]
        refine wpAnyH_take (i := 12) (v := ?_) rfl (by kernel_rfl) (by kernel_rfl) (by kernel_rfl) (fun _ _ _ h => h) (Or.inl ⟨by rfl, ?_⟩) (by assumption) ?_
        rotate_left
        · (intro w hSw; (try dsimp only at hSw); go_simp; try with_reducible rfl)
        try simp only [Act.put, List.getElem_toArray, List.getElem_cons_zero, List.getElem_cons_succ, List.setIfInBounds_toArray, List.set_cons_zero, List.set_cons_succ]
        refine wpAnyH_done (by kernel_rfl) ?_ _
        go_wp2_with fail
        go_meet
        exact ⟨_, rfl, rfl, hn_21.setRow (pc Q), hR_31.setRow_far e_26 _, hZ_32.setRow_far e_27 _, kk_34.setRow gn_29 _ (fun h => absurd h (by omega))⟩
      refine AllReadyH.cons rfl (fun K hK => ?_) AllReadyH.nil
      refine wp_al rfl ?_; intro w_36 hn_35 ka_37 sa_38; clear sa_38
      have e_39 : w.heap.size ≤ w_1.heap.size := kk_13.size
      have e_40 : w.heap.size ≠ w_1.heap.size := by have := hR_10.lt; omega
      have e_41 : z ≠ w_1.heap.size := by have := hZ_11.lt; omega
      have e_42 : p ≠ w_1.heap.size := by have := Blk.lt hC_9; omega
      have hC_44 := hC_9.nob ka_37
      have hR_45 := hR_10.nob ka_37
      have hZ_46 := hZ_11.nob ka_37
      have hI_47 := hI_12.nob ka_37
      have hr_48 := hr_7.nob ka_37
      have kk_49 := kk_13.nobt ka_37
      refine hK.out _ _ ?_ (fun hHeld => ?_)
      · exact Blk.cell hC_44 2
      clear hK K
      try simp only [Act.put, List.getElem_toArray, List.getElem_cons_zero, List.getElem_cons_succ, List.setIfInBounds_toArray, List.set_cons_zero, List.set_cons_succ]
      generalize w_1.heap.size = gn_43 at *
      refine wpAnyH_ready (rs := [6]) (by kernel_rfl) (by simp) ?_
      refine AllReadyH.cons rfl (fun K hK => ?_) AllReadyH.nil
      go_simp
      refine (HG.out g_6 c_5 hc_8 _ hr_48).mono ?_; rintro e w_50 ⟨rfl, k_51⟩
      have hC_52 := hC_44.nob k_51
      have hR_53 := hR_45.nob k_51
      have hZ_54 := hZ_46.nob k_51
      have hI_55 := hI_47.nob k_51
      have hn_56 := hn_35.nob k_51
      have kk_57 := kk_49.nobt k_51
      unfold pv
      refine hK.out _ _ ?_ (fun hHeld => ?_)
      · exact Blk.cell hC_52 2
      clear hK K
      try simp only [Act.put, List.getElem_toArray, List.getElem_cons_zero, List.getElem_cons_succ, List.setIfInBounds_toArray, List.set_cons_zero, List.set_cons_succ]
      refine wpAnyH_take (i := 7) (v := ?_) rfl (by kernel_rfl) (by kernel_rfl) (by kernel_rfl) (fun _ _ _ h => h) (Or.inl ⟨by rfl, ?_⟩) (by assumption) ?_
      rotate_left
      · (intro w hSw; (try dsimp only at hSw); go_simp; try with_reducible rfl)
      try simp only [Act.put, List.getElem_toArray, List.getElem_cons_zero, List.getElem_cons_succ, List.setIfInBounds_toArray, List.set_cons_zero, List.set_cons_succ]
      refine wpAnyH_take (i := 8) (v := ?_) rfl (by kernel_rfl) (by kernel_rfl) (by kernel_rfl) (fun _ _ _ h => h) (Or.inl ⟨by rfl, ?_⟩) (by assumption) ?_
      rotate_left
      · (intro w hSw; (try dsimp only at hSw); go_simp; try with_reducible rfl)
      try simp only [Act.put, List.getElem_toArray, List.getElem_cons_zero, List.getElem_cons_succ, List.setIfInBounds_toArray, List.set_cons_zero, List.set_cons_succ]
      refine wpAnyH_take (i := 9) (v := ?_) rfl (by kernel_rfl) (by kernel_rfl) (by kernel_rfl) (fun _ _ _ h => h) (Or.inl ⟨by rfl, ?_⟩) (by assumption) ?_
      rotate_left
      · (intro w hSw; (try dsimp only at hSw); go_simp; try with_reducible rfl)
      try simp only [Act.put, List.getElem_toArray, List.getElem_cons_zero, List.getElem_cons_succ, List.setIfInBounds_toArray, List.set_cons_zero, List.set_cons_succ]
      refine wpAnyH_ready (rs := [11]) (by kernel_rfl) (by simp) ?_
      refine AllReadyH.cons rfl (fun K hK => ?_) AllReadyH.nil
      rw [if_pos (by rfl)]
      refine wp_store_ (old := noP) (q := Q) rfl rfl rfl HQ.out rfl hn_56 ?_
      refine hK.out _ _ ?_ (fun hHeld => ?_)
      · exact Blk.cell (Blk.setRow_far hC_52 e_42 _) 2
      clear hK K
      try simp only [Act.put, List.getElem_toArray, List.getElem_cons_zero, List.getElem_cons_succ, List.setIfInBounds_toArray, List.set_cons_zero, List.set_cons_succ]
      refine wpAnyH_take (i := 12) (v := ?_) rfl (by kernel_rfl) (by kernel_rfl) (by kernel_rfl) (fun _ _ _ h => h) (Or.inl ⟨by rfl, ?_⟩) (by assumption) ?_
      rotate_left
      · (intro w hSw; (try dsimp only at hSw); go_simp; try with_reducible rfl)
      try simp only [Act.put, List.getElem_toArray, List.getElem_cons_zero, List.getElem_cons_succ, List.setIfInBounds_toArray, List.set_cons_zero, List.set_cons_succ]
      refine wpAnyH_done (by kernel_rfl) ?_ _
      go_wp2_with fail
      go_meet
      exact ⟨_, rfl, rfl, hn_56.setRow (pc Q), hR_53.setRow_far e_40 _, hZ_54.setRow_far e_41 _, kk_57.setRow gn_43 _ (fun h => absurd h (by omega))⟩
    refine AllReadyH.cons rfl (fun K hK => ?_) AllReadyH.nil
    refine wp_al rfl ?_; intro w_59 hn_58 ka_60 sa_61; clear sa_61
    have e_62 : w.heap.size ≤ wd.heap.size := hKd.size
    have e_63 : w.heap.size ≠ wd.heap.size := by have := hRd.lt; omega
    have e_64 : z ≠ wd.heap.size := by have := hZd.lt; omega
    have e_65 : p ≠ wd.heap.size := by have := Blk.lt hCd; omega
    have hC_67 := hCd.nob ka_60
    have hR_68 := hRd.nob ka_60
    have hZ_69 := hZd.nob ka_60
    have hI_70 := hrd.nob ka_60
    have kk_71 := hKd.nobt ka_60
    refine hK.out _ _ ?_ (fun hHeld => ?_)
    · exact Blk.cell hC_67 2
    clear hK K
    try simp only [Act.put, List.getElem_toArray, List.getElem_cons_zero, List.getElem_cons_succ, List.setIfInBounds_toArray, List.set_cons_zero, List.set_cons_succ]
    generalize wd.heap.size = gn_66 at *
    refine wpAnyH_ready (rs := [5]) (by kernel_rfl) (by simp) ?_
    refine AllReadyH.cons rfl (fun K hK => ?_) AllReadyH.nil
    go_simp
    refine (clone_is A 40 cap l _ hI_70 (by omega)).mono ?_; rintro e w_72 ⟨A_75, c_76, rfl, v_74, k_73, _⟩
    obtain ⟨g_77, cur, rfl, _, hc_79, _, _⟩ := v_74.at_ (by decide)
    have hr_78 : Reads w_72 (some ⟨g_77, 0, none⟩) 40 (bytes l) := v_74.reads
    have hC_80 := hC_67.nob k_73
    have hR_81 := hR_68.nob k_73
    have hZ_82 := hZ_69.nob k_73
    have hI_83 := hI_70.nob k_73
    have hn_84 := hn_58.nob k_73
    have kk_85 := kk_71.nobt k_73
    refine hK.out _ _ ?_ (fun hHeld => ?_)
    · exact Blk.cell hC_80 2
    clear hK K
    try simp only [Act.put, List.getElem_toArray, List.getElem_cons_zero, List.getElem_cons_succ, List.setIfInBounds_toArray, List.set_cons_zero, List.set_cons_succ]
    refine wpAnyH_ready (rs := [6]) (by kernel_rfl) (by simp) ?_
    refine AllReadyH.cons rfl (fun K hK => ?_) AllReadyH.nil
    go_simp
    refine (HG.out g_77 c_76 hc_79 _ hr_78).mono ?_; rintro e w_86 ⟨rfl, k_87⟩
    have hC_88 := hC_80.nob k_87
    have hR_89 := hR_81.nob k_87
    have hZ_90 := hZ_82.nob k_87
    have hI_91 := hI_83.nob k_87
    have hn_92 := hn_84.nob k_87
    have kk_93 := kk_85.nobt k_87
    unfold pv
    refine hK.out _ _ ?_ (fun hHeld => ?_)
    · exact Blk.cell hC_88 2
    clear hK K
    try simp only [Act.put, List.getElem_toArray, List.getElem_cons_zero, List.getElem_cons_succ, List.setIfInBounds_toArray, List.set_cons_zero, List.set_cons_succ]
    refine wpAnyH_take (i := 7) (v := ?_) rfl (by kernel_rfl) (by kernel_rfl) (by kernel_rfl) (fun _ _ _ h => h) (Or.inl ⟨by rfl, ?_⟩) (by assumption) ?_
    rotate_left
    · (intro w hSw; (try dsimp only at hSw); go_simp; try with_reducible rfl)
    try simp only [Act.put, List.getElem_toArray, List.getElem_cons_zero, List.getElem_cons_succ, List.setIfInBounds_toArray, List.set_cons_zero, List.set_cons_succ]
    refine wpAnyH_take (i := 8) (v := ?_) rfl (by kernel_rfl) (by kernel_rfl) (by kernel_rfl) (fun _ _ _ h => h) (Or.inl ⟨by rfl, ?_⟩) (by assumption) ?_
    rotate_left
    · (intro w hSw; (try dsimp only at hSw); go_simp; try with_reducible rfl)
    try simp only [Act.put, List.getElem_toArray, List.getElem_cons_zero, List.getElem_cons_succ, List.setIfInBounds_toArray, List.set_cons_zero, List.set_cons_succ]
    refine wpAnyH_take (i := 9) (v := ?_) rfl (by kernel_rfl) (by kernel_rfl) (by kernel_rfl) (fun _ _ _ h => h) (Or.inl ⟨by rfl, ?_⟩) (by assumption) ?_
    rotate_left
    · (intro w hSw; (try dsimp only at hSw); go_simp; try with_reducible rfl)
    try simp only [Act.put, List.getElem_toArray, List.getElem_cons_zero, List.getElem_cons_succ, List.setIfInBounds_toArray, List.set_cons_zero, List.set_cons_succ]
    refine wpAnyH_ready (rs := [11]) (by kernel_rfl) (by simp) ?_
    refine AllReadyH.cons rfl (fun K hK => ?_) AllReadyH.nil
    rw [if_pos (by rfl)]
    refine wp_store_ (old := noP) (q := Q) rfl rfl rfl HQ.out rfl hn_92 ?_
    refine hK.out _ _ ?_ (fun hHeld => ?_)
    · exact Blk.cell (Blk.setRow_far hC_88 e_65 _) 2
    clear hK K
    try simp only [Act.put, List.getElem_toArray, List.getElem_cons_zero, List.getElem_cons_succ, List.setIfInBounds_toArray, List.set_cons_zero, List.set_cons_succ]
    refine wpAnyH_take (i := 12) (v := ?_) rfl (by kernel_rfl) (by kernel_rfl) (by kernel_rfl) (fun _ _ _ h => h) (Or.inl ⟨by rfl, ?_⟩) (by assumption) ?_
    rotate_left
    · (intro w hSw; (try dsimp only at hSw); go_simp; try with_reducible rfl)
    try simp only [Act.put, List.getElem_toArray, List.getElem_cons_zero, List.getElem_cons_succ, List.setIfInBounds_toArray, List.set_cons_zero, List.set_cons_succ]
    refine wpAnyH_done (by kernel_rfl) ?_ _
    go_wp2_with fail
    go_meet
    exact ⟨_, rfl, rfl, hn_92.setRow (pc Q), hR_89.setRow_far e_63 _, hZ_90.setRow_far e_64 _, kk_93.setRow gn_66 _ (fun h => absurd h (by omega))⟩
  case rest =>
  obtain ⟨g, rfl, rfl, hn6, hR6, hZ6, hK6⟩ := hcut
  clear hCd hRd hZd hKd hrd
  have hd3 := HD.out
  clear HD
  cases b with
  | false =>
    rw [if_neg (by simp)] at hd3
    cases hd3
    go_wp2_with (first | (refine wpList_ld rfl _ rfl z noP rfl rfl hZ6 ?_) | (refine wpList_st rfl _ _ rfl _ noP noP rfl rfl rfl rfl hR6 ?_; intro w7 hr7 hk7 hs7; clear hs7))
    (try simp only [Exit.inBlock, Exit.then])
    refine bodyPost_ret (v := .tuple #[pv noP, .bool false]) (results_pair rfl _ _ w.heap.size noP rfl rfl hr7 _ rfl) rfl ?_
    exact ⟨rfl, hK6.trans hk7 (fun b hb e => by have h3 : b = w.heap.size := e; omega)⟩
  | true =>
    rw [if_pos rfl] at hd3
    cases hd3
    go_wp2_with (first | (refine wpList_ld rfl _ rfl g R rfl HQ.out hn6 ?_) | (refine wpList_st rfl _ _ rfl _ R noP rfl rfl HQ.out rfl hR6 ?_; intro w7 hr7 hk7 hs7; clear hs7))
    (try simp only [Exit.inBlock, Exit.then])
    refine bodyPost_ret (v := .tuple #[pv R, .bool true]) (results_pair rfl _ _ w.heap.size R HQ.out rfl hr7 _ rfl) rfl ?_
    exact ⟨rfl, hK6.trans hk7 (fun b hb e => by have h3 : b = w.heap.size := e; omega)⟩
set_option maxHeartbeats 4000000 in
set_option maxRecDepth 100000 in
theorem encode_is (P : Pp) (hl : P.d.length = 32) (w : World) (v : Bool) (hv : okd P = v) :
    Calls Tryz.prog 154 #[pv P] w fun e w' => ∃ x, e = .returned (.tuple #[x, .bool v]) ∧ Told w w' P v x ∧ Keep Nob w w' := by
  have ho := fun p w h => cenc_is p P hl w h v hv
  simp only [pv] at ho ⊢
  have HO := Lib.hid ho
  have HL := Lib.hid hl
  clear ho hl
  go_enter Tryz.func154, Tryz.ntmps154
  go_wp2_with (refine wpList_box rfl 44 _ rfl _ rfl ?_; intro w1 hb1 hk1 hs1; clear hs1; have hb1 : Blk w1 w.heap.size 44 (pc P) := hb1)
  have hB := hb1.drew
  have kk := hk1.drew
  clear hb1 hk1
  refine wp_region_held_drew (S := (fun w' => Blk w' w.heap.size 44 (pc P))) (by kernel_rfl) hB (fun hHeld => ?_)
  generalize w1.drew = wd at *
  refine wpAnyH_take (i := 1) (v := ?_) rfl (by kernel_rfl) (by kernel_rfl) (by kernel_rfl) (fun _ _ _ h => h) (Or.inl ⟨by rfl, ?_⟩) (by assumption) ?_
  rotate_left
  · (intro w hSw; (try dsimp only at hSw); refine exec_load (x := .tmp 1) ?_ ?_ HL.out hSw <;> rfl)
  try simp only [Act.put, List.getElem_toArray, List.getElem_cons_zero, List.getElem_cons_succ, List.setIfInBounds_toArray, List.set_cons_zero, List.set_cons_succ]
  refine wpAnyH_ready (rs := [0]) (by kernel_rfl) (by simp) ?_
  refine AllReadyH.cons rfl (fun K hK => ?_) AllReadyH.nil
  go_simp
  refine (rows_is _).mono ?_; rintro e w2 ⟨p, rfl, h2, k2⟩
  have hB2 := hB.nob k2
  have kk2 := kk.nobt k2
  refine hK.out _ _ ?_ (fun hHeld => ?_)
  · exact hB2
  clear hK K
  try simp only [Act.put, List.getElem_toArray, List.getElem_cons_zero, List.getElem_cons_succ, List.setIfInBounds_toArray, List.set_cons_zero, List.set_cons_succ]
  refine wpAnyH_ready (rs := [2]) (by kernel_rfl) (by simp) ?_
  refine AllReadyH.cons rfl (fun K hK => ?_) AllReadyH.nil
  go_simp
  with_reducible_and_instances apply Calls.mono (HO.out p _ h2); rintro e w3 ⟨x, rfl, t3, k3⟩
  have hB3 := hB2.nob k3
  have kk3 := kk2.nobt k3
  refine hK.out _ _ ?_ (fun hHeld => ?_)
  · exact hB3
  clear hK K
  try simp only [Act.put, List.getElem_toArray, List.getElem_cons_zero, List.getElem_cons_succ, List.setIfInBounds_toArray, List.set_cons_zero, List.set_cons_succ]
  refine wpAnyH_take (i := 3) (v := ?_) rfl (by kernel_rfl) (by kernel_rfl) (by kernel_rfl) (fun _ _ _ h => h) (Or.inl ⟨by rfl, ?_⟩) (by assumption) ?_
  rotate_left
  · (intro w hSw; (try dsimp only at hSw); go_simp; try with_reducible rfl)
  try simp only [Act.put, List.getElem_toArray, List.getElem_cons_zero, List.getElem_cons_succ, List.setIfInBounds_toArray, List.set_cons_zero, List.set_cons_succ]
  refine wpAnyH_take (i := 4) (v := ?_) rfl (by kernel_rfl) (by kernel_rfl) (by kernel_rfl) (fun _ _ _ h => h) (Or.inl ⟨by rfl, ?_⟩) (by assumption) ?_
  rotate_left
  · (intro w hSw; (try dsimp only at hSw); go_simp; try with_reducible rfl)
  try simp only [Act.put, List.getElem_toArray, List.getElem_cons_zero, List.getElem_cons_succ, List.setIfInBounds_toArray, List.set_cons_zero, List.set_cons_succ]
  refine wpAnyH_take (i := 5) (v := ?_) rfl (by kernel_rfl) (by kernel_rfl) (by kernel_rfl) (fun _ _ _ h => h) (Or.inl ⟨by rfl, ?_⟩) (by assumption) ?_
  rotate_left
  · (intro w hSw; (try dsimp only at hSw); go_simp; try with_reducible rfl)
  try simp only [Act.put, List.getElem_toArray, List.getElem_cons_zero, List.getElem_cons_succ, List.setIfInBounds_toArray, List.set_cons_zero, List.set_cons_succ]
  refine wpAnyH_take (i := 6) (v := ?_) rfl (by kernel_rfl) (by kernel_rfl) (by kernel_rfl) (fun _ _ _ h => h) (Or.inl ⟨by rfl, ?_⟩) (by assumption) ?_
  rotate_left
  · (intro w hSw; (try dsimp only at hSw); go_simp; try with_reducible rfl)
  try simp only [Act.put, List.getElem_toArray, List.getElem_cons_zero, List.getElem_cons_succ, List.setIfInBounds_toArray, List.set_cons_zero, List.set_cons_succ]
  refine wpAnyH_done (by kernel_rfl) ?_ _
  go_wp2_with fail
  go_ret2
  exact ⟨x, rfl, t3.from_ kk2.size, kk3⟩
set_option maxHeartbeats 4000000 in
set_option maxRecDepth 100000 in
theorem decode_is (A : Option Addr) (n cap : Nat) (l : List UInt8) (w : World) (hr : Reads w A n (bytes l)) (hn : n ≤ 140737488351232) (R : Pp) (d : Int) (hd : dcd l = (R, d)) :
    Calls Tryz.prog 134 #[.slice A n cap] w fun e w' => e = .returned (.tuple #[pv R, .int .i64 d]) ∧ Keep Nob w w' := by
  have hl : l.length = n := by simpa using hr.1
  have HD := Lib.hid hd
  have HL := Lib.hid hl
  clear hd
  by_cases h24 : n = 40
  rotate_left
  · have hne24 : ((n : Int) == 40) = false := by simpa using (show (n : Int) ≠ 40 from by omega)
    have h2 : cdcd l = (noP, false) := by rw [cdcd, if_neg (by omega)]
    have hd2 : (noP, (2 : Int)) = (R, d) := by rw [← HD.out, dcd, if_neg (by omega)]
    obtain ⟨Q, hQ⟩ : ∃ Q, noP = Q := ⟨_, rfl⟩
    obtain ⟨b, hb⟩ : ∃ b, false = b := ⟨_, rfl⟩
    have HQ := Lib.hid (show Q.d.length = 32 from by rw [← hQ]; rfl)
    have HQ2 := Lib.hid (show (if b then (Q, (1 : Int)) else (noP, 2)) = (R, d) from by rw [← hb]; exact hd2)
    rw [hQ, hb] at h2
    have HC := Lib.hid h2
    clear hQ hb h2 hd2 HD HL hl h24
    go_enter Tryz.func134, Tryz.ntmps134
    go_upto_region 1 with (refine wpList_al rfl rfl ?_; intro w0 hR0 hK0 hs0; clear hs0)
    have hr0 := hr.nob hK0
    clear hr
    go_wp2_with fail
    refine (rows_is _).mono ?_; rintro e w1 ⟨p, rfl, h1, k1⟩
    have hR1 := hR0.nob k1
    have kk1 := hK0.nobt k1
    have hr1 := hr0.nob k1
    clear hR0 hK0 hr0
    go_wp2_with fail
    refine (cdec_is p A n cap l _ h1 hr1 hn Q b HC.out).mono ?_; rintro e w2 ⟨rfl, k2⟩
    have hR2 := hR1.nob k2
    have kk2 := kk1.nobt k2
    have hge : w.heap.size ≤ w2.heap.size := kk2.size
    have hne : w.heap.size ≠ w2.heap.size := by have := hR2.lt; omega
    clear hR1 kk1 hr1 h1 k1 k2
    unfold pv
    cases b with
    | false =>
      have hd2 := HQ2.out
      rw [if_neg (by simp)] at hd2
      cases hd2
      go_wp2_with (first | (refine wpList_al rfl rfl ?_; intro wa hna ka sa; clear sa; have hRa := hR2.nob ka; have kka := kk2.nobt ka) | (refine wpList_st rfl (.tmp 4) (.tmp 18) rfl w2.heap.size Q noP rfl rfl HQ.out rfl hna ?_; intro w3 hn3 hk3 hs3; clear hs3; have hR3 := hRa.keep hk3 hne; have kk3 := kka.trans hk3 (fun b hb e => by have h3 : b = w2.heap.size := e; omega)) | (refine wpList_bu0 rfl rfl ?_) | (refine wpList_st rfl (.tmp 2) _ rfl w.heap.size noP noP rfl rfl rfl rfl hR3 ?_; intro w4 hr4 hk4 hs4; clear hs4))
      (try simp only [Exit.inBlock, Exit.then])
      refine bodyPost_ret (v := .tuple #[pv noP, .int .i64 2]) (results_pair rfl _ _ w.heap.size noP rfl rfl hr4 _ rfl) rfl ?_
      exact ⟨rfl, kk3.trans hk4 (fun b hb e => by have h3 : b = w.heap.size := e; omega)⟩
    | true =>
      have hd2 := HQ2.out
      rw [if_pos rfl] at hd2
      cases hd2
      go_wp2_with (first | (refine wpList_al rfl rfl ?_; intro wa hna ka sa; clear sa; have hRa := hR2.nob ka; have kka := kk2.nobt ka) | (refine wpList_st rfl (.tmp 4) (.tmp 18) rfl w2.heap.size R noP rfl rfl HQ.out rfl hna ?_; intro w3 hn3 hk3 hs3; clear hs3; have hR3 := hRa.keep hk3 hne; have kk3 := kka.trans hk3 (fun b hb e => by have h3 : b = w2.heap.size := e; omega)) | (refine wpList_ld rfl (.tmp 4) rfl w2.heap.size R rfl HQ.out hn3 ?_) | (refine wpList_st rfl (.tmp 2) _ rfl w.heap.size R noP rfl rfl HQ.out rfl hR3 ?_; intro w4 hr4 hk4 hs4; clear hs4))
      (try simp only [Exit.inBlock, Exit.then])
      refine bodyPost_ret (v := .tuple #[pv R, .int .i64 1]) (results_pair rfl _ _ w.heap.size R HQ.out rfl hr4 _ rfl) rfl ?_
      exact ⟨rfl, kk3.trans hk4 (fun b hb e => by have h3 : b = w.heap.size := e; omega)⟩
  subst h24
  obtain ⟨q, hq⟩ : ∃ q, allNought l = q := ⟨_, rfl⟩
  have hbl := Lib.hid (fun w0 (hk : Keep Nob w w0) => blank_is (c := cap) (hr.nob hk) (by omega) q hq)
  cases q with
  | true =>
    have hd2 : (noP, (0 : Int)) = (R, d) := by rw [← HD.out, dcd, if_pos hl, hq, if_pos rfl]
    cases hd2
    clear HD HL hl hq
    go_enter Tryz.func134, Tryz.ntmps134
    go_upto_region 1 with (refine wpList_al rfl rfl ?_; intro w0 hR0 hK0 hs0; clear hs0)
    have hr0 := hr.nob hK0
    clear hr
    go_wp2_with fail
    refine (hbl.out _ hK0).mono ?_; rintro e w1 ⟨rfl, rfl⟩
    go_wp2_with (first | (refine wpList_bu0 rfl rfl ?_) | (refine wpList_st rfl _ _ rfl _ noP noP rfl rfl rfl rfl hR0 ?_; intro w4 hr4 hk4 hs4; clear hs4))
    (try simp only [Exit.inBlock, Exit.then])
    refine bodyPost_ret (v := .tuple #[pv noP, .int .i64 0]) (results_pair rfl _ _ w.heap.size noP rfl rfl hr4 _ rfl) rfl ?_
    exact ⟨rfl, hK0.trans hk4 (fun b hb e => by have h3 : b = w.heap.size := e; omega)⟩
  | false =>
    obtain ⟨b, hb⟩ : ∃ b, gd l = b := ⟨_, rfl⟩
    obtain ⟨Q, hQ⟩ : ∃ Q, (if b then rd l else noP) = Q := ⟨_, rfl⟩
    have HQ := Lib.hid (show Q.d.length = 32 from by rw [← hQ]; split; exact rd_len hl; rfl)
    have h2 : cdcd l = (Q, b) := by rw [cdcd, if_pos hl, hb, ← hQ]; cases b <;> rfl
    have HQ2 := Lib.hid (show (if b then (Q, (1 : Int)) else (noP, 2)) = (R, d) from by rw [← HD.out, dcd, if_pos hl, hq, hb, ← hQ]; cases b <;> rfl)
    have HC := Lib.hid h2
    clear hQ hb h2 HD HL hl hq
    go_enter Tryz.func134, Tryz.ntmps134
    go_upto_region 1 with (refine wpList_al rfl rfl ?_; intro w0 hR0 hK0 hs0; clear hs0)
    have hr0 := hr.nob hK0
    clear hr
    go_wp2_with fail
    refine (hbl.out _ hK0).mono ?_; rintro e w1 ⟨rfl, rfl⟩
    go_wp2_with fail
    refine (rows_is _).mono ?_; rintro e w1 ⟨p, rfl, h1, k1⟩
    have hR1 := hR0.nob k1
    have kk1 := hK0.nobt k1
    have hr1 := hr0.nob k1
    clear hR0 hK0 hr0
    go_wp2_with fail
    refine (cdec_is p A 40 cap l _ h1 hr1 hn Q b HC.out).mono ?_; rintro e w2 ⟨rfl, k2⟩
    have hR2 := hR1.nob k2
    have kk2 := kk1.nobt k2
    have hge : w.heap.size ≤ w2.heap.size := kk2.size
    have hne : w.heap.size ≠ w2.heap.size := by have := hR2.lt; omega
    clear hR1 kk1 hr1 h1 k1 k2
    unfold pv
    cases b with
    | false =>
      have hd2 := HQ2.out
      rw [if_neg (by simp)] at hd2
      cases hd2
      go_wp2_with (first | (refine wpList_al rfl rfl ?_; intro wa hna ka sa; clear sa; have hRa := hR2.nob ka; have kka := kk2.nobt ka) | (refine wpList_st rfl (.tmp 4) (.tmp 18) rfl w2.heap.size Q noP rfl rfl HQ.out rfl hna ?_; intro w3 hn3 hk3 hs3; clear hs3; have hR3 := hRa.keep hk3 hne; have kk3 := kka.trans hk3 (fun b hb e => by have h3 : b = w2.heap.size := e; omega)) | (refine wpList_bu0 rfl rfl ?_) | (refine wpList_st rfl (.tmp 2) _ rfl w.heap.size noP noP rfl rfl rfl rfl hR3 ?_; intro w4 hr4 hk4 hs4; clear hs4))
      (try simp only [Exit.inBlock, Exit.then])
      refine bodyPost_ret (v := .tuple #[pv noP, .int .i64 2]) (results_pair rfl _ _ w.heap.size noP rfl rfl hr4 _ rfl) rfl ?_
      exact ⟨rfl, kk3.trans hk4 (fun b hb e => by have h3 : b = w.heap.size := e; omega)⟩
    | true =>
      have hd2 := HQ2.out
      rw [if_pos rfl] at hd2
      cases hd2
      go_wp2_with (first | (refine wpList_al rfl rfl ?_; intro wa hna ka sa; clear sa; have hRa := hR2.nob ka; have kka := kk2.nobt ka) | (refine wpList_st rfl (.tmp 4) (.tmp 18) rfl w2.heap.size R noP rfl rfl HQ.out rfl hna ?_; intro w3 hn3 hk3 hs3; clear hs3; have hR3 := hRa.keep hk3 hne; have kk3 := kka.trans hk3 (fun b hb e => by have h3 : b = w2.heap.size := e; omega)) | (refine wpList_ld rfl (.tmp 4) rfl w2.heap.size R rfl HQ.out hn3 ?_) | (refine wpList_st rfl (.tmp 2) _ rfl w.heap.size R noP rfl rfl HQ.out rfl hR3 ?_; intro w4 hr4 hk4 hs4; clear hs4))
      (try simp only [Exit.inBlock, Exit.then])
      refine bodyPost_ret (v := .tuple #[pv R, .int .i64 1]) (results_pair rfl _ _ w.heap.size R HQ.out rfl hr4 _ rfl) rfl ?_
      exact ⟨rfl, kk3.trans hk4 (fun b hb e => by have h3 : b = w.heap.size := e; omega)⟩
end Go.Proofs.YtngchjejmnfanaaGreat.Ri
namespace Go.Proofs.YtngchjejmnfanaaGreat.Ri
open Go.RowKit Cd
set_option linter.unusedVariables false
set_option linter.unusedSimpArgs false
theorem pc_set_ (a b c d : Int) (l : List UInt8) (j : Nat) (y : UInt8) (u : Int) (hu : ((y.toNat : Nat) : Int) = u) : (pc ⟨a, b, c, d, l⟩).set (4 + j) (.int .u8 u) = pc ⟨a, b, c, d, l.set j y⟩ := by
  rw [Nat.add_comm]
  show _ :: _ :: _ :: _ :: (bytes l).set j _ = _
  rw [bytes_set l j y u hu]; rfl
/-- The Data while it is read: the first k bytes are there. -/
def got (l : List UInt8) (k : Nat) : List UInt8 := (l.drop 8).take k ++ List.replicate (32 - k) 0
theorem got_len {l : List UInt8} (h : l.length = 40) {k : Nat} (hk : k ≤ 32) : (got l k).length = 32 := by simp [got, h]; omega
theorem got_zero (l : List UInt8) : got l 0 = nod := by simp [got, nod]
theorem got_all {l : List UInt8} (h : l.length = 40) : got l 32 = l.drop 8 := by
  unfold got
  rw [List.take_of_length_le (by simp [h])]; simp
theorem got_set {l : List UInt8} (h : l.length = 40) {k : Nat} (hk : k < 32) : (got l k).set k (l.getD (8 + k) 0) = got l (k + 1) := by
  have hl : ((l.drop 8).take k).length = k := by simp [h]; omega
  have hd : (l.drop 8).getD k 0 = l.getD (8 + k) 0 := by simp [List.getD_eq_getElem?_getD, List.getElem?_drop]
  unfold got
  rw [List.set_append_right _ _ (by rw [hl]; exact Nat.le_refl _), hl, Nat.sub_self, show 32 - k = (32 - (k + 1)) + 1 from by omega, List.replicate_succ, List.set_cons_zero, take_one (by simp [h]; omega), hd, List.append_assoc]
  rfl
set_option maxHeartbeats 4000000 in
set_option maxRecDepth 100000 in
theorem pipeof_is (l : List UInt8) (hl : l.length ≤ 1000) (w : World) (R : Pp) (d : Int) (hd : dcd l = (R, d)) :
    Calls Tryz.prog 88 #[.string (str l)] w fun e w' => e = .returned (.tuple #[pv R, .int .i64 d]) ∧ Keep Nob w w' := by
  have hsz := str_size l
  have HB := Lib.hid (fun w v h => rblank_is (w := w) (l := l) (by omega) v h)
  have hat : ∀ k (hk : k < (str l).size), (str l)[k] = l.getD k 0 := fun k hk => str_at l k hk
  have HAT := Lib.hid hat
  have HD := Lib.hid hd
  have hl8 : l.length = 40 ∨ l.length ≠ 40 := by omega
  rcases hl8 with h8 | h8
  rotate_left
  · have hne : (((str l).size : Int) != 40) = true := by rw [hsz]; simpa using (show ((l.length : Nat) : Int) ≠ 40 from by omega)
    have hsl : (str l).size ≤ 1000 := by rw [hsz]; exact hl
    have hd2 : (noP, (2 : Int)) = (R, d) := by rw [← HD.out, dcd, if_neg h8]
    cases hd2
    clear HB HAT hd HD hat hsz hl h8
    generalize str l = s at *
    go_enter Tryz.func88, Tryz.ntmps88
    go_upto_region 1 with (refine wpList_al rfl rfl ?_; intro w0 hz0 kz hs0; clear hs0)
    go_wp2_with (first | (refine wpList_bu0 rfl rfl ?_) | (refine wpList_st rfl _ _ rfl _ noP noP rfl rfl rfl rfl hz0 ?_; intro w2 hr2 hk2 hs2; clear hs2))
    (try simp only [Exit.inBlock, Exit.then])
    refine bodyPost_ret (v := .tuple #[pv noP, .int .i64 2]) (results_pair rfl _ _ w.heap.size noP rfl rfl hr2 _ rfl) rfl ?_
    exact ⟨rfl, kz.trans hk2 (fun b hb e => by have h3 : b = w.heap.size := e; omega)⟩
  cases hn : allNought l with
  | true =>
    have hd2 : (noP, (0 : Int)) = (R, d) := by rw [← HD.out, dcd, if_pos h8, hn, if_pos rfl]
    cases hd2
    have HB2 := Lib.hid (fun w => HB.out w true hn)
    have hsz2 : (str l).size = 40 := by rw [hsz, h8]
    clear HB HAT hd HD hat hsz hl hn
    generalize str l = s at *
    go_enter Tryz.func88, Tryz.ntmps88
    go_upto_region 1 with (refine wpList_al rfl rfl ?_; intro w0 hz0 kz hs0; clear hs0)
    go_wp2_with fail
    refine (HB2.out _).mono ?_; rintro e w1 ⟨rfl, rfl⟩
    go_wp2_with (first | (refine wpList_bu0 rfl rfl ?_) | (refine wpList_st rfl _ _ rfl _ noP noP rfl rfl rfl rfl hz0 ?_; intro w2 hr2 hk2 hs2; clear hs2))
    (try simp only [Exit.inBlock, Exit.then])
    refine bodyPost_ret (v := .tuple #[pv noP, .int .i64 0]) (results_pair rfl _ _ w.heap.size noP rfl rfl hr2 _ rfl) rfl ?_
    exact ⟨rfl, kz.trans hk2 (fun b hb e => by have h3 : b = w.heap.size := e; omega)⟩
  | false =>
  have HB2 := Lib.hid (fun w => HB.out w false hn)
  have hsz2 : (str l).size = 40 := by rw [hsz, h8]
  have hd2 : (if gd l then (rd l, (1 : Int)) else (noP, 2)) = (R, d) := by rw [← HD.out]; unfold dcd; rw [if_pos h8, hn]; rfl
  have hgd : (okd (rd l) && enc (rd l) == l) = gd l := rfl
  rw [← hgd] at hd2
  have hsl : (str l).toList = l := str_tl l
  have HY := Lib.hid (fun (i : Int) (k : Nat) (hi : i = k) (hk : k < 40) => index_str (str l) i k hi (by omega) _ (HAT.out k (by omega)))
  have y0 := HY.out 1 1 rfl (by omega)
  have y1 := HY.out 2 2 rfl (by omega)
  have y2 := HY.out 3 3 rfl (by omega)
  have y3 := HY.out 4 4 rfl (by omega)
  have u0 := u8_lt (l.getD 1 0)
  have u1 := u8_lt (l.getD 2 0)
  have u2 := u8_lt (l.getD 3 0)
  have u3 := u8_lt (l.getD 4 0)
  have HG := Lib.hid (fun k (hk : k < 32) => got_set h8 hk)
  have HGL := Lib.hid (fun k (hk : k ≤ 32) => got_len h8 hk)
  have hrl : (rd l).d.length = 32 := rd_len h8
  have hrd : Pp.mk ((l.getD 1 0).toNat : Int) ((l.getD 2 0).toNat : Int) ((l.getD 3 0).toNat : Int) ((l.getD 4 0).toNat : Int) (got l 32) = rd l := by rw [got_all h8]; rfl
  have i0 : IntKind.i64.wrap ((l.getD 1 0).toNat : Int) = ((l.getD 1 0).toNat : Int) := wrap_small_i64 _ (by omega) (by omega)
  have i1 : IntKind.i64.wrap ((l.getD 2 0).toNat : Int) = ((l.getD 2 0).toNat : Int) := wrap_small_i64 _ (by omega) (by omega)
  have i2 : IntKind.i64.wrap ((l.getD 3 0).toNat : Int) = ((l.getD 3 0).toNat : Int) := wrap_small_i64 _ (by omega) (by omega)
  have i3 : IntKind.i64.wrap ((l.getD 4 0).toNat : Int) = ((l.getD 4 0).toNat : Int) := wrap_small_i64 _ (by omega) (by omega)
  generalize rd l = P at *
  generalize ((l.getD 1 0).toNat : Int) = x0 at *
  generalize ((l.getD 2 0).toNat : Int) = x1 at *
  generalize ((l.getD 3 0).toNat : Int) = x2 at *
  generalize ((l.getD 4 0).toNat : Int) = x3 at *
  have hRD : P = ⟨x0, x1, x2, x3, got l 32⟩ := hrd.symm
  have HRD := Lib.hid hRD
  have HRL := Lib.hid hrl
  have QO := Lib.hid (fun w v h => pipeok_is P w v h)
  have QB := Lib.hid (fun w => pipebytes_is P hrl w)
  have HD2 := Lib.hid hd2
  have HSL := Lib.hid hsl
  clear HB hd HD hat hsz hl hn hd2 hsl u0 u1 u2 u3 hgd h8 hrd hRD hrl HAT
  generalize str l = s at *
  unfold pv at QO QB
  go_enter Tryz.func88, Tryz.ntmps88
  go_upto_region 1 with (refine wpList_al rfl rfl ?_; intro w0 hz0 kz hs0; clear hs0)
  go_wp2_with fail
  refine (HB2.out _).mono ?_; rintro e w1 ⟨rfl, rfl⟩
  go_upto_region 5 with fail
  have hz1 := hz0.drew
  have k1 := kz.drew
  clear hz0 kz HB2
  refine wp_region_held_drew (S := (fun _ => True)) (by kernel_rfl) trivial (fun hHeld => ?_)
  generalize w0.drew = wd at *
  refine wpAnyH_take (i := 0) (v := ?_) rfl (by kernel_rfl) (by kernel_rfl) (by kernel_rfl) (fun _ _ _ h => h) (Or.inl ⟨by rfl, ?_⟩) (by assumption) ?_
  rotate_left
  · (intro w hSw; (try dsimp only at hSw); go_simp; try with_reducible rfl)
  try simp only [Act.put, List.getElem_toArray, List.getElem_cons_zero, List.getElem_cons_succ, List.setIfInBounds_toArray, List.set_cons_zero, List.set_cons_succ]
  refine wpAnyH_take (i := 1) (v := ?_) rfl (by kernel_rfl) (by kernel_rfl) (by kernel_rfl) (fun _ _ _ h => h) (Or.inl ⟨by rfl, ?_⟩) (by assumption) ?_
  rotate_left
  · (intro w hSw; (try dsimp only at hSw); go_simp; try with_reducible rfl)
  try simp only [Act.put, List.getElem_toArray, List.getElem_cons_zero, List.getElem_cons_succ, List.setIfInBounds_toArray, List.set_cons_zero, List.set_cons_succ]
  refine wpAnyH_take (i := 2) (v := ?_) rfl (by kernel_rfl) (by kernel_rfl) (by kernel_rfl) (fun _ _ _ h => h) (Or.inl ⟨by rfl, ?_⟩) (by assumption) ?_
  rotate_left
  · (intro w hSw; (try dsimp only at hSw); go_simp; try with_reducible rfl)
  try simp only [Act.put, List.getElem_toArray, List.getElem_cons_zero, List.getElem_cons_succ, List.setIfInBounds_toArray, List.set_cons_zero, List.set_cons_succ]
  refine wpAnyH_take (i := 3) (v := ?_) rfl (by kernel_rfl) (by kernel_rfl) (by kernel_rfl) (fun _ _ _ h => h) (Or.inl ⟨by rfl, ?_⟩) (by assumption) ?_
  rotate_left
  · (intro w hSw; (try dsimp only at hSw); go_simp; try with_reducible rfl)
  try simp only [Act.put, List.getElem_toArray, List.getElem_cons_zero, List.getElem_cons_succ, List.setIfInBounds_toArray, List.set_cons_zero, List.set_cons_succ]
  refine wpAnyH_take (i := 4) (v := ?_) rfl (by kernel_rfl) (by kernel_rfl) (by kernel_rfl) (fun _ _ _ h => h) (Or.inl ⟨by rfl, ?_⟩) (by assumption) ?_
  rotate_left
  · (intro w hSw; (try dsimp only at hSw); go_simp; try with_reducible rfl)
  try simp only [Act.put, List.getElem_toArray, List.getElem_cons_zero, List.getElem_cons_succ, List.setIfInBounds_toArray, List.set_cons_zero, List.set_cons_succ]
  refine wpAnyH_take (i := 5) (v := ?_) rfl (by kernel_rfl) (by kernel_rfl) (by kernel_rfl) (fun _ _ _ h => h) (Or.inl ⟨by rfl, ?_⟩) (by assumption) ?_
  rotate_left
  · (intro w hSw; (try dsimp only at hSw); go_simp; try with_reducible rfl)
  try simp only [Act.put, List.getElem_toArray, List.getElem_cons_zero, List.getElem_cons_succ, List.setIfInBounds_toArray, List.set_cons_zero, List.set_cons_succ]
  refine wpAnyH_take (i := 6) (v := ?_) rfl (by kernel_rfl) (by kernel_rfl) (by kernel_rfl) (fun _ _ _ h => h) (Or.inl ⟨by rfl, ?_⟩) (by assumption) ?_
  rotate_left
  · (intro w hSw; (try dsimp only at hSw); go_simp; try with_reducible rfl)
  try simp only [Act.put, List.getElem_toArray, List.getElem_cons_zero, List.getElem_cons_succ, List.setIfInBounds_toArray, List.set_cons_zero, List.set_cons_succ]
  refine wpAnyH_take (i := 7) (v := ?_) rfl (by kernel_rfl) (by kernel_rfl) (by kernel_rfl) (fun _ _ _ h => h) (Or.inl ⟨by rfl, ?_⟩) (by assumption) ?_
  rotate_left
  · (intro w hSw; (try dsimp only at hSw); go_simp; try with_reducible rfl)
  try simp only [Act.put, List.getElem_toArray, List.getElem_cons_zero, List.getElem_cons_succ, List.setIfInBounds_toArray, List.set_cons_zero, List.set_cons_succ]
  refine wpAnyH_take (i := 8) (v := ?_) rfl (by kernel_rfl) (by kernel_rfl) (by kernel_rfl) (fun _ _ _ h => h) (Or.inl ⟨by rfl, ?_⟩) (by assumption) ?_
  rotate_left
  · (intro w hSw; (try dsimp only at hSw); go_simp; try with_reducible rfl)
  try simp only [Act.put, List.getElem_toArray, List.getElem_cons_zero, List.getElem_cons_succ, List.setIfInBounds_toArray, List.set_cons_zero, List.set_cons_succ]
  refine wpAnyH_take (i := 9) (v := ?_) rfl (by kernel_rfl) (by kernel_rfl) (by kernel_rfl) (fun _ _ _ h => h) (Or.inl ⟨by rfl, ?_⟩) (by assumption) ?_
  rotate_left
  · (intro w hSw; (try dsimp only at hSw); go_simp; try with_reducible rfl)
  try simp only [Act.put, List.getElem_toArray, List.getElem_cons_zero, List.getElem_cons_succ, List.setIfInBounds_toArray, List.set_cons_zero, List.set_cons_succ]
  refine wpAnyH_take (i := 10) (v := ?_) rfl (by kernel_rfl) (by kernel_rfl) (by kernel_rfl) (fun _ _ _ h => h) (Or.inl ⟨by rfl, ?_⟩) (by assumption) ?_
  rotate_left
  · (intro w hSw; (try dsimp only at hSw); go_simp; try with_reducible rfl)
  try simp only [Act.put, List.getElem_toArray, List.getElem_cons_zero, List.getElem_cons_succ, List.setIfInBounds_toArray, List.set_cons_zero, List.set_cons_succ]
  refine wpAnyH_take (i := 11) (v := ?_) rfl (by kernel_rfl) (by kernel_rfl) (by kernel_rfl) (fun _ _ _ h => h) (Or.inl ⟨by rfl, ?_⟩) (by assumption) ?_
  rotate_left
  · (intro w hSw; (try dsimp only at hSw); go_simp; try with_reducible rfl)
  try simp only [Act.put, List.getElem_toArray, List.getElem_cons_zero, List.getElem_cons_succ, List.setIfInBounds_toArray, List.set_cons_zero, List.set_cons_succ]
  refine wpAnyH_take (i := 12) (v := ?_) rfl (by kernel_rfl) (by kernel_rfl) (by kernel_rfl) (fun _ _ _ h => h) (Or.inl ⟨by rfl, ?_⟩) (by assumption) ?_
  rotate_left
  · (intro w hSw; (try dsimp only at hSw); refine exec_bu (.tmp 15) (.tmp 18) (.tmp 21) (.tmp 24) ?_ x0 x1 x2 x3 ?_ ?_ ?_ ?_ <;> rfl)
  try simp only [Act.put, List.getElem_toArray, List.getElem_cons_zero, List.getElem_cons_succ, List.setIfInBounds_toArray, List.set_cons_zero, List.set_cons_succ]
  refine wpAnyH_ready (rs := [13]) (by kernel_rfl) (by simp) ?_
  refine AllReadyH.cons rfl (fun K hK => ?_) AllReadyH.nil
  refine wp_al rfl ?_; intro wa hp0 kA sA; clear sA
  refine hK.out _ _ ?_ (fun hHeld => ?_)
  · exact trivial
  clear hK K
  try simp only [Act.put, List.getElem_toArray, List.getElem_cons_zero, List.getElem_cons_succ, List.setIfInBounds_toArray, List.set_cons_zero, List.set_cons_succ]
  have hgr : w.heap.size ≠ wd.heap.size := by have := hz1.lt; omega
  have hgd : wd.heap.size ≤ wd.heap.size := Nat.le_refl _
  generalize hgpe : wd.heap.size = gp at *
  refine wpAnyH_ready (rs := [14]) (by kernel_rfl) (by simp) ?_
  refine AllReadyH.cons rfl (fun K hK => ?_) AllReadyH.nil
  rw [if_pos (by rfl)]
  refine wp_store_ (old := noP) (q := ⟨x0, x1, x2, x3, nod⟩) rfl rfl rfl rfl rfl hp0 ?_
  have kB := (Keep.refl (· = gp) wa).setRow gp (pc ⟨x0, x1, x2, x3, nod⟩).toArray (fun _ => rfl)
  have hp1 : Blk _ gp 44 (pc ⟨x0, x1, x2, x3, nod⟩) := hp0.setRow _
  refine hK.out _ _ ?_ (fun hHeld => ?_)
  · exact trivial
  clear hK K
  try simp only [Act.put, List.getElem_toArray, List.getElem_cons_zero, List.getElem_cons_succ, List.setIfInBounds_toArray, List.set_cons_zero, List.set_cons_succ]
  refine wpAnyH_done (by kernel_rfl) ?_ _
  clear hp0 hgd
  generalize wa.setRow gp (pc ⟨x0, x1, x2, x3, nod⟩).toArray = w2 at *
  have hz2 : Blk w2 w.heap.size 44 (pc noP) := (hz1.nob kA).keep kB hgr
  have hk2 : Keep Nob w w2 := (k1.nobt kA).trans kB (fun b hb e => by have h3 : b = gp := e; have := k1.size; omega)
  have hgn : w.heap.size ≤ gp := by have := k1.size; omega
  clear hz1 k1 kA kB i0 i1 i2 i3 y0 y1 y2 y3
  rw [← got_zero l] at hp1
  go_wp2_with fail
  go_loopw [5] (fun s5 wx => ∃ k : Nat, k ≤ 32 ∧ s5 = .int .i64 k ∧ Blk wx gp 44 (pc ⟨x0, x1, x2, x3, got l k⟩) ∧ Blk wx w.heap.size 44 (pc noP) ∧ Keep Nob w wx) (fun s5 _ => 32 - (intOf s5).toNat)
  case atStart => exact ⟨0, Nat.zero_le _, rfl, hp1, hz2, hk2⟩
  case round =>
    obtain ⟨k, hk, rfl, hp3, hz3, hk3⟩ := hrel
    clear hp1 hz2 hk2
    by_cases hlt : k < 32
    · obtain ⟨i, hi⟩ : ∃ i : Int, (8 : Int) + (k : Int) = i := ⟨_, rfl⟩
      have hwi : IntKind.i64.wrap (8 + (k : Int)) = i := by rw [hi]; exact wrap_small_i64 _ (by omega) (by omega)
      have y := HY.out i (8 + k) (by omega) (by omega)
      have hset := HG.out k hlt
      have hgl := HGL.out k hk
      generalize l.getD (8 + k) 0 = t at *
      have HSET := Lib.hid hset
      have fr := hp3.frozen (4 + k)
      have cc : ∃ x, _ = some x := ⟨_, cellD hp3 (k := k) (by rw [hgl]; exact hlt)⟩
      obtain ⟨x, cc⟩ := cc
      obtain ⟨u, hu⟩ : ∃ u, ((t.toNat : Nat) : Int) = u := ⟨_, rfl⟩
      rw [hu] at y
      have hp4 : Blk (wr.setCell ⟨gp, 4 + k, none⟩ (.int .u8 u)) gp 44 (pc ⟨x0, x1, x2, x3, got l (k + 1)⟩) := by
        have := hp3.setCell (4 + k) (.int .u8 u)
        rw [pc_set_ _ _ _ _ _ k _ _ hu, HSET.out] at this
        exact this
      have hz4 := hz3.far (p := ⟨gp, 4 + k, none⟩) hgr (.int .u8 u)
      have hk4 := hk3.setCell ⟨gp, 4 + k, none⟩ (.int .u8 u) (fun h => absurd h (by show ¬ gp < _; omega))
      clear hp3 hz3 hk3 hset HSET hu hgl hi
      go_wp2_with fail
      go_round
      case rel => exact ⟨k + 1, by omega, by go_num, hp4, hz4, hk4⟩
      case measure => simp [intOf]; omega
    · obtain rfl : k = 32 := by omega
      clear HG HGL HY hlt hk
      have hp7 := hp3
      rw [← HRD.out] at hp7
      have hr7 := hz3
      have hk7 := hk3
      clear hp3 hz3 hk3
      have hd3 := HD2.out
      cases ho : okd P with
      | false =>
        have hd4 : (noP, (2 : Int)) = (R, d) := by rw [← hd3, ho]; rfl
        cases hd4
        have QQ := Lib.hid (fun w => QO.out w false ho)
        clear QO hd3 HD2 ho HSL
        go_wp2_with (refine wpList_ld rfl (.tmp 4) rfl gp P rfl HRL.out hp7 ?_)
        refine (QQ.out _).mono ?_; rintro e w8 ⟨rfl, k8⟩
        have hr8 := hr7.nob k8
        have hk8 := hk7.nobt k8
        clear hp7 hr7 hk7 k8
        go_wp2_with (first | (refine wpList_bu0 rfl rfl ?_) | (refine wpList_st rfl _ _ rfl _ noP noP rfl rfl rfl rfl hr8 ?_; intro w9 hr9 hk9 hs9; clear hs9))
        (try simp only [Exit.inBlock, Exit.then])
        refine bodyPost_ret (v := .tuple #[pv noP, .int .i64 2]) (results_pair rfl _ _ w.heap.size noP rfl rfl hr9 _ rfl) rfl ?_
        exact ⟨rfl, hk8.trans hk9 (fun b hb e => by have h3 : b = w.heap.size := e; omega)⟩
      | true =>
      have QQ := Lib.hid (fun w => QO.out w true ho)
      have heq : ((str (enc P)).toList == s.toList) = (enc P == l) := by rw [HSL.out, str_tl]
      rw [ho, Bool.true_and] at hd3
      clear QO HD2 ho HSL
      generalize str (enc P) = X at *
      generalize (enc P == l) = v at *
      go_wp2_with (refine wpList_ld rfl (.tmp 4) rfl gp P rfl HRL.out hp7 ?_)
      refine (QQ.out _).mono ?_; rintro e w8 ⟨rfl, k8⟩
      have hr8 := hr7.nob k8
      have hp8 := hp7.nob k8
      have hk8 := hk7.nobt k8
      clear hp7 hr7 hk7 k8
      go_wp2_with (refine wpList_ldw (by rfl) (.tmp 4) rfl gp P rfl HRL.out hp8 ?_)
      refine (QB.out _).mono ?_; rintro e w9 ⟨rfl, k9⟩
      have hr9 := hr8.nob k9
      have hp9 := hp8.nob k9
      have hk9 := hk8.nobt k9
      clear hp8 hr8 hk8 k9
      cases v with
      | false =>
        have hd4 : (noP, (2 : Int)) = (R, d) := by rw [← hd3]; rfl
        cases hd4
        clear hd3
        go_wp2_with (first | (refine wpList_bu0 rfl rfl ?_) | (refine wpList_st rfl _ _ rfl _ noP noP rfl rfl rfl rfl hr9 ?_; intro wa hra hka hsa; clear hsa))
        (try simp only [Exit.inBlock, Exit.then])
        refine bodyPost_ret (v := .tuple #[pv noP, .int .i64 2]) (results_pair rfl _ _ w.heap.size noP rfl rfl hra _ rfl) rfl ?_
        exact ⟨rfl, hk9.trans hka (fun b hb e => by have h3 : b = w.heap.size := e; omega)⟩
      | true =>
        rw [if_pos rfl] at hd3
        have hd4 : P = R ∧ (1 : Int) = d := by cases hd3; exact ⟨rfl, rfl⟩
        obtain ⟨rfl, rfl⟩ := hd4
        go_wp2_with (first | (refine wpList_ld rfl (.tmp 4) rfl gp P rfl HRL.out hp9 ?_) | (refine wpList_st rfl _ _ rfl _ P noP rfl rfl HRL.out rfl hr9 ?_; intro wa hra hka hsa; clear hsa))
        (try simp only [Exit.inBlock, Exit.then])
        refine bodyPost_ret (v := .tuple #[pv P, .int .i64 1]) (results_pair rfl _ _ w.heap.size P HRL.out rfl hra _ rfl) rfl ?_
        exact ⟨rfl, hk9.trans hka (fun b hb e => by have h3 : b = w.heap.size := e; omega)⟩
end Go.Proofs.YtngchjejmnfanaaGreat.Ri
