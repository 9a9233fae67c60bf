/- The laws' awake. -/
import Derived.Test.YtojciodjffahnaaRin5
import Derived.Test.YtojciodjffahnaaRinK
namespace Go.Proofs.Ytojciodjffahnaa.Ri
open Go.RowKit
set_option linter.unusedVariables false
set_option linter.unusedSimpArgs false
def aw1 : Pp := ⟨0, 3, 0, 0, [1, 2, 3] ++ List.replicate 29 0⟩
def aw2 : Pp := ⟨2, 1, 0, 0, [1, 2, 3] ++ List.replicate 29 0⟩
theorem aw_put : pput noP [1, 2, 3] = (aw1, 3) := by rfl
theorem aw_take : ptake aw1 2 = (aw2, [1, 2]) := by rfl
theorem aw_dec : dcd (List.replicate 40 0) = (noP, 0) := by rfl
theorem bu0_at {ops : Array Oper} {rest : List Oper} {o : Oper} {a : Act} {Q : Exit → Act → World → Prop} {w : World} (Z : Pp) (hZ : noP = Z) (hgd : o.guard = none) (ho : o.op = .build 26 #[])
    (h : wpList Try.prog ops Q rest (a.put o.dst (.agg (pc Z).toArray)) w) : wpList Try.prog ops Q (o :: rest) a w := by
  subst hZ
  exact wpList_bu0 hgd ho h
set_option maxHeartbeats 4000000 in
set_option maxRecDepth 100000 in
theorem awake_is (w : World) : Calls Try.prog 8 #[] w fun e w' => e = .returned (.bool true) ∧ Keep Nob w w' := by
  obtain ⟨Z, hZ⟩ : ∃ Z, noP = Z := ⟨_, rfl⟩
  have HZL := Lib.hid (show Z.d.length = 32 from by rw [← hZ]; rfl)
  have HP1 := Lib.hid (fun w g (hr : Reads w (some ⟨g, 0, none⟩) 3 (bytes [1, 2, 3])) => put_is noP rfl _ 3 3 [1, 2, 3] w hr (by decide) (by decide) aw1 3 aw_put)
  have HP2 := Lib.hid (fun w => take_is aw1 rfl 2 w aw2 [1, 2] aw_take)
  have HP3 := Lib.hid (fun w => encode_is aw2 rfl w true (by decide))
  have HP4 := Lib.hid (fun w g (hr : Reads w (some ⟨g, 0, none⟩) 40 (bytes (List.replicate 40 0))) => decode_is (some ⟨g, 0, none⟩) 40 40 (List.replicate 40 0) w hr (by decide) noP 0 aw_dec)
  rw [hZ] at HP1 HP4
  have HZ := Lib.hid hZ
  clear hZ
  have hl1 : aw1.d.length = 32 := rfl
  have hl2 : aw2.d.length = 32 := rfl
  have hh2 : aw2.h = 2 := rfl
  have hc2 : aw2.c = 1 := rfl
  generalize aw1 = P1 at *
  generalize aw2 = P2 at *
  have HL1 := Lib.hid hl1
  have HL2 := Lib.hid hl2
  have HH2 := Lib.hid hh2
  have HC2 := Lib.hid hc2
  clear hl1 hl2 hh2 hc2
  unfold pv at HP1 HP2 HP3 HP4
  go_enter Try.func8, Try.ntmps8
  go_wp2_with (refine bu0_at Z HZ.out rfl rfl ?_)
  refine (HP1.out _ w.heap.size (reads_all (Blk.new w 5 (bytes [1, 2, 3])) rfl)).mono ?_; rintro e w1 ⟨rfl, k1⟩
  have K1 : Keep Nob w w1 := ((Keep.refl Nob w).alloc _).nobt k1
  clear k1 HP1
  go_wp2_with (first | (refine wpList_al rfl rfl ?_; intro w2 hp2 k2 hs2; clear hs2) | (refine wpList_st rfl (.tmp 1) _ rfl w1.heap.size P1 noP rfl rfl HL1.out rfl hp2 ?_; intro w3 hp3 k3 hs3; clear hs3) | (refine wpList_ld rfl (.tmp 1) rfl w1.heap.size P1 rfl HL1.out hp3 ?_))
  have K3 : Keep Nob w w3 := (K1.nobt k2).trans k3 (fun b hb e => by have h3 : b = w1.heap.size := e; have := K1.size; omega)
  clear hp2 k2 k3 hp3 K1
  refine (HP2.out _).mono ?_; rintro e w4 ⟨x4, rfl, ⟨A4, c4, rfl, -, r4⟩, k4⟩
  have r4 : Reads w4 A4 2 (bytes [1, 2]) := r4.1
  have K4 := K3.nobt k4
  clear k4 K3 HP2
  go_wp2_with (first | (refine wpList_al rfl rfl ?_; intro w5 hp5 k5 hs5; clear hs5) | (refine wpList_st rfl (.tmp 3) _ rfl w4.heap.size P2 noP rfl rfl HL2.out rfl hp5 ?_; intro w6 hp6 k6 hs6; clear hs6) | (refine wpList_ld rfl (.tmp 3) rfl w4.heap.size P2 rfl HL2.out hp6 ?_))
  have hrl : ∀ ad, A4 = some ad → ad.block ≠ w4.heap.size := fun ad e => by
    obtain ⟨ad', e1, e3⟩ := r4.2 (by decide)
    rw [e1] at e; cases e
    have h3 := block_lt_of_cell (e3 0 _ (bytes_getD (by decide)))
    rw [block_of_add] at h3
    omega
  have r6 : Reads w6 A4 2 (bytes [1, 2]) := (r4.nob k5).keep k6 hrl
  have K6 : Keep Nob w w6 := (K4.nobt k5).trans k6 (fun b hb e => by have h3 : b = w4.heap.size := e; have := K4.size; omega)
  clear r4 k5 k6 hp5 K4 hrl
  generalize w4.heap.size = g3 at *
  refine (HP3.out _).mono ?_; rintro e w7 ⟨x7, rfl, ⟨A7, m7, rfl, v7, -⟩, k7⟩
  have r7 := r6.nob k7
  have K7 := K6.nobt k7
  have hp7 := hp6.nob k7
  clear r6 K6 hp6 k7 v7 HP3
  go_wp2_with (refine wpList_mk rfl _ _ 22 rfl 5 (.int .u8 0) 1 Try.underlying22 Try.info5 rfl .i64 .i64 40 _ rfl rfl rfl (by omega) (by omega) ?_; intro w8 hb8 hk8 hs8; clear hs8)
  rw [← bytes_replicate] at hb8
  have r8 := r7.nob hk8
  have K8 := K7.nobt hk8
  have hp8 := hp7.nob hk8
  refine (HP4.out _ _ (reads_all hb8 rfl)).mono ?_; rintro e w9 ⟨rfl, k9⟩
  have r9 := r8.nob k9
  have K9 := K8.nobt k9
  have hp9 := hp8.nob k9
  clear r7 r8 hb8 K7 K8 k9 hk8 hp7 hp8 HP4
  have hlt9 := hp9.lt
  go_upto_region 5 with (first | (refine wpList_al rfl rfl ?_; intro wa hpa ka hsa; clear hsa) | (refine wpList_st rfl (.tmp 7) _ rfl w9.heap.size Z noP rfl rfl HZL.out rfl hpa ?_; intro wb hpb kb hsb; clear hsb))
  have kk : Keep (· = w9.heap.size) w9 wb := (ka.mono (M' := (· = w9.heap.size)) (fun _ _ f => f.elim)).trans kb (fun _ _ h => h)
  have hrl : ∀ ad, A4 = some ad → ad.block ≠ w9.heap.size := fun ad e => by
    obtain ⟨ad', e1, e3⟩ := r9.2 (by decide)
    rw [e1] at e; cases e
    have h3 := block_lt_of_cell (e3 0 _ (bytes_getD (by decide)))
    rw [block_of_add] at h3
    omega
  have rb := r9.keep kk hrl
  have Kb : Keep Nob w wb := K9.trans kk (fun b hb e => by have h3 : b = w9.heap.size := e; have := K9.size; omega)
  have hpb3 := hp9.keep kk (by omega)
  obtain ⟨c0, c1, -, -⟩ := cells4 hpb3
  rw [HH2.out] at c0
  rw [HC2.out] at c1
  have hs := fun c => run_str (P := Try.prog) wb 22 9 5 A4 2 c [1, 2] Try.underlying22 Try.underlying5 Try.underlying9 rb
  have hx : (str [1, 2]).toList = [1, 2] := str_tl _
  generalize str [1, 2] = X at *
  clear r9 rb hpb3 hp9 hpa ka kb kk hrl hpb
  go_wp2
  go_ret
  exact ⟨rfl, Kb⟩
end Go.Proofs.Ytojciodjffahnaa.Ri
