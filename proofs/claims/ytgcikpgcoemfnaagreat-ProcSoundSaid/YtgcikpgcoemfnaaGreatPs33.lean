import Derived.Test.YtgcikpgcoemfnaaGreatPs25
import Derived.Test.YtgcikpgcoemfnaaGreatPs22
set_option maxRecDepth 100000
set_option maxHeartbeats 8000000
set_option linter.unusedVariables false
set_option linter.unusedSimpArgs false
namespace Go.Proofs.YtgcikpgcoemfnaaGreat.Pn
open Go.RowKit
open Co
def gB : List Int := [1, 0, 0, 0, 0, 0, 0, 0, 1, 0, 0, 0, 0, 0, 0, 0]
def fileF : List Int := [3, 0, 1, 0]
def dQ : List UInt8 := splice (splice aL 0 (Cd.enc gB)) 192 (Fi.enc fileF)
theorem procF_ok : Cd.okd gB = true := by decide +kernel
def procA : List Int := [1, 0, 0, 0, 0, 0, 0, 0, 0, 0, 0, 0, 0, 0, 0, 0]
theorem set8 : (ab procA).set 8 (.int .i64 1) = ab gB := rfl
theorem gv (w : World) : Calls Tryz.prog 10 #[] w fun e w' => ∃ g c, e = .returned (.slice (some ⟨g, 0, none⟩) 492 c) ∧ Cr.CR w' g 492 dQ ∧ w.heap.size ≤ g ∧ Keep (bT w.heap.size) w w' := by
 have HA := aa (ai (n := 16) (l := procA) rfl)
 have HF := aa (ai (n := 16) (l := gB) rfl)
 have HZ := aa (ai (n := 16) (l := Cd.noP) rfl)
 have HB := aa (fun W => rblank_is W)
 have hpb := fun W => Cd.procbytes_is gB rfl procF_ok W
 have hfb := fun W => Fi.filebytes_is fileF rfl W
 unfold Cd.pv at hpb
 rw [show Fi.pv fileF = .agg #[.int .i64 3, .int .i64 0, .int .i64 1, .int .i64 0] from rfl] at hfb
 have HP := aa hpb
 have HFB := aa hfb
 have HL := aa (And.intro dR (And.intro (Cd.aJ (p := gB) rfl) (Fi.aJ fileF)))
 have HE := aa (show splice (splice aL 0 (Cd.enc gB)) 192 (Fi.enc fileF) = dQ from rfl)
 have HS8 := aa set8
 clear hpb hfb
 generalize aL = bb at *
 generalize Cd.enc gB = pe at *
 generalize Fi.enc fileF = fe at *
 generalize dQ = fb at *
 go_enter Tryz.func10, Tryz.ntmps10
 go_wp2_with fail
 refine (HB.out w).mono ?_; rintro e w1 ⟨rfl, k1⟩
 go_upto_region 2 with (refine Cr.kg (n := 492) rfl _ rfl bb rfl HL.out.1 ?_; intro w2 c hc2 hk2 hcl)
 have HC2 := aa hc2
 have hge : w.heap.size ≤ w1.heap.size := k1.size
 have hlt2 := hc2.lt (by decide)
 have K2 := aa ((k1.nobt hk2).mono (M' := bT w.heap.size) (fun _ _ f => f.elim))
 generalize w1.heap.size = g at *
 clear hc2 k1 hk2
 go_upto_region 3 with (first
  | (refine ar.wpList_al rfl rfl ?_; intro w3 hb3 hk3 hs3; clear hs3)
  | (refine ar.wpList_st rfl rfl rfl rfl HA.out HZ.out hb3 ?_; intro w4 hb4 hk4 hs4; clear hs4))
 have HC4 := aa ((HC2.out.nob (by decide) hk3).keep (by decide) hk4 (by omega))
 have K4 := aa ((K2.out.nob hk3).at_ hk4 K2.out.size)
 have c8 : w4.cell? ⟨w2.heap.size, 8, none⟩ = some (.int .i64 0) := hb4.cell 8
 have f8 := hb4.frozen 8
 have HB4 := aa hb4
 have hgw : w.heap.size ≤ w2.heap.size := K2.out.size
 generalize w2.heap.size = gp at *
 clear hb3 hk3 hk4 hb4
 go_upto_region 4 with fail
 have ks : Keep (fun x => x = gp) w4 (w4.setCell ⟨gp, 8, none⟩ (.int .i64 1)) := (Keep.refl (fun x => x = gp) w4).setCell ⟨gp, 8, none⟩ (.int .i64 1) (fun _ => rfl)
 have hb5 : Blk (w4.setCell ⟨gp, 8, none⟩ (.int .i64 1)) gp 37 (ab gB) := by
  rw [← HS8.out]
  exact HB4.out.setCell 8 _
 have HC5 := aa (HC4.out.keep (by decide) ks (by omega))
 have K5 := aa (K4.out.at_ ks hgw)
 have HB5 := aa hb5
 clear ks hb5 c8 f8
 generalize w4.setCell ⟨gp, 8, none⟩ (.int .i64 1) = w5 at *
 go_wp2_with (refine ar.wpList_ld rfl rfl rfl HF.out HB5.out ?_)
 refine (HP.out _).mono ?_; rintro e w6 ⟨rfl, k6⟩
 have HC6 := aa (HC5.out.nob (by decide) k6)
 have K6 := aa (K5.out.nob k6)
 clear k6
 go_upto_region 5 with (refine Cr.wpList_cpr rfl _ _ rfl 0 492 c pe rfl rfl HC6.out rfl (by have := HL.out.2.1; omega) ?_; intro w7 hc7 hk7)
 have HC7 := aa hc7
 have K7 := aa (K6.out.at_ hk7 hge)
 have hc192 : ¬ (c = 192) := by omega
 clear hc7 hk7
 have hcr := fun W k8 => Cr.cr_cps (dCap := c - 192) (HC7.out.nob (w' := W) (by decide) k8) fe (at_ := 192) (dl := 300) rfl (by have := HL.out.2.2; omega)
 have HCr := aa hcr
 clear hcr
 go_region_law (go_simp; go_at_call 33; with_reducible_and_instances apply Calls.mono (HFB.out _); rintro e w8 ⟨rfl, k8⟩; have k9 : Keep Nob w7 w8 := (by with_reducible_and_instances (first | exact k8 | exact (Keep.nobdrew _).nobt k8)); obtain ⟨w9, hcp, hc9, hk9⟩ := HCr.out w8 k9)
 all_goals (go_wp2; go_ret)
 all_goals (exact ⟨g, c, rfl, by rw [HE.out] at hc9; exact hc9, hge, (K7.out.nob k9).at_ hk9 hge⟩)
end Go.Proofs.YtgcikpgcoemfnaaGreat.Pn
