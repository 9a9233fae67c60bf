/- The walk of CommonsGone. Written by c15/gen15e.py. -/
import Derived.Test.YtifigjccokpcfaaGreatPk0
import Derived.Test.YtifigjccokpcfaaGreatPk3
import Derived.Test.YtifigjccokpcfaaGreatPk5
import Derived.Test.YtifigjccokpcfaaGreatPk18
import Derived.Test.YtifigjccokpcfaaGreatPk19
import Derived.Test.YtifigjccokpcfaaGreatPk1
import Derived.Test.YtifigjccokpcfaaGreatPk8
import Derived.Test.YtifigjccokpcfaaGreatPk12
import Derived.Test.YtifigjccokpcfaaGreatPk21
import Derived.Test.YtifigjccokpcfaaGreatPk22
import Derived.Test.YtifigjccokpcfaaGreatPk13
import Derived.Test.YtifigjccokpcfaaGreatPk15
import Derived.Test.YtifigjccokpcfaaGreatPk14
import Derived.Test.YtifigjccokpcfaaGreatPk16
import Derived.Test.YtifigjccokpcfaaGreatPk17
import Derived.Test.YtifigjccokpcfaaGreatPk24
import Derived.Test.YtifigjccokpcfaaGreatPk23
import Derived.Test.YtifigjccokpcfaaGreatPk6
import Derived.Test.YtifigjccokpcfaaGreatPk9
import Derived.Test.YtifigjccokpcfaaGreatPk20
import Derived.Test.YtifigjccokpcfaaGreatPk2
import Derived.Test.YtifigjccokpcfaaGreatPk25
import Derived.Test.YtifigjccokpcfaaGreatPk26
import Derived.Test.YtifigjccokpcfaaGreatPk10
import Derived.Test.YtifigjccokpcfaaGreatPk11
import Derived.Test.YtifigjccokpcfaaGreatPk27
import Derived.Test.YtifigjccokpcfaaGreatPk7
import Derived.Test.YtifigjccokpcfaaGreatPk28
namespace Go.Proofs.YtifigjccokpcfaaGreat.Pn
open Go.RowKit Co
set_option linter.unusedVariables false
set_option linter.unusedSimpArgs false
set_option maxRecDepth 100000 in
set_option maxHeartbeats 16000000 in
theorem gone_in (w : World) (a0 a1 : Int) : Calls Tryz.prog 7 #[.int .i64 a0, .int .i64 a1] w fun e w' => e = .returned (.bool true) ∧ Below w.heap.size w w' := by
  obtain ⟨i, hi⟩ : ∃ i, bits .and .i64 a0 3 = i := ⟨_, rfl⟩
  have HI := Lib.hid (show 0 ≤ i ∧ i ≤ 3 by have := i64_mask a0 2 (by decide); rw [show (2 : Int) ^ 2 - 1 = 3 from rfl, hi] at this; omega)
  obtain ⟨m, hm⟩ : ∃ m, bits .and .i64 a1 7 = m := ⟨_, rfl⟩
  have hm2 : 0 ≤ m ∧ m < 8 := by have := i64_mask a1 3 (by decide); rw [show (2 : Int) ^ 3 - 1 = 7 from rfl, hm] at this; omega
  obtain ⟨x, hx, hx1, hx7⟩ := or_one hm2.1 hm2.2
  have HXX := Lib.hid (And.intro hx1 hx7)
  clear hm2 hx1 hx7
  go_enter Tryz.func7, Tryz.ntmps7
  go_wp2_with fail
  refine (plan_is w).mono ?_; rintro e w1 ⟨Ab, AB, rfl, hr, k1⟩
  go_wp2_with fail
  refine (open_is Ab AB hr).mono ?_; rintro e w2 ⟨N0, K, C, b, k2, pq, R, Ag, ng, cg, g, B, c, rfl, hO⟩
  have HSP := Lib.hid (space_is hO.op.kc.k)
  have hnm := snames_new (e := 0) hO.op.kc.k.reg.sp (by rw [hO.g2.n18]; decide)
  rw [hO.g2.names (by decide), show (256 :: [257, 258] : List Int).length = 3 from rfl] at hnm
  have HNM := Lib.hid hnm
  have HO := Lib.hid hO
  have K1_ := Lib.hid k1
  clear hO hr k1 hnm
  go_wp2_with fail
  refine HSP.out.mono ?_; rintro e w3 ⟨rfl, rfl⟩
  go_wp2_with fail
  refine HSP.out.mono ?_; rintro e w3 ⟨rfl, rfl⟩
  go_wp2_with fail
  refine HNM.out.mono ?_; rintro e w4 ⟨A, cc, rfl, hv, hk, _⟩
  obtain ⟨gn, cur, rfl, hbn, hlc, hcl, ht⟩ := hv.at_ (by simp)
  have z0 : w4.cell? ⟨gn, 0, none⟩ = some (.int .i64 256) := by
    obtain ⟨ad, e1, e2⟩ := hv.reads.2 (by simp)
    cases e1
    exact e2 0 _ rfl
  have O4 := Lib.hid (HO.out.op.nob hk)
  obtain ⟨c0, hc0, hh⟩ := HO.out.g2.has (e := 0) (j := 0) (by decide) (by decide)
  have hrev : Calls Tryz.prog 28 #[.pointer (some ⟨K.k, 0, none⟩), .int .i64 0, Calc 5 256 0 0 0 0 none 0 0] w4 fun e w' => e = .returned (.agg #[.int .i64 0, .int .i64 1, .slice none 0 0]) ∧ To w4 K { K with T := gone K.T [(0, 256)] } w' :=
    k_revoke O4.out.kc.k 0 (by rw [HO.out.g2.n18]; decide) 256 0 0 0 0 none 0 0 c0 hh (HO.out.g2.no_desc (by decide))
  unfold Calc at hrev
  have HRV := Lib.hid hrev
  clear hv hbn hlc hcl ht hk hc0 hh hrev HSP HNM
  go_wp2_with fail
  refine HRV.out.mono ?_; rintro e w5 ⟨rfl, t⟩
  have hce : C.env = 0 := HO.out.env
  obtain ⟨K1, hK1⟩ : ∃ K1 : Kn, K1 = { K with T := gone K.T [(0, 256)] } := ⟨_, rfl⟩
  have hlk : Link K1 C srcG := by rw [hK1]; exact link_gone HO.out.g2 hce HO.out.name HO.out.brs
  rw [← hK1] at t
  have O5 := Lib.hid (O4.out.turn t (by rw [hK1]) hlk)
  have HF := Lib.hid (show K1.xs = xs0 ∧ C.brs.length = 2 ∧ C.bad = [] from ⟨by rw [hK1]; exact HO.out.xs, by rw [HO.out.brs]; rfl, HO.out.bad⟩)
  have HK := Lib.hid (show K1.k = K.k ∧ K1.envs.length = 18 ∧ names ((K1.T 0).map Q.pl) (K1.T 0).length = 257 :: [258] from ⟨by rw [hK1], by rw [hK1]; exact HO.out.g2.n18, by rw [hK1]; exact names_gone HO.out.g2⟩)
  have HLA := Lib.hid (fun (D : Cm) (h1 : D.env = 0) (h2 : D.name = 257) (h3 : D.brs = [258]) => (show Link K1 D srcH by rw [hK1]; exact link_again HO.out.g2 h1 h2 h3))
  clear t hlk hce hK1 O4 HRV HO z0
  have hans0 := Blk.new w5 83 [.int .i64 0, .int .i64 1, .slice none 0 0]
  have O6 := Lib.hid (O5.out.nob ((Keep.refl Nob w5).alloc (.cells #[.int .i64 0, .int .i64 1, .slice none 0 0] 83)))
  have h0 := Lib.hid hans0
  clear hans0 O5
  have hc := Co.proc_is O6.out.kc i (wfi (by have := HI.out; omega) (by have := HI.out; omega)) Cd.noP 2 [(1, i)] (by show pread _ _ K1.xs _ _ C.bad _ = _; rw [HF.out.1, HF.out.2.1, HF.out.2.2]; exact gone1 HI.out.1 HI.out.2)
  have HC1 := Lib.hid hc
  clear hc
  go_wp2_with fail
  generalize hgA : w5.alloc (.cells #[.int .i64 0, .int .i64 1, .slice none 0 0] 83) = wA at *
  generalize w5.heap.size = ga at *
  clear hgA
  refine HC1.out.mono ?_; rintro e v1 ⟨rfl, t⟩
  have O7 : Hid (Op0 w1 v1 K1 { C with bad := [(1, i)] } srcG) := Lib.hid (O6.out.ct t rfl)
  have h0z := Lib.hid (Ct.off O6.out.kc t h0.out (by decide))
  clear t O6 h0 HC1
  go_wp2_with (first
    | (refine flatP.wpList_al rfl rfl ?_; intro x1 hbx hkx hsx; clear hsx)
    | (refine flatP.wpList_st rfl rfl rfl rfl (cellsI (n := 16) (l := Cd.noP) rfl) (cellsI (n := 16) (l := Cd.noP) rfl) hbx ?_; intro y1 hby hky hsy; clear hsy))
  have O8 := Lib.hid (O7.out.own hkx hbx (by decide) (by decide) hky)
  have h1 := Lib.hid ((h0z.out.nob hkx).keep hky (by have := h0z.out.lt; omega))
  clear hbx hkx hby hky O7 h0z
  have hc := Co.file_is O8.out.kc i (wfi (by have := HI.out; omega) (by have := HI.out; omega)) Fi.noP 2 [(1, i), (2, i)] (by show pread _ _ K1.xs _ _ [(1, i)] _ = _; rw [HF.out.1, HF.out.2.1]; exact gone2 HI.out.1 HI.out.2)
  have HC2 := Lib.hid hc
  clear hc
  go_wp2_with fail
  refine HC2.out.mono ?_; rintro e v2 ⟨rfl, t⟩
  have O9 : Hid (Op0 w1 v2 K1 { C with bad := [(1, i), (2, i)] } srcG) := Lib.hid (O8.out.ct t rfl)
  have h2 := Lib.hid (Ct.off O8.out.kc t h1.out (by decide))
  clear t O8 h1 HC2
  go_wp2_with (first
    | (refine flatF.wpList_al rfl rfl ?_; intro x2 hbx hkx hsx; clear hsx)
    | (refine flatF.wpList_st rfl rfl rfl rfl (cellsI (n := 4) (l := Fi.noP) rfl) (cellsI (n := 4) (l := Fi.noP) rfl) hbx ?_; intro y2 hby hky hsy; clear hsy))
  have OA := Lib.hid (O9.out.own hkx hbx (by decide) (by decide) hky)
  have h3 := Lib.hid ((h2.out.nob hkx).keep hky (by have := h2.out.lt; omega))
  clear hbx hkx hby hky O9 h2
  have hc := Co.pipe_is OA.out.kc i (wfi (by have := HI.out; omega) (by have := HI.out; omega)) Ri.noP 2 [(1, i), (2, i), (3, i)] (by show pread _ _ K1.xs _ _ [(1, i), (2, i)] _ = _; rw [HF.out.1, HF.out.2.1]; exact gone3 HI.out.1 HI.out.2)
  have HC3 := Lib.hid hc
  clear hc
  go_wp2_with fail
  refine HC3.out.mono ?_; rintro e v3 ⟨rfl, t⟩
  have OB : Hid (Op0 w1 v3 K1 { C with bad := [(1, i), (2, i), (3, i)] } srcG) := Lib.hid (OA.out.ct t rfl)
  have h4 := Lib.hid (Ct.off OA.out.kc t h3.out (by decide))
  clear t OA h3 HC3
  go_wp2_with (first
    | (refine Ri.wpList_al rfl rfl ?_; intro x3 hbx hkx hsx; clear hsx)
    | (refine Ri.wpList_st rfl (.tmp 15) _ rfl v3.heap.size Ri.noP Ri.noP rfl rfl Ri.noP_len Ri.noP_len hbx ?_; intro y3 hby hky hsy; clear hsy))
  have OC := Lib.hid (OB.out.own hkx hbx (by decide) (by decide) hky)
  have h5 := Lib.hid ((h4.out.nob hkx).keep hky (by have := h4.out.lt; omega))
  clear hbx hkx hby hky OB h4
  have hc := Co.term_is OC.out.kc Ri.noP 2 [(1, i), (2, i), (3, i), (4, 0)] (by show pread _ _ K1.xs _ _ [(1, i), (2, i), (3, i)] _ = _; rw [HF.out.1, HF.out.2.1]; exact gone4)
  have HC4 := Lib.hid hc
  clear hc
  go_wp2_with fail
  refine HC4.out.mono ?_; rintro e v4 ⟨rfl, t⟩
  have OD : Hid (Op0 w1 v4 K1 { C with bad := [(1, i), (2, i), (3, i), (4, 0)] } srcG) := Lib.hid (OC.out.ct t rfl)
  have h6 := Lib.hid (Ct.off OC.out.kc t h5.out (by decide))
  clear t OC h5 HC4
  go_wp2_with (first
    | (refine Ri.wpList_al rfl rfl ?_; intro x4 hbx hkx hsx; clear hsx)
    | (refine Ri.wpList_st rfl (.tmp 17) _ rfl v4.heap.size Ri.noP Ri.noP rfl rfl Ri.noP_len Ri.noP_len hbx ?_; intro y4 hby hky hsy; clear hsy))
  have OE := Lib.hid (OD.out.own hkx hbx (by decide) (by decide) hky)
  have h7 := Lib.hid ((h6.out.nob hkx).keep hky (by have := h6.out.lt; omega))
  clear hbx hkx hby hky OD h6
  have hc := Co.front_is OE.out.kc 0 2 (five i) (by show pread _ _ K1.xs _ _ [(1, i), (2, i), (3, i), (4, 0)] _ = _; rw [HF.out.1, HF.out.2.1]; exact gone5)
  have HC5 := Lib.hid hc
  clear hc
  go_wp2_with fail
  refine HC5.out.mono ?_; rintro e v5 ⟨rfl, t⟩
  have OF : Hid (Op0 w1 v5 K1 { C with bad := (five i) } srcG) := Lib.hid (OE.out.ct t rfl)
  have h8 := Lib.hid (Ct.off OE.out.kc t h7.out (by decide))
  clear t OE h7 HC5
  have hmade := Cd.made_is none 0 0 [] v5 (Reads.nil_ _ _) (by decide) _ rfl
  have hP := And.intro (Cd.made_len []) (And.intro (Cd.made_wf []) (Cd.made_ok []))
  generalize Cd.made [] = p at *
  unfold Cd.pv at hmade
  have HM := Lib.hid hmade
  have HP := Lib.hid hP
  clear hmade hP
  go_wp2_with fail
  refine HM.out.mono ?_; rintro e v6 ⟨rfl, k6⟩
  have OG := Lib.hid (OF.out.nob k6)
  have h9 := Lib.hid (h8.out.nob k6)
  have hset := Co.setProc_is OG.out.kc i (wfi (by have := HI.out; omega) (by have := HI.out; omega)) p HP.out.1 HP.out.2.1 false K1.xs (pset_bad (by show _ ∈ five i; simp [five]))
  have HS := Lib.hid hset
  clear hset k6 OF h8 HM
  go_wp2_with fail
  refine HS.out.mono ?_; rintro e v7 ⟨rfl, t⟩
  have OH := Lib.hid (OG.out.still t)
  have hA := Lib.hid (Ct.off OG.out.kc (Ct.of_to' OG.out.kc t) h9.out (by decide))
  have hset := Co.setFront_is OH.out.kc 0 false K1.xs (pset_bad (by show _ ∈ five i; simp [five]))
  have HS2 := Lib.hid hset
  clear hset t OG h9 HS
  go_wp2_with fail
  refine HS2.out.mono ?_; rintro e v8 ⟨rfl, t⟩
  have OI := Lib.hid (OH.out.still t)
  have hB := Lib.hid (Ct.off OH.out.kc (Ct.of_to' OH.out.kc t) hA.out (by decide))
  have hset := Co.freeFile_is OI.out.kc i (wfi (by have := HI.out; omega) (by have := HI.out; omega)) false K1.xs (pwrite_bad (by show _ ∈ five i; simp [five]))
  have HS3 := Lib.hid hset
  clear hset t OH hA HS2
  go_wp2_with fail
  refine HS3.out.mono ?_; rintro e v9 ⟨rfl, t⟩
  have OJ := Lib.hid (OI.out.still t)
  have hC := Lib.hid (Ct.off OI.out.kc (Ct.of_to' OI.out.kc t) hB.out (by decide))
  have hnew : Calls Tryz.prog 25 #[.pointer (some ⟨K.k, 0, none⟩), .int .i64 0] v9 fun e' w' => ∃ D, e' = .returned (.tuple #[.pointer (some ⟨D.p, 0, none⟩), .int .i64 0]) ∧ NewCm v9 w' K1.k D 0 257 [258] := by
    have := Co.cnew_is OJ.out.kc.k 0 (by rw [HK.out.2.1]; decide) 257 [258] HK.out.2.2 (by decide)
    rw [HK.out.1] at this ⊢
    exact this
  have HN := Lib.hid hnew
  clear hnew t OI hB HS3
  go_wp2_with fail
  refine HN.out.mono ?_; rintro e va ⟨D, rfl, hD⟩
  have OK := Lib.hid (Op2.of_new OJ.out hD (HLA.out D hD.env hD.name hD.brs))
  have hE := Lib.hid (hC.out.nob hD.keep)
  have HD := Lib.hid (show D.brs.length = 1 ∧ D.bad = [] from ⟨by rw [hD.brs]; rfl, hD.bad⟩)
  have hc := Co.proc_is OK.out.d.kc x (wfi (by have := HXX.out; omega) (by have := HXX.out; omega)) Cd.noP 2 [(1, x)] (by show pread _ _ K1.xs _ _ D.bad _ = _; rw [HF.out.1, HD.out.1, HD.out.2]; exact again1 HXX.out.1 HXX.out.2)
  have HC9 := Lib.hid hc
  clear hc hD OJ hC HN
  go_wp2_with fail
  refine HC9.out.mono ?_; rintro e vb ⟨rfl, t⟩
  have OL := Lib.hid (OK.out.swap.reads t).d
  have hF := Lib.hid (Ct.off OK.out.d.kc t hE.out (by decide))
  clear t OK hE HC9
  have hbd : ∀ W, Op0 w1 W K1 { C with bad := five i } srcG → Calls Tryz.prog 21 #[.pointer (some ⟨C.p, 0, none⟩)] W fun e w' => ∃ A cap, e = .returned (.slice A 5 cap) ∧ Keep Nob W w' := fun W O => (Co.bad_is O.kc.c).mono (fun e w' ⟨A, c, h1, _, h2⟩ => ⟨A, c, h1, h2⟩)
  have hvw : ∀ W, Op0 w1 W K1 { C with bad := five i } srcG → Calls Tryz.prog 10 #[.pointer (some ⟨C.p, 0, none⟩)] W fun e w' => ∃ A cap, e = .returned (.slice A 0 cap) ∧ To W K1 K1 w' := fun W O => (Co.view_is O.kc [] rfl).mono (fun e w' ⟨A, c, h1, _, h2⟩ => ⟨A, c, h1, h2⟩)
  have HBD := Lib.hid hbd
  have HVW := Lib.hid hvw
  clear hbd hvw
  go_wp2_with (first
    | (refine flatP.wpList_al rfl rfl ?_; intro xc hbx hkx hsx; clear hsx)
    | (refine flatP.wpList_st rfl rfl rfl rfl (cellsI (n := 16) (l := Cd.noP) rfl) (cellsI (n := 16) (l := Cd.noP) rfl) hbx ?_; intro yc hby hky hsy; clear hsy; have ca := ((hF.out.nob hkx).keep hky (by have := hF.out.lt; omega)).cell 0; simp only [List.getElem?_cons_zero] at ca))
  have OM := Lib.hid (OL.out.own hkx hbx (by decide) (by decide) hky)
  clear hbx hkx hby hky OL hF ca
  refine (HBD.out _ OM.out).mono ?_; rintro e vc ⟨A1, c1, rfl, kc⟩
  have ON := Lib.hid (OM.out.nob kc)
  clear kc OM
  go_wp2_with fail
  refine (HVW.out _ ON.out).mono ?_; rintro e vd ⟨A2, c2, rfl, t⟩
  have OO := Lib.hid (ON.out.still t)
  clear t ON
  go_wp2_with fail
  refine (awake_is _).mono ?_; rintro e ve ⟨rfl, ke⟩
  go_wp2
  go_ret
  exact ⟨rfl, (from_join2 (from_join K1_.out OO.out.keep) ke).done⟩
end Go.Proofs.YtifigjccokpcfaaGreat.Pn
namespace Go.Proofs.YtifigjccokpcfaaGreat
open Go.RowKit
theorem CommonsGone_walk (w : World) (a0 : Int) (_w0 : (Lit.int .i64 a0).wf = true) (a1 : Int) (_w1 : (Lit.int .i64 a1).wf = true) :
    Calls Tryz.prog 7 #[.int .i64 a0, .int .i64 a1] w fun e w' => e = .returned (.bool true) ∧ Below w.heap.size w w' := Pn.gone_in w a0 a1
end Go.Proofs.YtifigjccokpcfaaGreat
