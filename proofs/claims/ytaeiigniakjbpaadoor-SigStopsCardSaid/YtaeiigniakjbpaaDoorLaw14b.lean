/- The walk of SigStops. -/
import Derived.Test.YtaeiigniakjbpaaDoorSigS
import Derived.BigRegion
import Derived.Deep.DeepCutAuto
import Derived.Deep.CutBlock
namespace Go.Proofs.YtaeiigniakjbpaaDoor
open Go.RowKit Sg
set_option linter.unusedVariables false
set_option linter.unusedSimpArgs false
set_option maxHeartbeats 8000000 in
set_option maxRecDepth 100000 in
theorem SigStops_walk (w : World) (hT : Tb w) (A0 : Option Addr) (n0 c0 : Nat) (x0 : Ty.den (.sl 8 (.int .i64))) (w0 : Holds w (.sl 8 (.int .i64)) x0 [.slice A0 n0 c0]) :
    Calls Tryd.prog 4 #[.slice A0 n0 c0] w fun e w' => e = .returned (.bool true) ∧ Below w.heap.size w w' := by
  have hr := holds_ints w0
  have hn := holds_len w0
  have hn0 : n0 ≤ 140737488351232 := by omega
  clear w0 hn
  obtain ⟨P0, hP0⟩ : ∃ P, P = sp 1 0 := ⟨_, rfl⟩
  obtain ⟨P1, hP1⟩ : ∃ P, P = sp 1 16384 := ⟨_, rfl⟩
  obtain ⟨P2, hP2⟩ : ∃ P, P = sp 3 0 := ⟨_, rfl⟩
  have H0 := Lib.hid (fun w => raise_is P0 (by rw [hP0]; rfl) 14 w P1 true (by rw [hP0, hP1]; exact sp_first))
  have H1 := Lib.hid (fun w hT => deliver_is P1 (by rw [hP1]; rfl) w hT P2 [] 0 (by rw [hP1, hP2]; exact sp_stops))
  unfold pv at H0 H1
  have L0 := Lib.hid (show P0.f.length = 8 by rw [hP0]; rfl)
  have L1 := Lib.hid (show P1.f.length = 8 by rw [hP1]; rfl)
  have L2 := Lib.hid (show P2.f.length = 8 by rw [hP2]; rfl)
  have E2 := Lib.hid hP2
  have E0 := Lib.hid hP0
  have hs2 : P2.s = 3 := by rw [hP2]; rfl
  clear hP1 hP2
  have K := Keep.refl Nob w
  go_enter Tryd.func4, Tryd.ntmps4
  go_upto_region 2 with (first | (refine bu2_at hP0 rfl rfl ?_) | (refine wpList_al rfl rfl ?_; intro va hpa ka hsa; clear hsa) | (refine wpList_st rfl (.tmp 3) _ rfl w.heap.size P0 noP rfl rfl L0.out rfl hpa ?_; intro vb hpb kb hsb; clear hsb))
  have kk : Keep Nob w vb := ka.trans kb (fun b hb e => by have h3 : b = w.heap.size := e; omega)
  have hg3 : w.heap.size ≤ w.heap.size := Nat.le_refl _
  replace K := K.nobt kk
  clear kk ka kb hpa hP0
  generalize hgg : w.heap.size = g3 at hpb
  have hg3 : w.heap.size ≤ g3 := by omega
  clear hgg
  go_wp2_with (refine wpList_ld rfl (.tmp 3) rfl g3 P0 rfl L0.out hpb ?_)
  refine (H0.out _).mono ?_; rintro e w1 ⟨rfl, k⟩
  replace K := K.nobt k
  replace hpb := hpb.nob k
  clear k H0
  go_upto_region 3 with (refine wpList_st rfl (.tmp 3) _ rfl g3 P1 P0 rfl rfl L1.out L0.out hpb ?_; intro vc hpc kc hsc; clear hsc)
  replace K := K.trans kc (fun b hb e => by have h3 : b = g3 := e; omega)
  clear hpb kc
  go_wp2_with (refine wpList_ld rfl (.tmp 3) rfl g3 P1 rfl L1.out hpc ?_)
  refine (H1.out _ (hT.nob K)).mono ?_; rintro e w2 ⟨x, rfl, ⟨A, c, rfl, -⟩, k⟩
  replace K := K.nobt k
  replace hpc := hpc.nob k
  clear k H1
  go_upto_region 4 with (refine wpList_st rfl (.tmp 3) _ rfl g3 P2 P1 rfl rfl L2.out L1.out hpc ?_; intro vd hpd kd hsd; clear hsd)
  replace K := K.trans kd (fun b hb e => by have h3 : b = g3 := e; omega)
  clear hpc kd
  have hc := (cells hpd).1
  rw [hs2] at hc
  go_wp2_with fail
  clear hc hs2
  go_loopw [7, 6] (fun s7 s6 wx => ∃ (k : Nat) (al : Int) (P : Ps), k ≤ 20 ∧ s7 = .int .i64 k ∧ s6 = .int .i64 al ∧ ok8 al = true ∧ P = sp 3 al ∧ Blk wx g3 25 (pc P) ∧ Keep Nob w wx) (fun s7 _ _ => 20 - (intOf s7).toNat)
  case atStart => exact ⟨0, 0, P2, Nat.zero_le _, rfl, rfl, rfl, E2.out, hpd, K⟩
  case round =>
    obtain ⟨i, al, P, hi20, rfl, rfl, hok, hPe, hpe, K4⟩ := hrel
    clear hpd K
    have HOK := Lib.hid hok
    have HPE := Lib.hid hPe
    have LP := Lib.hid (show P.f.length = 8 by rw [hPe]; rfl)
    have hps : P.s = 3 := by rw [hPe]; rfl
    have hpp : P.pe = al := by rw [hPe]; rfl
    have HPS := Lib.hid hps
    have HPP := Lib.hid hpp
    clear hok hPe hps hpp
    obtain ⟨bo, hbo⟩ : ∃ bo, bo = decide (i < n0 ∧ i < 20) := ⟨_, rfl⟩
    have Hbo := Lib.hid hbo
    clear hbo
    go_upto_region 8 with fail
    go_cut [53] from 46 to 53 (fun s53 wx => s53 = .bool bo ∧ wx = wr)
    case first =>
      by_cases h1 : i < n0
      · by_cases h2 : i < 20
        · have h3 : decide (i < n0 ∧ i < 20) = true := by simp [h1, h2]
          go_wp2_with fail
          go_meet
          exact ⟨by (try rw [Hbo.out, h3]); (first | rfl | exact congrArg Value.bool (decide_eq_true (by omega)) | exact congrArg Value.bool (decide_eq_false (by omega)) | skip), rfl⟩
        · have h3 : decide (i < n0 ∧ i < 20) = false := by simp [h2]
          go_wp2_with fail
          go_meet
          exact ⟨by (try rw [Hbo.out, h3]); (first | rfl | exact congrArg Value.bool (decide_eq_true (by omega)) | exact congrArg Value.bool (decide_eq_false (by omega)) | skip), rfl⟩
      · have h3 : decide (i < n0 ∧ i < 20) = false := by simp [h1]
        go_wp2_with fail
        go_meet
        exact ⟨by (try rw [Hbo.out, h3]); (first | rfl | exact congrArg Value.bool (decide_eq_true (by omega)) | exact congrArg Value.bool (decide_eq_false (by omega)) | skip), rfl⟩
    case rest =>
    obtain ⟨rfl, hw⟩ := hcut
    have hw := hw.symm
    subst hw
    cases bo with
    | false =>
      have K := K4
      have hp3 := hpe
      clear K4 hpe
      obtain ⟨Pa, hPa⟩ : ∃ Q, Q = sp 3 (wo (wi al 14) 15) := ⟨_, rfl⟩
      obtain ⟨Pb, hPb⟩ : ∃ Q, Q = sp 1 (wo (wi (wo (wi al 14) 15) 15) 14) := ⟨_, rfl⟩
      obtain ⟨Pc, hPc⟩ : ∃ Q, Q = sp 1 16384 := ⟨_, rfl⟩
      obtain ⟨kf, hkf⟩ := ok8_of HOK.out
      have HA := Lib.hid (fun w => raise_is P LP.out 14 w Pa true (by rw [HPE.out, hPa]; exact sp_stop al))
      have HB := Lib.hid (fun w => raise_is Pa (by rw [hPa]; rfl) 15 w Pb true (by rw [hPa, hPb]; exact sp_go _))
      have HC := Lib.hid (fun w hT => deliver_is Pb (by rw [hPb]; rfl) w hT P0 (tl8 al) 0 (by rw [hPb, E0.out, hkf]; exact sp_tells kf))
      have HD := Lib.hid (fun w => raise_is P0 L0.out 14 w Pc true (by rw [E0.out, hPc]; exact sp_first))
      unfold pv at HA HB HC HD
      have LA := Lib.hid (show Pa.f.length = 8 by rw [hPa]; rfl)
      have LB := Lib.hid (show Pb.f.length = 8 by rw [hPb]; rfl)
      have LC := Lib.hid (show Pc.f.length = 8 by rw [hPc]; rfl)
      have sB := Lib.hid (show Pb.s = 1 by rw [hPb]; rfl)
      have bB := Lib.hid (show (Pb.pe / 2 ^ 14 % 2 == 1) = false by
        have : bt Pb.pe 14 = false := by
          rw [hPb]
          show bt (wo _ 14) 14 = false
          rw [bt_wo _ (by omega) (by omega) (by omega) (by omega)]
          simp
        exact this)
      have s0 := Lib.hid (show P0.s = 1 by rw [E0.out]; rfl)
      have p0 := Lib.hid (show P0.pe = 0 by rw [E0.out]; rfl)
      have pC := Lib.hid (show Pc.pe = 16384 by rw [hPc]; rfl)
      have hfold := Lib.hid (show (tl8 al).foldl wi 0 = al by rw [hkf]; exact tl8_back kf)
      clear hPa hPb hPc hkf
      go_wp2_with (first | (refine wpList_ld rfl (.tmp 3) rfl g3 P rfl LP.out hp3 ?_))
      refine (HA.out _).mono ?_; rintro e w1 ⟨rfl, k⟩
      replace K := K.nobt k
      replace hp3 := hp3.nob k
      clear k
      go_upto_region 17 with (first | (refine wpList_al rfl rfl ?_; intro w1a hpa ka hsa; clear hsa) | (refine wpList_st rfl (.tmp 12) _ rfl w1.heap.size Pa noP rfl rfl LA.out rfl hpa ?_; intro w1b hpb kb hsb; clear hsb))
      have kk : Keep Nob w1 w1b := ka.trans kb (fun b hb e => by have h3 : b = w1.heap.size := e; omega)
      have hg12 : w.heap.size ≤ w1.heap.size := K.size
      replace K := K.nobt kk
      replace hp3 := hp3.nob kk
      have hp12 := hpb
      clear kk ka kb hpa hpb
      generalize w1.heap.size = g12 at *
      go_wp2_with (first | (refine wpList_ld rfl (.tmp 12) rfl g12 Pa rfl LA.out hp12 ?_))
      refine (HB.out _).mono ?_; rintro e w2 ⟨rfl, k⟩
      replace K := K.nobt k
      replace hp3 := hp3.nob k
      replace hp12 := hp12.nob k
      clear k
      go_upto_region 18 with (refine wpList_st rfl (.tmp 12) _ rfl g12 Pb Pa rfl rfl LB.out LA.out hp12 ?_; intro ve hpe ke hse; clear hse)
      replace K := K.trans ke (fun b hb e => by have h3 : b = g12 := e; omega)
      clear hp12 ke hp3
      have c0 := (cells hpe).1
      have c4 := (cells hpe).2.1
      rw [sB.out] at c0
      have hbB := bB.out
      generalize Pb.pe = peB at *
      go_wp2_with (first | (refine wpList_ld rfl (.tmp 12) rfl g12 Pb rfl LB.out hpe ?_))
      refine (HC.out _ (hT.nob K)).mono ?_; rintro e w3 ⟨x, rfl, ⟨A5, c5, rfl, v5⟩, k⟩
      replace K := K.nobt k
      replace hpe := hpe.nob k
      clear k
      clear c0 c4 hbB
      have r5 := v5.reads
      rw [Nat.mul_one] at r5
      clear v5
      go_upto_region 21 with (first | (refine wpList_al rfl rfl ?_; intro w3a hpa ka hsa; clear hsa) | (refine wpList_st rfl (.tmp 15) _ rfl w3.heap.size P0 noP rfl rfl L0.out rfl hpa ?_; intro w3b hpb kb hsb; clear hsb))
      have kk : Keep Nob w3 w3b := ka.trans kb (fun b hb e => by have h3 : b = w3.heap.size := e; omega)
      have hg15 : w.heap.size ≤ w3.heap.size := K.size
      replace K := K.nobt kk
      replace hpe := hpe.nob kk
      replace r5 := r5.nob kk
      have hp15 := hpb
      clear kk ka kb hpa hpb
      generalize w3.heap.size = g15 at *
      clear hpe
      have hlen := tl8_len al
      obtain ⟨l, hl⟩ : ∃ l, tl8 al = l := ⟨_, rfl⟩
      have hin : ∀ j, j < l.length → 1 ≤ l.getD j 0 ∧ l.getD j 0 ≤ 8 := fun j hj => by
        rw [← hl] at hj ⊢
        exact tl8_in (by rw [List.getD_eq_getElem?_getD, List.getElem?_eq_getElem hj]; exact List.getElem_mem hj)
      rw [hl] at r5 hfold hlen
      have HIN := Lib.hid hin
      rw [hl]
      clear hl hin HC
      go_wp2_with fail
      go_loopw [19, 18] (fun s19 s18 wx => ∃ (j : Nat), j ≤ l.length ∧ s19 = .int .i64 j ∧ s18 = .int .i64 ((l.take j).foldl wi 0) ∧ wx = w3b) (fun s19 _ _ => l.length - (intOf s19).toNat)
      case atStart => exact ⟨0, Nat.zero_le _, rfl, rfl, rfl⟩
      case round =>
        obtain ⟨j, hj, rfl, rfl, rfl⟩ := hrel
        by_cases hjl : j < l.length
        · obtain ⟨b5, off5, rfl⟩ := Mk.reads_int_lit r5 (by omega)
          have hcell := Mk.reads_int r5 hjl
          obtain ⟨e0, e1⟩ := HIN.out j hjl
          have hst := fold_step l j hjl
          generalize l.getD j 0 = e at *
          generalize (l.take j).foldl wi 0 = F at *
          generalize hF2 : (l.take (j + 1)).foldl wi 0 = F2 at *
          have hw := wrap_pw (n := e) (by omega) (by omega)
          have hv : bits .or .i64 F (pw e) = F2 := hst.symm
          have HF2 := Lib.hid hF2
          clear hst hF2
          go_wp2_with fail
          go_round
          case rel => exact ⟨j + 1, by omega, by go_num, by rw [HF2.out], trivial⟩
          case measure => simp [intOf]; omega
        · have e : (l.take j).foldl wi 0 = al := by rw [List.take_of_length_le (by omega)]; exact hfold.out
          rw [e]
          clear e
          go_wp2_with (first | (refine wpList_ld rfl (.tmp 15) rfl g15 P0 rfl L0.out hp15 ?_))
          refine (HD.out _).mono ?_; rintro e w1 ⟨rfl, k⟩
          replace K := K.nobt k
          replace hp15 := hp15.nob k
          clear k
          go_upto_region 27 with (first | (refine wpList_al rfl rfl ?_; intro w1a hpa ka hsa; clear hsa) | (refine wpList_st rfl (.tmp 20) _ rfl w1.heap.size Pc noP rfl rfl LC.out rfl hpa ?_; intro w1b hpb kb hsb; clear hsb))
          have kk : Keep Nob w1 w1b := ka.trans kb (fun b hb e => by have h3 : b = w1.heap.size := e; omega)
          have hg20 : w.heap.size ≤ w1.heap.size := K.size
          replace K := K.nobt kk
          replace hp15 := hp15.nob kk
          have hp20 := hpb
          clear kk ka kb hpa hpb
          generalize w1.heap.size = g20 at *
          have c1 := (cells hp15).1
          have c2 := (cells hp15).2.1
          have c3 := (cells hp20).2.1
          rw [s0.out] at c1
          rw [p0.out] at c2
          rw [pC.out] at c3
          go_wp2_with fail
          refine (awake_is _ (hT.nob K)).mono ?_; rintro e wz ⟨rfl, kz⟩
          have Kz := K.nobt kz
          go_wp2
          go_ret
          exact ⟨rfl, Kz.below (Nat.le_refl _) (fun _ _ f => f)⟩
    | true =>
      obtain ⟨hin, hi2⟩ : i < n0 ∧ i < 20 := of_decide_eq_true Hbo.out.symm
      have hr4 := hr.nob K4
      obtain ⟨b0, off0, rfl⟩ := Mk.reads_int_lit hr4 (by omega)
      have hcell := Mk.reads_int hr4 hin
      clear hr4
      generalize List.getD (α := Int) x0 i 0 = e at *
      obtain ⟨n, hn2⟩ : ∃ n, n = e % 8 + 1 := ⟨_, rfl⟩
      have n0' : 1 ≤ n := by omega
      have n1' : n ≤ 8 := by omega
      have he : bits .and .i64 e 7 = n - 1 := by rw [low3]; omega
      have hw : IntKind.i64.wrap (n - 1 + 1) = n := by rw [show n - 1 + 1 = n from by omega]; exact wrap_sm (by omega) (by omega)
      obtain ⟨al', hal⟩ : ∃ y, y = wi al n := ⟨_, rfl⟩
      obtain ⟨P', hP'⟩ : ∃ Q, Q = sp 3 al' := ⟨_, rfl⟩
      have hok' : ok8 al' = true := by rw [hal]; exact ok8_wi HOK.out n0' n1'
      have hP2' := hP'
      rw [hal] at hP2'
      have HR := Lib.hid (fun w => raise_is P LP.out n w P' true (by rw [HPE.out, hP2']; exact sp_raise al n0' n1'))
      have HE := Lib.hid (fun w hT => deliver_is P' (by rw [hP']; rfl) w hT P' [] 0 (by rw [hP']; exact sp_still al'))
      have HW := Lib.hid (fun w hT => wakes_is P' (by rw [hP']; rfl) w hT false (by rw [hP']; exact sp_sleeps al'))
      have heq := Lib.hid (fun W => ne_pv P' P' (by rw [hP']; rfl) (by rw [hP']; rfl) W)
      unfold pv at HR HE HW heq
      have LP' := Lib.hid (show P'.f.length = 8 by rw [hP']; rfl)
      have HOK' := Lib.hid hok'
      have HPE' := Lib.hid hP'
      have hwp := Lib.hid (wrap_pw (n := n) (by omega) (by omega))
      have hv := Lib.hid (show bits .or .i64 al (pw n) = al' from hal.symm)
      have K := K4
      have hp3 := hpe
      clear hP2' hP' hok' hal hn2 K4 hpe
      go_wp2_with (first | (refine wpList_ld rfl (.tmp 3) rfl g3 P rfl LP.out hp3 ?_))
      refine (HR.out _).mono ?_; rintro e w1 ⟨rfl, k⟩
      replace K := K.nobt k
      replace hp3 := hp3.nob k
      clear k
      clear hcell he hw
      go_upto_region 12 with (refine wpList_st rfl (.tmp 3) _ rfl g3 P' P rfl rfl LP'.out LP.out hp3 ?_; intro ve hpe ke hse; clear hse)
      replace K := K.trans ke (fun b hb e => by have h3 : b = g3 := e; omega)
      clear ke hp3
      have hwp := hwp.out
      have hv := hv.out
      go_wp2_with (first | (refine wpList_ld rfl (.tmp 3) rfl g3 P' rfl LP'.out hpe ?_))
      refine (HE.out _ (hT.nob K)).mono ?_; rintro e w2 ⟨x, rfl, ⟨A5, c5, rfl, -⟩, k⟩
      replace K := K.nobt k
      replace hpe := hpe.nob k
      clear k
      clear hwp hv
      go_upto_region 14 with (first | (refine wpList_al rfl rfl ?_; intro w2a hpa ka hsa; clear hsa) | (refine wpList_st rfl (.tmp 9) _ rfl w2.heap.size P' noP rfl rfl LP'.out rfl hpa ?_; intro w2b hpb kb hsb; clear hsb))
      have kk : Keep Nob w2 w2b := ka.trans kb (fun b hb e => by have h3 : b = w2.heap.size := e; omega)
      have hg9 : w.heap.size ≤ w2.heap.size := K.size
      replace K := K.nobt kk
      replace hpe := hpe.nob kk
      have hp9 := hpb
      clear kk ka kb hpa hpb
      generalize w2.heap.size = g9 at *
      have heq := heq.out
      simp only [decide_true, Bool.not_true] at heq
      go_wp2_with (first | (refine wpList_ld rfl (.tmp 9) rfl g9 P' rfl LP'.out hp9 ?_) | (refine wpList_ld rfl (.tmp 3) rfl g3 P' rfl LP'.out hpe ?_) | (refine wpList_ldw (by rfl) (.tmp 3) rfl g3 P' rfl LP'.out hpe ?_))
      refine (HW.out _ (hT.nob K)).mono ?_; rintro e w3 ⟨rfl, k⟩
      replace K := K.nobt k
      replace hpe := hpe.nob k
      replace hp9 := hp9.nob k
      clear k
      clear heq
      go_wp2_with fail
      go_round
      case rel => exact ⟨i + 1, al', P', by omega, by go_num, rfl, HOK'.out, HPE'.out, hpe, K⟩
      case measure => simp [intOf]; omega
end Go.Proofs.YtaeiigniakjbpaaDoor
