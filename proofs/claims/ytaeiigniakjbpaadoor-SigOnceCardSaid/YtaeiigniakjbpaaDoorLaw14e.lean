/- The walk of SigOnce. -/
import Derived.Test.YtaeiigniakjbpaaDoorSigO
import Derived.BigRegion
import Derived.Deep.DeepCutAuto
import Derived.Deep.CutBlock
namespace Go.Proofs.YtaeiigniakjbpaaDoor
open Go.RowKit Sg
set_option linter.unusedVariables false
set_option linter.unusedSimpArgs false
theorem bu1p_at {ops : Array Oper} {rest : List Oper} {o : Oper} {a : Act} {Q : Exit → Act → World → Prop} {w : World} {Z : Ps} (hZ : Z = og 1) (hgd : o.guard = none) (ho : o.op = .build 25 #[(0, .const (.int .i64 1))])
    (h : wpList Tryd.prog ops Q rest (a.put o.dst (.agg (pc Z).toArray)) w) : wpList Tryd.prog ops Q (o :: rest) a w := by
  subst hZ
  exact wpList_bu1 hgd _ ho 1 rfl h
set_option maxHeartbeats 16000000 in
set_option maxRecDepth 100000 in
theorem SigOnce_walk (w : World) (hT : Tb w) (A0 : Option Addr) (n0 c0 : Nat) (x0 : Ty.den (.sl 8 (.int .i64))) (w0 : Holds w (.sl 8 (.int .i64)) x0 [.slice A0 n0 c0]) (a1 : Int) (w1 : (Lit.int .i64 a1).wf = true) :
    Calls Tryd.prog 7 #[.slice A0 n0 c0, .int .i64 a1] w fun e w' => e = .returned (.bool true) ∧ Below w.heap.size w w' := by
  have hr := holds_ints w0
  have hn := holds_len w0
  have hn0 : n0 ≤ 140737488351232 := by omega
  clear w0 hn
  obtain ⟨P0, hP0⟩ : ∃ P, P = og 1 := ⟨_, rfl⟩
  have L0 := Lib.hid (show P0.f.length = 8 by rw [hP0]; rfl)
  have E0 := Lib.hid hP0
  obtain ⟨M, hM⟩ : ∃ M, bits .and .i64 a1 510 = M := ⟨_, rfl⟩
  have hMok := Lib.hid (show ok8 M = true by rw [← hM]; exact and510 a1)
  have K := Keep.refl Nob w
  go_enter Tryd.func7, Tryd.ntmps7
  go_upto_region 2 with (first | (refine bu1p_at hP0 rfl rfl ?_) | (refine wpList_al rfl rfl ?_; intro va hpa ka hsa; clear hsa) | (refine wpList_st rfl (.tmp 5) _ rfl w.heap.size P0 noP rfl rfl L0.out rfl hpa ?_; intro vb hpb kb hsb; clear hsb))
  have kk : Keep Nob w vb := ka.trans kb (fun b hb e => by have h3 : b = w.heap.size := e; omega)
  replace K := K.nobt kk
  clear kk ka kb hpa hP0
  generalize hgg : w.heap.size = g5 at hpb
  have hg5 : w.heap.size ≤ g5 := by omega
  clear hgg
  go_wp2_with fail
  have HM := Lib.hid hM
  clear hM
  go_loopw [6] (fun s6 wx => ∃ (k : Nat) (P : Ps), 1 ≤ k ∧ k ≤ 9 ∧ s6 = .int .i64 k ∧ P = og k ∧ Blk wx g5 25 (pc P) ∧ Keep Nob w wx) (fun s6 _ => 9 - (intOf s6).toNat)
  case atStart => exact ⟨1, P0, by omega, by omega, rfl, E0.out, hpb, K⟩
  case round =>
    obtain ⟨k, P, hk1, hk9, rfl, hPe, hp5, K4⟩ := hrel
    clear hpb K
    have K := K4
    clear K4
    have LP := Lib.hid (show P.f.length = 8 by rw [hPe]; rfl)
    have HPE := Lib.hid hPe
    clear hPe
    by_cases hk : k < 9
    · obtain ⟨P', hP'⟩ : ∃ Q, Q = og (k + 1) := ⟨_, rfl⟩
      have HR := Lib.hid (fun w => handle_is P LP.out k 2 w P' 0 (by rw [HPE.out, hP']; exact og_handle hk1 (by omega)))
      unfold pv at HR
      have LP' := Lib.hid (show P'.f.length = 8 by rw [hP']; rfl)
      have HPE' := Lib.hid hP'
      clear hP' 
      go_wp2_with (first | (refine wpList_ld rfl (.tmp 5) rfl g5 P rfl LP.out hp5 ?_))
      refine (HR.out _).mono ?_; rintro e w1 ⟨rfl, k_⟩
      replace K := K.nobt k_
      replace hp5 := hp5.nob k_
      clear k_
      go_upto_region 6 with (first | (refine wpList_al rfl rfl ?_; intro va hpa ka hsa; clear hsa) | (refine wpList_st rfl (.tmp 7) _ rfl w1.heap.size P' noP rfl rfl LP'.out rfl hpa ?_; intro vb hpb kb hsb; clear hsb))
      have kk : Keep Nob w1 vb := ka.trans kb (fun b hb e => by have h3 : b = w1.heap.size := e; omega)
      replace K := K.nobt kk
      replace hp5 := hp5.nob kk
      clear kk ka kb hpa
      generalize w1.heap.size = g7 at *
      go_wp2_with (first | (refine wpList_ld rfl (.tmp 7) rfl g7 P' rfl LP'.out hpb ?_) | (refine wpList_st rfl (.tmp 5) _ rfl g5 P' P rfl rfl LP'.out LP.out hp5 ?_; intro vs hps ks hss; clear hss))
      go_round
      case rel => exact ⟨k + 1, P', by omega, by omega, by go_num, HPE'.out, hps, K.trans ks (fun b hb e => by have h3 : b = g5 := e; omega)⟩
      case measure => simp [intOf]; omega
    · obtain rfl : k = 9 := by omega
      obtain ⟨P1, hP1⟩ : ∃ Q, Q = qp 0 M := ⟨_, rfl⟩
      have HR := Lib.hid (fun w => mask_is P LP.out M w P1 0 0 (by rw [HPE.out, hP1]; exact qp_mask hMok.out))
      unfold pv at HR
      have L1 := Lib.hid (show P1.f.length = 8 by rw [hP1]; rfl)
      have E1 := Lib.hid hP1
      clear hP1
      have HM := HM.out
      go_wp2_with (first | (refine wpList_ld rfl (.tmp 5) rfl g5 P rfl LP.out hp5 ?_))
      refine (HR.out _).mono ?_; rintro e w1 ⟨rfl, k⟩
      replace K := K.nobt k
      replace hp5 := hp5.nob k
      clear k
      go_upto_region 11 with (refine wpList_st rfl (.tmp 5) _ rfl g5 P1 P rfl rfl L1.out LP.out hp5 ?_; intro vc hps ks hss; clear hss)
      replace K := K.trans ks (fun b hb e => by have h3 : b = g5 := e; omega)
    
      clear hp5 ks
      have hp5 := hps
      clear hps
      clear HM
      go_wp2_with fail
      go_loopw [12, 11] (fun s12 s11 wx => ∃ (k : Nat) (al : Int) (P : Ps), k ≤ 30 ∧ s12 = .int .i64 k ∧ s11 = .int .i64 al ∧ ok8 al = true ∧ P = qp al M ∧ Blk wx g5 25 (pc P) ∧ Keep Nob w wx) (fun s12 _ _ => 30 - (intOf s12).toNat)
      case atStart => exact ⟨0, 0, P1, Nat.zero_le _, rfl, rfl, rfl, E1.out, hp5, K⟩
      case round =>
        obtain ⟨i, al, Q, hi30, rfl, rfl, hok, hPe, hq5, K4⟩ := hrel
        clear hp5 K
        have HOK := Lib.hid hok
        have HQE := Lib.hid hPe
        have LQ := Lib.hid (show Q.f.length = 8 by rw [hPe]; rfl)
        have K := K4
        have hp5 := hq5
        clear hok hPe K4 hq5
        obtain ⟨bo, hbo⟩ : ∃ bo, bo = decide (i < n0 ∧ i < 30) := ⟨_, rfl⟩
        have Hbo := Lib.hid hbo
        clear hbo
        go_upto_region 13 with fail
        go_cut [54] from 47 to 54 (fun s54 wx => s54 = .bool bo ∧ wx = wr)
        case first =>
          by_cases h1 : i < n0
          · by_cases h2 : i < 30
            · have h3 : decide (i < n0 ∧ i < 30) = true := by simp [h1, h2]
              go_wp2_with fail
              go_meet
              exact ⟨by (try rw [Hbo.out, h3]); (first | rfl | exact congrArg Value.bool (decide_eq_true (by omega)) | exact congrArg Value.bool (decide_eq_false (by omega)) | skip), rfl⟩
            · have h3 : decide (i < n0 ∧ i < 30) = false := by simp [h2]
              go_wp2_with fail
              go_meet
              exact ⟨by (try rw [Hbo.out, h3]); (first | rfl | exact congrArg Value.bool (decide_eq_true (by omega)) | exact congrArg Value.bool (decide_eq_false (by omega)) | skip), rfl⟩
          · have h3 : decide (i < n0 ∧ i < 30) = false := by simp [h1]
            go_wp2_with fail
            go_meet
            exact ⟨by (try rw [Hbo.out, h3]); (first | rfl | exact congrArg Value.bool (decide_eq_true (by omega)) | exact congrArg Value.bool (decide_eq_false (by omega)) | skip), rfl⟩
        case rest =>
        obtain ⟨rfl, hw⟩ := hcut
        have hw := hw.symm
        subst hw
        cases bo with
        | false =>
          obtain ⟨P2, hP2⟩ : ∃ Q, Q = qp (rest8 al M) M := ⟨_, rfl⟩
          obtain ⟨P3, hP3⟩ : ∃ Q, Q = qp (rest8 al M) 0 := ⟨_, rfl⟩
          obtain ⟨P4, hP4⟩ : ∃ Q, Q = qp 0 0 := ⟨_, rfl⟩
          have HA := fun w hT => deliver_is Q LQ.out w hT P2 (fst8 al M) 0 (by rw [HQE.out, hP2]; exact once_first HOK.out)
          have HB := fun w => mask_is P2 (by rw [hP2]; rfl) 0 w P3 M 0 (by rw [hP2, hP3]; exact qp_open _)
          have HC := fun w hT => deliver_is P3 (by rw [hP3]; rfl) w hT P4 (snd8 al M) 0 (by rw [hP3, hP4]; exact once_second HOK.out)
          have HO := once_at (M := M) HOK.out
          unfold pv at HA HB HC
          have L2 := Lib.hid (show P2.f.length = 8 by rw [hP2]; rfl)
          have L3 := Lib.hid (show P3.f.length = 8 by rw [hP3]; rfl)
          have L4 := Lib.hid (show P4.f.length = 8 by rw [hP4]; rfl)
          have E4 := Lib.hid (show P4.pe = 0 by rw [hP4]; rfl)
          clear hP2 hP3 hP4
          generalize fst8 al M = F at *
          generalize snd8 al M = S at *
          generalize all8 al M = L at *
          have HA := Lib.hid HA
          have HB := Lib.hid HB
          have HC := Lib.hid HC
          have HO := Lib.hid HO
          go_wp2_with (first | (refine wpList_ld rfl (.tmp 5) rfl g5 Q rfl LQ.out hp5 ?_))
          refine (HA.out _ (hT.nob K)).mono ?_; rintro e w1 ⟨x, rfl, ⟨A5, c5, rfl, v5⟩, k⟩
          replace K := K.nobt k
          replace hp5 := hp5.nob k
          clear k
          have G5 : Gives w1 F (.slice A5 F.length c5) := ⟨A5, c5, rfl, v5⟩
          clear v5
          go_upto_region 19 with (refine wpList_st rfl (.tmp 5) _ rfl g5 P2 Q rfl rfl L2.out LQ.out hp5 ?_; intro vd hps ks hss; clear hss)
          replace K := K.trans ks (fun b hb e => by have h3 : b = g5 := e; omega)
        
          replace G5 := G5.far ks hp5
          clear hp5 ks
          have hp5 := hps
          clear hps
          go_wp2_with (first | (refine wpList_ld rfl (.tmp 5) rfl g5 P2 rfl L2.out hp5 ?_))
          refine (HB.out _).mono ?_; rintro e w2 ⟨rfl, k⟩
          replace K := K.nobt k
          replace hp5 := hp5.nob k
          replace G5 := G5.nob k
          clear k
          go_upto_region 20 with (refine wpList_st rfl (.tmp 5) _ rfl g5 P3 P2 rfl rfl L3.out L2.out hp5 ?_; intro ve hps ks hss; clear hss)
          replace K := K.trans ks (fun b hb e => by have h3 : b = g5 := e; omega)
        
          replace G5 := G5.far ks hp5
          clear hp5 ks
          have hp5 := hps
          clear hps
          go_wp2_with (first | (refine wpList_ld rfl (.tmp 5) rfl g5 P3 rfl L3.out hp5 ?_))
          refine (HC.out _ (hT.nob K)).mono ?_; rintro e w3 ⟨x, rfl, ⟨A6, c6, rfl, v6⟩, k⟩
          replace K := K.nobt k
          replace hp5 := hp5.nob k
          replace G5 := G5.nob k
          clear k
          have G6 : Gives w3 S (.slice A6 S.length c6) := ⟨A6, c6, rfl, v6⟩
          clear v6
          go_upto_region 21 with (refine wpList_st rfl (.tmp 5) _ rfl g5 P4 P3 rfl rfl L4.out L3.out hp5 ?_; intro vf hps ks hss; clear hss)
          replace K := K.trans ks (fun b hb e => by have h3 : b = g5 := e; omega)
        
          replace G5 := G5.far ks hp5
          replace G6 := G6.far ks hp5
          clear hp5 ks
          have hp5 := hps
          clear hps
          have r5 := G5.reads.1
          have r6 := G6.reads.1
          have cc := (cells hp5).2.1
          rw [E4.out] at cc
          clear G5 G6 HA HB HC hp5
          go_wp2_with fail
          clear cc
          go_loopw [21, 20] (fun s21 s20 wx => ∃ (j : Nat), j ≤ L.length ∧ s21 = .int .i64 j ∧ s20 = .int .i64 ((L.take j).foldl wi 0) ∧ wx = vf) (fun s21 _ _ => L.length - (intOf s21).toNat)
          case atStart => exact ⟨0, Nat.zero_le _, rfl, rfl, rfl⟩
          case round =>
            obtain ⟨j, hjl, rfl, rfl, rfl⟩ := hrel
            have hsum : IntKind.i64.wrap ((F.length : Int) + (S.length : Int)) = (L.length : Int) := by
              have h1 := HO.out.fl
              have h2 := HO.out.sl
              have h3 := HO.out.ll
              rw [show ((F.length : Int) + (S.length : Int)) = (L.length : Int) from by omega]
              exact wrap_sm (by omega) (by omega)
            have HSUM := Lib.hid hsum
            have HJ := Lib.hid (show j ≤ 16 by have := HO.out.fl; have := HO.out.sl; have := HO.out.ll; omega)
            by_cases hj : j < L.length
            · obtain ⟨e, he⟩ : ∃ e, L.getD j 0 = e := ⟨_, rfl⟩
              obtain ⟨T, hTT⟩ : ∃ T, (L.take j).foldl wi 0 = T := ⟨_, rfl⟩
              obtain ⟨e0, e1⟩ := HO.out.in8 j hj
              have hnew := HO.out.new j hj
              have hmask := HO.out.mask j hj
              have hst := fold_step L j hj
              rw [he] at e0 e1 hnew hmask hst
              rw [hTT] at hnew hst
              rw [hTT]
              have HE := Lib.hid he
              have HNEW := Lib.hid hnew
              have HMASK := Lib.hid hmask
              have HST := Lib.hid hst
              have hlt : (j : Int) < (L.length : Int) := by omega
              clear he hTT hnew hmask hst
              go_upto_if 127 with fail
              clear hsum
              go_cut [22, 23] from 127 to 165 (fun s22 s23 wx => s22 = .int .i64 e ∧ s23 = .bool true ∧ wx = wr)
              case first =>
                by_cases hjf : j < F.length
                · obtain ⟨b5, o5, rfl⟩ := Mk.reads_int_lit r5 (by omega)
                  have hcell := Mk.reads_int r5 hjf
                  have hFe : F.getD j 0 = e := by rw [← HO.out.lf j hjf]; exact HE.out
                  rw [hFe] at hcell
                  by_cases hj0 : j = 0
                  · have h0 : ((j : Int) == 0) = true := by rw [hj0]; rfl
                    clear hj0
                    go_wp2_with fail
                    go_meet
                    exact ⟨rfl, rfl, rfl⟩
                  · have h0 : ((j : Int) == 0) = false := by rw [beq_eq_false_iff_ne]; omega
                    obtain ⟨i1, hi1⟩ : ∃ i1, j = i1 + 1 := ⟨j - 1, by omega⟩
                    have hcell1 := Mk.reads_int r5 (k := i1) (by omega)
                    have hlt1 := HO.out.fs i1 j hi1 hjf
                    rw [hFe] at hlt1
                    have HW1 := Lib.hid (show wrap64 (i1 : Int) = (i1 : Int) from wrap64_sm (by omega) (by have := HO.out.fl; omega))
                    have hb1 : (i1 : Int) < (F.length : Int) := by omega
                    have hb2 : (0 : Int) ≤ (i1 : Int) := by omega
                    have hjm : (j : Int) - 1 = (i1 : Int) := by omega
                    generalize F.getD i1 0 = e1 at *
                    clear hi1 hFe hj0
                    have hw1 := HW1.out
                    go_wp2_with fail
                    go_meet
                    exact ⟨rfl, rfl, rfl⟩
                · obtain ⟨j2, hj2⟩ : ∃ j2, j = F.length + j2 := ⟨j - F.length, by omega⟩
                  have hj2s : j2 < S.length := by have := HO.out.ll; omega
                  obtain ⟨b6, o6, rfl⟩ := Mk.reads_int_lit r6 (by omega)
                  have hcell := Mk.reads_int r6 hj2s
                  have hSe : S.getD j2 0 = e := by rw [← HO.out.ls j2 j hj2 hj2s]; exact HE.out
                  rw [hSe] at hcell
                  have hsub : (j : Int) - (F.length : Int) = (j2 : Int) := by omega
                  have HWS := Lib.hid (show wrap64 (j2 : Int) = (j2 : Int) from wrap64_sm (by omega) (by have := HO.out.sl; omega))
                  have hc2 : (j2 : Int) < (S.length : Int) := by omega
                  by_cases hj0 : j2 = 0
                  · have h0 : ((j : Int) == (F.length : Int)) = true := by rw [hj2, hj0]; simp
                    clear hj0 hj2
                    have hws := HWS.out
                    go_wp2_with fail
                    go_meet
                    exact ⟨rfl, rfl, rfl⟩
                  · have h0 : ((j : Int) == (F.length : Int)) = false := by rw [beq_eq_false_iff_ne]; omega
                    obtain ⟨i1, hi1⟩ : ∃ i1, j2 = i1 + 1 := ⟨j2 - 1, by omega⟩
                    have hcell1 := Mk.reads_int r6 (k := i1) (by omega)
                    have hlt1 := HO.out.ss i1 j2 hi1 hj2s
                    rw [hSe] at hlt1
                    have HW1 := Lib.hid (show wrap64 (i1 : Int) = (i1 : Int) from wrap64_sm (by omega) (by have := HO.out.sl; omega))
                    have hb1 : (i1 : Int) < (S.length : Int) := by omega
                    have hb2 : (0 : Int) ≤ (i1 : Int) := by omega
                    have hjm : (j2 : Int) - 1 = (i1 : Int) := by omega
                    generalize S.getD i1 0 = e1 at *
                    clear hi1 hSe hj0 hj2
                    have hw1 := HW1.out
                    have hws := HWS.out
                    go_wp2_with fail
                    go_meet
                    exact ⟨rfl, rfl, rfl⟩
              case rest =>
              obtain ⟨rfl, rfl, hw⟩ := hcut
              have hw := hw.symm
              subst hw
              have hnew : (T / 2 ^ e.toNat % 2 == 1) = false := HNEW.out
              have hwp := wrap_pw (n := e) (by omega) (by omega)
              obtain ⟨T2, hT2⟩ : ∃ T2, (L.take (j + 1)).foldl wi 0 = T2 := ⟨_, rfl⟩
              have hv : bits .or .i64 T (pw e) = T2 := by rw [← hT2]; exact HST.out.symm
              have HT2 := Lib.hid hT2
              clear hT2
              by_cases hjf : j < F.length
              · have hm : (M / 2 ^ e.toNat % 2 == 1) = false := by have := HMASK.out; rw [decide_eq_false (by omega)] at this; exact this
                have hge : ¬ ((F.length : Int) ≤ (j : Int)) := by omega
                have hj16 := HJ.out
                go_wp2_with fail
                go_round
                case rel => exact ⟨j + 1, by omega, by go_num, by rw [HT2.out], trivial⟩
                case measure => simp [intOf]; omega
              · have hm : (M / 2 ^ e.toNat % 2 == 1) = true := by have := HMASK.out; rw [decide_eq_true (by omega)] at this; exact this
                have hge : (F.length : Int) ≤ (j : Int) := by omega
                have hj16 := HJ.out
                go_wp2_with fail
                go_round
                case rel => exact ⟨j + 1, by omega, by go_num, by rw [HT2.out], trivial⟩
                case measure => simp [intOf]; omega
            · have e : (L.take j).foldl wi 0 = al := by rw [List.take_of_length_le (by omega)]; exact HO.out.sum
              rw [e]
              have hge : ¬ ((j : Int) < (L.length : Int)) := by omega
              clear e
              go_wp2_with fail
              refine (awake_is _ (hT.nob K)).mono ?_; rintro e wz ⟨rfl, kz⟩
              have Kz := K.nobt kz
              go_wp2
              go_ret
              exact ⟨rfl, Kz.below (Nat.le_refl _) (fun _ _ f => f)⟩
        | true =>
          obtain ⟨hin, hi2⟩ : i < n0 ∧ i < 30 := of_decide_eq_true Hbo.out.symm
          have hr4 := hr.nob K
          obtain ⟨b0, off0, rfl⟩ := Mk.reads_int_lit hr4 (by omega)
          have hcell := Mk.reads_int hr4 hin
          clear hr4
          generalize List.getD (α := Int) x0 i 0 = e at *
          obtain ⟨n, hn2⟩ : ∃ n, n = e % 8 + 1 := ⟨_, rfl⟩
          have n0' : 1 ≤ n := by omega
          have n1' : n ≤ 8 := by omega
          have he : bits .and .i64 e 7 = n - 1 := by rw [low3]; omega
          have hw : IntKind.i64.wrap (n - 1 + 1) = n := by rw [show n - 1 + 1 = n from by omega]; exact wrap_sm (by omega) (by omega)
          obtain ⟨al', hal⟩ : ∃ y, y = wi al n := ⟨_, rfl⟩
          obtain ⟨P', hP'⟩ : ∃ Q, Q = qp al' M := ⟨_, rfl⟩
          have hok' : ok8 al' = true := by rw [hal]; exact ok8_wi HOK.out n0' n1'
          have hP2' := hP'
          rw [hal] at hP2'
          have HR := Lib.hid (fun w => raise_is Q LQ.out n w P' true (by rw [HQE.out, hP2']; exact qp_raise al M n0' n1'))
          unfold pv at HR
          have LP' := Lib.hid (show P'.f.length = 8 by rw [hP']; rfl)
          have HOK' := Lib.hid hok'
          have HPE' := Lib.hid hP'
          have hwp := Lib.hid (wrap_pw (n := n) (by omega) (by omega))
          have hv := Lib.hid (show bits .or .i64 al (pw n) = al' from hal.symm)
          clear hP2' hP' hok' hal hn2
          go_wp2_with (first | (refine wpList_ld rfl (.tmp 5) rfl g5 Q rfl LQ.out hp5 ?_))
          refine (HR.out _).mono ?_; rintro e w1 ⟨rfl, k⟩
          replace K := K.nobt k
          replace hp5 := hp5.nob k
          clear k
          clear hcell he hw
          go_upto_region 17 with (refine wpList_st rfl (.tmp 5) _ rfl g5 P' Q rfl rfl LP'.out LQ.out hp5 ?_; intro ve hps ks hss; clear hss)
          replace K := K.trans ks (fun b hb e => by have h3 : b = g5 := e; omega)
        
          clear hp5 ks
          have hp5 := hps
          clear hps
          have hwp := hwp.out
          have hv := hv.out
          go_wp2_with fail
          go_round
          case rel => exact ⟨i + 1, al', P', by omega, by go_num, rfl, HOK'.out, HPE'.out, hp5, K⟩
          case measure => simp [intOf]; omega
end Go.Proofs.YtaeiigniakjbpaaDoor
