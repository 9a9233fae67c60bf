/- The walk of SigPlays. -/
import Derived.Test.YtaeiigniakjbpaaDoorSigP
import Derived.BigRegion
import Derived.Deep.DeepCutAuto
import Derived.Deep.CutBlock
import Derived.Deep.RegionHeld3
namespace Go.Proofs.YtaeiigniakjbpaaDoor
open Go.RowKit Sg
set_option linter.unusedVariables false
set_option linter.unusedSimpArgs false
set_option maxHeartbeats 16000000 in
set_option maxRecDepth 100000 in
theorem SigPlays_in (w : World) (hT : Tb w) (P0 : Ps) (hl0 : P0.f.length = 8) (A1 : Option Addr) (n1 c1 : Nat) (x1 : List Int) (hr : Reads w A1 n1 (ints x1)) (hn1 : n1 ≤ 140737488351232) (A2 : Option Addr) (n2 c2 : Nat) (x2 : Ty.den (.sl 24 OpTy14)) (w2 : Holds w (.sl 24 OpTy14) x2 [.slice A2 n2 c2]) :
    Calls Tryd.prog 5 #[pv P0, .slice A1 n1 c1, .slice A2 n2 c2] w fun e w' => e = .returned (.bool true) ∧ Below w.heap.size w w' := by
  unfold pv
  have W2 := Lib.hid w2
  have HM := Lib.hid (fun w (hr : Reads w A1 n1 (ints x1)) => made_is A1 n1 c1 x1 w hr (by omega) _ rfl)
  have hml := made_flen x1
  generalize ofL (Mk.made x1) = M at *
  have HML := Lib.hid hml
  have HL0 := Lib.hid hl0
  have HR := Lib.hid hr
  unfold pv at HM
  clear w2 hml hl0 hr
  go_enter Tryd.func5, Tryd.ntmps5
  go_upto_region 2 with (first | (refine wpList_box rfl 25 _ rfl _ rfl ?_; intro w1 hb1 hk1 hs1; clear hs1; have hb1 : Blk w1 w.heap.size 25 (pc P0) := hb1) | (refine wpList_al rfl rfl ?_; intro v1 hp1 k1 hs1; clear hs1) | (refine wpList_ld rfl (.tmp 3) rfl w.heap.size P0 rfl HL0.out hb1 ?_) | (refine wpList_st rfl (.tmp 7) _ rfl w1.heap.size P0 noP rfl rfl HL0.out rfl hp1 ?_; intro v2 hp2 k2 hs2; clear hs2))
  have K2 : Keep Nob w v2 := (hk1.nobt k1).trans k2 (fun b hb e => by have h3 : b = w1.heap.size := e; have := hk1.size; omega)
  have hg7 : w.heap.size ≤ w1.heap.size := hk1.size
  clear hp1 k1 k2 hk1 hb1
  generalize w1.heap.size = g7 at *
  go_wp2_with fail
  go_loopw [8] (fun s8 wx => ∃ (k : Nat) (P : Ps), k ≤ 2 ∧ s8 = .int .i64 k ∧ P.f.length = 8 ∧ Blk wx g7 25 (pc P) ∧ Keep Nob w wx) (fun s8 _ => 2 - (intOf s8).toNat)
  case atStart => exact ⟨0, P0, Nat.zero_le _, rfl, HL0.out, hp2, K2⟩
  case round =>
    obtain ⟨k, P, hk, rfl, hl, hp3, K3⟩ := hrel
    clear hp2 K2
    have HL := Lib.hid hl
    clear hl
    by_cases hlt : k < 2
    rotate_left
    · go_wp2_with fail
      refine (awake_is _ (hT.nob K3)).mono ?_; rintro e w4 ⟨rfl, k4⟩
      have K4 := K3.nobt k4
      go_wp2
      go_ret
      exact ⟨rfl, K4.below (Nat.le_refl _) (fun _ _ f => f)⟩
    have hlt2 : (k : Int) < 2 := by omega
    go_wp2_with fail
    go_loopw [9] (fun s9 wx => ∃ (i : Nat) (Q : Ps), i ≤ 60 ∧ s9 = .int .i64 i ∧ Q.f.length = 8 ∧ Blk wx g7 25 (pc Q) ∧ Keep Nob w wx) (fun s9 _ => 60 - (intOf s9).toNat)
    case atStart => exact ⟨0, P, Nat.zero_le _, rfl, HL.out, hp3, K3⟩
    case round =>
      obtain ⟨i, Q, hi, rfl, hlq, hp7, K5⟩ := hrel
      clear hp3 K3
      have HLQ := Lib.hid hlq
      have K := K5
      clear hlq K5
      obtain ⟨bo, hbo⟩ : ∃ bo, bo = decide (i < n2 ∧ i < 60) := ⟨_, rfl⟩
      have Hbo := Lib.hid hbo
      clear hbo
      go_upto_region 6 with fail
      go_cut [47] from 40 to 47 (fun s47 wx => s47 = .bool bo ∧ wx = wr)
      case first =>
        by_cases h1 : i < n2
        · by_cases h2 : i < 60
          · have h3 : decide (i < n2 ∧ i < 60) = true := by simp [h1, h2]
            go_wp2_with fail
            go_meet
            exact ⟨by (try rw [Hbo.out, h3]); (first | rfl | exact congrArg Value.bool (decide_eq_true (by omega)) | exact congrArg Value.bool (decide_eq_false (by omega)) | skip), rfl⟩
          · have h3 : decide (i < n2 ∧ i < 60) = false := by simp [h2]
            go_wp2_with fail
            go_meet
            exact ⟨by (try rw [Hbo.out, h3]); (first | rfl | exact congrArg Value.bool (decide_eq_true (by omega)) | exact congrArg Value.bool (decide_eq_false (by omega)) | skip), rfl⟩
        · have h3 : decide (i < n2 ∧ i < 60) = false := by simp [h1]
          go_wp2_with fail
          go_meet
          exact ⟨by (try rw [Hbo.out, h3]); (first | rfl | exact congrArg Value.bool (decide_eq_true (by omega)) | exact congrArg Value.bool (decide_eq_false (by omega)) | skip), rfl⟩
      case rest =>
      obtain ⟨rfl, hw⟩ := hcut
      have hw := hw.symm
      subst hw
      cases bo with
      | false =>
        go_wp2_with fail
        refine (HM.out _ (HR.out.nob K)).mono ?_; rintro e w6 ⟨rfl, k6⟩
        have hp6 := hp7.nob k6
        have K6 := K.nobt k6
        clear hp7 K k6
        go_wp2_with (refine wpList_st rfl (.tmp 7) _ rfl g7 M Q rfl rfl HML.out HLQ.out hp6 ?_; intro w7 hp7 k7 hs7; clear hs7)
        have K7 : Keep Nob w w7 := K6.trans k7 (fun b hb e => by have h3 : b = g7 := e; omega)
        go_round
        case rel => exact ⟨k + 1, M, by omega, by go_num, HML.out, hp7, K7⟩
        case measure => simp [intOf]; omega
      | true =>
      obtain ⟨hin, hi2⟩ : i < n2 ∧ i < 60 := of_decide_eq_true Hbo.out.symm
      obtain ⟨bb, off, oa, ob, oc, rfl, -, -, -, hf⟩ := op14_at W2.out hin
      obtain ⟨f0, f1, f2⟩ := hf _ K
      have kO := (Keep.refl Nob wr).alloc (.cells #[.int .i64 oa, .int .i64 ob, .int .i64 oc] 41)
      have bO : Blk (wr.alloc (.cells #[.int .i64 oa, .int .i64 ob, .int .i64 oc] 41)) wr.heap.size 41 [.int .i64 oa, .int .i64 ob, .int .i64 oc] := Blk.new wr 41 _
      have hq7 := hp7.nob kO
      have KO := K.nobt kO
      clear hf kO hp7
      go_upto_block 4 with fail
      generalize hV : wr.alloc (.cells #[.int .i64 oa, .int .i64 ob, .int .i64 oc] 41) = V at bO hq7 KO ⊢
      generalize wr.heap.size = gO at bO ⊢
      clear f0 f1 f2 hV K
      have hp7 := hq7
      have K := KO
      clear hq7 KO
      go_cut [11, 12, 13, 14, 15, 16, 17, 18, 19, 20, 21, 22, 23, 24, 25, 26, 27, 28, 29, 30] from 56 to 172 (fun s11 s12 s13 s14 s15 s16 s17 s18 s19 s20 s21 s22 s23 s24 s25 s26 s27 s28 s29 s30 wx => ∃ P2, P2.f.length = 8 ∧ Blk wx g7 25 (pc P2) ∧ Keep Nob w wx)
      case first =>
        by_cases ho0 : oa = 0
        ·
          as_aux_lemma =>
            have hb0 : (oa == 0) = true := by rw [ho0]; rfl
            clear ho0
            obtain ⟨P2, ok, q⟩ : ∃ R o, raise Q ob = (R, o) := ⟨_, _, rfl⟩
            have l2 : P2.f.length = 8 := by have := raise_len HLQ.out ob; rwa [q] at this
            have H1 := Lib.hid (fun w => raise_is Q HLQ.out ob w _ _ q)
            have H2 := Lib.hid (fun w => rraise_is Q HLQ.out ob w _ _ q)
            have heq := Lib.hid (fun W => ne_pv P2 P2 l2 l2 W)
            unfold pv at H1 H2 heq
            have L2 := Lib.hid l2
            clear q l2
            have f1 := bO.cell 1
            have f2 := bO.cell 2
            simp only [List.getElem?_cons_zero, List.getElem?_cons_succ] at f1 f2
            have f0 := bO.cell 0
            simp only [List.getElem?_cons_zero] at f0
            go_wp2_with (first | (refine wpList_ld rfl (.tmp 7) rfl g7 Q rfl HLQ.out hp7 ?_))
            refine (H1.out _).mono ?_; rintro e w1 ⟨rfl, k⟩
            replace K := K.nobt k
            replace hp7 := hp7.nob k
            replace bO := bO.nob k
            clear k
            go_upto_region 18 with (first | (refine wpList_al rfl rfl ?_; intro w1a hpa ka hsa; clear hsa) | (refine wpList_st rfl (.tmp 11) _ rfl w1.heap.size P2 noP rfl rfl L2.out rfl hpa ?_; intro w1b hpb kb hsb; clear hsb))
            have kk : Keep Nob w1 w1b := ka.trans kb (fun b hb e => by have h3 : b = w1.heap.size := e; omega)
            have hg11 : w.heap.size ≤ w1.heap.size := K.size
            replace K := K.nobt kk
            replace hp7 := hp7.nob kk
            replace bO := bO.nob kk
            have hp11 := hpb
            clear kk ka kb hpa hpb
            generalize w1.heap.size = g11 at *
            clear f0 f1 f2
            have f1 := bO.cell 1
            have f2 := bO.cell 2
            simp only [List.getElem?_cons_zero, List.getElem?_cons_succ] at f1 f2
            go_wp2_with (first | (refine wpList_ld rfl (.tmp 7) rfl g7 Q rfl HLQ.out hp7 ?_))
            refine (H2.out _).mono ?_; rintro e w2 ⟨rfl, k⟩
            replace K := K.nobt k
            replace hp7 := hp7.nob k
            replace hp11 := hp11.nob k
            replace bO := bO.nob k
            clear k
            go_upto_region 19 with (first | (refine wpList_al rfl rfl ?_; intro w2a hpa ka hsa; clear hsa) | (refine wpList_st rfl (.tmp 13) _ rfl w2.heap.size P2 noP rfl rfl L2.out rfl hpa ?_; intro w2b hpb kb hsb; clear hsb))
            have kk : Keep Nob w2 w2b := ka.trans kb (fun b hb e => by have h3 : b = w2.heap.size := e; omega)
            have hg13 : w.heap.size ≤ w2.heap.size := K.size
            replace K := K.nobt kk
            replace hp7 := hp7.nob kk
            replace hp11 := hp11.nob kk
            replace bO := bO.nob kk
            have hp13 := hpb
            clear kk ka kb hpa hpb
            generalize w2.heap.size = g13 at *
            clear f1 f2
            have heq := heq.out
            simp only [decide_true, Bool.not_true] at heq
            go_upto_region 21 with (first | (refine wpList_ld rfl (.tmp 11) rfl g11 P2 rfl L2.out hp11 ?_) | (refine wpList_ld rfl (.tmp 13) rfl g13 P2 rfl L2.out hp13 ?_))
            clear heq
            go_wp2_with (first | (refine wpList_ld rfl (.tmp 11) rfl g11 P2 rfl L2.out hp11 ?_) | (refine wpList_st rfl (.tmp 7) _ rfl g7 P2 Q rfl rfl L2.out HLQ.out hp7 ?_; intro vs hps ks hss; clear hss))
            go_meet
            exact ⟨P2, L2.out, hps, K.trans ks (fun b hb e => by have h3 : b = g7 := e; omega)⟩
        by_cases ho1 : oa = 1
        ·
          as_aux_lemma =>
            have hb0 : (oa == 0) = false := by rw [ho1]; rfl
            have hb1 : (oa == 1) = true := by rw [ho1]; rfl
            clear ho0 ho1
            obtain ⟨P2, l, d, q⟩ : ∃ R l d, deliver Q = (R, l, d) := ⟨_, _, _, rfl⟩
            have l2 : P2.f.length = 8 := by have := deliver_len HLQ.out; rwa [q] at this
            have ll := Lib.hid (show l.length ≤ 15 by have := deliver_told Q; rwa [q] at this)
            have H1 := Lib.hid (fun w hT => deliver_is Q HLQ.out w hT _ _ _ q)
            have H2 := Lib.hid (fun w => rdeliver_is Q HLQ.out w _ _ _ q)
            have heq := Lib.hid (fun W => ne_pv P2 P2 l2 l2 W)
            unfold pv at H1 H2 heq
            have L2 := Lib.hid l2
            clear q l2
            have f0 := bO.cell 0
            simp only [List.getElem?_cons_zero] at f0
            go_wp2_with (first | (refine wpList_ld rfl (.tmp 7) rfl g7 Q rfl HLQ.out hp7 ?_))
            refine (H1.out _ (hT.nob K)).mono ?_; rintro e w1 ⟨x, rfl, ⟨A5, c5, rfl, v5⟩, k⟩
            replace K := K.nobt k
            replace hp7 := hp7.nob k
            replace bO := bO.nob k
            clear k
            have G5 : Gives w1 l (.slice A5 l.length c5) := ⟨A5, c5, rfl, v5⟩
            clear v5 f0
            go_upto_region 24 with (first | (refine wpList_al rfl rfl ?_; intro w1a hpa ka hsa; clear hsa) | (refine wpList_st rfl (.tmp 15) _ rfl w1.heap.size P2 noP rfl rfl L2.out rfl hpa ?_; intro w1b hpb kb hsb; clear hsb))
            have kk : Keep Nob w1 w1b := ka.trans kb (fun b hb e => by have h3 : b = w1.heap.size := e; omega)
            have hg15 : w.heap.size ≤ w1.heap.size := K.size
            replace K := K.nobt kk
            replace hp7 := hp7.nob kk
            replace bO := bO.nob kk
            replace G5 := G5.nob kk
            have hp15 := hpb
            clear kk ka kb hpa hpb
            generalize w1.heap.size = g15 at *
            go_wp2_with (first | (refine wpList_ld rfl (.tmp 7) rfl g7 Q rfl HLQ.out hp7 ?_))
            refine (H2.out _).mono ?_; rintro e w2 ⟨x, rfl, ⟨A6, c6, rfl, v6⟩, k⟩
            replace K := K.nobt k
            replace hp7 := hp7.nob k
            replace hp15 := hp15.nob k
            replace bO := bO.nob k
            replace G5 := G5.nob k
            clear k
            have G6 : Gives w2 l (.slice A6 l.length c6) := ⟨A6, c6, rfl, v6⟩
            clear v6
            go_upto_region 25 with (first | (refine wpList_al rfl rfl ?_; intro w2a hpa ka hsa; clear hsa) | (refine wpList_st rfl (.tmp 18) _ rfl w2.heap.size P2 noP rfl rfl L2.out rfl hpa ?_; intro w2b hpb kb hsb; clear hsb))
            have kk : Keep Nob w2 w2b := ka.trans kb (fun b hb e => by have h3 : b = w2.heap.size := e; omega)
            have hg18 : w.heap.size ≤ w2.heap.size := K.size
            replace K := K.nobt kk
            replace hp7 := hp7.nob kk
            replace hp15 := hp15.nob kk
            replace bO := bO.nob kk
            replace G5 := G5.nob kk
            replace G6 := G6.nob kk
            have hp18 := hpb
            clear kk ka kb hpa hpb
            generalize w2.heap.size = g18 at *
            have heq := heq.out
            simp only [decide_true, Bool.not_true] at heq
            go_wp2_with (first | (refine wpList_ld rfl (.tmp 15) rfl g15 P2 rfl L2.out hp15 ?_) | (refine wpList_ld rfl (.tmp 18) rfl g18 P2 rfl L2.out hp18 ?_))
            refine (same_is A5 A6 l.length c5 c6 l _ G5.reads.1 G6.reads.1 (by have := ll.out; omega)).mono ?_; rintro e w3 ⟨rfl, k⟩
            replace K := K.nobt k
            replace hp7 := hp7.nob k
            replace hp15 := hp15.nob k
            replace hp18 := hp18.nob k
            replace bO := bO.nob k
            replace G5 := G5.nob k
            replace G6 := G6.nob k
            clear k
            clear heq
            go_upto_region 27 with fail
            go_wp2_with (first | (refine wpList_ld rfl (.tmp 15) rfl g15 P2 rfl L2.out hp15 ?_) | (refine wpList_st rfl (.tmp 7) _ rfl g7 P2 Q rfl rfl L2.out HLQ.out hp7 ?_; intro vs hps ks hss; clear hss))
            go_meet
            exact ⟨P2, L2.out, hps, K.trans ks (fun b hb e => by have h3 : b = g7 := e; omega)⟩
        by_cases ho2 : oa = 2
        ·
          as_aux_lemma =>
            have hb0 : (oa == 0) = false := by rw [ho2]; rfl
            have hb1 : (oa == 1) = false := by rw [ho2]; rfl
            have hb2 : (oa == 2) = true := by rw [ho2]; rfl
            clear ho0 ho1 ho2
            obtain ⟨P2, f, q⟩ : ∃ R o, handle Q ob oc = (R, o) := ⟨_, _, rfl⟩
            have l2 : P2.f.length = 8 := by have := handle_len HLQ.out ob oc; rwa [q] at this
            have H1 := Lib.hid (fun w => handle_is Q HLQ.out ob oc w _ _ q)
            have H2 := Lib.hid (fun w => rhandle_is Q HLQ.out ob oc w _ _ q)
            have heq := Lib.hid (fun W => ne_pv P2 P2 l2 l2 W)
            unfold pv at H1 H2 heq
            have L2 := Lib.hid l2
            clear q l2
            have f1 := bO.cell 1
            have f2 := bO.cell 2
            simp only [List.getElem?_cons_zero, List.getElem?_cons_succ] at f1 f2
            have f0 := bO.cell 0
            simp only [List.getElem?_cons_zero] at f0
            go_wp2_with (first | (refine wpList_ld rfl (.tmp 7) rfl g7 Q rfl HLQ.out hp7 ?_))
            refine (H1.out _).mono ?_; rintro e w1 ⟨rfl, k⟩
            replace K := K.nobt k
            replace hp7 := hp7.nob k
            replace bO := bO.nob k
            clear k
            go_upto_region 30 with (first | (refine wpList_al rfl rfl ?_; intro w1a hpa ka hsa; clear hsa) | (refine wpList_st rfl (.tmp 21) _ rfl w1.heap.size P2 noP rfl rfl L2.out rfl hpa ?_; intro w1b hpb kb hsb; clear hsb))
            have kk : Keep Nob w1 w1b := ka.trans kb (fun b hb e => by have h3 : b = w1.heap.size := e; omega)
            have hg21 : w.heap.size ≤ w1.heap.size := K.size
            replace K := K.nobt kk
            replace hp7 := hp7.nob kk
            replace bO := bO.nob kk
            have hp21 := hpb
            clear kk ka kb hpa hpb
            generalize w1.heap.size = g21 at *
            clear f0 f1 f2
            have f1 := bO.cell 1
            have f2 := bO.cell 2
            simp only [List.getElem?_cons_zero, List.getElem?_cons_succ] at f1 f2
            go_wp2_with (first | (refine wpList_ld rfl (.tmp 7) rfl g7 Q rfl HLQ.out hp7 ?_))
            refine (H2.out _).mono ?_; rintro e w2 ⟨rfl, k⟩
            replace K := K.nobt k
            replace hp7 := hp7.nob k
            replace hp21 := hp21.nob k
            replace bO := bO.nob k
            clear k
            go_upto_region 31 with (first | (refine wpList_al rfl rfl ?_; intro w2a hpa ka hsa; clear hsa) | (refine wpList_st rfl (.tmp 23) _ rfl w2.heap.size P2 noP rfl rfl L2.out rfl hpa ?_; intro w2b hpb kb hsb; clear hsb))
            have kk : Keep Nob w2 w2b := ka.trans kb (fun b hb e => by have h3 : b = w2.heap.size := e; omega)
            have hg23 : w.heap.size ≤ w2.heap.size := K.size
            replace K := K.nobt kk
            replace hp7 := hp7.nob kk
            replace hp21 := hp21.nob kk
            replace bO := bO.nob kk
            have hp23 := hpb
            clear kk ka kb hpa hpb
            generalize w2.heap.size = g23 at *
            clear f1 f2
            have heq := heq.out
            simp only [decide_true, Bool.not_true] at heq
            go_upto_region 33 with (first | (refine wpList_ld rfl (.tmp 21) rfl g21 P2 rfl L2.out hp21 ?_) | (refine wpList_ld rfl (.tmp 23) rfl g23 P2 rfl L2.out hp23 ?_))
            clear heq
            cases hf0 : (f == 0) with
            | true =>
              go_wp2_with (first | (refine wpList_ld rfl (.tmp 21) rfl g21 P2 rfl L2.out hp21 ?_) | (refine wpList_st rfl (.tmp 7) _ rfl g7 P2 Q rfl rfl L2.out HLQ.out hp7 ?_; intro vs hps ks hss; clear hss))
              go_meet
              exact ⟨P2, L2.out, hps, K.trans ks (fun b hb e => by have h3 : b = g7 := e; omega)⟩
            | false =>
              go_wp2_with fail
              go_meet
              exact ⟨Q, HLQ.out, hp7, K⟩
        ·
          as_aux_lemma =>
            have hb0 : (oa == 0) = false := by simpa using ho0
            have hb1 : (oa == 1) = false := by simpa using ho1
            have hb2 : (oa == 2) = false := by simpa using ho2
            clear ho0 ho1 ho2
            obtain ⟨P2, old, f, q⟩ : ∃ R o f, mask Q ob = (R, o, f) := ⟨_, _, _, rfl⟩
            have l2 : P2.f.length = 8 := by have := mask_len HLQ.out ob; rwa [q] at this
            have H1 := Lib.hid (fun w => mask_is Q HLQ.out ob w _ _ _ q)
            have H2 := Lib.hid (fun w => rmask_is Q HLQ.out ob w _ _ _ q)
            have heq := Lib.hid (fun W => ne_pv P2 P2 l2 l2 W)
            unfold pv at H1 H2 heq
            have L2 := Lib.hid l2
            clear q l2
            have f1 := bO.cell 1
            have f2 := bO.cell 2
            simp only [List.getElem?_cons_zero, List.getElem?_cons_succ] at f1 f2
            have f0 := bO.cell 0
            simp only [List.getElem?_cons_zero] at f0
            go_wp2_with (first | (refine wpList_ld rfl (.tmp 7) rfl g7 Q rfl HLQ.out hp7 ?_))
            refine (H1.out _).mono ?_; rintro e w1 ⟨rfl, k⟩
            replace K := K.nobt k
            replace hp7 := hp7.nob k
            replace bO := bO.nob k
            clear k
            go_upto_region 11 with (first | (refine wpList_al rfl rfl ?_; intro w1a hpa ka hsa; clear hsa) | (refine wpList_st rfl (.tmp 25) _ rfl w1.heap.size P2 noP rfl rfl L2.out rfl hpa ?_; intro w1b hpb kb hsb; clear hsb))
            have kk : Keep Nob w1 w1b := ka.trans kb (fun b hb e => by have h3 : b = w1.heap.size := e; omega)
            have hg25 : w.heap.size ≤ w1.heap.size := K.size
            replace K := K.nobt kk
            replace hp7 := hp7.nob kk
            replace bO := bO.nob kk
            have hp25 := hpb
            clear kk ka kb hpa hpb
            generalize w1.heap.size = g25 at *
            clear f0 f1 f2
            have f1 := bO.cell 1
            have f2 := bO.cell 2
            simp only [List.getElem?_cons_zero, List.getElem?_cons_succ] at f1 f2
            go_wp2_with (first | (refine wpList_ld rfl (.tmp 7) rfl g7 Q rfl HLQ.out hp7 ?_))
            refine (H2.out _).mono ?_; rintro e w2 ⟨rfl, k⟩
            replace K := K.nobt k
            replace hp7 := hp7.nob k
            replace hp25 := hp25.nob k
            replace bO := bO.nob k
            clear k
            go_upto_region 12 with (first | (refine wpList_al rfl rfl ?_; intro w2a hpa ka hsa; clear hsa) | (refine wpList_st rfl (.tmp 28) _ rfl w2.heap.size P2 noP rfl rfl L2.out rfl hpa ?_; intro w2b hpb kb hsb; clear hsb))
            have kk : Keep Nob w2 w2b := ka.trans kb (fun b hb e => by have h3 : b = w2.heap.size := e; omega)
            have hg28 : w.heap.size ≤ w2.heap.size := K.size
            replace K := K.nobt kk
            replace hp7 := hp7.nob kk
            replace hp25 := hp25.nob kk
            replace bO := bO.nob kk
            have hp28 := hpb
            clear kk ka kb hpa hpb
            generalize w2.heap.size = g28 at *
            clear f1 f2
            have heq := heq.out
            simp only [decide_true, Bool.not_true] at heq
            go_upto_region 14 with (first | (refine wpList_ld rfl (.tmp 25) rfl g25 P2 rfl L2.out hp25 ?_) | (refine wpList_ld rfl (.tmp 28) rfl g28 P2 rfl L2.out hp28 ?_))
            clear heq
            cases hf0 : (f == 0) with
            | true =>
              go_wp2_with (first | (refine wpList_ld rfl (.tmp 25) rfl g25 P2 rfl L2.out hp25 ?_) | (refine wpList_st rfl (.tmp 7) _ rfl g7 P2 Q rfl rfl L2.out HLQ.out hp7 ?_; intro vs hps ks hss; clear hss))
              go_meet
              exact ⟨P2, L2.out, hps, K.trans ks (fun b hb e => by have h3 : b = g7 := e; omega)⟩
            | false =>
              go_wp2_with fail
              go_meet
              exact ⟨Q, HLQ.out, hp7, K⟩
      case rest =>
      obtain ⟨P2, l2, hq7, Kq⟩ := hcut
      clear hp7 K bO HLQ
      have K := Kq
      have hp7 := hq7
      clear Kq hq7
      obtain ⟨n, g, q⟩ : ∃ n g, next P2 = (n, g) := ⟨_, _, rfl⟩
      obtain ⟨v, qw⟩ : ∃ v, wakes P2 = v := ⟨_, rfl⟩
      have H1 := Lib.hid (fun w hT => next_is P2 l2 w hT _ _ q)
      have H2 := Lib.hid (fun w => rnext_is P2 l2 w _ _ q)
      have H3 := Lib.hid (fun w hT => wakes_is P2 l2 w hT _ qw)
      have H4 := Lib.hid (fun w => rwakes_is P2 l2 w _ qw)
      unfold pv at H1 H2 H3 H4
      have L2 := Lib.hid l2
      clear q qw l2
      go_wp2_with (first | (refine wpList_ld rfl (.tmp 7) rfl g7 P2 rfl L2.out hp7 ?_))
      refine (H1.out _ (hT.nob K)).mono ?_; rintro e w1 ⟨rfl, k⟩
      replace K := K.nobt k
      replace hp7 := hp7.nob k
      clear k
      go_wp2_with (first | (refine wpList_ld rfl (.tmp 7) rfl g7 P2 rfl L2.out hp7 ?_))
      refine (H2.out _).mono ?_; rintro e w2 ⟨rfl, k⟩
      replace K := K.nobt k
      replace hp7 := hp7.nob k
      clear k
      go_upto_region 37 with fail
      replace hp7 := hp7.drew
      replace K := K.drew
      have hL := L2.out
      refine wp_region_held_drew (S := (fun w' => Blk w' g7 25 (pc P2))) (by kernel_rfl) hp7 (fun hHeld => ?_)
      refine wpAnyH_take (i := 0) (v := ?_) rfl (by kernel_rfl) (by kernel_rfl) (by kernel_rfl) (fun _ _ _ h => h) (Or.inl ⟨by rfl, ?_⟩) (by assumption) ?_
      rotate_left
      · (intro w hSw; (try dsimp only at hSw); go_simp; try with_reducible rfl)
      try simp only [Act.put, List.getElem_toArray, List.getElem_cons_zero, List.getElem_cons_succ, List.setIfInBounds_toArray, List.set_cons_zero, List.set_cons_succ]
      refine wpAnyH_take (i := 1) (v := ?_) rfl (by kernel_rfl) (by kernel_rfl) (by kernel_rfl) (fun _ _ _ h => h) (Or.inl ⟨by rfl, ?_⟩) (by assumption) ?_
      rotate_left
      · (intro w hSw; (try dsimp only at hSw); go_simp; try with_reducible rfl)
      try simp only [Act.put, List.getElem_toArray, List.getElem_cons_zero, List.getElem_cons_succ, List.setIfInBounds_toArray, List.set_cons_zero, List.set_cons_succ]
      refine wpAnyH_take (i := 2) (v := ?_) rfl (by kernel_rfl) (by kernel_rfl) (by kernel_rfl) (fun _ _ _ h => h) (Or.inl ⟨by rfl, ?_⟩) (by assumption) ?_
      rotate_left
      · (intro w hSw; (try dsimp only at hSw); go_simp; try with_reducible rfl)
      try simp only [Act.put, List.getElem_toArray, List.getElem_cons_zero, List.getElem_cons_succ, List.setIfInBounds_toArray, List.set_cons_zero, List.set_cons_succ]
      refine wpAnyH_take (i := 3) (v := ?_) rfl (by kernel_rfl) (by kernel_rfl) (by kernel_rfl) (fun _ _ _ h => h) (Or.inl ⟨by rfl, ?_⟩) (by assumption) ?_
      rotate_left
      · (intro w hSw; (try dsimp only at hSw); go_simp; try with_reducible rfl)
      try simp only [Act.put, List.getElem_toArray, List.getElem_cons_zero, List.getElem_cons_succ, List.setIfInBounds_toArray, List.set_cons_zero, List.set_cons_succ]
      refine wpAnyH_take (i := 4) (v := ?_) rfl (by kernel_rfl) (by kernel_rfl) (by kernel_rfl) (fun _ _ _ h => h) (Or.inl ⟨by rfl, ?_⟩) (by assumption) ?_
      rotate_left
      · (intro w hSw; (try dsimp only at hSw); go_simp; try with_reducible rfl)
      try simp only [Act.put, List.getElem_toArray, List.getElem_cons_zero, List.getElem_cons_succ, List.setIfInBounds_toArray, List.set_cons_zero, List.set_cons_succ]
      refine wpAnyH_take (i := 5) (v := ?_) rfl (by kernel_rfl) (by kernel_rfl) (by kernel_rfl) (fun _ _ _ h => h) (Or.inl ⟨by rfl, ?_⟩) (by assumption) ?_
      rotate_left
      · (intro w hSw; (try dsimp only at hSw); go_simp; try with_reducible rfl)
      try simp only [Act.put, List.getElem_toArray, List.getElem_cons_zero, List.getElem_cons_succ, List.setIfInBounds_toArray, List.set_cons_zero, List.set_cons_succ]
      refine wpAnyH_take (i := 6) (v := ?_) rfl (by kernel_rfl) (by kernel_rfl) (by kernel_rfl) (fun _ _ _ h => h) (Or.inl ⟨by rfl, ?_⟩) (by assumption) ?_
      rotate_left
      · (intro w hSw; (try dsimp only at hSw); go_simp; try with_reducible rfl)
      try simp only [Act.put, List.getElem_toArray, List.getElem_cons_zero, List.getElem_cons_succ, List.setIfInBounds_toArray, List.set_cons_zero, List.set_cons_succ]
      refine wpAnyH_take (i := 7) (v := ?_) rfl (by kernel_rfl) (by kernel_rfl) (by kernel_rfl) (fun _ _ _ h => h) (Or.inl ⟨by rfl, ?_⟩) (by assumption) ?_
      rotate_left
      · (intro w hSw; (try dsimp only at hSw); go_simp; try with_reducible rfl)
      try simp only [Act.put, List.getElem_toArray, List.getElem_cons_zero, List.getElem_cons_succ, List.setIfInBounds_toArray, List.set_cons_zero, List.set_cons_succ]
      refine wpAnyH_take (i := 8) (v := ?_) rfl (by kernel_rfl) (by kernel_rfl) (by kernel_rfl) (fun _ _ _ h => h) (Or.inl ⟨by rfl, ?_⟩) (by assumption) ?_
      rotate_left
      · (intro w hSw; (try dsimp only at hSw); go_simp; try with_reducible rfl)
      try simp only [Act.put, List.getElem_toArray, List.getElem_cons_zero, List.getElem_cons_succ, List.setIfInBounds_toArray, List.set_cons_zero, List.set_cons_succ]
      refine wpAnyH_take (i := 9) (v := ?_) rfl (by kernel_rfl) (by kernel_rfl) (by kernel_rfl) (fun _ _ _ h => h) (Or.inl ⟨by rfl, ?_⟩) (by assumption) ?_
      rotate_left
      · (intro w hSw; (try dsimp only at hSw); refine exec_load (q := P2) (x := .tmp 7) ?_ ?_ hL hSw <;> rfl)
      try simp only [Act.put, List.getElem_toArray, List.getElem_cons_zero, List.getElem_cons_succ, List.setIfInBounds_toArray, List.set_cons_zero, List.set_cons_succ]
      refine wpAnyH_take (i := 11) (v := ?_) rfl (by kernel_rfl) (by kernel_rfl) (by kernel_rfl) (fun _ _ _ h => h) (Or.inl ⟨by rfl, ?_⟩) (by assumption) ?_
      rotate_left
      · (intro w hSw; (try dsimp only at hSw); refine exec_load (q := P2) (x := .tmp 7) ?_ ?_ hL hSw <;> rfl)
      try simp only [Act.put, List.getElem_toArray, List.getElem_cons_zero, List.getElem_cons_succ, List.setIfInBounds_toArray, List.set_cons_zero, List.set_cons_succ]
      refine wpAnyH_ready (rs := [10]) (by kernel_rfl) (by simp) ?_
      refine AllReadyH.cons rfl (fun K_ hK => ?_) AllReadyH.nil
      go_simp
      refine (H3.out _ (hT.nob K)).mono ?_; rintro e wk ⟨rfl, k⟩
      replace K := K.nobt k
      replace hp7 := hp7.nob k
      clear k
      refine hK.out _ _ ?_ (fun hHeld => ?_)
      · exact hp7
      clear hK K_
      try simp only [Act.put, List.getElem_toArray, List.getElem_cons_zero, List.getElem_cons_succ, List.setIfInBounds_toArray, List.set_cons_zero, List.set_cons_succ]
      refine wpAnyH_ready (rs := [12]) (by kernel_rfl) (by simp) ?_
      refine AllReadyH.cons rfl (fun K_ hK => ?_) AllReadyH.nil
      go_simp
      refine (H4.out _).mono ?_; rintro e wk2 ⟨rfl, k⟩
      replace K := K.nobt k
      replace hp7 := hp7.nob k
      clear k
      refine hK.out _ _ ?_ (fun hHeld => ?_)
      · exact hp7
      clear hK K_
      try simp only [Act.put, List.getElem_toArray, List.getElem_cons_zero, List.getElem_cons_succ, List.setIfInBounds_toArray, List.set_cons_zero, List.set_cons_succ]
      refine wpAnyH_take (i := 13) (v := ?_) rfl (by kernel_rfl) (by kernel_rfl) (by kernel_rfl) (fun _ _ _ h => h) (Or.inl ⟨by rfl, ?_⟩) (by assumption) ?_
      rotate_left
      · (intro w hSw; (try dsimp only at hSw); go_simp; try with_reducible rfl)
      try simp only [Act.put, List.getElem_toArray, List.getElem_cons_zero, List.getElem_cons_succ, List.setIfInBounds_toArray, List.set_cons_zero, List.set_cons_succ]
      refine wpAnyH_take (i := 14) (v := ?_) rfl (by kernel_rfl) (by kernel_rfl) (by kernel_rfl) (fun _ _ _ h => h) (Or.inl ⟨by rfl, ?_⟩) (by assumption) ?_
      rotate_left
      · (intro w hSw; (try dsimp only at hSw); go_simp; try with_reducible rfl)
      try simp only [Act.put, List.getElem_toArray, List.getElem_cons_zero, List.getElem_cons_succ, List.setIfInBounds_toArray, List.set_cons_zero, List.set_cons_succ]
      refine wpAnyH_done (by kernel_rfl) ?_ _
      go_wp2_with fail
      go_round
      case rel => exact ⟨i + 1, P2, by omega, by go_num, L2.out, hp7, K⟩
      case measure => simp [intOf]; omega
theorem SigPlays_walk (w : World) (hT : Tb w) (s0 : Array Value) (x0 : Ty.den (.pair (.int .i64) (.pair (.int .i64) (.pair (.int .i64) (.pair (.int .i64) (.pair (.int .i64) (.pair (.int .i64) (.pair (.int .i64) (.pair (.int .i64) (.pair (.pair (.int .i64) (.pair (.int .i64) (.pair (.int .i64) (.pair (.int .i64) (.pair (.int .i64) (.pair (.int .i64) (.pair (.int .i64) (.pair (.int .i64) .unit)))))))) .unit)))))))))) (w0 : Holds w (.pair (.int .i64) (.pair (.int .i64) (.pair (.int .i64) (.pair (.int .i64) (.pair (.int .i64) (.pair (.int .i64) (.pair (.int .i64) (.pair (.int .i64) (.pair (.pair (.int .i64) (.pair (.int .i64) (.pair (.int .i64) (.pair (.int .i64) (.pair (.int .i64) (.pair (.int .i64) (.pair (.int .i64) (.pair (.int .i64) .unit)))))))) .unit))))))))) x0 s0.toList) (A1 : Option Addr) (n1 c1 : Nat) (x1 : Ty.den (.sl 8 (.int .i64))) (w1 : Holds w (.sl 8 (.int .i64)) x1 [.slice A1 n1 c1]) (A2 : Option Addr) (n2 c2 : Nat) (x2 : Ty.den (.sl 24 (.pair (.int .i64) (.pair (.int .i64) (.pair (.int .i64) .unit))))) (w2 : Holds w (.sl 24 (.pair (.int .i64) (.pair (.int .i64) (.pair (.int .i64) .unit)))) x2 [.slice A2 n2 c2]) :
    Calls Tryd.prog 5 #[.agg s0, .slice A1 n1 c1, .slice A2 n2 c2] w fun e w' => e = .returned (.bool true) ∧ Below w.heap.size w w' := by
  obtain ⟨P, hl, rfl⟩ := proc_read w0
  have hl1 := holds_len w1
  exact SigPlays_in w hT P hl A1 n1 c1 x1 (holds_ints w1) (by omega) A2 n2 c2 x2 w2
end Go.Proofs.YtaeiigniakjbpaaDoor
