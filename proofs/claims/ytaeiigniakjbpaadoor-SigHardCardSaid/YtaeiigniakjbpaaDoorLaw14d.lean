/- The walk of SigHard. -/
import Derived.Test.YtaeiigniakjbpaaDoorSigT
import Derived.BigRegion
import Derived.Deep.DeepCutAuto
import Derived.Deep.CutBlock
import Derived.Deep.RegionHeld3
namespace Go.Proofs.YtaeiigniakjbpaaDoor
open Go.RowKit Sg
set_option linter.unusedVariables false
set_option linter.unusedSimpArgs false
set_option maxHeartbeats 16000000 in
set_option maxRecDepth 100000 in
theorem SigHard_walk (w : World) (hT : Tb w) (A0 : Option Addr) (n0 c0 : Nat) (x0 : Ty.den (.sl 8 (.int .i64))) (w0 : Holds w (.sl 8 (.int .i64)) x0 [.slice A0 n0 c0]) (A1 : Option Addr) (n1 c1 : Nat) (x1 : Ty.den (.sl 24 (.pair (.int .i64) (.pair (.int .i64) (.pair (.int .i64) .unit))))) (w1 : Holds w (.sl 24 (.pair (.int .i64) (.pair (.int .i64) (.pair (.int .i64) .unit)))) x1 [.slice A1 n1 c1]) :
    Calls Tryd.prog 6 #[.slice A0 n0 c0, .slice A1 n1 c1] w fun e w' => e = .returned (.bool true) ∧ Below w.heap.size w w' := by
  have hr := holds_ints w0
  have hn := holds_len w0
  have W1 := Lib.hid w1
  have hM := made_is A0 n0 c0 x0 w hr (by omega) _ rfl
  have hml := made_flen x0
  have hms := made_s x0
  have hmh := made_hard x0
  generalize ofL (Mk.made x0) = P at *
  unfold pv at hM
  have HM := Lib.hid hM
  have HL := Lib.hid hml
  have HH := Lib.hid hmh
  clear hM hml hmh w1 hn w0 hr
  have K := Keep.refl Nob w
  go_enter Tryd.func6, Tryd.ntmps6
  go_wp2_with fail
  refine (HM.out).mono ?_; rintro e w1 ⟨rfl, k⟩
  replace K := K.nobt k
  clear k
  go_upto_region 2 with (first | (refine wpList_al rfl rfl ?_; intro w1a hpa ka hsa; clear hsa) | (refine wpList_st rfl (.tmp 5) _ rfl w1.heap.size P noP rfl rfl HL.out rfl hpa ?_; intro w1b hpb kb hsb; clear hsb))
  have kk : Keep Nob w1 w1b := ka.trans kb (fun b hb e => by have h3 : b = w1.heap.size := e; omega)
  have hg5 : w.heap.size ≤ w1.heap.size := K.size
  replace K := K.nobt kk
  have hp5 := hpb
  clear kk ka kb hpa hpb
  generalize w1.heap.size = g5 at *
  have hc := (cells hp5).1
  by_cases h2 : P.s = 2
  · rw [h2] at hc
    go_wp2_with fail
    refine (awake_is _ (hT.nob K)).mono ?_; rintro e wz ⟨rfl, kz⟩
    have Kz := K.nobt kz
    go_wp2
    go_ret
    exact ⟨rfl, Kz.below (Nat.le_refl _) (fun _ _ f => f)⟩
  go_upto_region 5 with (first | (refine wpList_sf rfl (.tmp 36) (.const (.int .i64 1)) rfl g5 0 P { P with s := 1 } 1 rfl rfl hp5 ⟨rfl, rfl⟩ ?_; intro va hpa ka hsa; clear hsa) | (refine wpList_sf rfl (.tmp 37) (.const (.int .i64 0)) rfl g5 4 { P with s := 1 } { P with s := 1, pe := 0 } 0 rfl rfl hpa ⟨rfl, rfl⟩ ?_; intro vb hpb kb hsb; clear hsb))
  replace K := (K.trans ka (fun b hb e => by have h3 : b = g5 := e; omega)).trans kb (fun b hb e => by have h3 : b = g5 := e; omega)
  clear ka kb hp5 hpa hc HM
  generalize ({ P with s := 1, pe := 0 } : Ps) = P0 at *
  go_wp2_with fail
  go_loopw [6] (fun s6 wx => ∃ (k : Nat) (P : Ps), k ≤ 30 ∧ s6 = .int .i64 k ∧ Hard P ∧ Blk wx g5 25 (pc P) ∧ Keep Nob w wx) (fun s6 _ => 30 - (intOf s6).toNat)
  case atStart => exact ⟨0, P0, Nat.zero_le _, rfl, HH.out, hpb, K⟩
  case round =>
    obtain ⟨i, P1, hi30, rfl, hh1, hp5, K4⟩ := hrel
    clear hpb K HH
    have HH := Lib.hid hh1
    clear hh1
    have K := K4
    clear K4
    obtain ⟨bo, hbo⟩ : ∃ bo, bo = decide (i < n1 ∧ i < 30) := ⟨_, rfl⟩
    have Hbo := Lib.hid hbo
    clear hbo
    go_upto_region 6 with fail
    go_cut [45] from 38 to 45 (fun s45 wx => s45 = .bool bo ∧ wx = wr)
    case first =>
      by_cases h1 : i < n1
      · by_cases h2 : i < 30
        · have h3 : decide (i < n1 ∧ i < 30) = true := by simp [h1, h2]
          go_wp2_with fail
          go_meet
          exact ⟨by (try rw [Hbo.out, h3]); (first | rfl | exact congrArg Value.bool (decide_eq_true (by omega)) | exact congrArg Value.bool (decide_eq_false (by omega)) | skip), rfl⟩
        · have h3 : decide (i < n1 ∧ i < 30) = false := by simp [h2]
          go_wp2_with fail
          go_meet
          exact ⟨by (try rw [Hbo.out, h3]); (first | rfl | exact congrArg Value.bool (decide_eq_true (by omega)) | exact congrArg Value.bool (decide_eq_false (by omega)) | skip), rfl⟩
      · have h3 : decide (i < n1 ∧ i < 30) = false := by simp [h1]
        go_wp2_with fail
        go_meet
        exact ⟨by (try rw [Hbo.out, h3]); (first | rfl | exact congrArg Value.bool (decide_eq_true (by omega)) | exact congrArg Value.bool (decide_eq_false (by omega)) | skip), rfl⟩
    case rest =>
    obtain ⟨rfl, hw⟩ := hcut
    have hw := hw.symm
    subst hw
    cases bo with
    | false =>
      obtain ⟨Ka, Ra, q1, q2, l1, l2⟩ := hard_kill (P := P1) (.inl HH.out.s) HH.out.pe HH.out.len HH.out.m9 HH.out.c9
      obtain ⟨Sa, q3, q4, l3⟩ := hard_stop HH.out
      obtain ⟨St, hSt⟩ : ∃ x : Ps, x = { P1 with pe := 0, s := 3 } := ⟨_, rfl⟩
      rw [← hSt] at q4
      have ss : St.s = 3 := by rw [hSt]
      have l4 : St.f.length = 8 := by rw [hSt]; exact HH.out.len
      obtain ⟨Ca, q5, cs, l5⟩ := hard_go ss l4
      obtain ⟨Ea, Rb, q6, q7, l6, l7⟩ := hard_kill (P := St) (.inr ss) (by rw [hSt]) l4 (by rw [hSt]; exact HH.out.m9) (by rw [hSt]; exact HH.out.c9)
      have q8 := hard_next ss
      have H1 := Lib.hid (fun w => raise_is P1 HH.out.len 9 w _ _ q1)
      have H2 := Lib.hid (fun w hT => deliver_is Ka l1 w hT _ _ _ q2)
      have H3 := Lib.hid (fun w => raise_is P1 HH.out.len 14 w _ _ q3)
      have H4 := Lib.hid (fun w hT => deliver_is Sa l3 w hT _ _ _ q4)
      have H5 := Lib.hid (fun w => raise_is St l4 15 w _ _ q5)
      have H6 := Lib.hid (fun w => raise_is St l4 9 w _ _ q6)
      have H7 := Lib.hid (fun w hT => deliver_is Ea l6 w hT _ _ _ q7)
      have H8 := Lib.hid (fun w hT => next_is St l4 w hT _ _ q8)
      unfold pv at H1 H2 H3 H4 H5 H6 H7 H8
      have L1 := Lib.hid l1
      have L2 := Lib.hid l2
      have L3 := Lib.hid l3
      have L4 := Lib.hid l4
      have L5 := Lib.hid l5
      have L6 := Lib.hid l6
      have L7 := Lib.hid l7
      have SS := Lib.hid ss
      have CS := Lib.hid cs
      clear q1 q2 q3 q4 q5 q6 q7 q8 l1 l2 l3 l4 l5 l6 l7 ss cs hSt
      go_wp2_with (first | (refine wpList_ld rfl (.tmp 5) rfl g5 P1 rfl HH.out.len hp5 ?_))
      refine (H1.out _).mono ?_; rintro e w1 ⟨rfl, k⟩
      replace K := K.nobt k
      replace hp5 := hp5.nob k
      clear k
      go_upto_region 15 with (first | (refine wpList_al rfl rfl ?_; intro w1a hpa ka hsa; clear hsa) | (refine wpList_st rfl (.tmp 12) _ rfl w1.heap.size Ka noP rfl rfl L1.out rfl hpa ?_; intro w1b hpb kb hsb; clear hsb))
      have kk : Keep Nob w1 w1b := ka.trans kb (fun b hb e => by have h3 : b = w1.heap.size := e; omega)
      have hg12 : w.heap.size ≤ w1.heap.size := K.size
      replace K := K.nobt kk
      replace hp5 := hp5.nob kk
      have hp12 := hpb
      clear kk ka kb hpa hpb
      generalize w1.heap.size = g12 at *
      go_wp2_with (first | (refine wpList_ld rfl (.tmp 12) rfl g12 Ka rfl L1.out hp12 ?_))
      refine (H2.out _ (hT.nob K)).mono ?_; rintro e w2 ⟨x2, rfl, ⟨A2, c2, rfl, -⟩, k⟩
      replace K := K.nobt k
      replace hp5 := hp5.nob k
      replace hp12 := hp12.nob k
      clear k
      go_upto_region 16 with (first | (refine wpList_al rfl rfl ?_; intro w2a hpa ka hsa; clear hsa) | (refine wpList_st rfl (.tmp 14) _ rfl w2.heap.size Ra noP rfl rfl L2.out rfl hpa ?_; intro w2b hpb kb hsb; clear hsb))
      have kk : Keep Nob w2 w2b := ka.trans kb (fun b hb e => by have h3 : b = w2.heap.size := e; omega)
      have hg14 : w.heap.size ≤ w2.heap.size := K.size
      replace K := K.nobt kk
      replace hp5 := hp5.nob kk
      replace hp12 := hp12.nob kk
      have hp14 := hpb
      clear kk ka kb hpa hpb
      generalize w2.heap.size = g14 at *
      go_wp2_with (first | (refine wpList_ld rfl (.tmp 5) rfl g5 P1 rfl HH.out.len hp5 ?_))
      refine (H3.out _).mono ?_; rintro e w3 ⟨rfl, k⟩
      replace K := K.nobt k
      replace hp5 := hp5.nob k
      replace hp12 := hp12.nob k
      replace hp14 := hp14.nob k
      clear k
      go_upto_region 17 with (first | (refine wpList_al rfl rfl ?_; intro w3a hpa ka hsa; clear hsa) | (refine wpList_st rfl (.tmp 17) _ rfl w3.heap.size Sa noP rfl rfl L3.out rfl hpa ?_; intro w3b hpb kb hsb; clear hsb))
      have kk : Keep Nob w3 w3b := ka.trans kb (fun b hb e => by have h3 : b = w3.heap.size := e; omega)
      have hg17 : w.heap.size ≤ w3.heap.size := K.size
      replace K := K.nobt kk
      replace hp5 := hp5.nob kk
      replace hp12 := hp12.nob kk
      replace hp14 := hp14.nob kk
      have hp17 := hpb
      clear kk ka kb hpa hpb
      generalize w3.heap.size = g17 at *
      go_wp2_with (first | (refine wpList_ld rfl (.tmp 17) rfl g17 Sa rfl L3.out hp17 ?_))
      refine (H4.out _ (hT.nob K)).mono ?_; rintro e w4 ⟨x4, rfl, ⟨A4, c4, rfl, -⟩, k⟩
      replace K := K.nobt k
      replace hp5 := hp5.nob k
      replace hp12 := hp12.nob k
      replace hp14 := hp14.nob k
      replace hp17 := hp17.nob k
      clear k
      go_upto_region 18 with (refine wpList_st rfl (.tmp 17) _ rfl g17 St Sa rfl rfl L4.out L3.out hp17 ?_; intro vs hps ks hss; clear hss)
      replace K := K.trans ks (fun b hb e => by have h3 : b = g17 := e; omega)
      clear hp17 hp5 hp12 hp14 ks
      go_wp2_with (first | (refine wpList_ld rfl (.tmp 17) rfl g17 St rfl L4.out hps ?_))
      refine (H5.out _).mono ?_; rintro e w5 ⟨rfl, k⟩
      replace K := K.nobt k
      replace hps := hps.nob k
      clear k
      go_upto_region 19 with (first | (refine wpList_al rfl rfl ?_; intro w5a hpa ka hsa; clear hsa) | (refine wpList_st rfl (.tmp 21) _ rfl w5.heap.size Ca noP rfl rfl L5.out rfl hpa ?_; intro w5b hpb kb hsb; clear hsb))
      have kk : Keep Nob w5 w5b := ka.trans kb (fun b hb e => by have h3 : b = w5.heap.size := e; omega)
      have hg21 : w.heap.size ≤ w5.heap.size := K.size
      replace K := K.nobt kk
      replace hps := hps.nob kk
      have hp21 := hpb
      clear kk ka kb hpa hpb
      generalize w5.heap.size = g21 at *
      go_wp2_with (first | (refine wpList_ld rfl (.tmp 17) rfl g17 St rfl L4.out hps ?_))
      refine (H6.out _).mono ?_; rintro e w6 ⟨rfl, k⟩
      replace K := K.nobt k
      replace hps := hps.nob k
      replace hp21 := hp21.nob k
      clear k
      go_upto_region 20 with (first | (refine wpList_al rfl rfl ?_; intro w6a hpa ka hsa; clear hsa) | (refine wpList_st rfl (.tmp 23) _ rfl w6.heap.size Ea noP rfl rfl L6.out rfl hpa ?_; intro w6b hpb kb hsb; clear hsb))
      have kk : Keep Nob w6 w6b := ka.trans kb (fun b hb e => by have h3 : b = w6.heap.size := e; omega)
      have hg23 : w.heap.size ≤ w6.heap.size := K.size
      replace K := K.nobt kk
      replace hps := hps.nob kk
      replace hp21 := hp21.nob kk
      have hp23 := hpb
      clear kk ka kb hpa hpb
      generalize w6.heap.size = g23 at *
      go_wp2_with (first | (refine wpList_ld rfl (.tmp 23) rfl g23 Ea rfl L6.out hp23 ?_))
      refine (H7.out _ (hT.nob K)).mono ?_; rintro e w7 ⟨x7, rfl, ⟨A7, c7, rfl, -⟩, k⟩
      replace K := K.nobt k
      replace hps := hps.nob k
      replace hp21 := hp21.nob k
      replace hp23 := hp23.nob k
      clear k
      go_upto_region 21 with (first | (refine wpList_al rfl rfl ?_; intro w7a hpa ka hsa; clear hsa) | (refine wpList_st rfl (.tmp 25) _ rfl w7.heap.size Rb noP rfl rfl L7.out rfl hpa ?_; intro w7b hpb kb hsb; clear hsb))
      have kk : Keep Nob w7 w7b := ka.trans kb (fun b hb e => by have h3 : b = w7.heap.size := e; omega)
      have hg25 : w.heap.size ≤ w7.heap.size := K.size
      replace K := K.nobt kk
      replace hps := hps.nob kk
      replace hp21 := hp21.nob kk
      replace hp23 := hp23.nob kk
      have hp25 := hpb
      clear kk ka kb hpa hpb
      generalize w7.heap.size = g25 at *
      go_wp2_with (first | (refine wpList_ld rfl (.tmp 17) rfl g17 St rfl L4.out hps ?_))
      refine (H8.out _ (hT.nob K)).mono ?_; rintro e w8 ⟨rfl, k⟩
      replace K := K.nobt k
      replace hps := hps.nob k
      replace hp21 := hp21.nob k
      replace hp23 := hp23.nob k
      replace hp25 := hp25.nob k
      clear k
      have cS := (cells hps).1
      have cC := (cells hp21).1
      rw [SS.out] at cS
      rw [CS.out] at cC
      go_wp2_with fail
      refine (awake_is _ (hT.nob K)).mono ?_; rintro e wz ⟨rfl, kz⟩
      have Kz := K.nobt kz
      go_wp2
      go_ret
      exact ⟨rfl, Kz.below (Nat.le_refl _) (fun _ _ f => f)⟩
    | true =>
      obtain ⟨hin, hi2⟩ : i < n1 ∧ i < 30 := of_decide_eq_true Hbo.out.symm
      obtain ⟨bb, off, oa, ob, oc, rfl, -, -, -, hf⟩ := op14_at W1.out hin
      have HF := Lib.hid hf
      clear hf
      obtain ⟨Q, e, qh, lq, he, hq⟩ := hard_handle HH.out ob oc
      have H1 := Lib.hid (fun w => handle_is P1 HH.out.len ob oc w _ _ qh)
      unfold pv at H1
      have LQ := Lib.hid lq
      have HQ := Lib.hid hq
      clear qh lq hq
      go_upto_region 8 with fail
      go_cut [7, 8] from 49 to 62 (fun s7 s8 wx => ∃ g7, s7 = .pointer (some ⟨g7, 0, none⟩) ∧ s8 = .int .i64 e ∧ Blk wx g7 25 (pc Q) ∧ Blk wx g5 25 (pc P1) ∧ Keep Nob w wx)
      case first =>
        go_wp2_with fail
        replace hp5 := hp5.drew
        replace K := K.drew
        have hL := HH.out.len
        refine wp_region_held_drew (S := (fun w' => Blk w' g5 25 (pc P1) ∧ w'.cell? ⟨bb, off + i * 3 + 1, none⟩ = some (.int .i64 ob) ∧ w'.cell? ⟨bb, off + i * 3 + 2, none⟩ = some (.int .i64 oc))) (by kernel_rfl) ⟨hp5, (HF.out _ K).2.1, (HF.out _ K).2.2⟩ (fun hHeld => ?_)
        refine wpAnyH_take (i := 0) (v := ?_) rfl (by kernel_rfl) (by kernel_rfl) (by kernel_rfl) (fun _ _ _ h => h) (Or.inl ⟨by rfl, ?_⟩) (by assumption) ?_
        rotate_left
        · (intro w hSw; (try dsimp only at hSw); obtain ⟨sa, sb, sc⟩ := hSw; refine exec_load (q := P1) (x := .tmp 5) ?_ ?_ hL sa <;> rfl)
        try simp only [Act.put, List.getElem_toArray, List.getElem_cons_zero, List.getElem_cons_succ, List.setIfInBounds_toArray, List.set_cons_zero, List.set_cons_succ]
        refine wpAnyH_take (i := 1) (v := ?_) rfl (by kernel_rfl) (by kernel_rfl) (by kernel_rfl) (fun _ _ _ h => h) (Or.inl ⟨by rfl, ?_⟩) (by assumption) ?_
        rotate_left
        · (intro w hSw; (try dsimp only at hSw); obtain ⟨sa, sb, sc⟩ := hSw; go_simp; try with_reducible rfl)
        try simp only [Act.put, List.getElem_toArray, List.getElem_cons_zero, List.getElem_cons_succ, List.setIfInBounds_toArray, List.set_cons_zero, List.set_cons_succ]
        refine wpAnyH_take (i := 2) (v := ?_) rfl (by kernel_rfl) (by kernel_rfl) (by kernel_rfl) (fun _ _ _ h => h) (Or.inl ⟨by rfl, ?_⟩) (by assumption) ?_
        rotate_left
        · (intro w hSw; (try dsimp only at hSw); obtain ⟨sa, sb, sc⟩ := hSw; go_simp; try with_reducible rfl)
        try simp only [Act.put, List.getElem_toArray, List.getElem_cons_zero, List.getElem_cons_succ, List.setIfInBounds_toArray, List.set_cons_zero, List.set_cons_succ]
        refine wpAnyH_take (i := 3) (v := ?_) rfl (by kernel_rfl) (by kernel_rfl) (by kernel_rfl) (fun _ _ _ h => h) (Or.inl ⟨by rfl, ?_⟩) (by assumption) ?_
        rotate_left
        · (intro w hSw; (try dsimp only at hSw); obtain ⟨sa, sb, sc⟩ := hSw; go_simp; try with_reducible rfl)
        try simp only [Act.put, List.getElem_toArray, List.getElem_cons_zero, List.getElem_cons_succ, List.setIfInBounds_toArray, List.set_cons_zero, List.set_cons_succ]
        refine wpAnyH_take (i := 4) (v := ?_) rfl (by kernel_rfl) (by kernel_rfl) (by kernel_rfl) (fun _ _ _ h => h) (Or.inl ⟨by rfl, ?_⟩) (by assumption) ?_
        rotate_left
        · (intro w hSw; (try dsimp only at hSw); obtain ⟨sa, sb, sc⟩ := hSw; go_simp; try with_reducible rfl)
        try simp only [Act.put, List.getElem_toArray, List.getElem_cons_zero, List.getElem_cons_succ, List.setIfInBounds_toArray, List.set_cons_zero, List.set_cons_succ]
        refine wpAnyH_take (i := 5) (v := ?_) rfl (by kernel_rfl) (by kernel_rfl) (by kernel_rfl) (fun _ _ _ h => h) (Or.inl ⟨by rfl, ?_⟩) (by assumption) ?_
        rotate_left
        · (intro w hSw; (try dsimp only at hSw); obtain ⟨sa, sb, sc⟩ := hSw; go_simp; try with_reducible rfl)
        try simp only [Act.put, List.getElem_toArray, List.getElem_cons_zero, List.getElem_cons_succ, List.setIfInBounds_toArray, List.set_cons_zero, List.set_cons_succ]
        refine wpAnyH_take (i := 6) (v := ?_) rfl (by kernel_rfl) (by kernel_rfl) (by kernel_rfl) (fun _ _ _ h => h) (Or.inl ⟨by rfl, ?_⟩) (by assumption) ?_
        rotate_left
        · (intro w hSw; (try dsimp only at hSw); obtain ⟨sa, sb, sc⟩ := hSw; go_simp; try with_reducible rfl)
        try simp only [Act.put, List.getElem_toArray, List.getElem_cons_zero, List.getElem_cons_succ, List.setIfInBounds_toArray, List.set_cons_zero, List.set_cons_succ]
        refine wpAnyH_take (i := 7) (v := ?_) rfl (by kernel_rfl) (by kernel_rfl) (by kernel_rfl) (fun _ _ _ h => h) (Or.inl ⟨by rfl, ?_⟩) (by assumption) ?_
        rotate_left
        · (intro w hSw; (try dsimp only at hSw); obtain ⟨sa, sb, sc⟩ := hSw; go_simp; try with_reducible rfl)
        try simp only [Act.put, List.getElem_toArray, List.getElem_cons_zero, List.getElem_cons_succ, List.setIfInBounds_toArray, List.set_cons_zero, List.set_cons_succ]
        refine wpAnyH_take (i := 8) (v := ?_) rfl (by kernel_rfl) (by kernel_rfl) (by kernel_rfl) (fun _ _ _ h => h) (Or.inl ⟨by rfl, ?_⟩) (by assumption) ?_
        rotate_left
        · (intro w hSw; (try dsimp only at hSw); obtain ⟨sa, sb, sc⟩ := hSw; go_simp; try with_reducible rfl)
        try simp only [Act.put, List.getElem_toArray, List.getElem_cons_zero, List.getElem_cons_succ, List.setIfInBounds_toArray, List.set_cons_zero, List.set_cons_succ]
        refine wpAnyH_take (i := 9) (v := ?_) rfl (by kernel_rfl) (by kernel_rfl) (by kernel_rfl) (fun _ _ _ h => h) (Or.inl ⟨by rfl, ?_⟩) (by assumption) ?_
        rotate_left
        · (intro w hSw; (try dsimp only at hSw); obtain ⟨sa, sb, sc⟩ := hSw; go_simp; try with_reducible rfl)
        try simp only [Act.put, List.getElem_toArray, List.getElem_cons_zero, List.getElem_cons_succ, List.setIfInBounds_toArray, List.set_cons_zero, List.set_cons_succ]
        refine wpAnyH_take (i := 10) (v := ?_) rfl (by kernel_rfl) (by kernel_rfl) (by kernel_rfl) (fun _ _ _ h => h) (Or.inl ⟨by rfl, ?_⟩) (by assumption) ?_
        rotate_left
        · (intro w hSw; (try dsimp only at hSw); obtain ⟨sa, sb, sc⟩ := hSw; go_simp; try with_reducible rfl)
        try simp only [Act.put, List.getElem_toArray, List.getElem_cons_zero, List.getElem_cons_succ, List.setIfInBounds_toArray, List.set_cons_zero, List.set_cons_succ]
        generalize wr.drew = wd at *
        refine wpAnyH_ready (rs := [11, 15]) (by kernel_rfl) (by simp) ?_
        refine AllReadyH.cons rfl (fun K_ hK => ?_) ?_
        · go_simp
          refine (H1.out _).mono ?_; rintro e wk ⟨rfl, k⟩
          replace K := K.nobt k
          replace hp5 := hp5.nob k
          clear k
          refine hK.out _ _ ?_ (fun hHeld => ?_)
          · exact ⟨hp5, (HF.out _ K).2.1, (HF.out _ K).2.2⟩
          clear hK K_
          try simp only [Act.put, List.getElem_toArray, List.getElem_cons_zero, List.getElem_cons_succ, List.setIfInBounds_toArray, List.set_cons_zero, List.set_cons_succ]
          refine wpAnyH_take (i := 12) (v := ?_) rfl (by kernel_rfl) (by kernel_rfl) (by kernel_rfl) (fun _ _ _ h => h) (Or.inl ⟨by rfl, ?_⟩) (by assumption) ?_
          rotate_left
          · (intro w hSw; (try dsimp only at hSw); obtain ⟨sa, sb, sc⟩ := hSw; go_simp; try with_reducible rfl)
          try simp only [Act.put, List.getElem_toArray, List.getElem_cons_zero, List.getElem_cons_succ, List.setIfInBounds_toArray, List.set_cons_zero, List.set_cons_succ]
          refine wpAnyH_take (i := 13) (v := ?_) rfl (by kernel_rfl) (by kernel_rfl) (by kernel_rfl) (fun _ _ _ h => h) (Or.inl ⟨by rfl, ?_⟩) (by assumption) ?_
          rotate_left
          · (intro w hSw; (try dsimp only at hSw); obtain ⟨sa, sb, sc⟩ := hSw; go_simp; try with_reducible rfl)
          try simp only [Act.put, List.getElem_toArray, List.getElem_cons_zero, List.getElem_cons_succ, List.setIfInBounds_toArray, List.set_cons_zero, List.set_cons_succ]
          refine wpAnyH_take (i := 14) (v := ?_) rfl (by kernel_rfl) (by kernel_rfl) (by kernel_rfl) (fun _ _ _ h => h) (Or.inl ⟨by rfl, ?_⟩) (by assumption) ?_
          rotate_left
          · (intro w hSw; (try dsimp only at hSw); obtain ⟨sa, sb, sc⟩ := hSw; go_simp; try with_reducible rfl)
          try simp only [Act.put, List.getElem_toArray, List.getElem_cons_zero, List.getElem_cons_succ, List.setIfInBounds_toArray, List.set_cons_zero, List.set_cons_succ]
          refine wpAnyH_ready (rs := [15]) (by kernel_rfl) (by simp) ?_
          refine AllReadyH.cons rfl (fun K_ hK => ?_) AllReadyH.nil
          rw [if_pos (by rfl)]
          refine wp_al rfl ?_; intro wn hpn kn hsn; clear hsn
          have hgn : w.heap.size ≤ wk.heap.size := K.size
          have hne : g5 ≠ wk.heap.size := by have := hp5.lt; omega
          replace K := K.nobt kn
          replace hp5 := hp5.nob kn
          clear kn
          generalize wk.heap.size = gn at *
          refine hK.out _ _ ?_ (fun hHeld => ?_)
          · exact ⟨hp5, (HF.out _ K).2.1, (HF.out _ K).2.2⟩
          clear hK K_
          try simp only [Act.put, List.getElem_toArray, List.getElem_cons_zero, List.getElem_cons_succ, List.setIfInBounds_toArray, List.set_cons_zero, List.set_cons_succ]
          refine wpAnyH_ready (rs := [16]) (by kernel_rfl) (by simp) ?_
          refine AllReadyH.cons rfl (fun K_ hK => ?_) AllReadyH.nil
          rw [if_pos (by rfl)]
          refine wp_stl rfl rfl rfl LQ.out rfl hpn ?_; intro wm hpm km
          replace K := K.trans km (fun b hb e => by have h3 : b = gn := e; omega)
          replace hp5 := hp5.keep km hne
          refine hK.out _ _ ?_ (fun hHeld => ?_)
          · exact ⟨hp5, (HF.out _ K).2.1, (HF.out _ K).2.2⟩
          clear hK K_
          try simp only [Act.put, List.getElem_toArray, List.getElem_cons_zero, List.getElem_cons_succ, List.setIfInBounds_toArray, List.set_cons_zero, List.set_cons_succ]
          refine wpAnyH_take (i := 17) (v := ?_) rfl (by kernel_rfl) (by kernel_rfl) (by kernel_rfl) (fun _ _ _ h => h) (Or.inl ⟨by rfl, ?_⟩) (by assumption) ?_
          rotate_left
          · (intro w hSw; (try dsimp only at hSw); obtain ⟨sa, sb, sc⟩ := hSw; go_simp; try with_reducible rfl)
          try simp only [Act.put, List.getElem_toArray, List.getElem_cons_zero, List.getElem_cons_succ, List.setIfInBounds_toArray, List.set_cons_zero, List.set_cons_succ]
          refine wpAnyH_done (by kernel_rfl) ?_ _
          clear km
          go_wp2_with fail
          go_meet
          exact ⟨gn, rfl, rfl, hpm, hp5, K⟩
        refine AllReadyH.cons rfl (fun K_ hK => ?_) AllReadyH.nil
        rw [if_pos (by rfl)]
        refine wp_al rfl ?_; intro wn hpn kn hsn; clear hsn
        have hgn : w.heap.size ≤ wd.heap.size := K.size
        have hne : g5 ≠ wd.heap.size := by have := hp5.lt; omega
        replace K := K.nobt kn
        replace hp5 := hp5.nob kn
        clear kn
        generalize wd.heap.size = gn at *
        refine hK.out _ _ ?_ (fun hHeld => ?_)
        · exact ⟨hp5, (HF.out _ K).2.1, (HF.out _ K).2.2⟩
        clear hK K_
        try simp only [Act.put, List.getElem_toArray, List.getElem_cons_zero, List.getElem_cons_succ, List.setIfInBounds_toArray, List.set_cons_zero, List.set_cons_succ]
        refine wpAnyH_ready (rs := [11]) (by kernel_rfl) (by simp) ?_
        refine AllReadyH.cons rfl (fun K_ hK => ?_) AllReadyH.nil
        go_simp
        refine (H1.out _).mono ?_; rintro e wk ⟨rfl, k⟩
        replace K := K.nobt k
        replace hp5 := hp5.nob k
        replace hpn := hpn.nob k
        clear k
        refine hK.out _ _ ?_ (fun hHeld => ?_)
        · exact ⟨hp5, (HF.out _ K).2.1, (HF.out _ K).2.2⟩
        clear hK K_
        try simp only [Act.put, List.getElem_toArray, List.getElem_cons_zero, List.getElem_cons_succ, List.setIfInBounds_toArray, List.set_cons_zero, List.set_cons_succ]
        refine wpAnyH_take (i := 12) (v := ?_) rfl (by kernel_rfl) (by kernel_rfl) (by kernel_rfl) (fun _ _ _ h => h) (Or.inl ⟨by rfl, ?_⟩) (by assumption) ?_
        rotate_left
        · (intro w hSw; (try dsimp only at hSw); obtain ⟨sa, sb, sc⟩ := hSw; go_simp; try with_reducible rfl)
        try simp only [Act.put, List.getElem_toArray, List.getElem_cons_zero, List.getElem_cons_succ, List.setIfInBounds_toArray, List.set_cons_zero, List.set_cons_succ]
        refine wpAnyH_take (i := 13) (v := ?_) rfl (by kernel_rfl) (by kernel_rfl) (by kernel_rfl) (fun _ _ _ h => h) (Or.inl ⟨by rfl, ?_⟩) (by assumption) ?_
        rotate_left
        · (intro w hSw; (try dsimp only at hSw); obtain ⟨sa, sb, sc⟩ := hSw; go_simp; try with_reducible rfl)
        try simp only [Act.put, List.getElem_toArray, List.getElem_cons_zero, List.getElem_cons_succ, List.setIfInBounds_toArray, List.set_cons_zero, List.set_cons_succ]
        refine wpAnyH_take (i := 14) (v := ?_) rfl (by kernel_rfl) (by kernel_rfl) (by kernel_rfl) (fun _ _ _ h => h) (Or.inl ⟨by rfl, ?_⟩) (by assumption) ?_
        rotate_left
        · (intro w hSw; (try dsimp only at hSw); obtain ⟨sa, sb, sc⟩ := hSw; go_simp; try with_reducible rfl)
        try simp only [Act.put, List.getElem_toArray, List.getElem_cons_zero, List.getElem_cons_succ, List.setIfInBounds_toArray, List.set_cons_zero, List.set_cons_succ]
        refine wpAnyH_ready (rs := [16]) (by kernel_rfl) (by simp) ?_
        refine AllReadyH.cons rfl (fun K_ hK => ?_) AllReadyH.nil
        rw [if_pos (by rfl)]
        refine wp_stl rfl rfl rfl LQ.out rfl hpn ?_; intro wm hpm km
        replace K := K.trans km (fun b hb e => by have h3 : b = gn := e; omega)
        replace hp5 := hp5.keep km hne
        refine hK.out _ _ ?_ (fun hHeld => ?_)
        · exact ⟨hp5, (HF.out _ K).2.1, (HF.out _ K).2.2⟩
        clear hK K_
        try simp only [Act.put, List.getElem_toArray, List.getElem_cons_zero, List.getElem_cons_succ, List.setIfInBounds_toArray, List.set_cons_zero, List.set_cons_succ]
        refine wpAnyH_take (i := 17) (v := ?_) rfl (by kernel_rfl) (by kernel_rfl) (by kernel_rfl) (fun _ _ _ h => h) (Or.inl ⟨by rfl, ?_⟩) (by assumption) ?_
        rotate_left
        · (intro w hSw; (try dsimp only at hSw); obtain ⟨sa, sb, sc⟩ := hSw; go_simp; try with_reducible rfl)
        try simp only [Act.put, List.getElem_toArray, List.getElem_cons_zero, List.getElem_cons_succ, List.setIfInBounds_toArray, List.set_cons_zero, List.set_cons_succ]
        refine wpAnyH_done (by kernel_rfl) ?_ _
        clear km
        go_wp2_with fail
        go_meet
        exact ⟨gn, rfl, rfl, hpm, hp5, K⟩
      case rest =>
      obtain ⟨g7, rfl, rfl, hp7, hq5, Kq⟩ := hcut
      clear hp5 K H1
      have K := Kq
      have hp5 := hq5
      clear Kq hq5
      go_upto_if 64 with fail
      go_cut [] from 64 to 65 (fun wx => ∃ P2, Hard P2 ∧ Blk wx g5 25 (pc P2) ∧ Keep Nob w wx)
      case first =>
        rcases he with h | h
        · have hd := HQ.out h
          have h0 : (e == 0) = true := by rw [h]; rfl
          clear h
          go_wp2_with (first | (refine wpList_ld rfl (.tmp 7) rfl g7 Q rfl LQ.out hp7 ?_) | (refine wpList_st rfl (.tmp 5) _ rfl g5 Q P1 rfl rfl LQ.out HH.out.len hp5 ?_; intro vs hps ks hss; clear hss))
          go_meet
          exact ⟨Q, hd, hps, K.trans ks (fun b hb e => by have h3 : b = g5 := e; omega)⟩
        · have h0 : (e == 0) = false := by rw [h]; rfl
          clear h
          go_wp2_with fail
          go_meet
          exact ⟨P1, HH.out, hp5, K⟩
      case rest =>
      obtain ⟨P2, hh2, hq5, Kq⟩ := hcut
      clear hp5 K hp7 HQ LQ he HH
      have K := Kq
      have hp5 := hq5
      have HH := Lib.hid hh2
      clear Kq hq5 hh2
      obtain ⟨Q2, o2, e2, qm, lq, he2, hq⟩ := hard_mask HH.out ob
      have H1 := Lib.hid (fun w => mask_is P2 HH.out.len ob w _ _ _ qm)
      unfold pv at H1
      have LQ := Lib.hid lq
      have HQ := Lib.hid hq
      clear qm lq hq
      go_upto_region 11 with fail
      go_cut [9, 11] from 67 to 76 (fun s9 s11 wx => ∃ g9, s9 = .pointer (some ⟨g9, 0, none⟩) ∧ s11 = .int .i64 e2 ∧ Blk wx g9 25 (pc Q2) ∧ Blk wx g5 25 (pc P2) ∧ Keep Nob w wx)
      case first =>
        go_wp2_with fail
        replace hp5 := hp5.drew
        replace K := K.drew
        have hL := HH.out.len
        refine wp_region_held_drew (S := (fun w' => Blk w' g5 25 (pc P2) ∧ w'.cell? ⟨bb, off + i * 3 + 1, none⟩ = some (.int .i64 ob))) (by kernel_rfl) ⟨hp5, (HF.out _ K).2.1⟩ (fun hHeld => ?_)
        refine wpAnyH_take (i := 0) (v := ?_) rfl (by kernel_rfl) (by kernel_rfl) (by kernel_rfl) (fun _ _ _ h => h) (Or.inl ⟨by rfl, ?_⟩) (by assumption) ?_
        rotate_left
        · (intro w hSw; (try dsimp only at hSw); obtain ⟨sa, sb⟩ := hSw; refine exec_load (q := P2) (x := .tmp 5) ?_ ?_ hL sa <;> rfl)
        try simp only [Act.put, List.getElem_toArray, List.getElem_cons_zero, List.getElem_cons_succ, List.setIfInBounds_toArray, List.set_cons_zero, List.set_cons_succ]
        refine wpAnyH_take (i := 1) (v := ?_) rfl (by kernel_rfl) (by kernel_rfl) (by kernel_rfl) (fun _ _ _ h => h) (Or.inl ⟨by rfl, ?_⟩) (by assumption) ?_
        rotate_left
        · (intro w hSw; (try dsimp only at hSw); obtain ⟨sa, sb⟩ := hSw; go_simp; try with_reducible rfl)
        try simp only [Act.put, List.getElem_toArray, List.getElem_cons_zero, List.getElem_cons_succ, List.setIfInBounds_toArray, List.set_cons_zero, List.set_cons_succ]
        refine wpAnyH_take (i := 2) (v := ?_) rfl (by kernel_rfl) (by kernel_rfl) (by kernel_rfl) (fun _ _ _ h => h) (Or.inl ⟨by rfl, ?_⟩) (by assumption) ?_
        rotate_left
        · (intro w hSw; (try dsimp only at hSw); obtain ⟨sa, sb⟩ := hSw; go_simp; try with_reducible rfl)
        try simp only [Act.put, List.getElem_toArray, List.getElem_cons_zero, List.getElem_cons_succ, List.setIfInBounds_toArray, List.set_cons_zero, List.set_cons_succ]
        refine wpAnyH_take (i := 3) (v := ?_) rfl (by kernel_rfl) (by kernel_rfl) (by kernel_rfl) (fun _ _ _ h => h) (Or.inl ⟨by rfl, ?_⟩) (by assumption) ?_
        rotate_left
        · (intro w hSw; (try dsimp only at hSw); obtain ⟨sa, sb⟩ := hSw; go_simp; try with_reducible rfl)
        try simp only [Act.put, List.getElem_toArray, List.getElem_cons_zero, List.getElem_cons_succ, List.setIfInBounds_toArray, List.set_cons_zero, List.set_cons_succ]
        refine wpAnyH_take (i := 4) (v := ?_) rfl (by kernel_rfl) (by kernel_rfl) (by kernel_rfl) (fun _ _ _ h => h) (Or.inl ⟨by rfl, ?_⟩) (by assumption) ?_
        rotate_left
        · (intro w hSw; (try dsimp only at hSw); obtain ⟨sa, sb⟩ := hSw; go_simp; try with_reducible rfl)
        try simp only [Act.put, List.getElem_toArray, List.getElem_cons_zero, List.getElem_cons_succ, List.setIfInBounds_toArray, List.set_cons_zero, List.set_cons_succ]
        refine wpAnyH_take (i := 5) (v := ?_) rfl (by kernel_rfl) (by kernel_rfl) (by kernel_rfl) (fun _ _ _ h => h) (Or.inl ⟨by rfl, ?_⟩) (by assumption) ?_
        rotate_left
        · (intro w hSw; (try dsimp only at hSw); obtain ⟨sa, sb⟩ := hSw; go_simp; try with_reducible rfl)
        try simp only [Act.put, List.getElem_toArray, List.getElem_cons_zero, List.getElem_cons_succ, List.setIfInBounds_toArray, List.set_cons_zero, List.set_cons_succ]
        generalize wc.drew = wd at *
        refine wpAnyH_ready (rs := [6, 11]) (by kernel_rfl) (by simp) ?_
        refine AllReadyH.cons rfl (fun K_ hK => ?_) ?_
        · go_simp
          refine (H1.out _).mono ?_; rintro e wk ⟨rfl, k⟩
          replace K := K.nobt k
          replace hp5 := hp5.nob k
          clear k
          refine hK.out _ _ ?_ (fun hHeld => ?_)
          · exact ⟨hp5, (HF.out _ K).2.1⟩
          clear hK K_
          try simp only [Act.put, List.getElem_toArray, List.getElem_cons_zero, List.getElem_cons_succ, List.setIfInBounds_toArray, List.set_cons_zero, List.set_cons_succ]
          refine wpAnyH_take (i := 7) (v := ?_) rfl (by kernel_rfl) (by kernel_rfl) (by kernel_rfl) (fun _ _ _ h => h) (Or.inl ⟨by rfl, ?_⟩) (by assumption) ?_
          rotate_left
          · (intro w hSw; (try dsimp only at hSw); obtain ⟨sa, sb⟩ := hSw; go_simp; try with_reducible rfl)
          try simp only [Act.put, List.getElem_toArray, List.getElem_cons_zero, List.getElem_cons_succ, List.setIfInBounds_toArray, List.set_cons_zero, List.set_cons_succ]
          refine wpAnyH_take (i := 8) (v := ?_) rfl (by kernel_rfl) (by kernel_rfl) (by kernel_rfl) (fun _ _ _ h => h) (Or.inl ⟨by rfl, ?_⟩) (by assumption) ?_
          rotate_left
          · (intro w hSw; (try dsimp only at hSw); obtain ⟨sa, sb⟩ := hSw; go_simp; try with_reducible rfl)
          try simp only [Act.put, List.getElem_toArray, List.getElem_cons_zero, List.getElem_cons_succ, List.setIfInBounds_toArray, List.set_cons_zero, List.set_cons_succ]
          refine wpAnyH_take (i := 9) (v := ?_) rfl (by kernel_rfl) (by kernel_rfl) (by kernel_rfl) (fun _ _ _ h => h) (Or.inl ⟨by rfl, ?_⟩) (by assumption) ?_
          rotate_left
          · (intro w hSw; (try dsimp only at hSw); obtain ⟨sa, sb⟩ := hSw; go_simp; try with_reducible rfl)
          try simp only [Act.put, List.getElem_toArray, List.getElem_cons_zero, List.getElem_cons_succ, List.setIfInBounds_toArray, List.set_cons_zero, List.set_cons_succ]
          refine wpAnyH_take (i := 10) (v := ?_) rfl (by kernel_rfl) (by kernel_rfl) (by kernel_rfl) (fun _ _ _ h => h) (Or.inl ⟨by rfl, ?_⟩) (by assumption) ?_
          rotate_left
          · (intro w hSw; (try dsimp only at hSw); obtain ⟨sa, sb⟩ := hSw; go_simp; try with_reducible rfl)
          try simp only [Act.put, List.getElem_toArray, List.getElem_cons_zero, List.getElem_cons_succ, List.setIfInBounds_toArray, List.set_cons_zero, List.set_cons_succ]
          refine wpAnyH_ready (rs := [11]) (by kernel_rfl) (by simp) ?_
          refine AllReadyH.cons rfl (fun K_ hK => ?_) AllReadyH.nil
          rw [if_pos (by rfl)]
          refine wp_al rfl ?_; intro wn hpn kn hsn; clear hsn
          have hgn : w.heap.size ≤ wk.heap.size := K.size
          have hne : g5 ≠ wk.heap.size := by have := hp5.lt; omega
          replace K := K.nobt kn
          replace hp5 := hp5.nob kn
          clear kn
          generalize wk.heap.size = gn at *
          refine hK.out _ _ ?_ (fun hHeld => ?_)
          · exact ⟨hp5, (HF.out _ K).2.1⟩
          clear hK K_
          try simp only [Act.put, List.getElem_toArray, List.getElem_cons_zero, List.getElem_cons_succ, List.setIfInBounds_toArray, List.set_cons_zero, List.set_cons_succ]
          refine wpAnyH_ready (rs := [12]) (by kernel_rfl) (by simp) ?_
          refine AllReadyH.cons rfl (fun K_ hK => ?_) AllReadyH.nil
          rw [if_pos (by rfl)]
          refine wp_stl rfl rfl rfl LQ.out rfl hpn ?_; intro wm hpm km
          replace K := K.trans km (fun b hb e => by have h3 : b = gn := e; omega)
          replace hp5 := hp5.keep km hne
          refine hK.out _ _ ?_ (fun hHeld => ?_)
          · exact ⟨hp5, (HF.out _ K).2.1⟩
          clear hK K_
          try simp only [Act.put, List.getElem_toArray, List.getElem_cons_zero, List.getElem_cons_succ, List.setIfInBounds_toArray, List.set_cons_zero, List.set_cons_succ]
          refine wpAnyH_take (i := 13) (v := ?_) rfl (by kernel_rfl) (by kernel_rfl) (by kernel_rfl) (fun _ _ _ h => h) (Or.inl ⟨by rfl, ?_⟩) (by assumption) ?_
          rotate_left
          · (intro w hSw; (try dsimp only at hSw); obtain ⟨sa, sb⟩ := hSw; go_simp; try with_reducible rfl)
          try simp only [Act.put, List.getElem_toArray, List.getElem_cons_zero, List.getElem_cons_succ, List.setIfInBounds_toArray, List.set_cons_zero, List.set_cons_succ]
          refine wpAnyH_take (i := 14) (v := ?_) rfl (by kernel_rfl) (by kernel_rfl) (by kernel_rfl) (fun _ _ _ h => h) (Or.inl ⟨by rfl, ?_⟩) (by assumption) ?_
          rotate_left
          · (intro w hSw; (try dsimp only at hSw); obtain ⟨sa, sb⟩ := hSw; go_simp; try with_reducible rfl)
          try simp only [Act.put, List.getElem_toArray, List.getElem_cons_zero, List.getElem_cons_succ, List.setIfInBounds_toArray, List.set_cons_zero, List.set_cons_succ]
          refine wpAnyH_done (by kernel_rfl) ?_ _
          clear km
          go_wp2_with fail
          go_meet
          exact ⟨gn, rfl, rfl, hpm, hp5, K⟩
        refine AllReadyH.cons rfl (fun K_ hK => ?_) AllReadyH.nil
        rw [if_pos (by rfl)]
        refine wp_al rfl ?_; intro wn hpn kn hsn; clear hsn
        have hgn : w.heap.size ≤ wd.heap.size := K.size
        have hne : g5 ≠ wd.heap.size := by have := hp5.lt; omega
        replace K := K.nobt kn
        replace hp5 := hp5.nob kn
        clear kn
        generalize wd.heap.size = gn at *
        refine hK.out _ _ ?_ (fun hHeld => ?_)
        · exact ⟨hp5, (HF.out _ K).2.1⟩
        clear hK K_
        try simp only [Act.put, List.getElem_toArray, List.getElem_cons_zero, List.getElem_cons_succ, List.setIfInBounds_toArray, List.set_cons_zero, List.set_cons_succ]
        refine wpAnyH_ready (rs := [6]) (by kernel_rfl) (by simp) ?_
        refine AllReadyH.cons rfl (fun K_ hK => ?_) AllReadyH.nil
        go_simp
        refine (H1.out _).mono ?_; rintro e wk ⟨rfl, k⟩
        replace K := K.nobt k
        replace hp5 := hp5.nob k
        replace hpn := hpn.nob k
        clear k
        refine hK.out _ _ ?_ (fun hHeld => ?_)
        · exact ⟨hp5, (HF.out _ K).2.1⟩
        clear hK K_
        try simp only [Act.put, List.getElem_toArray, List.getElem_cons_zero, List.getElem_cons_succ, List.setIfInBounds_toArray, List.set_cons_zero, List.set_cons_succ]
        refine wpAnyH_take (i := 7) (v := ?_) rfl (by kernel_rfl) (by kernel_rfl) (by kernel_rfl) (fun _ _ _ h => h) (Or.inl ⟨by rfl, ?_⟩) (by assumption) ?_
        rotate_left
        · (intro w hSw; (try dsimp only at hSw); obtain ⟨sa, sb⟩ := hSw; go_simp; try with_reducible rfl)
        try simp only [Act.put, List.getElem_toArray, List.getElem_cons_zero, List.getElem_cons_succ, List.setIfInBounds_toArray, List.set_cons_zero, List.set_cons_succ]
        refine wpAnyH_take (i := 8) (v := ?_) rfl (by kernel_rfl) (by kernel_rfl) (by kernel_rfl) (fun _ _ _ h => h) (Or.inl ⟨by rfl, ?_⟩) (by assumption) ?_
        rotate_left
        · (intro w hSw; (try dsimp only at hSw); obtain ⟨sa, sb⟩ := hSw; go_simp; try with_reducible rfl)
        try simp only [Act.put, List.getElem_toArray, List.getElem_cons_zero, List.getElem_cons_succ, List.setIfInBounds_toArray, List.set_cons_zero, List.set_cons_succ]
        refine wpAnyH_take (i := 9) (v := ?_) rfl (by kernel_rfl) (by kernel_rfl) (by kernel_rfl) (fun _ _ _ h => h) (Or.inl ⟨by rfl, ?_⟩) (by assumption) ?_
        rotate_left
        · (intro w hSw; (try dsimp only at hSw); obtain ⟨sa, sb⟩ := hSw; go_simp; try with_reducible rfl)
        try simp only [Act.put, List.getElem_toArray, List.getElem_cons_zero, List.getElem_cons_succ, List.setIfInBounds_toArray, List.set_cons_zero, List.set_cons_succ]
        refine wpAnyH_take (i := 10) (v := ?_) rfl (by kernel_rfl) (by kernel_rfl) (by kernel_rfl) (fun _ _ _ h => h) (Or.inl ⟨by rfl, ?_⟩) (by assumption) ?_
        rotate_left
        · (intro w hSw; (try dsimp only at hSw); obtain ⟨sa, sb⟩ := hSw; go_simp; try with_reducible rfl)
        try simp only [Act.put, List.getElem_toArray, List.getElem_cons_zero, List.getElem_cons_succ, List.setIfInBounds_toArray, List.set_cons_zero, List.set_cons_succ]
        refine wpAnyH_ready (rs := [12]) (by kernel_rfl) (by simp) ?_
        refine AllReadyH.cons rfl (fun K_ hK => ?_) AllReadyH.nil
        rw [if_pos (by rfl)]
        refine wp_stl rfl rfl rfl LQ.out rfl hpn ?_; intro wm hpm km
        replace K := K.trans km (fun b hb e => by have h3 : b = gn := e; omega)
        replace hp5 := hp5.keep km hne
        refine hK.out _ _ ?_ (fun hHeld => ?_)
        · exact ⟨hp5, (HF.out _ K).2.1⟩
        clear hK K_
        try simp only [Act.put, List.getElem_toArray, List.getElem_cons_zero, List.getElem_cons_succ, List.setIfInBounds_toArray, List.set_cons_zero, List.set_cons_succ]
        refine wpAnyH_take (i := 13) (v := ?_) rfl (by kernel_rfl) (by kernel_rfl) (by kernel_rfl) (fun _ _ _ h => h) (Or.inl ⟨by rfl, ?_⟩) (by assumption) ?_
        rotate_left
        · (intro w hSw; (try dsimp only at hSw); obtain ⟨sa, sb⟩ := hSw; go_simp; try with_reducible rfl)
        try simp only [Act.put, List.getElem_toArray, List.getElem_cons_zero, List.getElem_cons_succ, List.setIfInBounds_toArray, List.set_cons_zero, List.set_cons_succ]
        refine wpAnyH_take (i := 14) (v := ?_) rfl (by kernel_rfl) (by kernel_rfl) (by kernel_rfl) (fun _ _ _ h => h) (Or.inl ⟨by rfl, ?_⟩) (by assumption) ?_
        rotate_left
        · (intro w hSw; (try dsimp only at hSw); obtain ⟨sa, sb⟩ := hSw; go_simp; try with_reducible rfl)
        try simp only [Act.put, List.getElem_toArray, List.getElem_cons_zero, List.getElem_cons_succ, List.setIfInBounds_toArray, List.set_cons_zero, List.set_cons_succ]
        refine wpAnyH_done (by kernel_rfl) ?_ _
        clear km
        go_wp2_with fail
        go_meet
        exact ⟨gn, rfl, rfl, hpm, hp5, K⟩
      case rest =>
      obtain ⟨g9, rfl, rfl, hp9, hq5, Kq⟩ := hcut
      clear hp5 K H1
      have K := Kq
      have hp5 := hq5
      clear Kq hq5
      rcases he2 with h | h
      · have hd := HQ.out h
        have h0 : (e2 == 0) = true := by rw [h]; rfl
        clear h
        go_wp2_with (first | (refine wpList_ld rfl (.tmp 9) rfl g9 Q2 rfl LQ.out hp9 ?_) | (refine wpList_st rfl (.tmp 5) _ rfl g5 Q2 P2 rfl rfl LQ.out HH.out.len hp5 ?_; intro vs hps ks hss; clear hss))
        go_round
        case rel => exact ⟨i + 1, Q2, by omega, by go_num, hd, hps, K.trans ks (fun b hb e => by have h3 : b = g5 := e; omega)⟩
        case measure => simp [intOf]; omega
      · have h0 : (e2 == 0) = false := by rw [h]; rfl
        clear h
        go_wp2_with fail
        go_round
        case rel => exact ⟨i + 1, P2, by omega, by go_num, HH.out, hp5, K⟩
        case measure => simp [intOf]; omega
end Go.Proofs.YtaeiigniakjbpaaDoor
