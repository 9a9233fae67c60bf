/- The walk of SigIgnored. -/
import Derived.Test.YtaeiigniakjbpaaDoorSigW
namespace Go.Proofs.YtaeiigniakjbpaaDoor
open Go.RowKit Sg
set_option linter.unusedVariables false
set_option linter.unusedSimpArgs false
/-- What is told along the law: ignored, raised, caught, raised, left as it comes. -/
theorem ign_all {P : Ps} {n : Int} (h0 : 1 ≤ n) (h1 : n ≤ 8) (hs : P.s = 1 ∨ P.s = 3) (hl : P.f.length = 8) :
    ∃ A B D G H : Ps, raise P n = (A, true) ∧ handle A n 1 = (B, 0) ∧ raise B n = (B, true) ∧ handle B n 2 = (D, 0) ∧ raise D n = (G, true) ∧ handle D n 0 = (H, 0) ∧
      bt B.pe n = false ∧ bt G.pe n = true ∧ bt H.i n = false ∧ bt H.ca n = false ∧ A.f.length = 8 ∧ B.f.length = 8 ∧ D.f.length = 8 ∧ G.f.length = 8 ∧ H.f.length = 8 := by
  have hsg : sign n = true := decide_eq_true (by omega)
  have hfr : free n = true := by
    unfold free
    rw [hsg]
    simp
    omega
  have n9 : ¬ n = 9 := by omega
  have n14 : ¬ n = 14 := by omega
  have n15 : ¬ n = 15 := by omega
  have ht : ∀ Q : Ps, (Q.s = 1 ∨ Q.s = 3) → told Q = true := fun Q h => by
    unfold told
    rcases h with h | h <;> rw [h] <;> rfl
  have hr : ∀ Q : Ps, (Q.s = 1 ∨ Q.s = 3) → raise Q n = ({ Q with pe := rpe Q n }, true) := fun Q h => by
    unfold raise
    rw [hsg, ht Q h, Bool.and_self, if_pos rfl, if_neg n14, if_neg n15, if_neg n9]
  have e1 : ¬ (1 : Int) = 0 := by decide
  have e2 : ¬ (2 : Int) = 0 := by decide
  have e3 : ¬ (2 : Int) = 1 := by decide
  have nn : (n == n) = true := by simp
  have b9 : (n == 9) = false := by simpa using n9
  have b14 : (n == 14) = false := by simpa using n14
  have hA := hr P hs
  generalize ({ P with pe := rpe P n } : Ps) = A at hA
  have hAs : A.s = 1 ∨ A.s = 3 := by
    have := congrArg (fun x => x.1.s) hA
    rw [hr P hs] at this
    exact this ▸ hs
  have hAl : A.f.length = 8 := by
    have := raise_len hl n
    rwa [hA] at this
  have hB : handle A n 1 = ({ A with i := wi (wo A.i n) n, ca := wo A.ca n, pe := wo A.pe n }, 0) := by
    unfold handle
    rw [hfr, if_pos rfl, if_neg e1, if_pos rfl]
  obtain ⟨B, hBe⟩ : ∃ B : Ps, B = { A with i := wi (wo A.i n) n, ca := wo A.ca n, pe := wo A.pe n } := ⟨_, rfl⟩
  rw [← hBe] at hB
  obtain ⟨D, hDe⟩ : ∃ D : Ps, D = { B with i := wo B.i n, ca := wi (wo B.ca n) n } := ⟨_, rfl⟩
  have hBi : bt (wi (wo A.i n) n) n = true := by rw [bt_wi _ (by omega) (by omega) (by omega) (by omega), nn, Bool.or_true]
  have hBp : bt (wo A.pe n) n = false := by rw [bt_wo _ (by omega) (by omega) (by omega) (by omega), nn]; simp
  have hBs : B.s = 1 ∨ B.s = 3 := by rw [hBe]; exact hAs
  have hDs : D.s = 1 ∨ D.s = 3 := by rw [hDe]; exact hBs
  have hBl : B.f.length = 8 := by rw [hBe]; exact hAl
  have hDl : D.f.length = 8 := by rw [hDe]; exact hBl
  have hBi : bt B.i n = true := by rw [hBe]; exact hBi
  have hBp : bt B.pe n = false := by rw [hBe]; exact hBp
  have hDi : bt D.i n = false := by rw [hDe]; show bt (wo B.i n) n = false; rw [bt_wo _ (by omega) (by omega) (by omega) (by omega), nn]; simp
  clear hBe
  refine ⟨A, B, D, { D with pe := rpe D n }, { D with i := wo D.i n, ca := wo D.ca n }, hA, hB, ?_, ?_, hr _ hDs, ?_, hBp, ?_, ?_, ?_, hAl, hBl, hDl, hDl, hDl⟩
  · rw [hr _ hBs]
    have e : rpe B n = B.pe := by
      unfold rpe
      rw [bt_off _ _ (by omega) (by omega), bt_hard (by omega) (by omega), hBi, b9, b14]
      rfl
    rw [e]
  · rw [hDe]
    unfold handle
    rw [hfr, if_pos rfl, if_neg e2, if_neg e3, if_pos rfl]
  · unfold handle
    rw [hfr, if_pos rfl, if_pos rfl]
  · show bt (rpe D n) n = true
    unfold rpe
    have hi : bt (bits .andNot .i64 D.i 16896) n = false := by
      rw [bt_off _ _ (by omega) (by omega), hDi]
      rfl
    rw [hi, if_neg (by simp)]
    rw [bt_wi _ (by omega) (by omega) (by omega) (by omega), nn, Bool.or_true]
  · show bt (wo _ n) n = false
    rw [bt_wo _ (by omega) (by omega) (by omega) (by omega), nn]; simp
  · show bt (wo _ n) n = false
    rw [bt_wo _ (by omega) (by omega) (by omega) (by omega), nn]; simp
set_option maxHeartbeats 8000000 in
set_option maxRecDepth 100000 in
theorem SigIgnored_walk (w : World) (hT : Tb w) (A0 : Option Addr) (n0 c0 : Nat) (x0 : Ty.den (.sl 8 (.int .i64))) (w0 : Holds w (.sl 8 (.int .i64)) x0 [.slice A0 n0 c0]) (a1 : Int) (w1 : (Lit.int .i64 a1).wf = true) :
    Calls Tryd.prog 3 #[.slice A0 n0 c0, .int .i64 a1] w fun e w' => e = .returned (.bool true) ∧ Below w.heap.size w w' := by
  have hr := holds_ints w0
  have hn := holds_len w0
  have hM := made_is A0 n0 c0 x0 w hr (by omega) _ rfl
  have hml := made_flen x0
  have hms := made_s x0
  generalize ofL (Mk.made x0) = P at *
  unfold pv at hM
  have HM := Lib.hid hM
  have HL := Lib.hid hml
  clear hM hml
  have K := Keep.refl Nob w
  go_enter Tryd.func3, Tryd.ntmps3
  go_wp2_with fail
  refine (HM.out).mono ?_; rintro e w1 ⟨rfl, k⟩
  replace K := K.nobt k
  clear k
  go_upto_region 2 with (first | (refine wpList_al rfl rfl ?_; intro w1a hpa ka hsa; clear hsa) | (refine wpList_st rfl (.tmp 5) _ rfl w1.heap.size P noP rfl rfl HL.out rfl hpa ?_; intro w1b hpb kb hsb; clear hsb))
  have kk : Keep Nob w1 w1b := ka.trans kb (fun b hb e => by have h3 : b = w1.heap.size := e; omega)
  have hg5 : w.heap.size ≤ w1.heap.size := K.size
  replace K := K.nobt kk
  have hp5 := hpb
  clear kk ka kb hpa hpb
  generalize w1.heap.size = g5 at *
  have hc := (cells hp5).1
  by_cases h2 : P.s = 2
  · rw [h2] at hc
    go_wp2_with fail
    refine (awake_is _ (hT.nob K)).mono ?_; rintro e wz ⟨rfl, kz⟩
    have Kz := K.nobt kz
    go_wp2
    go_ret
    exact ⟨rfl, Kz.below (Nat.le_refl _) (fun _ _ f => f)⟩
  have hs : P.s = 1 ∨ P.s = 3 := by omega
  clear hms
  obtain ⟨n, hn2⟩ : ∃ n, n = a1 % 8 + 1 := ⟨_, rfl⟩
  have h0 : 1 ≤ n := by omega
  have h1 : n ≤ 8 := by omega
  have he : bits .and .i64 a1 7 = n - 1 := by rw [low3]; omega
  obtain ⟨A, B, D, G, H, qA, qB, qC, qD, qG, qH, b1, b2, b3, b4, lA, lB, lD, lG, lH⟩ := ign_all h0 h1 hs HL.out
  have HA := Lib.hid (fun w => raise_is P HL.out n w _ _ qA)
  have HB := Lib.hid (fun w => handle_is A lA n 1 w _ _ qB)
  have HC := Lib.hid (fun w => raise_is B lB n w _ _ qC)
  have HD := Lib.hid (fun w => handle_is B lB n 2 w _ _ qD)
  have HG := Lib.hid (fun w => raise_is D lD n w _ _ qG)
  have HH := Lib.hid (fun w => handle_is D lD n 0 w _ _ qH)
  have heq := Lib.hid (fun W => eq_pv B B lB lB W)
  unfold pv at HA HB HC HD HG HH heq
  have LA := Lib.hid lA
  have LB := Lib.hid lB
  have LD := Lib.hid lD
  have LG := Lib.hid lG
  have LH := Lib.hid lH
  have bB := Lib.hid (bt_not b1)
  have bG := Lib.hid (bt_yes b2)
  have bI := Lib.hid (bt_not b3)
  have bC := Lib.hid (bt_not b4)
  have hw : IntKind.i64.wrap (n - 1 + 1) = n := by rw [show n - 1 + 1 = n from by omega]; exact wrap_sm (by omega) (by omega)
  have hn3 : 0 ≤ n := by omega
  have hn4 : n ≤ 15 := by omega
  clear qA qB qC qD qG qH b1 b2 b3 b4 lA lB lD lG lH h0 h1 hs hn2
  go_wp2_with (first | (refine wpList_ld rfl (.tmp 5) rfl g5 P rfl HL.out hp5 ?_))
  refine (HA.out _).mono ?_; rintro e w2 ⟨rfl, k⟩
  replace K := K.nobt k
  replace hp5 := hp5.nob k
  clear k
  clear hc he hw
  go_upto_region 6 with (first | (refine wpList_al rfl rfl ?_; intro w2a hpa ka hsa; clear hsa) | (refine wpList_st rfl (.tmp 6) _ rfl w2.heap.size A noP rfl rfl LA.out rfl hpa ?_; intro w2b hpb kb hsb; clear hsb))
  have kk : Keep Nob w2 w2b := ka.trans kb (fun b hb e => by have h3 : b = w2.heap.size := e; omega)
  have hg6 : w.heap.size ≤ w2.heap.size := K.size
  replace K := K.nobt kk
  replace hp5 := hp5.nob kk
  have hp6 := hpb
  clear kk ka kb hpa hpb
  generalize w2.heap.size = g6 at *
  go_wp2_with (first | (refine wpList_ld rfl (.tmp 6) rfl g6 A rfl LA.out hp6 ?_))
  refine (HB.out _).mono ?_; rintro e w3 ⟨rfl, k⟩
  replace K := K.nobt k
  replace hp5 := hp5.nob k
  replace hp6 := hp6.nob k
  clear k
  go_upto_region 7 with (first | (refine wpList_al rfl rfl ?_; intro w3a hpa ka hsa; clear hsa) | (refine wpList_st rfl (.tmp 8) _ rfl w3.heap.size B noP rfl rfl LB.out rfl hpa ?_; intro w3b hpb kb hsb; clear hsb))
  have kk : Keep Nob w3 w3b := ka.trans kb (fun b hb e => by have h3 : b = w3.heap.size := e; omega)
  have hg8 : w.heap.size ≤ w3.heap.size := K.size
  replace K := K.nobt kk
  replace hp5 := hp5.nob kk
  replace hp6 := hp6.nob kk
  have hp8 := hpb
  clear kk ka kb hpa hpb
  generalize w3.heap.size = g8 at *
  go_wp2_with (first | (refine wpList_ld rfl (.tmp 8) rfl g8 B rfl LB.out hp8 ?_))
  refine (HC.out _).mono ?_; rintro e w4 ⟨rfl, k⟩
  replace K := K.nobt k
  replace hp5 := hp5.nob k
  replace hp6 := hp6.nob k
  replace hp8 := hp8.nob k
  clear k
  go_upto_region 8 with (first | (refine wpList_al rfl rfl ?_; intro w4a hpa ka hsa; clear hsa) | (refine wpList_st rfl (.tmp 10) _ rfl w4.heap.size B noP rfl rfl LB.out rfl hpa ?_; intro w4b hpb kb hsb; clear hsb))
  have kk : Keep Nob w4 w4b := ka.trans kb (fun b hb e => by have h3 : b = w4.heap.size := e; omega)
  have hg10 : w.heap.size ≤ w4.heap.size := K.size
  replace K := K.nobt kk
  replace hp5 := hp5.nob kk
  replace hp6 := hp6.nob kk
  replace hp8 := hp8.nob kk
  have hp10 := hpb
  clear kk ka kb hpa hpb
  generalize w4.heap.size = g10 at *
  go_wp2_with (first | (refine wpList_ld rfl (.tmp 10) rfl g10 B rfl LB.out hp10 ?_))
  refine (HD.out _).mono ?_; rintro e w5 ⟨rfl, k⟩
  replace K := K.nobt k
  replace hp5 := hp5.nob k
  replace hp6 := hp6.nob k
  replace hp8 := hp8.nob k
  replace hp10 := hp10.nob k
  clear k
  go_upto_region 9 with (first | (refine wpList_al rfl rfl ?_; intro w5a hpa ka hsa; clear hsa) | (refine wpList_st rfl (.tmp 12) _ rfl w5.heap.size D noP rfl rfl LD.out rfl hpa ?_; intro w5b hpb kb hsb; clear hsb))
  have kk : Keep Nob w5 w5b := ka.trans kb (fun b hb e => by have h3 : b = w5.heap.size := e; omega)
  have hg12 : w.heap.size ≤ w5.heap.size := K.size
  replace K := K.nobt kk
  replace hp5 := hp5.nob kk
  replace hp6 := hp6.nob kk
  replace hp8 := hp8.nob kk
  replace hp10 := hp10.nob kk
  have hp12 := hpb
  clear kk ka kb hpa hpb
  generalize w5.heap.size = g12 at *
  go_wp2_with (first | (refine wpList_ld rfl (.tmp 12) rfl g12 D rfl LD.out hp12 ?_))
  refine (HG.out _).mono ?_; rintro e w6 ⟨rfl, k⟩
  replace K := K.nobt k
  replace hp5 := hp5.nob k
  replace hp6 := hp6.nob k
  replace hp8 := hp8.nob k
  replace hp10 := hp10.nob k
  replace hp12 := hp12.nob k
  clear k
  go_upto_region 10 with (first | (refine wpList_al rfl rfl ?_; intro w6a hpa ka hsa; clear hsa) | (refine wpList_st rfl (.tmp 14) _ rfl w6.heap.size G noP rfl rfl LG.out rfl hpa ?_; intro w6b hpb kb hsb; clear hsb))
  have kk : Keep Nob w6 w6b := ka.trans kb (fun b hb e => by have h3 : b = w6.heap.size := e; omega)
  have hg14 : w.heap.size ≤ w6.heap.size := K.size
  replace K := K.nobt kk
  replace hp5 := hp5.nob kk
  replace hp6 := hp6.nob kk
  replace hp8 := hp8.nob kk
  replace hp10 := hp10.nob kk
  replace hp12 := hp12.nob kk
  have hp14 := hpb
  clear kk ka kb hpa hpb
  generalize w6.heap.size = g14 at *
  go_wp2_with (first | (refine wpList_ld rfl (.tmp 12) rfl g12 D rfl LD.out hp12 ?_))
  refine (HH.out _).mono ?_; rintro e w7 ⟨rfl, k⟩
  replace K := K.nobt k
  replace hp5 := hp5.nob k
  replace hp6 := hp6.nob k
  replace hp8 := hp8.nob k
  replace hp10 := hp10.nob k
  replace hp12 := hp12.nob k
  replace hp14 := hp14.nob k
  clear k
  go_upto_region 11 with (first | (refine wpList_al rfl rfl ?_; intro w7a hpa ka hsa; clear hsa) | (refine wpList_st rfl (.tmp 16) _ rfl w7.heap.size H noP rfl rfl LH.out rfl hpa ?_; intro w7b hpb kb hsb; clear hsb))
  have kk : Keep Nob w7 w7b := ka.trans kb (fun b hb e => by have h3 : b = w7.heap.size := e; omega)
  have hg16 : w.heap.size ≤ w7.heap.size := K.size
  replace K := K.nobt kk
  replace hp5 := hp5.nob kk
  replace hp6 := hp6.nob kk
  replace hp8 := hp8.nob kk
  replace hp10 := hp10.nob kk
  replace hp12 := hp12.nob kk
  replace hp14 := hp14.nob kk
  have hp16 := hpb
  clear kk ka kb hpa hpb
  generalize w7.heap.size = g16 at *
  have cB := (cells hp8).2.1
  have cG := (cells hp14).2.1
  have cI := (cells hp16).2.2.2.1
  have cC := (cells hp16).2.2.2.2
  have heq := heq.out
  simp only [decide_true] at heq
  have bB := bB.out
  have bG := bG.out
  have bI := bI.out
  have bC := bC.out
  generalize B.pe = pB at *
  generalize G.pe = pG at *
  generalize H.i = iH at *
  generalize H.ca = cH at *
  go_wp2_with (first | (refine wpList_ldw (by rfl) (.tmp 10) rfl g10 B rfl LB.out hp10 ?_) | (refine wpList_ldw (by rfl) (.tmp 8) rfl g8 B rfl LB.out hp8 ?_))
  refine (awake_is _ (hT.nob K)).mono ?_; rintro e wz ⟨rfl, kz⟩
  have Kz := K.nobt kz
  go_wp2
  go_ret
  exact ⟨rfl, Kz.below (Nat.le_refl _) (fun _ _ f => f)⟩
end Go.Proofs.YtaeiigniakjbpaaDoor
