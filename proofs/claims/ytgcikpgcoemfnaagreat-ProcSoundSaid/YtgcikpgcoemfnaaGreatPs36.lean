import Derived.Test.YtgcikpgcoemfnaaGreatPs35
import Derived.Test.YtgcikpgcoemfnaaGreatPs20
import Derived.Test.YtgcikpgcoemfnaaGreatPs32
set_option maxRecDepth 100000
set_option maxHeartbeats 8000000
set_option linter.unusedVariables false
set_option linter.unusedSimpArgs false
namespace Go.Proofs.YtgcikpgcoemfnaaGreat.Pr
open Go.RowKit Co
section
variable {F : List UInt8 → Prop} {n : Nat} {w w' w1 : World} {K : Kn} {C : Cm} {src : Src} {S S' S2 : Stt}
theorem share_is (h : Ks F n w K C src S) (fds : List Int) (hl : fds.length = 8) (hf : ∀ x ∈ fds, 0 ≤ x ∧ x ≤ 12) (S' : Stt) (E : Int) (hs : ep S fds = (S', E)) :
  Calls Tryz.prog 36 #[.pointer (some ⟨C.p, 0, none⟩), .agg (ab fds).toArray] w fun e w' => e = .returned (.int .i64 E) ∧ Kt F n w K C src S' w' := by
 have H := aa h
 have HL := aa hl
 have HF := aa hf
 have HS := aa hs
 have HC8 := aa (ai hl)
 have HZ12 := aa (ai (n := 12) (l := List.replicate 12 0) rfl)
 have hlv : (Value.agg (ab fds).toArray).cells.toList = ab fds := rfl
 clear h hl hf hs hlv
 go_enter Tryz.func36, Tryz.ntmps36
 go_upto_region 3 with (first
  | (refine af rfl 35 _ rfl (ab fds).toArray rfl ?_; intro w1 hb1 hk1 hs1; have hx1 : Blk w1 w.heap.size 35 (ab fds) := hb1; clear hb1 hs1)
  | (refine flatA12.wpList_al rfl rfl ?_; intro w2 hb2 hk2 hs2; clear hs2; have hx2 := hx1.nob hk2)
  | (refine jf.wpList_ld rfl rfl rfl HC8.out hx2 ?_))
 have HB2 := aa (show Blk w2 w1.heap.size 186 (ab (fz (fds.take 0))) from hb2)
 have HX2 := aa hx2
 have T2 := aa (H.out.still (hk1.nobt hk2))
 have hg1 : w.heap.size < w1.heap.size := hx1.lt
 have HG1 := aa hg1
 generalize w1.heap.size = g1 at *
 clear hb2 hx2 hx1 hk1 hk2 hg1
 go_loopw [16] (fun s16 wx => ∃ k : Nat, k ≤ 8 ∧ s16 = .int .i64 k ∧ Hid (Kt F n w K C src S wx) ∧ Hid (Blk wx w.heap.size 35 (ab fds)) ∧ Hid (Blk wx g1 186 (ab (fz (fds.take k))))) (fun s16 _ => 8 - (intOf s16).toNat)
 case atStart => exact ⟨0, Nat.zero_le _, rfl, T2, HX2, HB2⟩
 case round =>
  obtain ⟨k, hk, rfl, HT, HX, HB⟩ := hrel
  by_cases hlt : (k : Int) < 8
  ·have hix := fun W => Cd.jt fds HL.out k (by omega) W
   obtain ⟨fd, hfd⟩ : ∃ fd, fds.getD k 0 = fd := ⟨_, rfl⟩
   have hgk : fds[k]? = some fd := by
    rw [← hfd, List.getD_eq_getElem?_getD, List.getElem?_eq_getElem (by rw [HL.out]; omega)]
    rfl
   have hbd := HF.out fd (List.mem_of_getElem? hgk)
   rw [hfd] at hix
   clear hfd
   by_cases hz : 0 < fd
   ·obtain ⟨j, rfl⟩ : ∃ j : Nat, fd = (j : Int) + 1 := ⟨(fd - 1).toNat, by omega⟩
    have HSuc := aa (cntL_succ hgk (by omega))
    have hcj := eF HB.out j (by rw [eP]; omega)
    have hfj := HB.out.frozen j
    have hcb : 0 ≤ (fz (fds.take k)).getD j 0 ∧ (fz (fds.take k)).getD j 0 ≤ 8 := by
     rw [dZ _ (by omega)]
     have := List.count_le_length (a := (j : Int) + 1) (l := fds.take k)
     rw [List.length_take] at this
     omega
    obtain ⟨c, hc⟩ : ∃ c, (fz (fds.take k)).getD j 0 = c := ⟨_, rfl⟩
    rw [hc] at hcj hcb HSuc
    have hw1 : wrap64 ((j : Int) + 1 - 1) = (j : Int) := by rw [← IntWalk.i64_left, IntKind.wrap_i64]; omega
    have hw2 : wrap64 (c + 1) = c + 1 := by rw [← IntWalk.i64_left, IntKind.wrap_i64]; omega
    clear hgk hc
    go_upto_region 7 with fail
    have ks : Keep (fun x => x = g1) wr (wr.setCell ⟨g1, j, none⟩ (.int .i64 (c + 1))) := (Keep.refl (fun x => x = g1) wr).setCell ⟨g1, j, none⟩ (.int .i64 (c + 1)) (fun _ => rfl)
    have HB6 := aa (show Blk (wr.setCell ⟨g1, j, none⟩ (.int .i64 (c + 1))) g1 186 (ab (fz (fds.take (k + 1)))) by
     rw [HSuc.out, dF]
     exact HB.out.setCell j _)
    have HT6 := aa (HT.out.st H.out HB.out (by decide) (Nat.le_of_lt HG1.out) ks)
    have HX6 := aa (HX.out.keep ks (by have := HG1.out; omega))
    clear ks hcj hfj hw1 hw2 hix hbd hcb hz
    generalize wr.setCell ⟨g1, j, none⟩ (.int .i64 (c + 1)) = w6 at *
    go_wp2_with fail
    go_roundw
    case rel => exact ⟨k + 1, by omega, by go_num, HT6, HX6, HB6⟩
    case measure => simp [intOf]; omega
   ·obtain rfl : fd = 0 := by omega
    have HZe := aa (cntL_zero hgk)
    clear hgk
    go_wp2_with fail
    go_roundw
    case rel => exact ⟨k + 1, by omega, by go_num, HT, HX, by rw [HZe.out]; exact HB⟩
    case measure => simp [intOf]; omega
  ·obtain ⟨cn, hcn⟩ : ∃ cn, fz fds = cn := ⟨_, rfl⟩
   have HB' := aa (show Blk wr g1 186 (ab cn) by
    have := HB.out
    rw [List.take_of_length_le (by rw [HL.out]; omega), hcn] at this
    exact this)
   have HCn := aa hcn
   unfold ep at HS
   rw [hcn] at HS
   have HCl := aa (show cn.length = 12 by rw [← hcn]; exact eP _)
   have HCb := aa (show ∀ f, f < 12 → 0 ≤ cn.getD f 0 ∧ cn.getD f 0 ≤ 8 from fun f hf => by
    rw [← hcn, dZ _ hf]
    have := List.count_le_length (a := (f : Int) + 1) (l := fds)
    rw [HL.out] at this
    omega)
   have HC12 := aa (ai HCl.out)
   clear hcn HB
   go_upto_region 10 with (first
    | (refine flatF12.wpList_al rfl rfl ?_; intro w7 hb7 hk7 hs7; clear hs7; have hx7 := HX.out.nob hk7)
    | (refine jf.wpList_ld rfl rfl rfl HC8.out hx7 ?_))
   have HF7 := aa (show Blk w7 wr.heap.size 187 (rows (fL S cn (fds.take 0))) from hb7)
   have HX7 := aa hx7
   have HB7 := aa (HB'.out.nob hk7)
   have T7 := aa (HT.out.nob hk7)
   have HG2 := aa (show g1 < wr.heap.size from HB'.out.lt)
   generalize wr.heap.size = g2 at *
   clear hb7 hx7 hk7
   go_loopw [29] (fun s29 wx => ∃ k : Nat, k ≤ 8 ∧ s29 = .int .i64 k ∧ Hid (Kt F n w K C src S wx) ∧ Hid (Blk wx w.heap.size 35 (ab fds)) ∧ Hid (Blk wx g1 186 (ab cn)) ∧ Hid (Blk wx g2 187 (rows (fL S cn (fds.take k)))) ∧ Hid (scan S cn (fds.drop k) = scan S cn fds)) (fun s29 _ => 8 - (intOf s29).toNat)
   case atStart => exact ⟨0, Nat.zero_le _, rfl, T7, HX7, HB7, HF7, aa rfl⟩
   case round =>
    obtain ⟨k, hk, rfl, HT, HX, HB, HFl, HSc⟩ := hrel
    by_cases hlt : (k : Int) < 8
    ·have hix := fun W => Cd.jt fds HL.out k (by omega) W
     obtain ⟨fd, hfd⟩ : ∃ fd, fds.getD k 0 = fd := ⟨_, rfl⟩
     have hgk : fds[k]? = some fd := by
      rw [← hfd, List.getD_eq_getElem?_getD, List.getElem?_eq_getElem (by rw [HL.out]; omega)]
      rfl
     have hbd := HF.out fd (List.mem_of_getElem? hgk)
     have hdr : fds.drop k = fd :: fds.drop (k + 1) := by
      have hk' : k < fds.length := by rw [HL.out]; omega
      rw [List.drop_eq_getElem_cons hk']
      congr 1
      rw [List.getElem?_eq_getElem hk'] at hgk
      simpa using hgk
     rw [hdr] at HSc
     rw [scan_cons] at HSc
     rw [hfd] at hix
     clear hfd hdr
     by_cases hz : fd = 0
     ·subst hz
      rw [if_pos rfl] at HSc
      have HFl2 := aa (show Blk wr g2 187 (rows (fL S cn (fds.take (k + 1)))) by rw [filL_zero hgk]; exact HFl.out)
      clear hgk hbd
      go_wp2_with fail
      go_roundw
      case rel => exact ⟨k + 1, by omega, by go_num, HT, HX, HB, HFl2, HSc⟩
      case measure => simp [intOf]; omega
     ·obtain ⟨j, rfl⟩ : ∃ j : Nat, fd = (j : Int) + 1 := ⟨(fd - 1).toNat, by omega⟩
      rw [if_neg hz, show (j : Int) + 1 - 1 = (j : Int) by omega, Int.toNat_natCast] at HSc
      have HSuc := aa (filL_succ (S := S) (cn := cn) hgk (by omega))
      obtain ⟨v, d, hv⟩ : ∃ v d, S.f (j : Int) = (v, d) := ⟨_, _, rfl⟩
      have hvl : v.length = 4 := by
       obtain ⟨ys, hst, _⟩ := HT.out
       exact lenF hst hv
      have HGood := aa (show d = 1 → Fi.okd v = true from fun e => by
       obtain ⟨ys, hst, _⟩ := HT.out
       exact goodF hst (by rw [hv, e]))
      rw [hv] at HSc
      dsimp only at HSc
      have hnew : newF S cn j = [v.getD 0 0, v.getD 1 0, v.getD 2 0 + cn.getD j 0, v.getD 3 0] := by unfold newF; rw [hv]
      rw [hnew] at HSuc
      have HCall := aa (fun W K' (hK : Ks F n W K' C src S) => sfile_is hK (j : Int) (by unfold Cd.Wf; omega) v d hv)
      have HCv := aa (ai hvl)
      have HZ4 := aa (ai (n := 4) (l := Fi.noP) rfl)
      have hw1 : wrap64 ((j : Int) + 1 - 1) = (j : Int) := by rw [← IntWalk.i64_left, IntKind.wrap_i64]; omega
      have HJ := aa (show j < 12 by omega)
      have hsz := HT.out.kp.size
      clear hgk hnew hv
      go_wp2_with fail
      refine (HT.out.go (HCall.out _)).mono ?_; rintro e w8 ⟨rfl, T8, kp8⟩
      have HX8 := aa (kp8.lb H.out HX.out (Nat.le_refl _))
      have HB8 := aa (kp8.lb H.out HB.out (Nat.le_of_lt HG1.out))
      have HF8 := aa (kp8.lb H.out HFl.out (by have := HG1.out; have := HG2.out; omega))
      have HT8 := aa T8
      have hsz8 := T8.kp.size
      clear T8 kp8 hix hbd
      go_upto_region 14 with (first
       | (refine bn.wpList_al rfl rfl ?_; intro w9 hb9 hk9 hs9; clear hs9)
       | (refine bn.wpList_st rfl rfl rfl rfl HCv.out HZ4.out hb9 ?_; intro w10 hb10 hk10 hs10; clear hs10))
      have HT10 := aa ((HT8.out.nob hk9).st H.out hb9 (by decide) hsz8 hk10)
      have HX10 := aa ((HX8.out.nob hk9).keep hk10 (by have := HX8.out.lt; omega))
      have HB10 := aa ((HB8.out.nob hk9).keep hk10 (by have := HB8.out.lt; omega))
      have HF10 := aa ((HF8.out.nob hk9).keep hk10 (by have := HF8.out.lt; omega))
      have HY10 := aa hb10
      have HG3 := aa (show g1 < w8.heap.size ∧ g2 < w8.heap.size ∧ w.heap.size < w8.heap.size from ⟨HB8.out.lt, HF8.out.lt, HX8.out.lt⟩)
      generalize w8.heap.size = g3 at *
      clear hb9 hk9 hb10 hk10
      by_cases hd : d = 1
      ·subst hd
       rw [if_neg (by decide)] at HSc
       obtain ⟨a0, a1, a2, a3, rfl⟩ := Fi.gA hvl
       have hin := Fi_in (HGood.out rfl)
       have hcb := HCb.out j HJ.out
       simp only [List.getD_cons_zero, List.getD_cons_succ] at HSc HSuc
       have hc2 : w10.cell? ⟨g3, 2, none⟩ = some (.int .i64 a2) := HY10.out.cell 2
       have hf2 := HY10.out.frozen 2
       have hcj := eF HB10.out j (by rw [HCl.out]; exact HJ.out)
       obtain ⟨c, hc⟩ : ∃ c, cn.getD j 0 = c := ⟨_, rfl⟩
       rw [hc] at hcj hcb HSc HSuc
       obtain ⟨r2, hr2⟩ : ∃ r2, a2 + c = r2 := ⟨_, rfl⟩
       have hw2 : wrap64 (a2 + c) = r2 := by rw [← IntWalk.i64_left, IntKind.wrap_i64]; omega
       have hw3 : IntKind.i64.wrap (a2 + c) = r2 := by rw [IntKind.wrap_i64]; omega
       have hj12 : (j : Int) < 12 := by have := HJ.out; omega
       rw [hr2] at HSc HSuc
       obtain ⟨cv, hcv⟩ : ∃ cv, ab [a0, a1, a2, a3] = cv := ⟨_, rfl⟩
       rw [hcv] at HCv HY10 HCall
       have HCv2 := aa hcv
       clear hc hr2 hcv
       go_upto_region 16 with fail
       go_region
       have ks : Keep (fun x => x = g3) w10 (w10.setCell ⟨g3, 2, none⟩ (.int .i64 r2)).drew := ((Keep.refl (fun x => x = g3) w10).setCell ⟨g3, 2, none⟩ (.int .i64 r2) (fun _ => rfl)).trans (Keep.nobdrew _) (fun _ _ f => f.elim)
       have hb11 : Blk (w10.setCell ⟨g3, 2, none⟩ (.int .i64 r2)).drew g3 64 (ab [a0, a1, r2, a3]) := by
        have e : ab [a0, a1, r2, a3] = cv.set 2 (.int .i64 r2) := by rw [← HCv2.out]; rfl
        rw [e]
        exact (HY10.out.setCell 2 (.int .i64 r2)).drew
       have HT11 := aa (HT10.out.st H.out HY10.out (by decide) hsz8 ks)
       have HX11 := aa (HX10.out.keep ks (by have := HG3.out; omega))
       have HB11 := aa (HB10.out.keep ks (by have := HG3.out; omega))
       have HF11 := aa (HF10.out.keep ks (by have := HG3.out; omega))
       clear ks hc2 hf2 hcj hw1 hw2 hw3 hin hcb
       generalize (w10.setCell ⟨g3, 2, none⟩ (.int .i64 r2)).drew = w11 at *
       have q2 : w11.cell? ⟨g3, 2, none⟩ = some (.int .i64 r2) := hb11.cell 2
       have HY11 := aa hb11
       have HC11 := aa (ai (n := 4) (l := [a0, a1, r2, a3]) rfl)
       clear hb11
       by_cases hr : 64 < r2
       ·rw [if_pos hr] at HSc
        have HE := aa (show S = S' ∧ 123 = E by
         have := HS.out
         rw [← HSc.out, if_neg (by decide)] at this
         simpa using this)
        obtain ⟨rfl, rfl⟩ := HE.out
        go_wp2_with fail
        go_ret
        exact ⟨rfl, HT11.out⟩
       ·rw [if_neg hr] at HSc
        obtain ⟨c11, hc11⟩ : ∃ c11, ab [a0, a1, r2, a3] = c11 := ⟨_, rfl⟩
        have HRs := aa (dA (m := 4) (x := [a0, a1, r2, a3]) rfl (l := fL S cn (fds.take k)) (j := j) (jq _ _ _) (by rw [eJ]; exact HJ.out))
        have HRl := aa (show (rows (fL S cn (fds.take k))).length = 48 by
         have h1 := jq S cn (fds.take k)
         have h2 := eJ S cn (fds.take k)
         unfold rows
         rw [List.length_flatten, List.map_map]
         rw [show List.map (List.length ∘ ab) (fL S cn (fds.take k)) = List.replicate 12 4 by
          rw [← h2]
          refine List.eq_replicate_iff.2 ⟨by simp, fun y hy => ?_⟩
          obtain ⟨x, hx, rfl⟩ := List.mem_map.1 hy
          simp [ab, h1 x hx]]
         rfl)
        rw [hc11] at HRs HY11 HC11
        have HC11e := aa hc11
        have hw1 : wrap64 ((j : Int) + 1 - 1) = (j : Int) := by rw [← IntWalk.i64_left, IntKind.wrap_i64]; omega
        clear hc11
        generalize rows (fL S cn (fds.take k)) = rw0 at *
        go_wp2_with (first
         | (refine bn.wpList_ld rfl rfl rfl HC11.out HY11.out ?_)
         | (refine bn.wpList_stm (g := g2) (off := j * 4) (e := 187) (old := rw0) rfl rfl (by rfl) (by rfl) HC11.out HF11.out (by have := HRl.out; have := HJ.out; omega) ?_; intro w12 hb12 hk12 hs12; clear hs12; have HK12 := aa hk12; have HB12 := aa hb12; clear hb12 hk12))
        have HT13 := aa (HT11.out.st H.out HF11.out (by decide) (by have := HG1.out; have := HG2.out; omega) HK12.out)
        have HX13 := aa (HX11.out.keep HK12.out (by have := HG1.out; have := HG2.out; omega))
        have HB13 := aa (HB11.out.keep HK12.out (by have := HG2.out; omega))
        have HF13 := aa (show Blk w12 g2 187 (rows (fL S cn (fds.take (k + 1)))) by
         rw [HSuc.out, HRs.out]
         exact HB12.out)
        go_roundw
        case rel => exact ⟨k + 1, by omega, by go_num, HT13, HX13, HB13, HF13, HSc⟩
        case measure => simp [intOf]; omega
      ·rw [if_pos hd] at HSc
       have HE := aa (show S = S' ∧ 105 = E by
        have := HS.out
        rw [← HSc.out, if_neg (by decide)] at this
        simpa using this)
       obtain ⟨rfl, rfl⟩ := HE.out
       go_wp2_with fail
       go_ret
       exact ⟨rfl, HT10.out⟩
    ·have HE := aa (show shS S cn 12 = S' ∧ 0 = E by
      have h0 := HSc.out
      rw [List.drop_of_length_le (by rw [HL.out]; omega)] at h0
      have h1 : scan S cn fds = 0 := h0.symm
      have := HS.out
      rw [h1, if_pos rfl] at this
      simpa using this)
     have HAll := aa (ku (S := S) (cn := cn) (l := fds) (by
      have h0 := HSc.out
      rw [List.drop_of_length_le (by rw [HL.out]; omega)] at h0
      exact h0.symm))
     have HFl' := aa (show Blk wr g2 187 (rows (fL S cn fds)) by
      have := HFl.out
      rw [List.take_of_length_le (by rw [HL.out]; omega)] at this
      exact this)
     have HMem := aa (show ∀ f : Nat, f < 12 → 0 < cn.getD f 0 → ((f : Int) + 1) ∈ fds from fun f hf hp => by
      rw [← HCn.out, dZ _ hf] at hp
      exact List.count_pos_iff.1 (by omega))
     have HOk := aa (show ∀ f : Nat, f < 12 → 0 < cn.getD f 0 → (S.f (f : Int)).2 = 1 ∧ Fi.okd (newF S cn f) = true from fun f hf hp => by
      obtain ⟨h1, h2⟩ := HAll.out _ (HMem.out f hf hp) (by omega)
      rw [show (f : Int) + 1 - 1 = (f : Int) by omega] at h1 h2
      rw [Int.toNat_natCast] at h2
      refine ⟨h1, ?_⟩
      obtain ⟨ys, hst, _⟩ := HT.out
      have hv : S.f (f : Int) = ((S.f (f : Int)).1, 1) := by rw [← h1]
      have hgd := goodF hst hv
      have hl4 := lenF hst hv
      unfold newF
      generalize (S.f (f : Int)).1 = v at *
      obtain ⟨a0, a1, a2, a3, rfl⟩ := Fi.gA hl4
      simp only [List.getD_cons_zero, List.getD_cons_succ] at h2 ⊢
      rw [Fi.okd_doc] at hgd ⊢
      simp only [Bool.and_eq_true] at hgd ⊢
      obtain ⟨h0, h3, h4, h5, h6⟩ := hgd
      have := Fi.bi h5
      have := (HCb.out f hf).1
      exact ⟨h0, h3, h4, decide_eq_true (by omega), h6⟩)
     go_upto_region 22 with (refine flatA12.wpList_ld rfl rfl rfl HC12.out HB.out ?_)
     have HT0 := aa (show Kt F n w K C src (shS S cn 0) wr from HT.out)
     go_loopw [60] (fun s60 wx => ∃ k : Nat, k ≤ 12 ∧ s60 = .int .i64 k ∧ Hid (Kt F n w K C src (shS S cn k) wx) ∧ Hid (Blk wx g2 187 (rows (fL S cn fds)))) (fun s60 _ => 12 - (intOf s60).toNat)
     case atStart => exact ⟨0, Nat.zero_le _, rfl, HT0, HFl'⟩
     case round =>
      obtain ⟨k, hk, rfl, HT, HFl⟩ := hrel
      by_cases hlt : (k : Int) < 12
      ·have hix := fun W => index12 cn HCl.out k (by omega) W
       have hok := HOk.out k (by omega)
       have hSh : shS S cn (k + 1) = if 0 < cn.getD k 0 then (shS S cn k).setF k (newF S cn k) else shS S cn k := rfl
       have HSh := aa hSh
       have hcb := HCb.out k (by omega)
       obtain ⟨c, hc⟩ : ∃ c, cn.getD k 0 = c := ⟨_, rfl⟩
       have hgt := gw S cn fds (f := k) (by omega)
       have hmm := HMem.out k (by omega)
       rw [hc] at hix hok HSh hcb hmm
       clear hc hSh
       by_cases hp : 0 < c
       ·obtain ⟨h1, h2⟩ := hok hp
        rw [if_pos (hmm hp)] at hgt
        rw [if_pos hp] at HSh
        have hrng : wr.rangeAt g2 (k * 4) (ab (newF S cn k)) := fun q v hv => by
         have hq : q < 4 := by
          have := (List.getElem?_eq_some_iff.1 hv).1
          simpa [ab, newF] using this
         rw [HFl.out.cell, iX (jq S cn fds) hgt hq]
         exact hv
        have hset := fun K' (hK : Ks F n wr K' C src (shS S cn k)) => jH hK (k : Int) (by unfold Cd.Wf; omega) (newF S cn k) rfl true (by rw [shS_far S cn k k (by omega), h1, h2]; rfl)
        have HRg := aa hrng
        have HSet := aa hset
        have HIl := aa (show (ab (newF S cn k)).length = 4 from rfl)
        have hp' : (0 : Int) < c := hp
        clear hok hgt hmm h1 h2 hrng hset hcb
        generalize newF S cn k = nf at *
        go_wp2_with (refine jr (by rfl) 64 _ rfl g2 (k * 4) rfl (ab nf) _ HRg.out Tryz.underlying64 rfl (by rw [HIl.out]; exact bn.i) ?_)
        refine (HT.out.go HSet.out).mono ?_; rintro e w14 ⟨rfl, T14, kp14⟩
        have HT14 := aa (show Kt F n w K C src (shS S cn (k + 1)) w14 by rw [HSh.out]; exact T14)
        have HF14 := aa (kp14.lb H.out HFl.out (by have := HG1.out; have := HG2.out; omega))
        clear T14 kp14
        go_wp2_with fail
        go_roundw
        case rel => exact ⟨k + 1, by omega, by go_num, HT14, HF14⟩
        case measure => simp [intOf]; omega
       ·rw [if_neg hp] at HSh
        obtain rfl : c = 0 := by omega
        have HT14 := aa (show Kt F n w K C src (shS S cn (k + 1)) wr by rw [HSh.out]; exact HT.out)
        clear hok hgt hmm
        go_wp2_with fail
        go_roundw
        case rel => exact ⟨k + 1, by omega, by go_num, HT14, HFl⟩
        case measure => simp [intOf]; omega
      ·have HTe := aa (show Kt F n w K C src S' wr by
        obtain rfl : k = 12 := by omega
        rw [← HE.out.1]
        exact HT.out)
       obtain rfl := HE.out.2
       go_wp2_with fail
       go_ret
       exact ⟨rfl, HTe.out⟩
end
end Go.Proofs.YtgcikpgcoemfnaaGreat.Pr
namespace Go.Proofs.YtgcikpgcoemfnaaGreat.Pr
open Go.RowKit Co
theorem enter_fork1 : ∀ args w, (callFunc 35 args).run Tryz.prog w = .ok (.enter 35 args) w := fun args w => by kernel_rfl
def fw (v : List Int) (i : Int) : List Int := (v.set 1 (i + 1)).set 4 0
def iM (S : Stt) (i : Int) : Stt × (Int × Int) :=
 if (cH (S.p i).1 (S.p i).2).2 = 0 then
  (match (pk S iC 8) with
  | [] => (S, 0, 111)
  | x :: _ =>
   if (ep S ((S.p i).1.drop 8)).2 = 0 then
    (if (decide (((ep S ((S.p i).1.drop 8)).1.p (x.getD 0 0)).2 ≠ 2) && Cd.okd (fw (S.p i).1 i)) then ((ep S ((S.p i).1.drop 8)).1.setP (x.getD 0 0) (fw (S.p i).1 i), x.getD 0 0, 0) else ((ep S ((S.p i).1.drop 8)).1, 0, 105))
   else ((ep S ((S.p i).1.drop 8)).1, 0, (ep S ((S.p i).1.drop 8)).2))
 else (S, 0, 105)
section
variable {F : List UInt8 → Prop} {n : Nat} {w w' w1 : World} {K : Kn} {C : Cm} {src : Src} {S S' S2 : Stt}
theorem fork_all (h : Ks F n w K C src S) (i : Int) (hi : Cd.Wf i) (S' : Stt) (N E : Int) (hs : iM S i = (S', N, E)) :
  Calls Tryz.prog 11 #[.pointer (some ⟨C.p, 0, none⟩), .int .i64 i] w fun e w' => e = .returned (.agg (rv N E false).toArray) ∧ Kt F n w K C src S' w' := by
 obtain ⟨v, d, hv⟩ : ∃ v d, S.p i = (v, d) := ⟨_, _, rfl⟩
 obtain ⟨R, er, hr⟩ : ∃ R er, cH v d = (R, er) := ⟨_, _, rfl⟩
 have hvl := eu h.s hv
 have hrl : R.length = 16 := by
  rcases cG v d with ⟨_, _, e⟩ | e
  ·rw [e] at hr; obtain ⟨rfl, _⟩ := Prod.mk.inj hr; exact hvl
  ·rw [e] at hr; obtain ⟨rfl, _⟩ := Prod.mk.inj hr; rfl
 have her : (er = 0 ∧ R = v ∧ Cd.okd v = true) ∨ er = 105 := by
  rcases cG v d with ⟨_, hd, e⟩ | e
  ·rw [e] at hr
   obtain ⟨e1, e2⟩ := Prod.mk.inj hr
   exact .inl ⟨e2.symm, e1.symm, goodP h.s (show S.p i = (v, 1) by rw [hv, hd])⟩
  ·rw [e] at hr; exact .inr (Prod.mk.inj hr).2.symm
 have hwi := hi
 have HSelf := aa (fun W K' (hK : Ks F n W K' C src S) => gM hK i hwi v d hv R er hr)
 have HP := aa (show ∀ x ∈ pk S iC 8, x.length = 18 ∧ ∃ k : Nat, k < 8 ∧ x.getD 0 0 = (k : Int) from fun x hx => by
  obtain ⟨k, hk, rfl, hp⟩ := ir hx
  exact ⟨by simp [slS, eu h.s (show S.p (k : Int) = ((S.p k).1, (S.p k).2) from rfl)], k, hk, rfl⟩)
 have hlen := pk_len S iC 8
 have H := aa h
 unfold iM at hs
 rw [hv] at hs
 dsimp only at hs
 rw [hr] at hs
 dsimp only at hs
 have HS := aa hs
 have HI := aa (show er = 0 → -9223372036854775808 ≤ i + 1 ∧ i + 1 ≤ 9223372036854775807 from rngS h.s hv hr)
 have HCR := aa (ai hrl)
 have HZ2 := aa (ai (n := 16) (l := Cd.noP) rfl)
 have HV0 := aa (ak 0 0 false)
 obtain ⟨l, hl⟩ : ∃ l, pk S iC 8 = l := ⟨_, rfl⟩
 rw [hl] at HP HS hlen
 have HLd := aa hl
 obtain ⟨ln, hln⟩ : ∃ ln, l.length = ln := ⟨_, rfl⟩
 have HLn := aa hln
 rw [hln] at hlen
 clear h hi hs hv hr hrl hl hln hwi
 go_enter Tryz.func11, Tryz.ntmps11
 go_wp2_with (refine aq.wpList_al rfl rfl ?_; intro w1 hb1 hk1 hs1; clear hs1)
 have T1 := H.out.still hk1
 refine (T1.go (HSelf.out _)).mono ?_; rintro e w2 ⟨rfl, T2, kp2⟩
 have HB2 := aa (kp2.lb H.out hb1 (Nat.le_refl _))
 have HT2 := aa T2
 have hsz := T2.kp.size
 clear T1 T2 kp2 hb1 hk1
 go_upto_region 2 with (first
  | (refine ar.wpList_al rfl rfl ?_; intro w3 hb3 hk3 hs3; clear hs3)
  | (refine ar.wpList_st rfl rfl rfl rfl HCR.out HZ2.out hb3 ?_; intro w4 hb4 hk4 hs4; clear hs4))
 have T4 := aa ((HT2.out.nob hk3).st H.out hb3 (by decide) hsz hk4)
 have HB4 := aa ((HB2.out.nob hk3).keep hk4 (by have := HB2.out.lt; omega))
 have HX4 := aa hb4
 have hg5 : w.heap.size < w2.heap.size := HB2.out.lt
 generalize w2.heap.size = g5 at *
 clear hb3 hk3 hb4 hk4 HT2 HB2
 rcases her with ⟨rfl, rfl, hokv⟩ | rfl
 ·replace HI := aa (HI.out rfl)
  rw [if_pos rfl] at HS
  have HWv := aa (il hvl hokv)
  have HFd := aa (Cd.aH hokv).f
  have HVl := aa hvl
  clear hokv hvl
  go_wp2_with fail
  have hc := T4.out.go (fun K' hK => jU hK 35 #[] iC enter_fork1 (fun W x hx kp => fork1_is x hx W))
  rw [HLd.out, HLn.out] at hc
  refine hc.mono ?_; rintro e w5 ⟨⟨A, cap, rfl, hm⟩, T5, kp5⟩
  have hV5 := hm.1
  rw [HLn.out] at hV5
  have HV5 := aa hV5
  have HO := aa (show ∀ x, Own A x → w.heap.size ≤ x from fun x m => Nat.le_trans T4.out.kp.size (hm.2 x m))
  have HT5 := aa T5
  have HB5 := aa (kp5.lb H.out HB4.out (Nat.le_refl _))
  have HX5 := aa (kp5.lb H.out HX4.out hsz)
  clear hm T5 hc kp5 hV5
  cases l with
  | nil =>
   obtain rfl : ln = 0 := HLn.out.symm
   obtain ⟨rfl, rfl, rfl⟩ : S = S' ∧ 0 = N ∧ 111 = E := by simpa using HS.out
   go_wp2_with (refine aq.wpList_st rfl rfl rfl rfl (ak 0 111 false) HV0.out HB5.out ?_; intro w6 hb6 hk6 hs6; clear hs6)
   refine bodyPost_ret (v := .agg (rv 0 111 false).toArray) (aq.results_one rfl _ (ak 0 111 false) rfl hb6) rfl ?_
   exact ⟨rfl, HT5.out.st H.out HB5.out (by decide) (Nat.le_refl _) hk6⟩
  | cons x l =>
   have hln0 : 0 < ln := by rw [← HLn.out]; simp
   obtain ⟨hxl, k, hk, hxk⟩ := HP.out x (by simp)
   have hs := HS.out
   dsimp only at hs
   rw [hxk] at hs
   obtain ⟨fds, hfds⟩ : ∃ fds, R.drop 8 = fds := ⟨_, rfl⟩
   have hfl : fds.length = 8 := by rw [← hfds, List.length_drop, HVl.out]
   rw [hfds] at hs HFd
   have hrng := du HX5.out 8 8
   rw [show ((ab R).drop 8).take 8 = ab fds by rw [← hfds]; unfold ab; rw [List.map_drop, List.take_of_length_le]; simp [HVl.out]] at hrng
   have HRg := aa hrng
   have HIl := aa (show (ab fds).length = 8 by simp [ab, hfl])
   obtain ⟨S1, e1, hsh⟩ : ∃ S1 e1, ep S fds = (S1, e1) := ⟨_, _, rfl⟩
   rw [hsh] at hs
   dsimp only at hs
   have HSh := aa (fun W K' (hK : Ks F n W K' C src S) => share_is hK fds hfl HFd.out S1 e1 hsh)
   obtain ⟨b, off, hA, hm⟩ := aZ (m := 18) (n := ln) (fun y hy => (HP.out y hy).1) (by decide) HV5.out.reads (k := 0) (x := x) (by simp) hln0
   have HM := aa (show ∀ W, Vec W 94 18 A ln cap (rows (x :: l)) → W.cell? ⟨b, off, none⟩ = some (.int .i64 (k : Int)) from fun W hv => by
    obtain ⟨b2, off2, hA2, hm2⟩ := aZ (m := 18) (n := ln) (fun y hy => (HP.out y hy).1) (by decide) hv.reads (k := 0) (x := x) (by simp) hln0
    rw [hA] at hA2
    simp only [Option.some.injEq, Addr.mk.injEq, and_true] at hA2
    obtain ⟨rfl, rfl⟩ := hA2
    have := hm2 0 (.int .i64 (k : Int)) (by
     rw [← hxk, bg, List.getD_eq_getElem?_getD, List.getElem?_eq_getElem (by omega)]
     rfl)
    simpa using this)
   have HSt := aa hs
   subst hA
   have hln1 : ((ln : Int) == 0) = false := by simp; omega
   have hln2 : (0 : Int) < (ln : Int) := by omega
   clear hm hxk hs hfds hrng hfl hsh
   go_wp2_with (refine wpList_load_mid rfl 35 _ rfl g5 8 rfl (ab fds) _ HRg.out Tryz.underlying35 rfl (by rw [HIl.out]; exact jf.i) ?_)
   refine (HT5.out.go (HSh.out _)).mono ?_; rintro e w6 ⟨rfl, T6, kp6⟩
   have HT6 := aa T6
   have HB6 := aa (kp6.lb H.out HB5.out (Nat.le_refl _))
   have HX6 := aa (kp6.lb H.out HX5.out hsz)
   have HV6 := aa (kp6.vec H.out HV5.out HO.out)
   clear T6 kp6
   by_cases he : e1 = 0
   ·subst he
    rw [if_pos rfl] at HSt
    have hk0 := HM.out w6 HV6.out
    have q1 := eF HX6.out 1 (by rw [HVl.out]; decide)
    have q4 := eF HX6.out 4 (by rw [HVl.out]; decide)
    have f1 := HX6.out.frozen 1
    have f4 := HX6.out.frozen 4
    obtain ⟨y1, hy1⟩ : ∃ y, R.getD 1 0 = y := ⟨_, rfl⟩
    obtain ⟨y4, hy4⟩ : ∃ y, R.getD 4 0 = y := ⟨_, rfl⟩
    rw [hy1] at q1
    rw [hy4] at q4
    have hi1 := HI.out
    obtain ⟨i1, hi1e⟩ : ∃ i1, i + 1 = i1 := ⟨_, rfl⟩
    have hw1 : wrap64 (i + 1) = i1 := by rw [← IntWalk.i64_left, IntKind.wrap_i64]; omega
    have HI1 := aa hi1e
    clear hy1 hy4 hi1 hi1e
    go_upto_region 12 with fail
    have ks : Keep (fun x => x = g5) w6 ((w6.setCell ⟨g5, 1, none⟩ (.int .i64 i1)).setCell ⟨g5, 4, none⟩ (.int .i64 0)) := ((Keep.refl (fun x => x = g5) w6).setCell ⟨g5, 1, none⟩ (.int .i64 i1) (fun _ => rfl)).setCell ⟨g5, 4, none⟩ (.int .i64 0) (fun _ => rfl)
    have hx7 : Blk ((w6.setCell ⟨g5, 1, none⟩ (.int .i64 i1)).setCell ⟨g5, 4, none⟩ (.int .i64 0)) g5 37 (ab (fw R i)) := by
     unfold fw
     rw [HI1.out, dF, dF]
     exact (HX6.out.setCell 1 _).setCell 4 _
    have HX7 := aa hx7
    have HT7 := aa (HT6.out.st H.out HX6.out (by decide) hsz ks)
    have HB7 := aa (HB6.out.keep ks (by omega))
    clear q1 q4 f1 f4 ks hw1 hx7 hk0
    generalize (w6.setCell ⟨g5, 1, none⟩ (.int .i64 i1)).setCell ⟨g5, 4, none⟩ (.int .i64 0) = w7 at *
    have hcl : (fw R i).length = 16 := by unfold fw; rw [List.length_set, List.length_set]; exact HVl.out
    have HCc := aa (ai hcl)
    obtain ⟨ok, hok⟩ : ∃ ok, (decide ((S1.p (k : Int)).2 ≠ 2) && Cd.okd (fw R i)) = ok := ⟨_, rfl⟩
    rw [hok] at HSt
    have HSet := aa (fun W K' (hK : Ks F n W K' C src S1) => bv hK (k : Int) (by unfold Cd.Wf; omega) (fw R i) hcl (fp (fp HWv.out 1 HI.out) 4 wf_0) ok hok)
    clear hok hcl
    generalize fw R i = u at *
    go_wp2_with (refine ar.wpList_ld rfl rfl rfl HCc.out HX7.out ?_)
    refine (HT7.out.go (HSet.out _)).mono ?_; rintro e w8 ⟨rfl, T8, kp8⟩
    have HB8 := aa (kp8.lb H.out HB7.out (Nat.le_refl _))
    have HT8 := aa T8
    clear T8 kp8
    cases ok with
    | true =>
     obtain ⟨rfl, rfl, rfl⟩ : S1.setP k u = S' ∧ (k : Int) = N ∧ 0 = E := by simpa using HSt.out
     have HVr := aa (ak (k : Int) 0 false)
     have HT8' := aa (show Kt F n w K C src (S1.setP k u) w8 from HT8.out)
     go_wp2_with (refine aq.wpList_st rfl rfl rfl rfl HVr.out HV0.out HB8.out ?_; intro w9 hb9 hk9 hs9; clear hs9)
     refine bodyPost_ret (v := .agg (rv (k : Int) 0 false).toArray) (aq.results_one rfl _ HVr.out rfl hb9) rfl ?_
     exact ⟨rfl, HT8'.out.st H.out HB8.out (by decide) (Nat.le_refl _) hk9⟩
    | false =>
     obtain ⟨rfl, rfl, rfl⟩ : S1 = S' ∧ 0 = N ∧ 105 = E := by simpa using HSt.out
     have HT8' := aa (show Kt F n w K C src S1 w8 from HT8.out)
     go_wp2_with (refine aq.wpList_st rfl rfl rfl rfl (ak 0 105 false) HV0.out HB8.out ?_; intro w9 hb9 hk9 hs9; clear hs9)
     refine bodyPost_ret (v := .agg (rv 0 105 false).toArray) (aq.results_one rfl _ (ak 0 105 false) rfl hb9) rfl ?_
     exact ⟨rfl, HT8'.out.st H.out HB8.out (by decide) (Nat.le_refl _) hk9⟩
   ·rw [if_neg he] at HSt
    obtain ⟨rfl, rfl, rfl⟩ : S1 = S' ∧ 0 = N ∧ e1 = E := by simpa using HSt.out
    have HVr := aa (ak 0 e1 false)
    have he2 : (e1 != 0) = true := bne_iff_ne.2 he
    go_wp2_with (refine aq.wpList_st rfl rfl rfl rfl HVr.out HV0.out HB6.out ?_; intro w7 hb7 hk7 hs7; clear hs7)
    refine bodyPost_ret (v := .agg (rv 0 e1 false).toArray) (aq.results_one rfl _ HVr.out rfl hb7) rfl ?_
    exact ⟨rfl, HT6.out.st H.out HB6.out (by decide) (Nat.le_refl _) hk7⟩
 ·rw [if_neg (by decide)] at HS
  obtain ⟨rfl, rfl, rfl⟩ : S = S' ∧ 0 = N ∧ 105 = E := by simpa using HS.out
  go_wp2_with (refine aq.wpList_st rfl rfl rfl rfl (ak 0 105 false) HV0.out HB4.out ?_; intro w5 hb5 hk5 hs5; clear hs5)
  refine bodyPost_ret (v := .agg (rv 0 105 false).toArray) (aq.results_one rfl _ (ak 0 105 false) rfl hb5) rfl ?_
  exact ⟨rfl, T4.out.st H.out HB4.out (by decide) (Nat.le_refl _) hk5⟩
theorem fork_is (h : Ks F n w K C src S) (i : Int) (hi : -9223372036854775808 ≤ i ∧ i + 1 ≤ 9223372036854775807) (S' : Stt) (N E : Int) (hs : iM S i = (S', N, E)) :
  Calls Tryz.prog 11 #[.pointer (some ⟨C.p, 0, none⟩), .int .i64 i] w fun e w' => e = .returned (.agg (rv N E false).toArray) ∧ Kt F n w K C src S' w' :=
 fork_all h i (by unfold Cd.Wf; omega) S' N E hs
end
end Go.Proofs.YtgcikpgcoemfnaaGreat.Pr
namespace Go.Proofs.YtgcikpgcoemfnaaGreat.Au
open Go.RowKit Co
theorem sp16 {α : Type} {l : List α} (h : l.length = 16) : ∃ a0 a1 a2 a3 a4 a5 a6 a7 a8 a9 a10 a11 a12 a13 a14 a15, l = [a0, a1, a2, a3, a4, a5, a6, a7, a8, a9, a10, a11, a12, a13, a14, a15] := by
 match l, h with
 | [a0, a1, a2, a3, a4, a5, a6, a7, a8, a9, a10, a11, a12, a13, a14, a15], _ => exact ⟨_, _, _, _, _, _, _, _, _, _, _, _, _, _, _, _, rfl⟩
theorem sp4 {α : Type} {l : List α} (h : l.length = 4) : ∃ a0 a1 a2 a3, l = [a0, a1, a2, a3] := by
 match l, h with
 | [a0, a1, a2, a3], _ => exact ⟨_, _, _, _, rfl⟩
theorem sp32 {α : Type} {l : List α} (h : l.length = 32) : ∃ a0 a1 a2 a3 a4 a5 a6 a7 a8 a9 a10 a11 a12 a13 a14 a15 a16 a17 a18 a19 a20 a21 a22 a23 a24 a25 a26 a27 a28 a29 a30 a31, l = [a0, a1, a2, a3, a4, a5, a6, a7, a8, a9, a10, a11, a12, a13, a14, a15, a16, a17, a18, a19, a20, a21, a22, a23, a24, a25, a26, a27, a28, a29, a30, a31] := by
 match l, h with
 | [a0, a1, a2, a3, a4, a5, a6, a7, a8, a9, a10, a11, a12, a13, a14, a15, a16, a17, a18, a19, a20, a21, a22, a23, a24, a25, a26, a27, a28, a29, a30, a31], _ => exact ⟨_, _, _, _, _, _, _, _, _, _, _, _, _, _, _, _, _, _, _, _, _, _, _, _, _, _, _, _, _, _, _, _, rfl⟩
theorem bu_rP (k : Int) (l : List Int) (h : l.length = 16) (W : World) : (Instr.build 334 #[(0, .int .i64 k), (1, .agg (ab l).toArray)]).run Tryz.prog W = .ok (.agg (.int .i64 k :: ab l).toArray) W := by
 obtain ⟨a0, a1, a2, a3, a4, a5, a6, a7, a8, a9, a10, a11, a12, a13, a14, a15, rfl⟩ := sp16 h
 exact run_build W _ _ _ (by kernel_rfl)
theorem bu_rF (k : Int) (l : List Int) (h : l.length = 4) (W : World) : (Instr.build 336 #[(0, .int .i64 k), (1, .agg (ab l).toArray)]).run Tryz.prog W = .ok (.agg (.int .i64 k :: ab l).toArray) W := by
 obtain ⟨a0, a1, a2, a3, rfl⟩ := sp4 h
 exact run_build W _ _ _ (by kernel_rfl)
theorem bu_rR (k : Int) (p : Ri.Pp) (h : p.d.length = 32) (W : World) : (Instr.build 338 #[(0, .int .i64 k), (1, .agg (Ri.pc p).toArray)]).run Tryz.prog W = .ok (.agg (.int .i64 k :: Ri.pc p).toArray) W := by
 obtain ⟨h0, c0, r0, s0, d⟩ := p
 obtain ⟨a0, a1, a2, a3, a4, a5, a6, a7, a8, a9, a10, a11, a12, a13, a14, a15, a16, a17, a18, a19, a20, a21, a22, a23, a24, a25, a26, a27, a28, a29, a30, a31, rfl⟩ := sp32 h
 exact run_build W _ _ _ (by kernel_rfl)
theorem bs_rP (cs : List Value) (h : cs.length = 17) (W : World) : (Instr.buildSlice 215 1 #[(0, .agg cs.toArray)]).run Tryz.prog W = .ok (.slice (some ⟨W.heap.size, 0, none⟩) 1 1) (W.alloc (.cells cs.toArray 334)) := by
 match cs, h with
 | a0 :: a1 :: a2 :: a3 :: a4 :: a5 :: a6 :: a7 :: a8 :: a9 :: a10 :: a11 :: a12 :: a13 :: a14 :: a15 :: a16 :: [], _ => go_simp
theorem infF_rP : (Tryz.prog.info? 334).map (fun i => (i.zero, i.size, i.bytes)) = some (some (.agg (rcI (0, Cd.noP)).toArray), 17, 136) := by kernel_rfl
theorem bs_rF (cs : List Value) (h : cs.length = 5) (W : World) : (Instr.buildSlice 217 1 #[(0, .agg cs.toArray)]).run Tryz.prog W = .ok (.slice (some ⟨W.heap.size, 0, none⟩) 1 1) (W.alloc (.cells cs.toArray 336)) := by
 match cs, h with
 | a0 :: a1 :: a2 :: a3 :: a4 :: [], _ => go_simp
theorem infF_rF : (Tryz.prog.info? 336).map (fun i => (i.zero, i.size, i.bytes)) = some (some (.agg (rcI (0, Fi.noP)).toArray), 5, 40) := by kernel_rfl
theorem bs_rR (cs : List Value) (h : cs.length = 37) (W : World) : (Instr.buildSlice 219 1 #[(0, .agg cs.toArray)]).run Tryz.prog W = .ok (.slice (some ⟨W.heap.size, 0, none⟩) 1 1) (W.alloc (.cells cs.toArray 338)) := by
 match cs, h with
 | a0 :: a1 :: a2 :: a3 :: a4 :: a5 :: a6 :: a7 :: a8 :: a9 :: a10 :: a11 :: a12 :: a13 :: a14 :: a15 :: a16 :: a17 :: a18 :: a19 :: a20 :: a21 :: a22 :: a23 :: a24 :: a25 :: a26 :: a27 :: a28 :: a29 :: a30 :: a31 :: a32 :: a33 :: a34 :: a35 :: a36 :: [], _ => go_simp
theorem infF_rR : (Tryz.prog.info? 338).map (fun i => (i.zero, i.size, i.bytes)) = some (some (.agg (rcR (0, Ri.noP)).toArray), 37, 72) := by kernel_rfl
section
variable {ops : Array Oper} {rest : List Oper} {o : Oper} {a : Act} {Q : Exit → Act → World → Prop} {w : World}
theorem ig (hgd : o.guard = none) (t : TypeId) (x y : Operand) (ho : o.op = .build t #[(0, x), (1, y)]) (u v R : Value) (hx : a.eval x = u) (hy : a.eval y = v) (hrun : (Instr.build t #[(0, u), (1, v)]).run Tryz.prog w = .ok R w)
  (h : wpList Tryz.prog ops Q rest (a.put o.dst R) w) : wpList Tryz.prog ops Q (o :: rest) a w := by
 refine wpList_plain hgd fun K hK => ?_
 unfold Oper.wp
 simp [execOp, ho, hx, hy, hrun, Result.andThen]
 exact hK _ _ h
theorem dL (hgd : o.guard = none) (t e : TypeId) (x : Operand) (ho : o.op = .buildSlice t 1 #[(0, x)]) (cs : List Value) (hx : a.eval x = .agg cs.toArray) (hrun : (Instr.buildSlice t 1 #[(0, .agg cs.toArray)]).run Tryz.prog w = .ok (.slice (some ⟨w.heap.size, 0, none⟩) 1 1) (w.alloc (.cells cs.toArray e)))
  (h : ∀ w', Blk w' w.heap.size e cs → Keep Nob w w' → w'.heap.size = w.heap.size + 1 → wpList Tryz.prog ops Q rest (a.put o.dst (.slice (some ⟨w.heap.size, 0, none⟩) 1 1)) w') : wpList Tryz.prog ops Q (o :: rest) a w := by
 refine wpList_plain hgd fun K hK => ?_
 have hh := h _ (Blk.new w e cs) ((Keep.refl Nob w).alloc _) (by simp)
 unfold Oper.wp
 simp [execOp, ho, hx, hrun, Result.andThen]
 exact hK _ _ hh
end
theorem cm_same {C : Cm} {l : List Rf} (h : C.bad = l) : { C with bad := l } = C := by subst h; rfl
theorem Ct.offV {w w' : World} {K K' : Kn} {C C' : Cm} {src : Src} (h : Kc w K C src) (t : Ct w K K' C C' src w') {e sz n cap : Nat} {A : Option Addr} {xs : List Value} (hv : Vec w e sz A n cap xs) (he : ¬ MyT e) : Vec w' e sz A n cap xs :=
 hv.keep t.keep (fun g hg m => by
  obtain ⟨cs, hc⟩ := hv.blk hg
  obtain ⟨l, hl, _⟩ := h.c.map
  rcases m with m | m
  ·exact h.k.mine_ne hc he (.inl m)
  ·exact hl.ne_blk hc m.symm)
theorem kc_row {w w' : World} {K : Kn} {C : Cm} {src : Src} (h : Kc w K C src) {e sz n cap : Nat} {A : Option Addr} {xs : List Value} (hv : Vec w e sz A n cap xs) (he : ¬ MyT e) (hf : ¬ Fix e) (hp : ∀ x, Own A x → C.p ≠ x) (hn : ¬ (0 < C.brs.length)) (k : Keep (Own A) w w') : Kc w' K C src := by
 obtain ⟨l, hl, _⟩ := h.c.map
 refine ⟨h.k.keep k (fun x m => ?_) (fun x hx m => ?_), h.c.keep k (fun m => hp _ m rfl) (fun h0 => absurd h0 hn) (fun m => ?_), h.l, h.ap⟩
 ·obtain ⟨cs, hc⟩ := hv.blk m
  exact ⟨_, _, hc, hf⟩
 ·obtain ⟨cs, hc⟩ := hv.blk m
  exact h.k.mine_ne hc he hx
 ·obtain ⟨cs, hc⟩ := hv.blk m
  exact hl.ne_blk hc rfl
theorem fD {α : Type} (f : α → List Value) (l : List α) (x : α) : rows f (l ++ [x]) = rows f l ++ f x := by simp [rows]
theorem wfk {k : Nat} (h : k ≤ 40) : Cd.Wf (k : Int) := by unfold Cd.Wf; omega
end Go.Proofs.YtgcikpgcoemfnaaGreat.Au
namespace Go.Proofs.YtgcikpgcoemfnaaGreat.Au
open Go.RowKit Co
section
variable {w : World} {K : Kn} {C : Cm} {b : List UInt8}
theorem ld (h : Kc w K C cQ) (hx : K.xs = ff b) (hbr : C.brs = []) (hbad : C.bad = []) (hl : b.length = 492) (hg : fW b) :
  Calls Tryz.prog 141 #[.int .i64 8, .func (.func 13) #[.pointer (some ⟨C.p, 0, none⟩)] #[]] w fun e w' => ∃ A cap, e = .returned (.slice A (there (pAt b) 8).length cap) ∧ Vec w' 334 17 A (there (pAt b) 8).length cap (rows rcI (there (pAt b) 8)) ∧ (∀ x, Own A x → w.heap.size ≤ x) ∧ Ct w K K C C cQ w' := by
 have hnb : C.brs.length = 0 := by rw [hbr]; rfl
 have hget : ∀ W k, Kc W K C cQ → k < 8 → Calls Tryz.prog 13 #[.pointer (some ⟨C.p, 0, none⟩), .int .i64 (k : Nat)] W fun e w' => e = .returned (.tuple #[.agg (ab (pAt b k).1).toArray, .int .i64 (pAt b k).2]) ∧ Ct W K K C C cQ w' := fun W k hW hk => by
  have := proc_is hW (k : Int) (wfk (by omega)) (pAt b k).1 (pAt b k).2 [] (by rw [hx, hnb, hbad]; exact rdP hl hg hk)
  rw [cm_same hbad] at this
  exact this
 have hlen : ∀ k, (pAt b k).1.length = 16 := fun k => Cd.di _
 have hp := h.c.lt.1
 have hT0 := Ct.still h (Keep.refl Nob w)
 have HG := aa hget
 have HP := aa (show C.p < w.heap.size ∧ ¬ (0 < C.brs.length) from ⟨hp, by omega⟩)
 have HLn := aa hlen
 generalize pAt b = gt at *
 have HT0 := aa hT0
 clear hget h hp hnb hlen hx hbr hbad hl hg hT0
 go_enter Tryz.func141, Tryz.ntmps141
 go_wp2_with fail
 go_loopw [5, 10] (fun s5 s10 wx => ∃ (k : Nat) (A : Option Addr) (cap : Nat), k ≤ 8 ∧ s10 = .int .i64 k ∧ s5 = .slice A (there gt k).length cap ∧ Vec wx 334 17 A (there gt k).length cap (rows rcI (there gt k)) ∧ Hid ((∀ x, Own A x → w.heap.size ≤ x) ∧ Ct w K K C C cQ wx)) (fun _ s10 _ => 8 - (intOf s10).toNat)
 case atStart => exact ⟨0, none, 0, Nat.zero_le _, rfl, rfl, Vec.nil _ _ _, aa ⟨fun x ⟨a, e, _⟩ => (by cases e), HT0.out⟩⟩
 case round =>
  obtain ⟨k, A, cap, hk, rfl, rfl, hV, HT⟩ := hrel
  by_cases hlt : (k : Int) < 8
  ·have hcall := HG.out wr k HT.out.2.is (by omega)
   have hle := dP gt k
   have hz := HLn.out k
   have HZ := aa hz
   obtain ⟨d, hd⟩ : ∃ d, (gt k).2 = d := ⟨_, rfl⟩
   rw [hd] at hcall
   have HD := aa hd
   obtain ⟨v, hv⟩ : ∃ v, (gt k).1 = v := ⟨_, rfl⟩
   rw [hv] at hcall HZ
   have HVv := aa hv
   have HV0 := aa hV
   clear hV hd hz hv
   go_wp2_with fail
   refine hcall.mono ?_; rintro e w1 ⟨rfl, t1⟩
   have hV1 := Ct.offV HT.out.2.is t1 HV0.out (by decide)
   have T1 := aa (show Ct w K K C C cQ w1 from HT.out.2.trans t1 (fun _ m => .inl m) rfl (fun _ m _ => m))
   have HV1 := aa hV1
   clear hcall t1 hV1 HV0
   go_upto_region 6 with (first
    | (refine ar.wpList_al rfl rfl ?_; intro w2 hb2 hk2 hs2; clear hs2)
    | (refine ar.wpList_st rfl rfl rfl rfl (ai HZ.out) (ai rfl) hb2 ?_; intro w3 hb3 hk3 hs3; clear hs3))
   have T3 := aa ((T1.out.nob hk2).post hb2 (by decide) (by decide) T1.out.keep.size HP.out.1 (fun h0 => absurd h0 HP.out.2) hk3)
   have HV3 := aa ((HV1.out.nob hk2).keep hk3 (fun x hx e => by
    have := HV1.out.lt x hx
    omega))
   have HB3 := aa hb3
   clear hb2 hk2 hk3 hb3
   by_cases hd1 : d = 1
   ·have hth : there gt (k + 1) = there gt k ++ [(k, v)] := by
     show (if (gt k).2 = 1 then there gt k ++ [(k, (gt k).1)] else there gt k) = _
     rw [HD.out, if_pos hd1, HVv.out]
    have HTh := aa hth
    have hvx := HV3.out
    have hln : (there gt k ++ [(k, v)]).length = (there gt k).length + 1 := by rw [List.length_append]; rfl
    have HLn2 := aa hln
    clear hth hln
    obtain ⟨cs, hcs⟩ : ∃ cs, Value.int .i64 ((k : Nat) : Int) :: ab v = cs := ⟨_, rfl⟩
    have hc1 := gP (n := 16) (x := (k, v)) HZ.out
    rw [show rcI (k, v) = cs from hcs] at hc1
    have hbu := fun W => bu_rP (k : Int) v HZ.out W
    rw [hcs] at hbu
    have hbs := fun W => bs_rP cs hc1.len W
    have HC1 := aa hc1
    have HCS := aa hcs
    clear hc1 hcs
    have HBU := aa hbu
    have HBS := aa hbs
    clear hbu hbs hvx
    go_wp2_with (refine ar.wpList_ld rfl rfl rfl (ai HZ.out) HB3.out ?_; refine ig rfl _ _ _ rfl _ _ _ rfl rfl (HBU.out w3) ?_; refine dL rfl _ 334 _ rfl cs rfl (HBS.out w3) ?_; intro w4 hb4 hk4 hs4; refine aN rfl _ _ 215 rfl 334 17 136 _ Tryz.underlying215 infF_rP rfl (by decide) A (there gt k).length cap _ rfl (HV3.out.nob hk4) (some ⟨w3.heap.size, 0, none⟩) 1 1 cs rfl 17 rfl (aj (n := 17) hb4 HC1.out.len) HC1.out.one (by unfold maxLen; omega) (by omega) ?_; intro A2 c2 w5 hv5 hk5 ho5)
    rw [← HCS.out] at hv5
    have T5 := aa (show Ct w K K C C cQ w5 by
     have t4 := T3.out.nob hk4
     have hown : ∀ x, Own A x → w.heap.size ≤ x := HT.out.1
     refine ⟨?_, t4.keep.trans hk5 (fun x hx m => absurd (hown x m) (by omega)), t4.mine⟩
     exact kc_row t4.is (HV3.out.nob hk4) (by decide) (by decide) (fun x m e => by have := hown x m; have := HP.out.1; omega) HP.out.2 hk5)
    have HF := aa (show ∀ x, Own A2 x → w.heap.size ≤ x from fun x m => by
     rcases ho5 x m with m | m
     ·exact HT.out.1 x m
     ·have := T3.out.keep.size
      have := hk4.size
      omega)
    clear hb4 hk4 hs4 hk5 ho5
    go_roundw
    case rel => exact ⟨k + 1, A2, c2, by omega, by go_num, by rw [HTh.out, HLn2.out], by rw [HTh.out, HLn2.out, fD]; exact hv5, aa ⟨HF.out, T5.out⟩⟩
    case measure => simp [intOf]; omega
   ·have hth : there gt (k + 1) = there gt k := by
     show (if (gt k).2 = 1 then there gt k ++ [(k, (gt k).1)] else there gt k) = _
     rw [HD.out, if_neg hd1]
    have HTh := aa hth
    clear hth
    go_wp2_with fail
    go_roundw
    case rel => exact ⟨k + 1, A, cap, by omega, by go_num, by rw [HTh.out], by rw [HTh.out]; exact HV3.out, aa ⟨HT.out.1, T3.out⟩⟩
    case measure => simp [intOf]; omega
  ·obtain rfl : k = 8 := by omega
   have HF := aa (And.intro hV HT.out)
   clear hV HT
   go_wp2
   go_ret
   exact ⟨A, cap, rfl, HF.out.1, HF.out.2⟩
end
end Go.Proofs.YtgcikpgcoemfnaaGreat.Au
namespace Go.Proofs.YtgcikpgcoemfnaaGreat.Au
open Go.RowKit Co
section
variable {w : World} {K : Kn} {C : Cm} {b : List UInt8}
theorem la (h : Kc w K C cQ) (hx : K.xs = ff b) (hbr : C.brs = []) (hbad : C.bad = []) (hl : b.length = 492) (hg : fW b) :
  Calls Tryz.prog 142 #[.int .i64 12, .func (.func 26) #[.pointer (some ⟨C.p, 0, none⟩)] #[]] w fun e w' => ∃ A cap, e = .returned (.slice A (there (fAt b) 12).length cap) ∧ Vec w' 336 5 A (there (fAt b) 12).length cap (rows rcI (there (fAt b) 12)) ∧ (∀ x, Own A x → w.heap.size ≤ x) ∧ Ct w K K C C cQ w' := by
 have hnb : C.brs.length = 0 := by rw [hbr]; rfl
 have hget : ∀ W k, Kc W K C cQ → k < 12 → Calls Tryz.prog 26 #[.pointer (some ⟨C.p, 0, none⟩), .int .i64 (k : Nat)] W fun e w' => e = .returned (.tuple #[.agg (ab (fAt b k).1).toArray, .int .i64 (fAt b k).2]) ∧ Ct W K K C C cQ w' := fun W k hW hk => by
  have := file_is hW (k : Int) (wfk (by omega)) (fAt b k).1 (fAt b k).2 [] (by rw [hx, hnb, hbad]; exact rdF hl hg hk)
  rw [cm_same hbad] at this
  exact this
 have hlen : ∀ k, (fAt b k).1.length = 4 := fun k => Fi.di _
 have hp := h.c.lt.1
 have hT0 := Ct.still h (Keep.refl Nob w)
 have HG := aa hget
 have HP := aa (show C.p < w.heap.size ∧ ¬ (0 < C.brs.length) from ⟨hp, by omega⟩)
 have HLn := aa hlen
 generalize fAt b = gt at *
 have HT0 := aa hT0
 clear hget h hp hnb hlen hx hbr hbad hl hg hT0
 go_enter Tryz.func142, Tryz.ntmps142
 go_wp2_with fail
 go_loopw [5, 10] (fun s5 s10 wx => ∃ (k : Nat) (A : Option Addr) (cap : Nat), k ≤ 12 ∧ s10 = .int .i64 k ∧ s5 = .slice A (there gt k).length cap ∧ Vec wx 336 5 A (there gt k).length cap (rows rcI (there gt k)) ∧ Hid ((∀ x, Own A x → w.heap.size ≤ x) ∧ Ct w K K C C cQ wx)) (fun _ s10 _ => 12 - (intOf s10).toNat)
 case atStart => exact ⟨0, none, 0, Nat.zero_le _, rfl, rfl, Vec.nil _ _ _, aa ⟨fun x ⟨a, e, _⟩ => (by cases e), HT0.out⟩⟩
 case round =>
  obtain ⟨k, A, cap, hk, rfl, rfl, hV, HT⟩ := hrel
  by_cases hlt : (k : Int) < 12
  ·have hcall := HG.out wr k HT.out.2.is (by omega)
   have hle := dP gt k
   have hz := HLn.out k
   have HZ := aa hz
   obtain ⟨d, hd⟩ : ∃ d, (gt k).2 = d := ⟨_, rfl⟩
   rw [hd] at hcall
   have HD := aa hd
   obtain ⟨v, hv⟩ : ∃ v, (gt k).1 = v := ⟨_, rfl⟩
   rw [hv] at hcall HZ
   have HVv := aa hv
   have HV0 := aa hV
   clear hV hd hz hv
   go_wp2_with fail
   refine hcall.mono ?_; rintro e w1 ⟨rfl, t1⟩
   have hV1 := Ct.offV HT.out.2.is t1 HV0.out (by decide)
   have T1 := aa (show Ct w K K C C cQ w1 from HT.out.2.trans t1 (fun _ m => .inl m) rfl (fun _ m _ => m))
   have HV1 := aa hV1
   clear hcall t1 hV1 HV0
   go_upto_region 6 with (first
    | (refine bn.wpList_al rfl rfl ?_; intro w2 hb2 hk2 hs2; clear hs2)
    | (refine bn.wpList_st rfl rfl rfl rfl (ai HZ.out) (ai rfl) hb2 ?_; intro w3 hb3 hk3 hs3; clear hs3))
   have T3 := aa ((T1.out.nob hk2).post hb2 (by decide) (by decide) T1.out.keep.size HP.out.1 (fun h0 => absurd h0 HP.out.2) hk3)
   have HV3 := aa ((HV1.out.nob hk2).keep hk3 (fun x hx e => by
    have := HV1.out.lt x hx
    omega))
   have HB3 := aa hb3
   clear hb2 hk2 hk3 hb3
   by_cases hd1 : d = 1
   ·have hth : there gt (k + 1) = there gt k ++ [(k, v)] := by
     show (if (gt k).2 = 1 then there gt k ++ [(k, (gt k).1)] else there gt k) = _
     rw [HD.out, if_pos hd1, HVv.out]
    have HTh := aa hth
    have hvx := HV3.out
    have hln : (there gt k ++ [(k, v)]).length = (there gt k).length + 1 := by rw [List.length_append]; rfl
    have HLn2 := aa hln
    clear hth hln
    obtain ⟨cs, hcs⟩ : ∃ cs, Value.int .i64 ((k : Nat) : Int) :: ab v = cs := ⟨_, rfl⟩
    have hc1 := gP (n := 4) (x := (k, v)) HZ.out
    rw [show rcI (k, v) = cs from hcs] at hc1
    have hbu := fun W => bu_rF (k : Int) v HZ.out W
    rw [hcs] at hbu
    have hbs := fun W => bs_rF cs hc1.len W
    have HC1 := aa hc1
    have HCS := aa hcs
    clear hc1 hcs
    have HBU := aa hbu
    have HBS := aa hbs
    clear hbu hbs hvx
    go_wp2_with (refine bn.wpList_ld rfl rfl rfl (ai HZ.out) HB3.out ?_; refine ig rfl _ _ _ rfl _ _ _ rfl rfl (HBU.out w3) ?_; refine dL rfl _ 336 _ rfl cs rfl (HBS.out w3) ?_; intro w4 hb4 hk4 hs4; refine aN rfl _ _ 217 rfl 336 5 40 _ Tryz.underlying217 infF_rF rfl (by decide) A (there gt k).length cap _ rfl (HV3.out.nob hk4) (some ⟨w3.heap.size, 0, none⟩) 1 1 cs rfl 5 rfl (aj (n := 5) hb4 HC1.out.len) HC1.out.one (by unfold maxLen; omega) (by omega) ?_; intro A2 c2 w5 hv5 hk5 ho5)
    rw [← HCS.out] at hv5
    have T5 := aa (show Ct w K K C C cQ w5 by
     have t4 := T3.out.nob hk4
     have hown : ∀ x, Own A x → w.heap.size ≤ x := HT.out.1
     refine ⟨?_, t4.keep.trans hk5 (fun x hx m => absurd (hown x m) (by omega)), t4.mine⟩
     exact kc_row t4.is (HV3.out.nob hk4) (by decide) (by decide) (fun x m e => by have := hown x m; have := HP.out.1; omega) HP.out.2 hk5)
    have HF := aa (show ∀ x, Own A2 x → w.heap.size ≤ x from fun x m => by
     rcases ho5 x m with m | m
     ·exact HT.out.1 x m
     ·have := T3.out.keep.size
      have := hk4.size
      omega)
    clear hb4 hk4 hs4 hk5 ho5
    go_roundw
    case rel => exact ⟨k + 1, A2, c2, by omega, by go_num, by rw [HTh.out, HLn2.out], by rw [HTh.out, HLn2.out, fD]; exact hv5, aa ⟨HF.out, T5.out⟩⟩
    case measure => simp [intOf]; omega
   ·have hth : there gt (k + 1) = there gt k := by
     show (if (gt k).2 = 1 then there gt k ++ [(k, (gt k).1)] else there gt k) = _
     rw [HD.out, if_neg hd1]
    have HTh := aa hth
    clear hth
    go_wp2_with fail
    go_roundw
    case rel => exact ⟨k + 1, A, cap, by omega, by go_num, by rw [HTh.out], by rw [HTh.out]; exact HV3.out, aa ⟨HT.out.1, T3.out⟩⟩
    case measure => simp [intOf]; omega
  ·obtain rfl : k = 12 := by omega
   have HF := aa (And.intro hV HT.out)
   clear hV HT
   go_wp2
   go_ret
   exact ⟨A, cap, rfl, HF.out.1, HF.out.2⟩
end
end Go.Proofs.YtgcikpgcoemfnaaGreat.Au
namespace Go.Proofs.YtgcikpgcoemfnaaGreat.Au
open Go.RowKit Co
section
variable {w : World} {K : Kn} {C : Cm} {b : List UInt8}
theorem iZ (h : Kc w K C cQ) (hx : K.xs = ff b) (hbr : C.brs = []) (hbad : C.bad = []) (hl : b.length = 492) (hg : fW b) :
  Calls Tryz.prog 143 #[.int .i64 4, .func (.func 127) #[.pointer (some ⟨C.p, 0, none⟩)] #[]] w fun e w' => ∃ A cap, e = .returned (.slice A (there (rAt b) 4).length cap) ∧ Vec w' 338 37 A (there (rAt b) 4).length cap (rows rcR (there (rAt b) 4)) ∧ (∀ x, Own A x → w.heap.size ≤ x) ∧ Ct w K K C C cQ w' := by
 have hnb : C.brs.length = 0 := by rw [hbr]; rfl
 have hget : ∀ W k, Kc W K C cQ → k < 4 → Calls Tryz.prog 127 #[.pointer (some ⟨C.p, 0, none⟩), .int .i64 (k : Nat)] W fun e w' => e = .returned (.tuple #[.agg (Ri.pc (rAt b k).1).toArray, .int .i64 (rAt b k).2]) ∧ Ct W K K C C cQ w' := fun W k hW hk => by
  have := pipe_is hW (k : Int) (wfk (by omega)) (rAt b k).1 (rAt b k).2 [] (by rw [hx, hnb, hbad]; exact rdR hl hg hk)
  rw [cm_same hbad] at this
  exact this
 have hlen : ∀ k, (rAt b k).1.d.length = 32 := fun k => Ri.di _
 have hp := h.c.lt.1
 have hT0 := Ct.still h (Keep.refl Nob w)
 have HG := aa hget
 have HP := aa (show C.p < w.heap.size ∧ ¬ (0 < C.brs.length) from ⟨hp, by omega⟩)
 have HLn := aa hlen
 generalize rAt b = gt at *
 have HT0 := aa hT0
 clear hget h hp hnb hlen hx hbr hbad hl hg hT0
 go_enter Tryz.func143, Tryz.ntmps143
 go_wp2_with fail
 go_loopw [5, 10] (fun s5 s10 wx => ∃ (k : Nat) (A : Option Addr) (cap : Nat), k ≤ 4 ∧ s10 = .int .i64 k ∧ s5 = .slice A (there gt k).length cap ∧ Vec wx 338 37 A (there gt k).length cap (rows rcR (there gt k)) ∧ Hid ((∀ x, Own A x → w.heap.size ≤ x) ∧ Ct w K K C C cQ wx)) (fun _ s10 _ => 4 - (intOf s10).toNat)
 case atStart => exact ⟨0, none, 0, Nat.zero_le _, rfl, rfl, Vec.nil _ _ _, aa ⟨fun x ⟨a, e, _⟩ => (by cases e), HT0.out⟩⟩
 case round =>
  obtain ⟨k, A, cap, hk, rfl, rfl, hV, HT⟩ := hrel
  by_cases hlt : (k : Int) < 4
  ·have hcall := HG.out wr k HT.out.2.is (by omega)
   have hle := dP gt k
   have hz := HLn.out k
   have HZ := aa hz
   obtain ⟨d, hd⟩ : ∃ d, (gt k).2 = d := ⟨_, rfl⟩
   rw [hd] at hcall
   have HD := aa hd
   obtain ⟨v, hv⟩ : ∃ v, (gt k).1 = v := ⟨_, rfl⟩
   rw [hv] at hcall HZ
   have HVv := aa hv
   have HV0 := aa hV
   clear hV hd hz hv
   go_wp2_with fail
   refine hcall.mono ?_; rintro e w1 ⟨rfl, t1⟩
   have hV1 := Ct.offV HT.out.2.is t1 HV0.out (by decide)
   have T1 := aa (show Ct w K K C C cQ w1 from HT.out.2.trans t1 (fun _ m => .inl m) rfl (fun _ m _ => m))
   have HV1 := aa hV1
   clear hcall t1 hV1 HV0
   go_upto_region 6 with (first
    | (refine bj.wpList_al rfl rfl ?_; intro w2 hb2 hk2 hs2; clear hs2)
    | (refine bj.wpList_st rfl rfl rfl rfl (aO HZ.out) (aO rfl) hb2 ?_; intro w3 hb3 hk3 hs3; clear hs3))
   have T3 := aa ((T1.out.nob hk2).post hb2 (by decide) (by decide) T1.out.keep.size HP.out.1 (fun h0 => absurd h0 HP.out.2) hk3)
   have HV3 := aa ((HV1.out.nob hk2).keep hk3 (fun x hx e => by
    have := HV1.out.lt x hx
    omega))
   have HB3 := aa hb3
   clear hb2 hk2 hk3 hb3
   by_cases hd1 : d = 1
   ·have hth : there gt (k + 1) = there gt k ++ [(k, v)] := by
     show (if (gt k).2 = 1 then there gt k ++ [(k, (gt k).1)] else there gt k) = _
     rw [HD.out, if_pos hd1, HVv.out]
    have HTh := aa hth
    have hvx := HV3.out
    have hln : (there gt k ++ [(k, v)]).length = (there gt k).length + 1 := by rw [List.length_append]; rfl
    have HLn2 := aa hln
    clear hth hln
    obtain ⟨cs, hcs⟩ : ∃ cs, Value.int .i64 ((k : Nat) : Int) :: Ri.pc v = cs := ⟨_, rfl⟩
    have hc1 := cellsRR (x := (k, v)) HZ.out
    rw [show rcR (k, v) = cs from hcs] at hc1
    have hbu := fun W => bu_rR (k : Int) v HZ.out W
    rw [hcs] at hbu
    have hbs := fun W => bs_rR cs hc1.len W
    have HC1 := aa hc1
    have HCS := aa hcs
    clear hc1 hcs
    have HBU := aa hbu
    have HBS := aa hbs
    clear hbu hbs hvx
    go_wp2_with (refine bj.wpList_ld rfl rfl rfl (aO HZ.out) HB3.out ?_; refine ig rfl _ _ _ rfl _ _ _ rfl rfl (HBU.out w3) ?_; refine dL rfl _ 338 _ rfl cs rfl (HBS.out w3) ?_; intro w4 hb4 hk4 hs4; refine aN rfl _ _ 219 rfl 338 37 72 _ Tryz.underlying219 infF_rR rfl (by decide) A (there gt k).length cap _ rfl (HV3.out.nob hk4) (some ⟨w3.heap.size, 0, none⟩) 1 1 cs rfl 37 rfl (aj (n := 37) hb4 HC1.out.len) HC1.out.one (by unfold maxLen; omega) (by omega) ?_; intro A2 c2 w5 hv5 hk5 ho5)
    rw [← HCS.out] at hv5
    have T5 := aa (show Ct w K K C C cQ w5 by
     have t4 := T3.out.nob hk4
     have hown : ∀ x, Own A x → w.heap.size ≤ x := HT.out.1
     refine ⟨?_, t4.keep.trans hk5 (fun x hx m => absurd (hown x m) (by omega)), t4.mine⟩
     exact kc_row t4.is (HV3.out.nob hk4) (by decide) (by decide) (fun x m e => by have := hown x m; have := HP.out.1; omega) HP.out.2 hk5)
    have HF := aa (show ∀ x, Own A2 x → w.heap.size ≤ x from fun x m => by
     rcases ho5 x m with m | m
     ·exact HT.out.1 x m
     ·have := T3.out.keep.size
      have := hk4.size
      omega)
    clear hb4 hk4 hs4 hk5 ho5
    go_roundw
    case rel => exact ⟨k + 1, A2, c2, by omega, by go_num, by rw [HTh.out, HLn2.out], by rw [HTh.out, HLn2.out, fD]; exact hv5, aa ⟨HF.out, T5.out⟩⟩
    case measure => simp [intOf]; omega
   ·have hth : there gt (k + 1) = there gt k := by
     show (if (gt k).2 = 1 then there gt k ++ [(k, (gt k).1)] else there gt k) = _
     rw [HD.out, if_neg hd1]
    have HTh := aa hth
    clear hth
    go_wp2_with fail
    go_roundw
    case rel => exact ⟨k + 1, A, cap, by omega, by go_num, by rw [HTh.out], by rw [HTh.out]; exact HV3.out, aa ⟨HT.out.1, T3.out⟩⟩
    case measure => simp [intOf]; omega
  ·obtain rfl : k = 4 := by omega
   have HF := aa (And.intro hV HT.out)
   clear hV HT
   go_wp2
   go_ret
   exact ⟨A, cap, rfl, HF.out.1, HF.out.2⟩
end
end Go.Proofs.YtgcikpgcoemfnaaGreat.Au
namespace Go.Proofs.YtgcikpgcoemfnaaGreat.Au
open Go.RowKit Co
def sParent : ByteArray := ⟨#[112, 97, 114, 101, 110, 116]⟩
def sFd : ByteArray := ⟨#[102, 100]⟩
def sRefs : ByteArray := ⟨#[114, 101, 102, 115]⟩
def sPipe : ByteArray := ⟨#[112, 105, 112, 101]⟩
def sEnds : ByteArray := ⟨#[101, 110, 100, 115]⟩
def sBad : ByteArray := ⟨#[98, 97, 100]⟩
def cW (l : List (ByteArray × Bool)) : List ByteArray := (l.filter (·.2)).map (·.1)
def strs (l : List ByteArray) : List Value := l.map Value.string
def PP (b : List UInt8) : List (Nat × List Int) := there (pAt b) 8
def FF (b : List UInt8) : List (Nat × List Int) := there (fAt b) 12
def RR (b : List UInt8) : List (Nat × Ri.Pp) := there (rAt b) 4
def five (v0 v1 v2 v3 v4 : Bool) : List (ByteArray × Bool) := [(sParent, v0), (sFd, v1), (sRefs, v2), (sPipe, v3), (sEnds, v4)]
def asked (b : List UInt8) : List (ByteArray × Bool) := five ((PP b).any (lpB (PP b))) ((PP b).any (lfB (FF b))) ((FF b).any (wrB (PP b))) ((FF b).any (lqB (RR b))) ((RR b).any (weB (FF b)))
def bX (b : List UInt8) : List ByteArray := if b.length = 492 ∧ fv b = [] then cW (asked b) else [sBad]
theorem told_take {l : List (ByteArray × Bool)} {k : Nat} {s : ByteArray} {v : Bool} (h : l[k]? = some (s, v)) : cW (l.take (k + 1)) = cW (l.take k) ++ (if v then [s] else []) := by
 unfold cW
 rw [List.take_add_one, h, List.filter_append, List.map_append]
 cases v <;> rfl
theorem told_le {l : List (ByteArray × Bool)} (k : Nat) : (cW (l.take k)).length ≤ k := by
 unfold cW
 rw [List.length_map]
 exact Nat.le_trans (List.length_filter_le _ _) (by rw [List.length_take]; omega)
theorem small_P {v : List Int} (hl : v.length = 16) (h : Cd.okd v = true) : ∀ x ∈ v, 0 ≤ x ∧ x ≤ 65535 := by
 have B := Cd.aH h
 obtain ⟨a0, a1, a2, a3, a4, a5, a6, a7, f0, f1, f2, f3, f4, f5, f6, f7, rfl⟩ := Cd.aD hl
 have b0 := B.s
 have b1 := B.pa
 have b2 := B.g
 have b3 := B.c
 have b4 := B.pe
 have b5 := B.m
 have b6 := B.i
 have b7 := B.ca
 have bf := B.f
 simp only [List.getD_cons_zero, List.getD_cons_succ] at b0 b1 b2 b3 b4 b5 b6 b7
 intro x hx
 by_cases hd : x ∈ [a0, a1, a2, a3, a4, a5, a6, a7, f0, f1, f2, f3, f4, f5, f6, f7].drop 8
 ·have := bf x hd; omega
 ·simp only [List.drop_succ_cons, List.drop_zero] at hd
  simp only [List.mem_cons, List.not_mem_nil, or_false] at hx hd
  omega
theorem small_F {v : List Int} (hl : v.length = 4) (h : Fi.okd v = true) : ∀ x ∈ v, 0 ≤ x ∧ x ≤ 65535 := by
 have B := Fi.aH h
 obtain ⟨a0, a1, a2, a3, rfl⟩ := Fi.gA hl
 have b0 := B.k
 have b1 := B.pi
 have b2 := B.r
 have b3 := B.f
 simp only [List.getD_cons_zero, List.getD_cons_succ] at b0 b1 b2 b3
 intro x hx
 simp only [List.mem_cons, List.not_mem_nil, or_false] at hx
 omega
theorem PP_ok {b : List UInt8} : ∀ x ∈ PP b, x.1 < 8 ∧ x.2.length = 16 ∧ ∀ v ∈ x.2, 0 ≤ v ∧ v ≤ 65535 := fun x hx => by
 obtain ⟨h1, h2, h3⟩ := bZ.1 hx
 have hd : Cd.dcd ((b.drop (24 * x.1)).take 24) = (x.2, 1) := Prod.ext h3 h2
 obtain ⟨g1, g2, _⟩ := Cd.gD hd
 exact ⟨h1, g1, small_P g1 g2⟩
theorem FF_ok {b : List UInt8} : ∀ x ∈ FF b, x.1 < 12 ∧ x.2.length = 4 ∧ ∀ v ∈ x.2, 0 ≤ v ∧ v ≤ 65535 := fun x hx => by
 obtain ⟨h1, h2, h3⟩ := bZ.1 hx
 have hd : Fi.dcd ((b.drop (192 + 8 * x.1)).take 8) = (x.2, 1) := Prod.ext h3 h2
 obtain ⟨g1, g2, _⟩ := Fi.gD hd
 exact ⟨h1, g1, small_F g1 g2⟩
theorem ri_good {l : List UInt8} {v : Ri.Pp} (h : Ri.dcd l = (v, 1)) : Ri.okd v = true := by
 unfold Ri.dcd at h
 repeat' split at h
 all_goals first | (simp only [Prod.mk.injEq] at h; exact absurd h.2 (by decide)) | skip
 rename_i hg
 simp only [Prod.mk.injEq, and_true] at h
 subst h
 unfold Ri.gd at hg
 rw [Bool.and_eq_true] at hg
 exact hg.1
theorem RR_ok {b : List UInt8} : ∀ x ∈ RR b, x.1 < 4 ∧ x.2.d.length = 32 ∧ 0 ≤ x.2.r ∧ x.2.r ≤ 65535 ∧ 0 ≤ x.2.s ∧ x.2.s ≤ 65535 := fun x hx => by
 obtain ⟨h1, h2, h3⟩ := bZ.1 hx
 have hd : Ri.dcd ((b.drop (288 + 40 * x.1)).take 40) = (x.2, 1) := Prod.ext h3 h2
 have hl := Ri.di ((b.drop (288 + 40 * x.1)).take 40)
 rw [hd] at hl
 have B := Ri.aH (ri_good hd)
 have := B.r
 have := B.s
 exact ⟨h1, hl, by omega, by omega, by omega, by omega⟩
theorem ses_of {w : World} {b : List UInt8} {Ap Af Ar : Option Addr} {cp cf cr : Nat} (h1 : Vec w 334 17 Ap (PP b).length cp (rows rcI (PP b))) (h2 : Vec w 336 5 Af (FF b).length cf (rows rcI (FF b))) (h3 : Vec w 338 37 Ar (RR b).length cr (rows rcR (RR b))) : dB w ⟨Ap, cp, PP b, Af, cf, FF b, Ar, cr, RR b⟩ :=
 ⟨h1.reads, h2.reads, h3.reads, dP _ _, dP _ _, dP _ _, PP_ok, FF_ok, RR_ok⟩
theorem al_ft (W : World) : (Instr.alloc 223 true (.tuple #[])).run Tryz.prog W = .ok (.pointer (some ⟨W.heap.size, 0, none⟩)) (W.alloc (.cells #[.string ⟨#[]⟩, .bool false] 223)) := by
 go_simp
 try rfl
theorem info_ft : (Tryz.prog.info? 223).map (·.size) = some 2 := by kernel_rfl
theorem flat_ft : cS 223 2 [.string ⟨#[]⟩, .bool false] := ⟨⟨_, Tryz.underlying223, rfl⟩, info_ft, al_ft, rfl⟩
theorem info_str : (Tryz.prog.info? 9).map (fun i => (i.zero, i.size, i.bytes)) = some (some (.string ⟨#[]⟩), 1, 16) := by kernel_rfl
def fcells (l : List (ByteArray × Bool)) : List Value := (l.map fun x => [Value.string x.1, Value.bool x.2]).flatten
theorem fcells_get {l : List (ByteArray × Bool)} {k j : Nat} {x : ByteArray × Bool} (h : l[k]? = some x) (hj : j < 2) : (fcells l)[k * 2 + j]? = [Value.string x.1, Value.bool x.2][j]? := by
 have := aE (l.map fun x => [Value.string x.1, Value.bool x.2]) (fun c hc => by obtain ⟨x, _, rfl⟩ := List.mem_map.1 hc; rfl) k j hj
 rw [List.getElem?_map, h] at this
 exact this
end Go.Proofs.YtgcikpgcoemfnaaGreat.Au
namespace Go.Proofs.YtgcikpgcoemfnaaGreat.Au
open Go.RowKit Co
theorem faults_is {w : World} (A : Option Addr) (n c : Nat) (b : List UInt8) (hb : ae w A n (bytes b)) :
  Calls Tryz.prog 71 #[.slice A n c] w fun e w' => ∃ B cap, e = .returned (.slice B (bX b).length cap) ∧ ae w' B (bX b).length (strs (bX b)) ∧ Keep (bT w.heap.size) w w' := by
 have hl : b.length = n := by have := hb.1; simpa [bytes] using this
 by_cases h : n = 492
 ·subst h
  have hlk := looked_is A c b hb hl
  by_cases hg : fv b = []
  ·have e : bX b = cW (asked b) := if_pos ⟨hl, hg⟩
   rw [e]
   obtain ⟨v0, hv0⟩ : ∃ v, (PP b).any (lpB (PP b)) = v := ⟨_, rfl⟩
   obtain ⟨v1, hv1⟩ : ∃ v, (PP b).any (lfB (FF b)) = v := ⟨_, rfl⟩
   obtain ⟨v2, hv2⟩ : ∃ v, (FF b).any (wrB (PP b)) = v := ⟨_, rfl⟩
   obtain ⟨v3, hv3⟩ : ∃ v, (FF b).any (lqB (RR b)) = v := ⟨_, rfl⟩
   obtain ⟨v4, hv4⟩ : ∃ v, (RR b).any (weB (FF b)) = v := ⟨_, rfl⟩
   have hask : asked b = five v0 v1 v2 v3 v4 := by unfold asked; rw [hv0, hv1, hv2, hv3, hv4]
   rw [hask]
   have HVs := aa (And.intro hv0 (And.intro hv1 (And.intro hv2 (And.intro hv3 hv4))))
   clear hv0 hv1 hv2 hv3 hv4 hask
   have G := good_of hg
   rw [hg] at hlk
   have HG := aa G
   have HL := aa hl
   clear hb e G hg hl
   go_enter Tryz.func71, Tryz.ntmps71
   go_wp2_with fail
   refine hlk.mono ?_; rintro e w1 ⟨K, C, B, cap, rfl, O, hv⟩
   have HO := aa O
   have hr1 := ld O.op.kc O.xs O.brs O.bad HL.out HG.out
   rw [show there (pAt b) 8 = PP b from rfl] at hr1
   clear hlk hv O
   go_wp2_with fail
   refine hr1.mono ?_; rintro e w2 ⟨Ap, cp, rfl, hv1, hf1, t1⟩
   have O2 := aa (HO.out.op.ct t1 rfl)
   have hr2 := la O2.out.kc HO.out.xs HO.out.brs HO.out.bad HL.out HG.out
   rw [show there (fAt b) 12 = FF b from rfl] at hr2
   have HV1 := aa hv1
   clear hr1 t1 hv1 hf1
   go_wp2_with fail
   refine hr2.mono ?_; rintro e w3 ⟨Af, cf, rfl, hv2, hf2, t2⟩
   have HV2 := aa (And.intro (Ct.offV O2.out.kc t2 HV1.out (by decide)) hv2)
   have O3 := aa (O2.out.ct t2 rfl)
   have hr3 := iZ O3.out.kc HO.out.xs HO.out.brs HO.out.bad HL.out HG.out
   rw [show there (rAt b) 4 = RR b from rfl] at hr3
   clear hr2 t2 hv2 hf2
   go_wp2_with fail
   refine hr3.mono ?_; rintro e w4 ⟨Ar, cr, rfl, hv3, hf3, t3⟩
   have HS := aa (ses_of (b := b) (Ct.offV O3.out.kc t3 HV2.out.1 (by decide)) (Ct.offV O3.out.kc t3 HV2.out.2 (by decide)) hv3)
   have K4 := aa (O3.out.ct t3 rfl).keep
   clear hr3 t3 hv3 hf3
   have hq0 := fun W (k : Keep Nob w4 W) => hLP_is (HS.out.nob k)
   have hq1 := fun W (k : Keep Nob w4 W) => hLF_is (HS.out.nob k)
   have hq2 := fun W (k : Keep Nob w4 W) => hWR_is (HS.out.nob k)
   have hq3 := fun W (k : Keep Nob w4 W) => hLQ_is (HS.out.nob k)
   have hq4 := fun W (k : Keep Nob w4 W) => hWE_is (HS.out.nob k)
   unfold Ses.val at hq0 hq1 hq2 hq3 hq4
   dsimp only at hq0 hq1 hq2 hq3 hq4
   rw [HVs.out.1] at hq0
   rw [HVs.out.2.1] at hq1
   rw [HVs.out.2.2.1] at hq2
   rw [HVs.out.2.2.2.1] at hq3
   rw [HVs.out.2.2.2.2] at hq4
   have Q0 := aa hq0
   have Q1 := aa hq1
   have Q2 := aa hq2
   have Q3 := aa hq3
   have Q4 := aa hq4
   generalize (PP b).length = lp at *
   generalize (FF b).length = lf at *
   generalize (RR b).length = lr at *
   clear hq0 hq1 hq2 hq3 hq4 HVs HV1 HV2 HG HL HO O2 O3 HS
   go_upto_region 6 with fail
   generalize hw5 : w4.alloc (.cells #[.slice Ap lp cp, .slice Af lf cf, .slice Ar lr cr] 222) = w5 at *
   have k5 : Keep Nob w4 w5 := by rw [← hw5]; exact (Keep.refl Nob w4).alloc _
   have b5 : Blk w5 w4.heap.size 222 [.slice Ap lp cp, .slice Af lf cf, .slice Ar lr cr] := by rw [← hw5]; exact Blk.new w4 222 _
   have K5 := aa k5
   have SF := aa (show ∀ W, Keep Nob w5 W → W.cell? ⟨w4.heap.size, 0, none⟩ = some (.slice Ap lp cp) ∧ W.cell? ⟨w4.heap.size, 1, none⟩ = some (.slice Af lf cf) ∧ W.cell? ⟨w4.heap.size, 2, none⟩ = some (.slice Ar lr cr) from fun W k => ⟨(b5.nob k).cell 0, (b5.nob k).cell 1, (b5.nob k).cell 2⟩)
   have s0 := SF.out _ (Keep.nobdrew w5)
   have hc0 := Q0.out _ (k5.nobt (Keep.nobdrew w5))
   clear hw5 k5 b5
   go_region_held3 (fun w' => w'.cell? ⟨w4.heap.size, 0, none⟩ = some (.slice Ap lp cp) ∧ w'.cell? ⟨w4.heap.size, 1, none⟩ = some (.slice Af lf cf) ∧ w'.cell? ⟨w4.heap.size, 2, none⟩ = some (.slice Ar lr cr))
    (first | exact s5 | exact s4 | exact s3 | exact s2 | exact s1 | exact s0 | exact SF.out _ (K10.out.alloc _))
    (first
     | (go_at_call 144; with_reducible_and_instances apply Calls.mono hc0; rintro e x0 ⟨rfl, y0⟩; have K6 := aa ((Keep.nobdrew w5).nobt y0); have s1 := SF.out _ K6.out; have hc1 := Q1.out _ (K5.out.nobt K6.out))
     | (go_at_call 145; with_reducible_and_instances apply Calls.mono hc1; rintro e x1 ⟨rfl, y1⟩; have K7 := aa (K6.out.nobt y1); have s2 := SF.out _ K7.out; have hc2 := Q2.out _ (K5.out.nobt K7.out))
     | (go_at_call 146; with_reducible_and_instances apply Calls.mono hc2; rintro e x2 ⟨rfl, y2⟩; have K8 := aa (K7.out.nobt y2); have s3 := SF.out _ K8.out; have hc3 := Q3.out _ (K5.out.nobt K8.out))
     | (go_at_call 147; with_reducible_and_instances apply Calls.mono hc3; rintro e x3 ⟨rfl, y3⟩; have K9 := aa (K8.out.nobt y3); have s4 := SF.out _ K9.out; have hc4 := Q4.out _ (K5.out.nobt K9.out))
     | (go_at_call 148; with_reducible_and_instances apply Calls.mono hc4; rintro e x4 ⟨rfl, y4⟩; have K10 := aa (K9.out.nobt y4); have s5 := SF.out _ K10.out))
   have bA : Blk (x4.alloc (.cells #[.string { data := #[112, 97, 114, 101, 110, 116] }, .bool v0, .string { data := #[102, 100] }, .bool v1, .string { data := #[114, 101, 102, 115] }, .bool v2, .string { data := #[112, 105, 112, 101] }, .bool v3, .string { data := #[101, 110, 100, 115] }, .bool v4] 223)) x4.heap.size 223 (fcells (five v0 v1 v2 v3 v4)) := Blk.new x4 223 _
   have kA : Keep (bT w.heap.size) w (x4.alloc (.cells #[.string { data := #[112, 97, 114, 101, 110, 116] }, .bool v0, .string { data := #[102, 100] }, .bool v1, .string { data := #[114, 101, 102, 115] }, .bool v2, .string { data := #[112, 105, 112, 101] }, .bool v3, .string { data := #[101, 110, 100, 115] }, .bool v4] 223)) := K4.out.nob ((K5.out.nobt K10.out).alloc _)
   have HA := aa (And.intro bA kA)
   have HFl := aa (show (five v0 v1 v2 v3 v4).length = 5 from rfl)
   clear s0 s1 s2 s3 s4 s5 hc0 hc1 hc2 hc3 hc4 y0 y1 y2 y3 y4 bA kA K4 K5 K6 K7 K8 K9 K10 Q0 Q1 Q2 Q3 Q4 SF
   generalize x4.alloc (.cells #[.string { data := #[112, 97, 114, 101, 110, 116] }, .bool v0, .string { data := #[102, 100] }, .bool v1, .string { data := #[114, 101, 102, 115] }, .bool v2, .string { data := #[112, 105, 112, 101] }, .bool v3, .string { data := #[101, 110, 100, 115] }, .bool v4] 223) = wA at *
   generalize x4.heap.size = g at *
   generalize hfl : five v0 v1 v2 v3 v4 = fl at *
   have HFL := aa hfl
   clear hfl
   go_wp2_with fail
   go_loopw [6, 45] (fun s6 s45 wx => ∃ (k : Nat) (D : Option Addr) (cd : Nat), k ≤ 5 ∧ s45 = .int .i64 k ∧ s6 = .slice D (cW (fl.take k)).length cd ∧ Vec wx 9 1 D (cW (fl.take k)).length cd (strs (cW (fl.take k))) ∧ Hid ((∀ x, Own D x → w.heap.size ≤ x ∧ x ≠ g) ∧ Keep (bT w.heap.size) w wx ∧ Blk wx g 223 (fcells fl))) (fun _ s45 _ => 5 - (intOf s45).toNat)
   case atStart => exact ⟨0, none, 0, Nat.zero_le _, rfl, rfl, Vec.nil _ _ _, aa ⟨fun x ⟨a, e, _⟩ => (by cases e), HA.out.2, HA.out.1⟩⟩
   case round =>
    obtain ⟨k, D, cd, hk, rfl, rfl, hV, HB⟩ := hrel
    by_cases hlt : (k : Int) < 5
    ·obtain ⟨⟨s, v⟩, hx⟩ : ∃ x, fl[k]? = some x := ⟨_, List.getElem?_eq_getElem (by rw [HFl.out]; omega)⟩
     have hle := told_le (l := fl) k
     have htk := told_take hx
     have HM := aa (show wr.rangeAt g (k * 2) [.string s, .bool v] from fun j u hu => by
      have hj : j < 2 := (List.getElem?_eq_some_iff.1 hu).1
      exact (HB.out.2.2.cell (k * 2 + j)).trans ((fcells_get hx hj).trans hu))
     have HTk := aa htk
     have HV := aa hV
     have HFt := aa (show cE 2 [.string s, .bool v] from ⟨rfl, fun u hu => by simp at hu; rcases hu with rfl | rfl <;> rfl⟩)
     have HF0 := aa (show cE 2 [.string ⟨#[]⟩, .bool false] from ⟨rfl, fun u hu => by simp at hu; rcases hu with rfl | rfl <;> rfl⟩)
     have HIf := aa info_ft
     clear htk hx hV
     go_upto_region 9 with (first
      | (refine wpList_load_mid rfl 223 _ rfl g (k * 2) rfl [.string s, .bool v] _ HM.out Tryz.underlying223 rfl HIf.out ?_)
      | (refine flat_ft.wpList_al rfl rfl ?_; intro w2 hb2 hk2 hs2; clear hs2)
      | (refine flat_ft.wpList_st rfl rfl rfl rfl HFt.out HF0.out hb2 ?_; intro w3 hb3 hk3 hs3; clear hs3))
     have z0 : w3.cell? ⟨wr.heap.size, 0, none⟩ = some (.string s) := hb3.cell 0
     have z1 : w3.cell? ⟨wr.heap.size, 1, none⟩ = some (.bool v) := hb3.cell 1
     have H3 := aa (show Vec w3 9 1 D (cW (fl.take k)).length cd (strs (cW (fl.take k))) ∧ Keep (bT w.heap.size) w w3 ∧ Blk w3 g 223 (fcells fl) from
      ⟨(HV.out.nob hk2).keep hk3 (fun x hx e => by have := HV.out.lt x hx; omega), (HB.out.2.1.nob hk2).at_ hk3 HB.out.2.1.size, (HB.out.2.2.nob hk2).keep hk3 (fun e => by have := HB.out.2.2.lt; omega)⟩)
     clear hb2 hk2 hb3 hk3
     cases v with
     | true =>
      have hvx := H3.out.1.nob ((Keep.refl Nob w3).alloc (.cells #[.string s] 9))
      have hr4 := aj (n := 1) (Blk.new w3 9 [.string s]) rfl
      go_wp2_with (at_builtin; go_loud (refine aN rfl _ _ 137 rfl 9 1 16 _ Tryz.underlying137 info_str rfl (by decide) D (cW (fl.take k)).length cd _ rfl hvx (some ⟨w3.heap.size, 0, none⟩) 1 1 [.string s] rfl 1 rfl hr4 (fun u hu => by simp at hu; subst hu; rfl) (by unfold maxLen; omega) (by omega) ?_); intro A2 c2 w5 hv5 hk5 ho5)
      have e1 : cW (fl.take (k + 1)) = cW (fl.take k) ++ [s] := HTk.out
      have e2 : (cW (fl.take (k + 1))).length = (cW (fl.take k)).length + 1 := by rw [e1, List.length_append]; rfl
      have H5 := aa (show Vec w5 9 1 A2 (cW (fl.take (k + 1))).length c2 (strs (cW (fl.take (k + 1)))) ∧ (∀ x, Own A2 x → w.heap.size ≤ x ∧ x ≠ g) ∧ Keep (bT w.heap.size) w w5 ∧ Blk w5 g 223 (fcells fl) by
       have ka := (Keep.refl Nob w3).alloc (.cells #[.string s] 9)
       refine ⟨by rw [e2, e1]; simpa [strs] using hv5, fun x hx => ?_, (H3.out.2.1.nob ka).from_ hk5 (fun x m => (HB.out.1 x m).1), (H3.out.2.2.nob ka).keep hk5 (fun m => (HB.out.1 g m).2 rfl)⟩
       rcases ho5 x hx with m | m
       ·exact HB.out.1 x m
       ·have h1 := H3.out.2.1.size
        have h2 := H3.out.2.2.lt
        have h3 : (w3.alloc (.cells #[.string s] 9)).heap.size = w3.heap.size + 1 := by simp
        exact ⟨by omega, by omega⟩)
      have E2 := aa e2
      clear hvx hr4 hv5 hk5 ho5 e1 e2 z0 z1
      go_roundw
      case rel => exact ⟨k + 1, A2, c2, by omega, by go_num, by rw [E2.out], H5.out.1, aa H5.out.2⟩
      case measure => simp [intOf]; omega
     | false =>
      have e1 : cW (fl.take (k + 1)) = cW (fl.take k) := by
       have := HTk.out
       simpa using this
      have E1 := aa e1
      clear e1
      go_wp2_with fail
      go_roundw
      case rel => exact ⟨k + 1, D, cd, by omega, by go_num, by rw [E1.out], by rw [E1.out]; exact H3.out.1, aa ⟨HB.out.1, H3.out.2⟩⟩
      case measure => simp [intOf]; omega
    ·have hk5 : k = 5 := by omega
     have e : fl.take k = fl := List.take_of_length_le (by rw [HFl.out, hk5]; exact Nat.le_refl _)
     rw [e] at hV ⊢
     have F := aa (And.intro (show ae wr D (cW fl).length (strs (cW fl)) by have := hV.reads; rwa [Nat.mul_one] at this) HB.out.2.1)
     clear hV HB e hk5
     obtain rfl := HFL.out
     go_wp2
     go_ret
     exact ⟨D, ⟨cd, rfl⟩, F.out⟩
  ·have e : bX b = [sBad] := if_neg (fun h => hg h.2)
   rw [e]
   have hpos : (0 : Int) < ((fv b).length : Int) := by
    have : (fv b).length ≠ 0 := fun e => hg (List.eq_nil_of_length_eq_zero e)
    omega
   generalize fv b = bl at *
   clear hb e hg hl
   go_enter Tryz.func71, Tryz.ntmps71
   go_wp2_with fail
   refine hlk.mono ?_; rintro e w1 ⟨K, C, B, cap, rfl, O, hv⟩
   have bb := Blk.new w1 9 [.string sBad]
   have F := aa (show ae (w1.alloc (.cells #[.string sBad] 9)) (some ⟨w1.heap.size, 0, none⟩) 1 (strs [sBad]) ∧ Keep (bT w.heap.size) w (w1.alloc (.cells #[.string sBad] 9)) from ⟨aj bb rfl, O.op.keep.nob ((Keep.refl Nob w1).alloc _)⟩)
   clear bb hlk O hv
   go_wp2
   go_ret
   exact ⟨_, 1, rfl, F.out⟩
 ·have e : bX b = [sBad] := if_neg (fun h2 => h (by omega))
  have hlk := looked_no (w := w) A n c h
  rw [e]
  clear hb e
  go_enter Tryz.func71, Tryz.ntmps71
  go_wp2_with fail
  refine hlk.mono ?_; rintro e w1 ⟨rfl, hB, k⟩
  have bb := Blk.new w1 9 [.string sBad]
  have F := aa (show ae (w1.alloc (.cells #[.string sBad] 9)) (some ⟨w1.heap.size, 0, none⟩) 1 (strs [sBad]) ∧ Keep (bT w.heap.size) w (w1.alloc (.cells #[.string sBad] 9)) from ⟨aj bb rfl, (k.mono (fun _ _ f => f.elim) : Keep (bT w.heap.size) w w1).nob ((Keep.refl Nob w1).alloc _)⟩)
  clear bb hlk hB k
  go_wp2
  go_ret
  exact ⟨_, 1, rfl, F.out⟩
theorem sound_is {w : World} (A : Option Addr) (n c : Nat) (b : List UInt8) (hb : ae w A n (bytes b)) (v : Bool) (hv : decide (bX b = []) = v) :
  Calls Tryz.prog 25 #[.slice A n c] w fun e w' => e = .returned (.bool v) ∧ Keep (bT w.heap.size) w w' := by
 have hf := faults_is A n c b hb
 have e : decide ((bX b).length = 0) = v := by rw [← hv]; simp [List.length_eq_zero_iff]
 generalize bX b = l at *
 subst e
 clear hb hv
 go_enter Tryz.func25, Tryz.ntmps25
 go_wp2_with fail
 refine hf.mono ?_; rintro e w1 ⟨B, cap, rfl, _, k⟩
 clear hf
 go_wp2
 go_ret
 exact ⟨by cases l with | nil => rfl | cons x l => first | (simp; done) | (simp; omega), k⟩
end Go.Proofs.YtgcikpgcoemfnaaGreat.Au
