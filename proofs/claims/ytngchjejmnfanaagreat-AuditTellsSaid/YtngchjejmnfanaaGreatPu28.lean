/- Texts AudM, packed. -/
import Derived.Test.YtngchjejmnfanaaGreatPu0
import Derived.Test.YtngchjejmnfanaaGreatPu2
import Derived.Test.YtngchjejmnfanaaGreatPu3
import Derived.Test.YtngchjejmnfanaaGreatPu4
import Derived.Test.YtngchjejmnfanaaGreatPu5
import Derived.Test.YtngchjejmnfanaaGreatPu8
import Derived.Test.YtngchjejmnfanaaGreatPu13
import Derived.Test.YtngchjejmnfanaaGreatPu16
import Derived.Test.YtngchjejmnfanaaGreatPu19
import Derived.Test.YtngchjejmnfanaaGreatPu20
import Derived.Test.YtngchjejmnfanaaGreatPu1
import Derived.Test.YtngchjejmnfanaaGreatPu7
import Derived.Test.YtngchjejmnfanaaGreatPu12
import Derived.Test.YtngchjejmnfanaaGreatPu22
import Derived.Test.YtngchjejmnfanaaGreatPu23
import Derived.Test.YtngchjejmnfanaaGreatPu15
import Derived.Test.YtngchjejmnfanaaGreatPu14
import Derived.Test.YtngchjejmnfanaaGreatPu17
import Derived.Test.YtngchjejmnfanaaGreatPu18
import Derived.Test.YtngchjejmnfanaaGreatPu25
import Derived.Test.YtngchjejmnfanaaGreatPu24
import Derived.Test.YtngchjejmnfanaaGreatPu21
import Derived.Test.YtngchjejmnfanaaGreatPu9
import Derived.Test.YtngchjejmnfanaaGreatPu26
import Derived.Test.YtngchjejmnfanaaGreatPu10
import Derived.Test.YtngchjejmnfanaaGreatPu27
namespace Go.Proofs.YtngchjejmnfanaaGreat.Au
open Go.RowKit Co
set_option linter.unusedVariables false
set_option linter.unusedSimpArgs false
set_option maxRecDepth 100000 in
set_option maxHeartbeats 32000000 in
theorem sfaults_good {w : World} {b : List UInt8} (hl : b.length = 492) (hgd : bads b = []) (hrec : Calls Tryz.prog 26 #[.string (str b)] w fun e w' => ∃ D cd, e = .returned (.tuple #[.agg (cP b 8).toArray, .agg (cF b 12).toArray, .agg (cR b 4).toArray, .slice D (bads b).length cd]) ∧ Vec w' 84 2 D (bads b).length cd (refs (bads b)) ∧ (∀ x, Own D x → w.heap.size ≤ x) ∧ Keep (From w.heap.size) w w') :
    Calls Tryz.prog 25 #[.string (str b)] w fun e w' => ∃ B cap, e = .returned (.slice B (told (asked b)).length cap) ∧ Reads w' B (told (asked b)).length (strs (told (asked b))) ∧ Keep (From w.heap.size) w w' := by
  rw [hgd] at hrec
  have HG := Lib.hid (good_of hgd)
  have hsz : (str b).size = 492 := by rw [str_size, hl]
  have HFr := Lib.hid (fun W i (hi : i < 4) v (hv : decide ((rAt b i).2 = 0) = v) => free_is (w := W) hl (i := i) hi v hv)
  obtain ⟨q1, hq1⟩ : ∃ q, cP b 8 = q := ⟨_, rfl⟩
  obtain ⟨q2, hq2⟩ : ∃ q, cF b 12 = q := ⟨_, rfl⟩
  obtain ⟨q3, hq3⟩ : ∃ q, cR b 4 = q := ⟨_, rfl⟩
  have hc1 := cellsP b 8
  have hc2 := cellsF b 12
  have hc3 := cellsRr b 4
  rw [hq1] at hc1
  rw [hq2] at hc2
  rw [hq3] at hc3
  rw [hq1, hq2, hq3] at hrec
  have HQ := Lib.hid (And.intro hq1 (And.intro hq2 hq3))
  have HC := Lib.hid (And.intro hc1 (And.intro hc2 hc3))
  obtain ⟨ans, hans⟩ : ∃ a, told (asked b) = a := ⟨_, rfl⟩
  rw [hans]
  have HAns := Lib.hid hans
  obtain ⟨sb, hsb⟩ : ∃ x, str b = x := ⟨_, rfl⟩
  rw [hsb] at hrec hsz HFr ⊢
  clear hq1 hq2 hq3 hc1 hc2 hc3 hl hgd hans hsb
  go_enter Tryz.func25, Tryz.ntmps25
  go_wp2_with fail
  refine hrec.mono ?_; rintro e w1 ⟨D, cd, rfl, hV, hO, k1⟩
  clear hV hO hrec
  go_upto_region 3 with (first
    | (refine flatA8.wpList_al rfl rfl ?_; intro x3 hx3 kx3 sx3; clear sx3; rw [← cP_zero b] at hx3)
    | (refine flatA12.wpList_al rfl rfl ?_; intro x4 hx4 kx4 sx4; clear sx4; rw [← cF_zero b] at hx4; replace hx3 := hx3.nob kx4)
    | (refine flatA4.wpList_al rfl rfl ?_; intro x5 hx5 kx5 sx5; clear sx5; rw [← cR_zero b] at hx5; replace hx3 := hx3.nob kx5; replace hx4 := hx4.nob kx5)
    | (refine flatA8.wpList_st rfl rfl rfl rfl HC.out.1 (cellsP b 0) hx3 ?_; intro y3 hy3 ky3 ty3; clear ty3; replace hx4 := hx4.keep ky3 (hx4.ne_ hx3 (by decide)); replace hx5 := hx5.keep ky3 (hx5.ne_ hx3 (by decide)))
    | (refine flatA12.wpList_st rfl rfl rfl rfl HC.out.2.1 (cellsF b 0) hx4 ?_; intro y4 hy4 ky4 ty4; clear ty4; replace hy3 := hy3.keep ky4 (hy3.ne_ hx4 (by decide)); replace hx5 := hx5.keep ky4 (hx5.ne_ hx4 (by decide)))
    | (refine flatA4.wpList_st rfl rfl rfl rfl HC.out.2.2 (cellsRr b 0) hx5 ?_; intro y5 hy5 ky5 ty5; clear ty5; replace hy3 := hy3.keep ky5 (hy3.ne_ hx5 (by decide)); replace hy4 := hy4.keep ky5 (hy4.ne_ hx5 (by decide))))
  have HA := Lib.hid (And.intro hy3 (And.intro hy4 hy5))
  have HK := Lib.hid (show Keep (From w.heap.size) w y5 from (((((((k1.nob kx3).nob kx4).nob kx5).at_ ky3 k1.size).at_ ky4 (Nat.le_trans k1.size kx3.size)).at_ ky5 (Nat.le_trans k1.size (Nat.le_trans kx3.size kx4.size)))))
  generalize w1.heap.size = g3 at *
  generalize x3.heap.size = g4 at *
  generalize x4.heap.size = g5 at *
  clear hx3 hx4 hx5 kx3 kx4 kx5 ky3 ky4 ky5 hy3 hy4 hy5 k1
  go_upto_region 7 with fail
  have kW := ((Keep.refl Nob y5).alloc (.cells (bools [false, false, false, false, false]).toArray 164)).alloc (.cells (refsC []).toArray 165)
  have b7 := (Blk.new y5 164 (bools [false, false, false, false, false])).alloc (.cells (refsC []).toArray 165)
  have b8 := Blk.new (y5.alloc (.cells (bools [false, false, false, false, false]).toArray 164)) 165 (refsC [])
  have e8 : (y5.alloc (.cells (bools [false, false, false, false, false]).toArray 164)).heap.size = y5.heap.size + 1 := by simp
  rw [e8] at b8
  have HF := Lib.hid (show Fw w ((y5.alloc (.cells (bools [false, false, false, false, false]).toArray 164)).alloc (.cells (refsC []).toArray 165)) g3 g4 g5 y5.heap.size (y5.heap.size + 1) b [false, false, false, false, false] (refsC []) from
    ⟨by rw [HQ.out.1]; exact HA.out.1.nob kW, by rw [HQ.out.2.1]; exact HA.out.2.1.nob kW, by rw [HQ.out.2.2]; exact HA.out.2.2.nob kW, b7, b8, ⟨HK.out.size, by have := HK.out.size; omega⟩, HK.out.nob kW⟩)
  clear kW b7 b8 e8
  generalize y5.heap.size = g7 at *
  have HF : Hid (Fw w ((y5.alloc (.cells #[.bool false, .bool false, .bool false, .bool false, .bool false] 164)).alloc (.cells #[.int .i64 0, .int .i64 0, .int .i64 0, .int .i64 0, .int .i64 0, .int .i64 0, .int .i64 0, .int .i64 0, .int .i64 0, .int .i64 0, .int .i64 0, .int .i64 0] 165)) g3 g4 g5 g7 (g7 + 1) b [false, false, false, false, false] (refsC [])) := HF
  generalize ((y5.alloc (.cells #[.bool false, .bool false, .bool false, .bool false, .bool false] 164)).alloc (.cells #[.int .i64 0, .int .i64 0, .int .i64 0, .int .i64 0, .int .i64 0, .int .i64 0, .int .i64 0, .int .i64 0, .int .i64 0, .int .i64 0, .int .i64 0, .int .i64 0] 165)) = wS at *
  generalize g7 + 1 = g8 at *
  clear HA HK HQ HC
  go_wp2_with fail
  go_loopw [9, 10, 11, 12] (fun s9 s10 s11 s12 wx => ∃ (i : Nat), i ≤ 8 ∧ s9 = .int .i64 i ∧ Hid (Fw w wx g3 g4 g5 g7 g8 b [(there (pAt b) i).any (lpB (PP b)), (there (pAt b) i).any (lfB (FF b)), false, false, false] (refsC (there (pAt b) i)))) (fun s9 _ _ _ _ => 8 - (intOf s9).toNat)
  case atStart => exact ⟨0, Nat.zero_le _, rfl, HF⟩
  case round =>
    clear HF
    obtain ⟨i, hi, rfl, HF⟩ := hrel
    by_cases hlt : (i : Int) < 8
    · have hin : i < 8 := by omega
      by_cases hth : (pAt b i).2 = 1
      · have hnx := there_next (pAt b) hth
        obtain ⟨v, hv⟩ : ∃ v, vP b i = v := ⟨_, rfl⟩
        have hvl := vP_len b i
        have hok := Cd.okd_bounds (p_yes hth)
        rw [show (pAt b i).1 = v from hv] at hnx
        rw [hv] at hvl hok
        obtain ⟨T, hT⟩ : ∃ T, there (pAt b) i = T := ⟨_, rfl⟩
        rw [hT] at HF hnx
        have hcle := fun j r => part_len_le (b := b) (i := i) hi hvl j r
        rw [hT] at hcle
        have HNx := Lib.hid hnx
        have HCle := Lib.hid hcle
        have HV := Lib.hid (And.intro hv (And.intro hvl hok))
        obtain ⟨st, hst⟩ : ∃ x, v.getD 0 0 = x := ⟨_, rfl⟩
        obtain ⟨pk, hpk⟩ : ∃ x, v.getD 1 0 = x := ⟨_, rfl⟩
        have c0 : wr.cell? ⟨g3, i * 16, none⟩ = some (.int .i64 st) := by rw [← hst, ← hv]; exact HF.out.pc (j := 0) hin (by decide)
        have c1 : wr.cell? ⟨g3, i * 16 + 1, none⟩ = some (.int .i64 pk) := by rw [← hpk, ← hv]; exact HF.out.pc (j := 1) hin (by decide)
        have hs0 : (st == 0) = false := by rw [beq_eq_false_iff_ne]; have := hok.s; omega
        have hp0 : 0 ≤ pk ∧ pk ≤ 8 := by have := hok.pa; omega
        obtain ⟨v0, hv0⟩ : ∃ v0, lpB (PP b) (i, v) = v0 := ⟨_, rfl⟩
        have HPk := Lib.hid (And.intro hpk (And.intro hv0 hp0))
        clear hnx hvl hok hcle hst hpk hT hv hth hv0
        go_upto_region 13 with fail
        go_cut [61] from 46 to 61 (fun s61 wx => s61 = .bool v0 ∧ wx = wr)
        case first =>
          rcases (show pk = 0 ∨ pk = (i : Int) + 1 ∨ (∃ q : Nat, q < 8 ∧ q ≠ i ∧ pk = (q : Int) + 1) by
            rcases (show pk = 0 ∨ pk = (i : Int) + 1 ∨ (pk ≠ 0 ∧ pk ≠ (i : Int) + 1) by omega) with h | h | h
            · exact .inl h
            · exact .inr (.inl h)
            · exact .inr (.inr ⟨(pk - 1).toNat, by omega, by omega, by omega⟩)) with h | h | ⟨q, hq8, hqi, h⟩
          · subst h
            go_wp2_with fail
            go_meet
            exact ⟨by rw [← HPk.out.2.1, lp_none HPk.out.1], rfl⟩
          · have h1 : (0 : Int) < pk := by omega
            have h2 : pk - 1 = (i : Int) := by omega
            have H := Lib.hid h
            clear h
            go_wp2_with fail
            go_meet
            exact ⟨by rw [← HPk.out.2.1, lp_self (HPk.out.1.trans H.out)], rfl⟩
          · have h1 : (0 : Int) < pk := by omega
            have h2 : pk - 1 = (q : Int) := by omega
            have h3 : ((q : Int) == (i : Int)) = false := by rw [beq_eq_false_iff_ne]; omega
            obtain ⟨sq, hsq⟩ : ∃ x, (vP b q).getD 0 0 = x := ⟨_, rfl⟩
            have c2 : wr.cell? ⟨g3, q * 16, none⟩ = some (.int .i64 sq) := by rw [← hsq]; exact HF.out.pc (j := 0) hq8 (by decide)
            have hA := lp_other (b := b) HG.out (HPk.out.1.trans h) hq8 hqi
            rw [hsq, HPk.out.2.1] at hA
            have H := Lib.hid hA
            clear h hA hsq
            go_wp2_with fail
            go_meet
            exact ⟨by rw [H.out]; (first | rfl | simp), rfl⟩
        case rest =>
        obtain ⟨rfl, hw⟩ := hcut
        have hw := hw.symm
        subst hw
        clear c0 c1 hs0 hp0
        go_upto_if 61 with fail
        go_cut [] from 61 to 62 (fun wx => Hid (Fw w wx g3 g4 g5 g7 g8 b [(T ++ [(i, v)]).any (lpB (PP b)), (part T i v 0).any (lfB (FF b)), false, false, false] (refsC (part T i v 0))))
        case first =>
          have E1 := Lib.hid (show (T ++ [(i, v)]).any (lpB (PP b)) = (T.any (lpB (PP b)) || v0) by rw [List.any_append, ← HPk.out.2.1]; simp)
          have E2 := Lib.hid (part_zero_any T i v (FF b))
          have E3 := Lib.hid (show refsC (part T i v 0) = refsC T from refsC_congr (fun r _ => part_zero_cnt T i v r))
          cases v0 with
          | true =>
            have f7 := HF.out.on.frozen 0
            have c7 := HF.out.onc (k := 0) rfl
            have HFn := Lib.hid (HF.out.on_ 0 true (on' := [T.any (lpB (PP b)) || true, T.any (lfB (FF b)), false, false, false]) (by rw [Bool.or_true]; rfl))
            go_wp2_with fail
            go_meet
            rw [E1.out, E2.out, E3.out]
            exact HFn
          | false =>
            have HFn := HF
            go_wp2_with fail
            go_meet
            rw [E1.out, E2.out, E3.out, Bool.or_false]
            exact HFn
        case rest =>
        have HFo := Lib.hid (hcut.out)
        clear hcut HF
        have HF := HFo
        clear HFo
        obtain ⟨O0, hO0⟩ : ∃ x, (T ++ [(i, v)]).any (lpB (PP b)) = x := ⟨_, rfl⟩
        rw [hO0] at HF
        have HO0 := Lib.hid hO0
        clear hO0
        go_wp2_with fail
        go_loopw [11, 12] (fun s11 s12 wx => ∃ (j : Nat), j ≤ 8 ∧ s11 = .int .i64 j ∧ Hid (Fw w wx g3 g4 g5 g7 g8 b [O0, (part T i v j).any (lfB (FF b)), false, false, false] (refsC (part T i v j)))) (fun s11 _ _ => 8 - (intOf s11).toNat)
        case atStart => exact ⟨0, Nat.zero_le _, rfl, HF⟩
        case round =>
          clear HF
          obtain ⟨j, hj, rfl, HF⟩ := hrel
          by_cases hjl : (j : Int) < 8
          · have hj8 : j < 8 := by omega
            obtain ⟨fd, hfd⟩ : ∃ x, v.getD (8 + j) 0 = x := ⟨_, rfl⟩
            have c0 : wr.cell? ⟨g3, i * 16 + 8 + j, none⟩ = some (.int .i64 fd) := by
              rw [show i * 16 + 8 + j = i * 16 + (8 + j) by omega, ← hfd, ← HV.out.1]; exact HF.out.pc (j := 8 + j) hin (by omega)
            have hfb : 0 ≤ fd ∧ fd ≤ 12 := by
              have := HV.out.2.2.f fd (by
                rw [← hfd, List.getD_eq_getElem?_getD, ← List.getElem?_drop]
                have hl2 : j < (v.drop 8).length := by rw [List.length_drop, HV.out.2.1]; omega
                rw [List.getElem?_eq_getElem hl2]
                exact List.getElem_mem hl2)
              omega
            have hcn := fun r => part_next_cnt T i HV.out.2.1 hj8 r
            have han := part_next_any T i HV.out.2.1 hj8 (FF b)
            rw [hfd] at hcn han
            obtain ⟨o1, ho1⟩ : ∃ x, (part T i v j).any (lfB (FF b)) = x := ⟨_, rfl⟩
            rw [ho1] at HF han
            by_cases hf0 : fd = 0
            · have hr : refsC (part T i v (j + 1)) = refsC (part T i v j) := refsC_congr (fun r hr => by rw [hcn, if_neg (by omega), Nat.add_zero])
              have ha : (part T i v (j + 1)).any (lfB (FF b)) = o1 := by rw [han, hf0, lf_none, Bool.or_false]
              have HE := Lib.hid (And.intro hr ha)
              clear hr ha hcn han ho1 hfd
              subst hf0
              go_wp2_with fail
              go_roundw
              case rel => exact ⟨j + 1, by omega, by go_num, by rw [HE.out.1, HE.out.2]; exact HF⟩
              case measure => simp [intOf]; omega
            · obtain ⟨q, hq12, hq⟩ : ∃ q : Nat, q < 12 ∧ fd = (q : Int) + 1 := ⟨(fd - 1).toNat, by omega, by omega⟩
              have h1 : (0 : Int) < fd := by omega
              have h2 : fd - 1 = (q : Int) := by omega
              obtain ⟨cn, hcnt⟩ : ∃ x, cntP (part T i v j) (q : Int) = x := ⟨_, rfl⟩
              have hcle : cn ≤ 72 := by rw [← hcnt]; exact HCle.out j q
              have c1 : wr.cell? ⟨g8, q, none⟩ = some (.int .i64 (cn : Int)) := by rw [← hcnt]; exact (HF.out.rf.cell q).trans (refsC_get _ hq12)
              have hset : (refsC (part T i v j)).set q (.int .i64 ((cn : Int) + 1)) = refsC (part T i v (j + 1)) := by
                rw [← hcnt]
                exact refsC_set hq12 (fun r hr => by
                  rw [hcn]
                  by_cases e : r = q
                  · rw [if_pos e, if_pos (by omega)]
                  · rw [if_neg e, if_neg (by omega)])
              have HF2 := Lib.hid (HF.out.rf_ q _ hset)
              obtain ⟨kd, hkd⟩ : ∃ x, (vF b q).getD 0 0 = x := ⟨_, rfl⟩
              have ha := han
              rw [lf_some HG.out hq hq12, hkd] at ha
              have c2 : (wr.setCell ⟨g8, q, none⟩ (.int .i64 ((cn : Int) + 1))).cell? ⟨g4, q * 4, none⟩ = some (.int .i64 kd) := by rw [← hkd]; exact HF2.out.fc (j := 0) hq12 (by decide)
              have c3 : (wr.setCell ⟨g8, q, none⟩ (.int .i64 ((cn : Int) + 1))).cell? ⟨g7, 1, none⟩ = some (.bool o1) := HF2.out.onc rfl
              have f1 := HF.out.rf.frozen q
              have f3 := HF2.out.on.frozen 1
              obtain ⟨x, hx⟩ : ∃ x, (o1 || decide (kd = 0)) = x := ⟨_, rfl⟩
              have HF3 := Lib.hid (HF2.out.on_ 1 x (on' := [O0, x, false, false, false]) rfl)
              rw [hx] at ha
              have HA := Lib.hid ha
              have HE : ∀ y, x = y → Hid (Fw w (((wr.setCell ⟨g8, q, none⟩ (.int .i64 ((cn : Int) + 1)))).setCell ⟨g7, 1, none⟩ (.bool y)) g3 g4 g5 g7 g8 b [O0, (part T i v (j + 1)).any (lfB (FF b)), false, false, false] (refsC (part T i v (j + 1)))) := fun y e => by
                rw [HA.out, ← e]
                exact HF3
              clear hcn han ho1 hfd hcnt hset hkd ha hq HF HF2 HF3
              cases o1 with
              | true =>
                have HX := HE true (by rw [← hx]; rfl)
                clear HE hx
                go_wp2_with fail
                go_roundw
                case rel => exact ⟨j + 1, by omega, by go_num, HX⟩
                case measure => simp [intOf]; omega
              | false =>
                by_cases hk : kd = 0
                · have HX := HE true (by rw [← hx]; simp [hk])
                  have hk1 : (kd == 0) = true := by simp [hk]
                  clear HE hx hk
                  go_wp2_with fail
                  go_roundw
                  case rel => exact ⟨j + 1, by omega, by go_num, HX⟩
                  case measure => simp [intOf]; omega
                · have HX := HE false (by rw [← hx]; simp [hk])
                  have hk1 : (kd == 0) = false := by simp [hk]
                  clear HE hx hk
                  go_wp2_with fail
                  go_roundw
                  case rel => exact ⟨j + 1, by omega, by go_num, HX⟩
                  case measure => simp [intOf]; omega
          · have hj8 : j = 8 := by omega
            subst hj8
            have HE := Lib.hid (show Hid (Fw w wr g3 g4 g5 g7 g8 b [(there (pAt b) (i + 1)).any (lpB (PP b)), (there (pAt b) (i + 1)).any (lfB (FF b)), false, false, false] (refsC (there (pAt b) (i + 1)))) by
              rw [HNx.out, HO0.out, ← part_all T i HV.out.2.1]
              exact HF)
            clear HF
            go_wp2_with fail
            go_roundw
            case rel => exact ⟨i + 1, by omega, by go_num, HE.out⟩
            case measure => simp [intOf]; omega
      · have c0 : wr.cell? ⟨g3, i * 16, none⟩ = some (.int .i64 0) := by
          rw [← (p_st HG.out hin).2 hth]; exact HF.out.pc (j := 0) hin (by decide)
        have HE := Lib.hid (there_skip (pAt b) hth)
        clear hth
        go_wp2_with fail
        go_roundw
        case rel => exact ⟨i + 1, by omega, by go_num, by rw [HE.out]; exact HF⟩
        case measure => simp [intOf]; omega
    · have hi8 : i = 8 := by omega
      rw [hi8] at HF
      obtain ⟨O0, hO0⟩ : ∃ x, (there (pAt b) 8).any (lpB (PP b)) = x := ⟨_, rfl⟩
      obtain ⟨O1, hO1⟩ : ∃ x, (there (pAt b) 8).any (lfB (FF b)) = x := ⟨_, rfl⟩
      rw [hO0, hO1] at HF
      have HO := Lib.hid (And.intro hO0 hO1)
      clear hO0 hO1
      have b13 := Blk.new wr 167 (endsC [])
      have HX := Lib.hid (show Fx w (wr.alloc (.cells (endsC []).toArray 167)) g3 g4 g5 g7 g8 wr.heap.size b [O0, O1, false, false, false] (refsC (there (pAt b) 8)) (endsC []) from
        ⟨HF.out.nob ((Keep.refl Nob wr).alloc _), b13, HF.out.keep.size⟩)
      go_upto_region 23 with fail
      have HX : Hid (Fx w (wr.alloc (.cells #[.int .i64 0, .int .i64 0, .int .i64 0, .int .i64 0, .int .i64 0, .int .i64 0, .int .i64 0, .int .i64 0] 167)) g3 g4 g5 g7 g8 wr.heap.size b [O0, O1, false, false, false] (refsC (there (pAt b) 8)) (endsC [])) := HX
      generalize wr.heap.size = g13 at *
      generalize wr.alloc (.cells #[.int .i64 0, .int .i64 0, .int .i64 0, .int .i64 0, .int .i64 0, .int .i64 0, .int .i64 0, .int .i64 0] 167) = wY at *
      clear HF b13 hi hlt hi8
      go_wp2_with fail
      go_loopw [14] (fun s14 wx => ∃ (k : Nat), k ≤ 12 ∧ s14 = .int .i64 k ∧ Hid (Fx w wx g3 g4 g5 g7 g8 g13 b [O0, O1, (there (fAt b) k).any (wrB (PP b)), (there (fAt b) k).any (lqB (RR b)), false] (refsC (PP b)) (endsC (there (fAt b) k)))) (fun s14 _ => 12 - (intOf s14).toNat)
      case atStart => exact ⟨0, Nat.zero_le _, rfl, HX⟩
      case round =>
        clear HX
        obtain ⟨k, hk, rfl, HX⟩ := hrel
        by_cases hlt : (k : Int) < 12
        · have hk12 : k < 12 := by omega
          by_cases hth : (fAt b k).2 = 1
          · have hnx := there_next (fAt b) hth
            obtain ⟨v, hv⟩ : ∃ v, vF b k = v := ⟨_, rfl⟩
            have hvl := vF_len b k
            have hok := Fi.okd_bounds (f_yes hth)
            rw [show (fAt b k).1 = v from hv] at hnx
            rw [hv] at hvl hok
            obtain ⟨T, hT⟩ : ∃ T, there (fAt b) k = T := ⟨_, rfl⟩
            rw [hT] at HX hnx
            have hTl : T.length ≤ 12 := by rw [← hT]; have := there_len (fAt b) k; omega
            have HNx := Lib.hid hnx
            have HV := Lib.hid (And.intro hv (And.intro hvl hok))
            obtain ⟨kd, hkd⟩ : ∃ x, v.getD 0 0 = x := ⟨_, rfl⟩
            obtain ⟨pp, hpp⟩ : ∃ x, v.getD 1 0 = x := ⟨_, rfl⟩
            obtain ⟨rr, hrr⟩ : ∃ x, v.getD 2 0 = x := ⟨_, rfl⟩
            obtain ⟨cn, hcn⟩ : ∃ x, cntP (PP b) (k : Int) = x := ⟨_, rfl⟩
            have hk0 := hok.k
            have hp0 := hok.pi
            rw [hkd] at hk0
            rw [hpp] at hp0
            have HCe := Lib.hid (show ∀ W on ef, Fx w W g3 g4 g5 g7 g8 g13 b on (refsC (PP b)) ef → W.cell? ⟨g4, k * 4, none⟩ = some (.int .i64 kd) ∧ W.cell? ⟨g4, k * 4 + 1, none⟩ = some (.int .i64 pp) ∧ W.cell? ⟨g4, k * 4 + 2, none⟩ = some (.int .i64 rr) ∧ W.cell? ⟨g8, k, none⟩ = some (.int .i64 (cn : Int)) from fun W on ef hW => by
              rw [← hkd, ← hpp, ← hrr, ← hcn, ← hv]
              exact ⟨hW.fw.fc (j := 0) hk12 (by decide), hW.fw.fc (j := 1) hk12 (by decide), hW.fw.fc (j := 2) hk12 (by decide), (hW.fw.rf.cell k).trans (refsC_get _ hk12)⟩)
            have hkz : (kd == 0) = false := by rw [beq_eq_false_iff_ne]; omega
            obtain ⟨c0, c1, c2, c8⟩ := HCe.out _ _ _ HX.out
            have HKd := Lib.hid (And.intro hkd (And.intro hpp (And.intro hrr (And.intro hcn (And.intro hk0 (And.intro hp0 hTl))))))
            obtain ⟨o2, ho2⟩ : ∃ x, T.any (wrB (PP b)) = x := ⟨_, rfl⟩
            obtain ⟨o3, ho3⟩ : ∃ x, T.any (lqB (RR b)) = x := ⟨_, rfl⟩
            obtain ⟨p2, hp2⟩ : ∃ x, (T ++ [(k, v)]).any (wrB (PP b)) = x := ⟨_, rfl⟩
            obtain ⟨p3, hp3⟩ : ∃ x, (T ++ [(k, v)]).any (lqB (RR b)) = x := ⟨_, rfl⟩
            have hq2 : p2 = (o2 || decide (rr ≠ (cn : Int))) := by
              rw [← hp2, ← ho2, List.any_append]
              simp only [List.any_cons, List.any_nil, Bool.or_false, wrB, hrr, hcn]
              congr 1
              by_cases e : rr = (cn : Int)
              · simp [e]
              · simp [e]
            have hq3 : p3 = (o3 || lqB (RR b) (k, v)) := by
              rw [← hp3, ← ho3, List.any_append]
              simp only [List.any_cons, List.any_nil, Bool.or_false]
            rw [ho2, ho3] at HX
            have HP := Lib.hid (And.intro hp2 hp3)
            have HQ2 := Lib.hid hq2
            have HQ3 := Lib.hid hq3
            clear hnx hvl hok hkd hpp hrr hT hv hth hcn hk0 hp0 hTl ho2 ho3 hp2 hp3 hq2 hq3
            go_upto_region 27 with fail
            go_cut [] from 101 to 113 (fun wx => Hid (Fx w wx g3 g4 g5 g7 g8 g13 b [O0, O1, p2, o3, false] (refsC (PP b)) (endsC T)))
            case first =>
              have HXd := Lib.hid (HX.out.nob (Keep.nobdrew wr))
              obtain ⟨d0, d1, d2, d8⟩ := HCe.out _ _ _ HXd.out
              have d7 := HXd.out.fw.onc (k := 2) rfl
              have f7 := HXd.out.fw.on.frozen 2
              have HXn := Lib.hid ((HX.out.on_ 2 p2 (on' := [O0, O1, p2, o3, false]) rfl).nob (Keep.nobdrew _))
              clear c0 c1 c2 c8
              rcases (show o2 = true ∨ (o2 = false ∧ rr = (cn : Int)) ∨ (o2 = false ∧ ¬ (rr = (cn : Int))) by
                cases o2
                · by_cases e : rr = (cn : Int)
                  · exact .inr (.inl ⟨rfl, e⟩)
                  · exact .inr (.inr ⟨rfl, e⟩)
                · exact .inl rfl) with e | ⟨e, e2⟩ | ⟨e, e2⟩
              · subst e
                obtain rfl : p2 = true := by rw [HQ2.out]; rfl
                go_wp2_with fail
                go_region
                all_goals (go_wp2_with fail; go_meet; exact HXn)
              · subst e
                obtain rfl : p2 = false := by rw [HQ2.out, e2]; simp
                have e3 : (rr != (cn : Int)) = false := by simp [e2]
                clear e2
                go_wp2_with fail
                go_region
                all_goals (go_wp2_with fail; go_meet; exact HXn)
              · subst e
                obtain rfl : p2 = true := by rw [HQ2.out]; simp [e2]
                have e3 : (rr != (cn : Int)) = true := by simp [e2]
                clear e2
                go_wp2_with fail
                go_region
                all_goals (go_wp2_with fail; go_meet; exact HXn)
            case rest =>
            have HXo := Lib.hid hcut.out
            clear hcut HX c0 c1 c2 c8 HQ2
            have HX := HXo
            clear HXo
            obtain ⟨c0, c1, c2, c8⟩ := HCe.out _ _ _ HX.out
            rcases (show (kd = 3 ∨ 3 < pp) ∨ ∃ q m : Nat, q < 4 ∧ m < 2 ∧ pp = (q : Int) ∧ kd = (m : Int) + 1 by
              have h1 := HKd.out.2.2.2.2.1
              have h2 := HKd.out.2.2.2.2.2.1
              by_cases e1 : kd = 3
              · exact .inl (.inl e1)
              · by_cases e2 : 3 < pp
                · exact .inl (.inr e2)
                · exact .inr ⟨pp.toNat, (kd - 1).toNat, by omega, by omega, by omega, by omega⟩) with hno | ⟨q, m, hq4, hm2, hq, hm⟩
            · have HE := Lib.hid (show Hid (Fx w wc g3 g4 g5 g7 g8 g13 b [O0, O1, (there (fAt b) (k + 1)).any (wrB (PP b)), (there (fAt b) (k + 1)).any (lqB (RR b)), false] (refsC (PP b)) (endsC (there (fAt b) (k + 1)))) by
                have hn : v.getD 0 0 = 3 ∨ 3 < v.getD 1 0 := by rw [HKd.out.1, HKd.out.2.1]; exact hno
                rw [HNx.out, HP.out.1, HP.out.2, endsC_same T k hn, HQ3.out, lq_no hn, Bool.or_false]
                exact HX)
              by_cases e1 : kd = 3
              · have e3 : (kd == 3) = true := by simp [e1]
                clear hno e1
                go_wp2_with fail
                go_roundw
                case rel => exact ⟨k + 1, by omega, by go_num, HE.out⟩
                case measure => simp [intOf]; omega
              · have e3 : (kd == 3) = false := by simp [e1]
                have e4 : 3 < pp := by omega
                clear hno e1
                go_wp2_with fail
                go_roundw
                case rel => exact ⟨k + 1, by omega, by go_num, HE.out⟩
                case measure => simp [intOf]; omega
            · subst hq
              subst hm
              have e3 : ((m : Int) + 1 == 3) = false := by rw [beq_eq_false_iff_ne]; omega
              have e4 : ¬ ((3 : Int) < (q : Int)) := by omega
              obtain ⟨ce, hce⟩ : ∃ x, cntF T (q : Int) ((m : Int) + 1) = x := ⟨_, rfl⟩
              have hceL : ce ≤ 12 := by rw [← hce]; have := cntF_le T (q : Int) ((m : Int) + 1); have := HKd.out.2.2.2.2.2.2; omega
              have HCE := Lib.hid hce
              clear hce
              go_upto_region 29 with fail
              go_cut [] from 126 to 140 (fun wx => Hid (Fx w wx g3 g4 g5 g7 g8 g13 b [O0, O1, p2, o3, false] (refsC (PP b)) (endsC (T ++ [(k, v)]))))
              case first =>
                have HXd := Lib.hid (HX.out.nob (Keep.nobdrew wc))
                obtain ⟨d0, d1, d2, d8⟩ := HCe.out _ _ _ HXd.out
                have d9 : wc.drew.cell? ⟨g13, q * 2 + m, none⟩ = some (.int .i64 (ce : Int)) := by rw [← HCE.out]; exact (HXd.out.e.cell _).trans (endsC_get T rfl hq4 hm2)
                have f9 := HXd.out.e.frozen (q * 2 + m)
                have hset := endsC_set T k (v := v) (q := q) (k := m) rfl hq4 hm2 HKd.out.2.1 HKd.out.1
                rw [HCE.out] at hset
                have HXn := Lib.hid ((HX.out.e_ (q * 2 + m) _ hset).nob (Keep.nobdrew _))
                clear c0 c1 c2 c8 hset
                go_wp2_with fail
                go_region
                all_goals (go_wp2_with fail; go_meet; exact HXn)
              case rest =>
              have HXo := Lib.hid hcut.out
              clear hcut HX c0 c1 c2 c8
              have HX := HXo
              clear HXo
              obtain ⟨fr, hfr⟩ : ∃ x, decide ((rAt b q).2 = 0) = x := ⟨_, rfl⟩
              have hlq : p3 = (o3 || fr) := by rw [HQ3.out, lq_yes HG.out (by rw [HKd.out.1]; omega) HKd.out.2.1 hq4, hfr]
              have hcall := HFr.out wc q hq4 fr hfr
              have HL := Lib.hid hlq
              clear hfr hlq
              obtain ⟨c0, c1, c2, c8⟩ := HCe.out _ _ _ HX.out
              have c7 := HX.out.fw.onc (k := 3) rfl
              have HE := Lib.hid (show ∀ W, Fx w W g3 g4 g5 g7 g8 g13 b [O0, O1, p2, p3, false] (refsC (PP b)) (endsC (T ++ [(k, v)])) → Hid (Fx w W g3 g4 g5 g7 g8 g13 b [O0, O1, (there (fAt b) (k + 1)).any (wrB (PP b)), (there (fAt b) (k + 1)).any (lqB (RR b)), false] (refsC (PP b)) (endsC (there (fAt b) (k + 1)))) from fun W hW => by
                rw [HNx.out, HP.out.1, HP.out.2]
                exact Lib.hid hW)
              cases o3 with
              | true =>
                have f7 := HX.out.fw.on.frozen 3
                obtain rfl : p3 = true := by rw [HL.out]; rfl
                have HXn := HE.out _ (HX.out.on_ 3 true (on' := [O0, O1, p2, true, false]) rfl)
                clear hcall
                go_wp2_with fail
                go_roundw
                case rel => exact ⟨k + 1, by omega, by go_num, HXn⟩
                case measure => simp [intOf]; omega
              | false =>
                obtain rfl : p3 = fr := by rw [HL.out]; rfl
                go_wp2_with fail
                refine hcall.mono ?_; rintro e w6 ⟨rfl, k6⟩
                have HX6 := Lib.hid (HX.out.nob k6)
                have c7 := HX6.out.fw.onc (k := 3) rfl
                have f7 := HX6.out.fw.on.frozen 3
                have HXn := HE.out _ (HX6.out.on_ 3 p3 (on' := [O0, O1, p2, p3, false]) rfl)
                clear hcall k6
                go_wp2_with fail
                go_roundw
                case rel => exact ⟨k + 1, by omega, by go_num, HXn⟩
                case measure => simp [intOf]; omega
          · have c0 : wr.cell? ⟨g4, k * 4, none⟩ = some (.int .i64 0) := by
              rw [← (f_st HG.out hk12).2 hth]; exact HX.out.fw.fc (j := 0) hk12 (by decide)
            have HE := Lib.hid (there_skip (fAt b) hth)
            clear hth
            go_wp2_with fail
            go_roundw
            case rel => exact ⟨k + 1, by omega, by go_num, by rw [HE.out]; exact HX⟩
            case measure => simp [intOf]; omega
        · have hk12 : k = 12 := by omega
          rw [hk12] at HX
          obtain ⟨O2, hO2⟩ : ∃ x, (FF b).any (wrB (PP b)) = x := ⟨_, rfl⟩
          obtain ⟨O3, hO3⟩ : ∃ x, (FF b).any (lqB (RR b)) = x := ⟨_, rfl⟩
          have HX : Hid (Fx w wr g3 g4 g5 g7 g8 g13 b [O0, O1, (FF b).any (wrB (PP b)), (FF b).any (lqB (RR b)), false] (refsC (PP b)) (endsC (FF b))) := HX
          rw [hO2, hO3] at HX
          have HO2 := Lib.hid (And.intro hO2 hO3)
          clear hO2 hO3 hk12 hk
          go_wp2_with fail
          go_loopw [15] (fun s15 wx => ∃ (k : Nat), k ≤ 4 ∧ s15 = .int .i64 k ∧ Hid (Fx w wx g3 g4 g5 g7 g8 g13 b [O0, O1, O2, O3, (there (rAt b) k).any (weB (FF b))] (refsC (PP b)) (endsC (FF b)))) (fun s15 _ => 4 - (intOf s15).toNat)
          case atStart => exact ⟨0, Nat.zero_le _, rfl, HX⟩
          case round =>
            clear HX
            obtain ⟨k, hk, rfl, HX⟩ := hrel
            by_cases hlt : (k : Int) < 4
            · have hk4 : k < 4 := by omega
              by_cases hth : (rAt b k).2 = 1
              · have hnx := there_next (rAt b) hth
                have hcall := HFr.out wr k hk4 false (by rw [hth]; rfl)
                obtain ⟨v, hv⟩ : ∃ v, vR b k = v := ⟨_, rfl⟩
                rw [show (rAt b k).1 = v from hv] at hnx
                obtain ⟨T, hT⟩ : ∃ T, there (rAt b) k = T := ⟨_, rfl⟩
                rw [hT] at HX hnx
                obtain ⟨rr, hrr⟩ : ∃ x, v.r = x := ⟨_, rfl⟩
                obtain ⟨ss, hss⟩ : ∃ x, v.s = x := ⟨_, rfl⟩
                obtain ⟨a1, ha1⟩ : ∃ x, cntF (FF b) (k : Int) 1 = x := ⟨_, rfl⟩
                obtain ⟨a2, ha2⟩ : ∃ x, cntF (FF b) (k : Int) 2 = x := ⟨_, rfl⟩
                obtain ⟨o4, ho4⟩ : ∃ x, T.any (weB (FF b)) = x := ⟨_, rfl⟩
                obtain ⟨p4, hp4⟩ : ∃ x, (T ++ [(k, v)]).any (weB (FF b)) = x := ⟨_, rfl⟩
                have hq4 : p4 = (o4 || (rr != (a1 : Int) || ss != (a2 : Int) || (rr == 0 && ss == 0))) := by
                  rw [← hp4, ← ho4, List.any_append]
                  simp only [List.any_cons, List.any_nil, Bool.or_false]
                  rw [we_as, hrr, hss, ha1, ha2]
                rw [ho4] at HX
                have HCe := Lib.hid (show ∀ W on, Fx w W g3 g4 g5 g7 g8 g13 b on (refsC (PP b)) (endsC (FF b)) → W.cell? ⟨g5, k * 36 + 2, none⟩ = some (.int .i64 rr) ∧ W.cell? ⟨g5, k * 36 + 3, none⟩ = some (.int .i64 ss) ∧ W.cell? ⟨g13, k * 2, none⟩ = some (.int .i64 (a1 : Int)) ∧ W.cell? ⟨g13, k * 2 + 1, none⟩ = some (.int .i64 (a2 : Int)) from fun W on hW => by
                  rw [← hrr, ← hss, ← ha1, ← ha2, ← hv]
                  exact ⟨(hW.fw.rc hk4).1, (hW.fw.rc hk4).2, (hW.e.cell _).trans (endsC_get (FF b) (q := k) (k := 0) rfl hk4 (by decide)), (hW.e.cell _).trans (endsC_get (FF b) (q := k) (k := 1) rfl hk4 (by decide))⟩)
                have HE := Lib.hid (show ∀ W, Fx w W g3 g4 g5 g7 g8 g13 b [O0, O1, O2, O3, p4] (refsC (PP b)) (endsC (FF b)) → Hid (Fx w W g3 g4 g5 g7 g8 g13 b [O0, O1, O2, O3, (there (rAt b) (k + 1)).any (weB (FF b))] (refsC (PP b)) (endsC (FF b))) from fun W hW => by
                  rw [hnx, hp4]
                  exact Lib.hid hW)
                have HQ4 := Lib.hid hq4
                clear hnx hv hT hrr hss ha1 ha2 ho4 hp4 hq4 hth
                go_wp2_with fail
                refine hcall.mono ?_; rintro e w6 ⟨rfl, k6⟩
                have HX6 := Lib.hid (HX.out.nob k6)
                have HXd := Lib.hid (HX6.out.nob (Keep.nobdrew w6))
                obtain ⟨d0, d1, d2, d3⟩ := HCe.out _ _ HXd.out
                have d7 := HXd.out.fw.onc (k := 4) rfl
                have f7 := HXd.out.fw.on.frozen 4
                have HXn := Lib.hid (HE.out _ ((HX6.out.on_ 4 p4 (on' := [O0, O1, O2, O3, p4]) rfl).nob (Keep.nobdrew _)))
                clear hcall k6
                rcases (show o4 = true ∨ (o4 = false ∧ ((¬ (rr = (a1 : Int))) ∨ (rr = (a1 : Int) ∧ (¬ (ss = (a2 : Int)) ∨ (ss = (a2 : Int) ∧ ((¬ (rr = 0)) ∨ (rr = 0 ∧ ((¬ (ss = 0)) ∨ ss = 0)))))))) by
                  cases o4
                  · right
                    refine ⟨rfl, ?_⟩
                    by_cases e1 : rr = (a1 : Int)
                    · right; refine ⟨e1, ?_⟩
                      by_cases e2 : ss = (a2 : Int)
                      · right; refine ⟨e2, ?_⟩
                        by_cases e3 : rr = 0
                        · right; exact ⟨e3, (Decidable.em (ss = 0)).symm⟩
                        · exact .inl e3
                      · exact .inl e2
                    · exact .inl e1
                  · exact .inl rfl) with rfl | ⟨rfl, e1 | ⟨e1, e2 | ⟨e2, e3 | ⟨e3, e4 | e4⟩⟩⟩⟩
                · obtain rfl : p4 = true := by rw [HQ4.out]; rfl
                  clear HE HQ4 
                  go_wp2_with fail
                  go_region
                  all_goals (go_wp2_with fail; go_roundw; (case rel => exact ⟨k + 1, by omega, by go_num, HXn.out⟩); (case measure => simp [intOf]; omega))
                · obtain rfl : p4 = true := by rw [HQ4.out]; simp [e1]
                  have z1 : (rr != (a1 : Int)) = true := by simp [e1]
                  clear HE HQ4 e1
                  go_wp2_with fail
                  go_region
                  all_goals (go_wp2_with fail; go_roundw; (case rel => exact ⟨k + 1, by omega, by go_num, HXn.out⟩); (case measure => simp [intOf]; omega))
                · obtain rfl : p4 = true := by rw [HQ4.out]; simp [e2]
                  have z1 : (rr != (a1 : Int)) = false := by simp [e1]
                  have z2 : (ss != (a2 : Int)) = true := by simp [e2]
                  clear HE HQ4 e1 e2
                  go_wp2_with fail
                  go_region
                  all_goals (go_wp2_with fail; go_roundw; (case rel => exact ⟨k + 1, by omega, by go_num, HXn.out⟩); (case measure => simp [intOf]; omega))
                · obtain rfl : p4 = false := by rw [HQ4.out]; rw [beq_eq_false_iff_ne.2 e3, e1, e2]; simp
                  have z1 : (rr != (a1 : Int)) = false := by simp [e1]
                  have z2 : (ss != (a2 : Int)) = false := by simp [e2]
                  have z3 : (rr == 0) = false := by simp [e3]
                  clear HE HQ4 e1 e2 e3
                  go_wp2_with fail
                  go_region
                  all_goals (go_wp2_with fail; go_roundw; (case rel => exact ⟨k + 1, by omega, by go_num, HXn.out⟩); (case measure => simp [intOf]; omega))
                · obtain rfl : p4 = false := by rw [HQ4.out]; rw [beq_eq_false_iff_ne.2 e4, e1, e2]; simp
                  have z1 : (rr != (a1 : Int)) = false := by simp [e1]
                  have z2 : (ss != (a2 : Int)) = false := by simp [e2]
                  have z3 : (rr == 0) = true := by simp [e3]
                  have z4 : (ss == 0) = false := by simp [e4]
                  clear HE HQ4 e1 e2 e3 e4
                  go_wp2_with fail
                  go_region
                  all_goals (go_wp2_with fail; go_roundw; (case rel => exact ⟨k + 1, by omega, by go_num, HXn.out⟩); (case measure => simp [intOf]; omega))
                · obtain rfl : p4 = true := by rw [HQ4.out]; simp [e3, e4]
                  have z1 : (rr != (a1 : Int)) = false := by simp [e1]
                  have z2 : (ss != (a2 : Int)) = false := by simp [e2]
                  have z3 : (rr == 0) = true := by simp [e3]
                  have z4 : (ss == 0) = true := by simp [e4]
                  clear HE HQ4 e1 e2 e3 e4
                  go_wp2_with fail
                  go_region
                  all_goals (go_wp2_with fail; go_roundw; (case rel => exact ⟨k + 1, by omega, by go_num, HXn.out⟩); (case measure => simp [intOf]; omega))
              · have hcall := HFr.out wr k hk4 true (by rw [(r_st HG.out hk4).2 hth]; rfl)
                have HE := Lib.hid (there_skip (rAt b) hth)
                clear hth
                go_wp2_with fail
                refine hcall.mono ?_; rintro e w6 ⟨rfl, k6⟩
                have HX6 := Lib.hid (HX.out.nob k6)
                clear hcall k6
                go_wp2_with fail
                go_roundw
                case rel => exact ⟨k + 1, by omega, by go_num, by rw [HE.out]; exact HX6⟩
                case measure => simp [intOf]; omega
            · have hk4 : k = 4 := by omega
              rw [hk4] at HX
              clear hk4
              obtain ⟨O4, hO4⟩ : ∃ x, (RR b).any (weB (FF b)) = x := ⟨_, rfl⟩
              have HX : Hid (Fx w wr g3 g4 g5 g7 g8 g13 b [O0, O1, O2, O3, (RR b).any (weB (FF b))] (refsC (PP b)) (endsC (FF b))) := HX
              rw [hO4] at HX
              have hfl : asked b = five O0 O1 O2 O3 O4 := by
                unfold asked
                rw [show (PP b).any (lpB (PP b)) = O0 from HO.out.1, show (PP b).any (lfB (FF b)) = O1 from HO.out.2, HO2.out.1, HO2.out.2, hO4]
              have HB := Lib.hid (show Keep (From w.heap.size) w wr ∧ Blk wr g7 164 (bools [O0, O1, O2, O3, O4]) from ⟨HX.out.fw.keep, HX.out.fw.on⟩)
              obtain ⟨fl, hfv⟩ : ∃ fl, five O0 O1 O2 O3 O4 = fl := ⟨_, rfl⟩
              rw [hfv] at hfl
              have hans := HAns.out
              rw [hfl] at hans
              subst hans
              have HFV := Lib.hid hfv
              have HFl := Lib.hid (show fl.length = 5 by rw [← hfv]; rfl)
              clear HX hO4 hfl HO HO2 hk HFr hfv HF HAns
              go_wp2_with fail
              go_loopw [16, 17] (fun s16 s17 wx => ∃ (k : Nat) (D : Option Addr) (cd : Nat), k ≤ 5 ∧ s17 = .int .i64 k ∧ s16 = .slice D (told (fl.take k)).length cd ∧ Vec wx 9 1 D (told (fl.take k)).length cd (strs (told (fl.take k))) ∧ Hid ((∀ x, Own D x → w.heap.size ≤ x ∧ x ≠ g7) ∧ Keep (From w.heap.size) w wx ∧ Blk wx g7 164 (bools [O0, O1, O2, O3, O4]))) (fun _ s17 _ => 5 - (intOf s17).toNat)
              case atStart => exact ⟨0, none, 0, Nat.zero_le _, rfl, rfl, Vec.nil _ _ _, Lib.hid ⟨fun x ⟨a, e, _⟩ => (by cases e), HB.out.1, HB.out.2⟩⟩
              case round =>
                clear HB
                obtain ⟨k, D2, cd2, hk, rfl, rfl, hV, HB⟩ := hrel
                by_cases hlt : (k : Int) < 5
                · obtain ⟨⟨s, v⟩, hx⟩ : ∃ x, fl[k]? = some x := ⟨_, List.getElem?_eq_getElem (by rw [HFl.out]; omega)⟩
                  have hle := told_le (l := fl) k
                  have htk := told_take hx
                  have HTk := Lib.hid htk
                  have HV := Lib.hid hV
                  have hsv : (fl[k]?).map (·.2) = some v := by rw [hx]; rfl
                  have hss : (fl[k]?).map (·.1) = some s := by rw [hx]; rfl
                  have c7 : wr.cell? ⟨g7, k, none⟩ = some (.bool v) := by
                    rw [HB.out.2.2.cell]
                    rw [← HFV.out] at hsv
                    have hk5 : k = 0 ∨ k = 1 ∨ k = 2 ∨ k = 3 ∨ k = 4 := by omega
                    rcases hk5 with h | h | h | h | h <;> rw [h] at hsv ⊢ <;> exact congrArg (Option.map Value.bool) hsv
                  have cs : (wr.alloc (.cells #[.string { data := #[112, 97, 114, 101, 110, 116] }, .string { data := #[102, 100] }, .string { data := #[114, 101, 102, 115] }, .string { data := #[112, 105, 112, 101] }, .string { data := #[101, 110, 100, 115] }] 9)).cell? ⟨wr.heap.size, k, none⟩ = some (.string s) := by
                    have hb := Blk.new wr 9 [.string sParent, .string sFd, .string sRefs, .string sPipe, .string sEnds]
                    refine (hb.cell k).trans ?_
                    rw [← HFV.out] at hss
                    have hk5 : k = 0 ∨ k = 1 ∨ k = 2 ∨ k = 3 ∨ k = 4 := by omega
                    rcases hk5 with h | h | h | h | h <;> rw [h] at hss ⊢ <;> exact congrArg (Option.map Value.string) hss
                  clear htk hx hV hsv hss
                  cases v with
                  | true =>
                    have ka := (Keep.refl Nob wr).alloc (.cells #[.string { data := #[112, 97, 114, 101, 110, 116] }, .string { data := #[102, 100] }, .string { data := #[114, 101, 102, 115] }, .string { data := #[112, 105, 112, 101] }, .string { data := #[101, 110, 100, 115] }] 9)
                    have kb := ka.alloc (.cells #[.string s] 9)
                    have hvx := HV.out.nob kb
                    have hs1 : (wr.alloc (.cells #[.string { data := #[112, 97, 114, 101, 110, 116] }, .string { data := #[102, 100] }, .string { data := #[114, 101, 102, 115] }, .string { data := #[112, 105, 112, 101] }, .string { data := #[101, 110, 100, 115] }] 9)).heap.size = wr.heap.size + 1 := by simp
                    have hr4 := reads_all (n := 1) (Blk.new (wr.alloc (.cells #[.string { data := #[112, 97, 114, 101, 110, 116] }, .string { data := #[102, 100] }, .string { data := #[114, 101, 102, 115] }, .string { data := #[112, 105, 112, 101] }, .string { data := #[101, 110, 100, 115] }] 9)) 9 [.string s]) rfl
                    rw [hs1] at hr4
                    have HKb := Lib.hid kb
                    clear ka kb hs1
                    go_wp2_with (at_builtin; go_loud (refine wpList_ap rfl _ _ 76 rfl 9 1 16 _ Tryz.underlying76 info_str rfl (by decide) D2 (told (fl.take k)).length cd2 _ rfl hvx (some ⟨wr.heap.size + 1, 0, none⟩) 1 1 [.string s] rfl 1 rfl hr4 (fun u hu => by simp at hu; subst hu; rfl) (by unfold maxLen; omega) (by omega) ?_); intro A2 c2 w5 hv5 hk5 ho5)
                    have e1 : told (fl.take (k + 1)) = told (fl.take k) ++ [s] := HTk.out
                    have e2 : (told (fl.take (k + 1))).length = (told (fl.take k)).length + 1 := by rw [e1, List.length_append]; rfl
                    have H5 := Lib.hid (show Vec w5 9 1 A2 (told (fl.take (k + 1))).length c2 (strs (told (fl.take (k + 1)))) ∧ (∀ x, Own A2 x → w.heap.size ≤ x ∧ x ≠ g7) ∧ Keep (From w.heap.size) w w5 ∧ Blk w5 g7 164 (bools [O0, O1, O2, O3, O4]) by
                      refine ⟨by rw [e2, e1]; simpa [strs] using hv5, fun x hx => ?_, (HB.out.2.1.nob HKb.out).from_ hk5 (fun x m => (HB.out.1 x m).1), (HB.out.2.2.nob HKb.out).keep hk5 (fun m => (HB.out.1 g7 m).2 rfl)⟩
                      rcases ho5 x hx with m | m
                      · exact HB.out.1 x m
                      · have h1 := HB.out.2.1.size
                        have h2 := HB.out.2.2.lt
                        have h3 := HKb.out.size
                        exact ⟨by omega, by omega⟩)
                    have E2 := Lib.hid e2
                    clear hvx hr4 hv5 hk5 ho5 e1 e2 cs c7
                    go_roundw
                    case rel => exact ⟨k + 1, A2, c2, by omega, by go_num, by rw [E2.out], H5.out.1, Lib.hid H5.out.2⟩
                    case measure => simp [intOf]; omega
                  | false =>
                    have e1 : told (fl.take (k + 1)) = told (fl.take k) := by
                      have := HTk.out
                      simpa using this
                    have E1 := Lib.hid e1
                    clear e1
                    go_wp2_with fail
                    go_roundw
                    case rel => exact ⟨k + 1, D2, cd2, by omega, by go_num, by rw [E1.out], by rw [E1.out]; exact HV.out, HB⟩
                    case measure => simp [intOf]; omega
                · have hk5 : k = 5 := by omega
                  have e : fl.take k = fl := List.take_of_length_le (by rw [HFl.out, hk5]; exact Nat.le_refl _)
                  rw [e] at hV ⊢
                  have F := Lib.hid (And.intro (show Reads wr D2 (told fl).length (strs (told fl)) by have := hV.reads; rwa [Nat.mul_one] at this) HB.out.2.1)
                  clear hV HB e hk5
                  go_wp2
                  go_ret
                  exact ⟨D2, ⟨cd2, rfl⟩, F.out⟩
end Go.Proofs.YtngchjejmnfanaaGreat.Au
