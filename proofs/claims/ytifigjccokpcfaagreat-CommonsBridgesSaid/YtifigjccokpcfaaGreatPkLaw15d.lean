/- The walk of CommonsBridges. Written by c15/gen15d.py. -/
import Derived.Test.YtifigjccokpcfaaGreatPk0
import Derived.Test.YtifigjccokpcfaaGreatPk3
import Derived.Test.YtifigjccokpcfaaGreatPk5
import Derived.Test.YtifigjccokpcfaaGreatPk18
import Derived.Test.YtifigjccokpcfaaGreatPk19
import Derived.Test.YtifigjccokpcfaaGreatPk1
import Derived.Test.YtifigjccokpcfaaGreatPk8
import Derived.Test.YtifigjccokpcfaaGreatPk12
import Derived.Test.YtifigjccokpcfaaGreatPk21
import Derived.Test.YtifigjccokpcfaaGreatPk22
import Derived.Test.YtifigjccokpcfaaGreatPk13
import Derived.Test.YtifigjccokpcfaaGreatPk15
import Derived.Test.YtifigjccokpcfaaGreatPk14
import Derived.Test.YtifigjccokpcfaaGreatPk16
import Derived.Test.YtifigjccokpcfaaGreatPk17
import Derived.Test.YtifigjccokpcfaaGreatPk24
import Derived.Test.YtifigjccokpcfaaGreatPk23
import Derived.Test.YtifigjccokpcfaaGreatPk6
import Derived.Test.YtifigjccokpcfaaGreatPk9
import Derived.Test.YtifigjccokpcfaaGreatPk20
import Derived.Test.YtifigjccokpcfaaGreatPk2
import Derived.Test.YtifigjccokpcfaaGreatPk25
import Derived.Test.YtifigjccokpcfaaGreatPk26
import Derived.Test.YtifigjccokpcfaaGreatPk10
import Derived.Test.YtifigjccokpcfaaGreatPk11
import Derived.Test.YtifigjccokpcfaaGreatPk27
import Derived.Test.YtifigjccokpcfaaGreatPk7
import Derived.Test.YtifigjccokpcfaaGreatPk28
namespace Go.Proofs.YtifigjccokpcfaaGreat.Pn
open Go.RowKit Co
set_option linter.unusedVariables false
set_option linter.unusedSimpArgs false
set_option maxRecDepth 100000 in
set_option maxHeartbeats 16000000 in
theorem bridges_in (w : World) (a0 : Int) (A1 : Option Addr) (n1 c1 : Nat) (x1 : List UInt8) (hr : Reads w A1 n1 (bytes x1)) (a2 : Bool) :
    Calls Tryz.prog 6 #[.int .i64 a0, .slice A1 n1 c1, .bool a2] w fun e w' => e = .returned (.bool true) ∧ Below w.heap.size w w' := by
  by_cases hn : (60 : Int) < n1
  · go_enter Tryz.func6, Tryz.ntmps6
    go_wp2_with fail
    refine (awake_is w).mono ?_; rintro e w1 ⟨rfl, k1⟩
    go_wp2
    go_ret
    exact ⟨rfl, k1.done⟩
  have HR := Lib.hid hr
  clear hr
  go_enter Tryz.func6, Tryz.ntmps6
  go_wp2_with fail
  refine (plan_is w).mono ?_; rintro e w1 ⟨Ab, AB, rfl, hr, k1⟩
  go_wp2_with fail
  refine (open_is Ab AB hr).mono ?_; rintro e w2 ⟨N0, K, C, b, k2, pq, R, Ag, ng, cg, g, B, c, rfl, hO⟩
  have hnew := Co.cnew_is hO.op.kc.k 9 (by rw [hO.g2.n18]; decide) 256 [257, 258] (hO.g2.names (by decide)) (by decide)
  have HG := Lib.hid hO.g2
  have HX := Lib.hid hO.xs
  have HC := Lib.hid (show C.brs.length = 2 ∧ C.bad = [] from ⟨by rw [hO.brs]; rfl, hO.bad⟩)
  have O2 := Lib.hid hO.op
  have K1 := Lib.hid k1
  clear hO hr k1
  go_wp2_with fail
  refine hnew.mono ?_; rintro e w3 ⟨D, rfl, hD⟩
  have hlk : Link K D (src2 1) := by
    have := HG.out.link (C := D) (by rw [hD.env]; decide) hD.name hD.brs
    rw [hD.env] at this
    exact this
  have O3 := Lib.hid (Op2.of_new O2.out hD hlk)
  have HD := Lib.hid (show D.brs.length = 2 ∧ D.bad = [] from ⟨by rw [hD.brs]; rfl, hD.bad⟩)
  clear hnew hD hlk
  obtain ⟨p, hp⟩ : ∃ p, Ri.made a0 x1 = p := ⟨_, rfl⟩
  have hpipe := Ri.made_is a0 A1 n1 c1 x1 w3 (HR.out.from_ (from_join K1.out O3.out.c.keep)) p hp
  have HP := Lib.hid (show p.d.length = 32 ∧ Ri.okd p = true from ⟨by rw [← hp]; exact Ri.made_len _ _, by rw [← hp]; exact Ri.made_ok _ _⟩)
  unfold Ri.pv at hpipe
  clear hp
  go_wp2_with fail
  refine hpipe.mono ?_; rintro e w4 ⟨rfl, k4⟩
  have O4 := Lib.hid (O3.out.nob k4)
  clear hpipe k4 O2 O3
  cases a2 with
  | false =>
    go_wp2_with (first
      | (refine Ri.wpList_al rfl rfl ?_; intro w5 hb5 hk5 hs5; clear hs5)
      | (refine Ri.wpList_st rfl (.tmp 13) _ rfl w4.heap.size p Ri.noP rfl rfl HP.out.1 Ri.noP_len hb5 ?_; intro w6 hb6 hk6 hs6; clear hs6))
    have O6 := O4.out.own hk5 hb5 (by decide) (by decide) hk6
    clear hb5 hk5 hk6 O4
    generalize w4.heap.size = pb at *
    go_loopw [14] (fun s14 wx => ∃ (i : Nat) (ys : List UInt8), 4 ≤ i ∧ i ≤ 6 ∧ s14 = .int .i64 i ∧ Op2 w1 wx { K with xs := ys } C (src2 0) D (src2 1) ∧ Blk wx pb 48 (Ri.pc p) ∧ Hid (ys.length = 2560 ∧ (ys.drop 1568).take 40 = List.replicate 40 0)) (fun t _ => 6 - (intOf t).toNat)
    case atStart => exact ⟨4, K.xs, by omega, by omega, rfl, O6, hb6, Lib.hid ⟨by rw [HX.out]; exact xs0_len, by rw [HX.out]; exact xs0_far⟩⟩
    case round =>
      clear O6 hb6
      obtain ⟨i, ys, h4, h6, rfl, O, hb, HY⟩ := hrel
      have HO := Lib.hid O
      have HB := Lib.hid hb
      by_cases hlt : i < 6
      · have hi45 : i = 4 ∨ i = 5 := by omega
        obtain ⟨zs, hzs⟩ : ∃ zs, zs = splice ys (base2 0 (i - 3)) (Ri.enc p) := ⟨_, rfl⟩
        have HZ := Lib.hid hzs
        have HZL := Lib.hid (show zs.length = 2560 ∧ (zs.drop 1568).take 40 = List.replicate 40 0 by
          have he := Ri.enc_len HP.out.1
          have hy := HY.out.1
          have hb := base_in 0 hi45
          rw [hzs]
          exact ⟨by rw [splice_len _ _ _ (by omega)]; exact hy, by rw [splice_by (by omega) (by omega)]; exact HY.out.2⟩)
        clear O hb hzs
        have hset := Co.setPipe_is HO.out.c.kc (i : Int) (wfi (by omega) (by omega)) p HP.out.1 true zs (by show pset _ _ ys _ _ _ _ = _; rw [HP.out.2, HC.out.1, HC.out.2, HZ.out]; exact pset_br 0 hi45)
        have hget := fun W (O : Op2 w1 W { K with xs := zs } C (src2 0) D (src2 1)) => Co.pipe_is O.d.kc (i : Int) (wfi (by omega) (by omega)) p 1 D.bad (by show pread _ _ zs _ _ _ _ = _; rw [HD.out.1, HD.out.2, HZ.out]; exact pread_br HP.out.1 HP.out.2 HY.out.1 0 1 hi45)
        have hne := fun W => Ri.ne_pv p p HP.out.1 HP.out.1 true (Ri.same_refl p) W
        unfold Ri.pv at hne
        have HSet := Lib.hid hset
        have HGet := Lib.hid hget
        have hpp := HB.out
        clear hset hget
        go_wp2_with (refine Ri.wpList_ld rfl (.tmp 13) rfl pb p rfl HP.out.1 hpp ?_)
        refine HSet.out.mono ?_; rintro e w7 ⟨rfl, t7⟩
        have O7 := Lib.hid (HO.out.bytes t7)
        have hp7 := Ct.off HO.out.c.kc (Ct.of_to HO.out.c.kc t7) HB.out (by decide)
        clear t7 hpp
        go_wp2_with fail
        refine (HGet.out _ O7.out).mono ?_; rintro e w8 ⟨rfl, t8⟩
        have O8 := Lib.hid (O7.out.swap.reads t8).swap
        have hp8 := Ct.off O7.out.d.kc t8 hp7 (by decide)
        have hlt8 := hp8.lt
        clear t8 hp7 HSet HGet
        go_wp2_with (first
          | (refine Ri.wpList_al rfl rfl ?_; intro w9 hb9 hk9 hs9; clear hs9; have hp9 := hp8.nob hk9)
          | (refine Ri.wpList_st rfl (.tmp 17) _ rfl w8.heap.size p Ri.noP rfl rfl HP.out.1 rfl hb9 ?_; intro wa hba hka hsa; clear hsa; have hpa := hp9.keep hka (by omega))
          | (refine Ri.wpList_ldw (by rfl) (.tmp 17) rfl w8.heap.size p rfl HP.out.1 hba ?_)
          | (refine Ri.wpList_ldw (by rfl) (.tmp 13) rfl pb p rfl HP.out.1 hpa ?_))
        have OA := Lib.hid (O8.out.own hk9 hb9 (by decide) (by decide) hka)
        go_roundw
        case rel => exact ⟨i + 1, zs, by omega, by omega, by go_num, OA.out, hpa, Lib.hid ⟨HZL.out.1, HZL.out.2⟩⟩
        case measure => simp [intOf]; omega
      · have hi6 := Lib.hid (show i = 6 by omega)
        have hc6 := Co.pipe_is O.c.kc 6 (wfi (by omega) (by omega)) Ri.noP 2 C.bad (by rw [HC.out.1, HC.out.2]; exact pread_no6 _ 0)
        have hd0 := fun W (O : Op2 w1 W { K with xs := ys } C (src2 0) D (src2 1)) => Co.pipe_is O.d.kc 0 (wfi (by omega) (by omega)) Ri.noP 0 D.bad (by show pread _ _ ys _ _ _ _ = _; rw [HD.out.1, HD.out.2]; exact pread_r0 HY.out.2)
        have hbd := fun W (O : Op2 w1 W { K with xs := ys } C (src2 0) D (src2 1)) => Co.bad_is O.c.kc.c
        rw [HC.out.2] at hbd
        have H1 := Lib.hid hc6
        have H2 := Lib.hid hd0
        have H3 := Lib.hid hbd
        clear hc6 hd0 hbd O hb
        go_wp2_with fail
        refine H1.out.mono ?_; rintro e w7 ⟨rfl, t7⟩
        have O7 := Lib.hid (HO.out.reads t7)
        clear t7
        go_wp2_with (first
          | (refine Ri.wpList_al rfl rfl ?_; intro w8 hb8 hk8 hs8; clear hs8)
          | (refine Ri.wpList_st rfl (.tmp 19) _ rfl w7.heap.size Ri.noP Ri.noP rfl rfl Ri.noP_len Ri.noP_len hb8 ?_; intro w9 hb9 hk9 hs9; clear hs9))
        have O9 := Lib.hid (O7.out.own hk8 hb8 (by decide) (by decide) hk9)
        clear hb8 hk8 hb9 hk9 O7
        refine (H2.out _ O9.out).mono ?_; rintro e wa ⟨rfl, ta⟩
        have OA := Lib.hid (O9.out.swap.reads ta).swap
        clear ta O9
        go_wp2_with (first
          | (refine Ri.wpList_al rfl rfl ?_; intro wb hbb hkb hsb; clear hsb)
          | (refine Ri.wpList_st rfl (.tmp 21) _ rfl wa.heap.size Ri.noP Ri.noP rfl rfl Ri.noP_len Ri.noP_len hbb ?_; intro wc hbc hkc hsc; clear hsc))
        have OC := Lib.hid (OA.out.own hkb hbb (by decide) (by decide) hkc)
        clear hbb hkb hbc hkc OA
        refine (H3.out _ OC.out).mono ?_; rintro e wd ⟨A9, c9, rfl, _, kd⟩
        have OD := Lib.hid (OC.out.nob kd)
        clear kd OC
        go_wp2_with fail
        refine (awake_is _).mono ?_; rintro e we ⟨rfl, ke⟩
        go_wp2
        go_ret
        exact ⟨rfl, (from_join2 (from_join K1.out OD.out.c.keep) ke).done⟩
  | true =>
    go_wp2_with (first
      | (refine Ri.wpList_al rfl rfl ?_; intro w5 hb5 hk5 hs5; clear hs5)
      | (refine Ri.wpList_st rfl (.tmp 13) _ rfl w4.heap.size p Ri.noP rfl rfl HP.out.1 Ri.noP_len hb5 ?_; intro w6 hb6 hk6 hs6; clear hs6))
    have O6 := O4.out.own hk5 hb5 (by decide) (by decide) hk6
    clear hb5 hk5 hk6 O4
    generalize w4.heap.size = pb at *
    go_loopw [14] (fun s14 wx => ∃ (i : Nat) (ys : List UInt8), 4 ≤ i ∧ i ≤ 6 ∧ s14 = .int .i64 i ∧ Op2 w1 wx { K with xs := ys } C (src2 0) D (src2 1) ∧ Blk wx pb 48 (Ri.pc p) ∧ Hid (ys.length = 2560 ∧ (ys.drop 1568).take 40 = List.replicate 40 0)) (fun t _ => 6 - (intOf t).toNat)
    case atStart => exact ⟨4, K.xs, by omega, by omega, rfl, O6, hb6, Lib.hid ⟨by rw [HX.out]; exact xs0_len, by rw [HX.out]; exact xs0_far⟩⟩
    case round =>
      clear O6 hb6
      obtain ⟨i, ys, h4, h6, rfl, O, hb, HY⟩ := hrel
      have HO := Lib.hid O
      have HB := Lib.hid hb
      by_cases hlt : i < 6
      · have hi45 : i = 4 ∨ i = 5 := by omega
        obtain ⟨zs, hzs⟩ : ∃ zs, zs = splice ys (base2 1 (i - 3)) (Ri.enc p) := ⟨_, rfl⟩
        have HZ := Lib.hid hzs
        have HZL := Lib.hid (show zs.length = 2560 ∧ (zs.drop 1568).take 40 = List.replicate 40 0 by
          have he := Ri.enc_len HP.out.1
          have hy := HY.out.1
          have hb := base_in 1 hi45
          rw [hzs]
          exact ⟨by rw [splice_len _ _ _ (by omega)]; exact hy, by rw [splice_by (by omega) (by omega)]; exact HY.out.2⟩)
        clear O hb hzs
        have hset := Co.setPipe_is ((HO.out).swap).c.kc (i : Int) (wfi (by omega) (by omega)) p HP.out.1 true zs (by show pset _ _ ys _ _ _ _ = _; rw [HP.out.2, HD.out.1, HD.out.2, HZ.out]; exact pset_br 1 hi45)
        have hget := fun W (O : Op2 w1 W { K with xs := zs } D (src2 1) C (src2 0)) => Co.pipe_is O.d.kc (i : Int) (wfi (by omega) (by omega)) p 1 C.bad (by show pread _ _ zs _ _ _ _ = _; rw [HC.out.1, HC.out.2, HZ.out]; exact pread_br HP.out.1 HP.out.2 HY.out.1 1 0 hi45)
        have hne := fun W => Ri.ne_pv p p HP.out.1 HP.out.1 true (Ri.same_refl p) W
        unfold Ri.pv at hne
        have HSet := Lib.hid hset
        have HGet := Lib.hid hget
        have hpp := HB.out
        clear hset hget
        go_wp2_with (refine Ri.wpList_ld rfl (.tmp 13) rfl pb p rfl HP.out.1 hpp ?_)
        refine HSet.out.mono ?_; rintro e w7 ⟨rfl, t7⟩
        have O7 := Lib.hid (((HO.out).swap).bytes t7)
        have hp7 := Ct.off ((HO.out).swap).c.kc (Ct.of_to ((HO.out).swap).c.kc t7) HB.out (by decide)
        clear t7 hpp
        go_wp2_with fail
        refine (HGet.out _ O7.out).mono ?_; rintro e w8 ⟨rfl, t8⟩
        have O8 := Lib.hid (O7.out.swap.reads t8).swap
        have hp8 := Ct.off O7.out.d.kc t8 hp7 (by decide)
        have hlt8 := hp8.lt
        clear t8 hp7 HSet HGet
        go_wp2_with (first
          | (refine Ri.wpList_al rfl rfl ?_; intro w9 hb9 hk9 hs9; clear hs9; have hp9 := hp8.nob hk9)
          | (refine Ri.wpList_st rfl (.tmp 17) _ rfl w8.heap.size p Ri.noP rfl rfl HP.out.1 rfl hb9 ?_; intro wa hba hka hsa; clear hsa; have hpa := hp9.keep hka (by omega))
          | (refine Ri.wpList_ldw (by rfl) (.tmp 17) rfl w8.heap.size p rfl HP.out.1 hba ?_)
          | (refine Ri.wpList_ldw (by rfl) (.tmp 13) rfl pb p rfl HP.out.1 hpa ?_))
        have OA := Lib.hid (O8.out.own hk9 hb9 (by decide) (by decide) hka)
        go_roundw
        case rel => exact ⟨i + 1, zs, by omega, by omega, by go_num, ((OA.out).swap), hpa, Lib.hid ⟨HZL.out.1, HZL.out.2⟩⟩
        case measure => simp [intOf]; omega
      · have hi6 := Lib.hid (show i = 6 by omega)
        have hc6 := Co.pipe_is O.c.kc 6 (wfi (by omega) (by omega)) Ri.noP 2 C.bad (by rw [HC.out.1, HC.out.2]; exact pread_no6 _ 0)
        have hd0 := fun W (O : Op2 w1 W { K with xs := ys } C (src2 0) D (src2 1)) => Co.pipe_is O.d.kc 0 (wfi (by omega) (by omega)) Ri.noP 0 D.bad (by show pread _ _ ys _ _ _ _ = _; rw [HD.out.1, HD.out.2]; exact pread_r0 HY.out.2)
        have hbd := fun W (O : Op2 w1 W { K with xs := ys } C (src2 0) D (src2 1)) => Co.bad_is O.c.kc.c
        rw [HC.out.2] at hbd
        have H1 := Lib.hid hc6
        have H2 := Lib.hid hd0
        have H3 := Lib.hid hbd
        clear hc6 hd0 hbd O hb
        go_wp2_with fail
        refine H1.out.mono ?_; rintro e w7 ⟨rfl, t7⟩
        have O7 := Lib.hid (HO.out.reads t7)
        clear t7
        go_wp2_with (first
          | (refine Ri.wpList_al rfl rfl ?_; intro w8 hb8 hk8 hs8; clear hs8)
          | (refine Ri.wpList_st rfl (.tmp 19) _ rfl w7.heap.size Ri.noP Ri.noP rfl rfl Ri.noP_len Ri.noP_len hb8 ?_; intro w9 hb9 hk9 hs9; clear hs9))
        have O9 := Lib.hid (O7.out.own hk8 hb8 (by decide) (by decide) hk9)
        clear hb8 hk8 hb9 hk9 O7
        refine (H2.out _ O9.out).mono ?_; rintro e wa ⟨rfl, ta⟩
        have OA := Lib.hid (O9.out.swap.reads ta).swap
        clear ta O9
        go_wp2_with (first
          | (refine Ri.wpList_al rfl rfl ?_; intro wb hbb hkb hsb; clear hsb)
          | (refine Ri.wpList_st rfl (.tmp 21) _ rfl wa.heap.size Ri.noP Ri.noP rfl rfl Ri.noP_len Ri.noP_len hbb ?_; intro wc hbc hkc hsc; clear hsc))
        have OC := Lib.hid (OA.out.own hkb hbb (by decide) (by decide) hkc)
        clear hbb hkb hbc hkc OA
        refine (H3.out _ OC.out).mono ?_; rintro e wd ⟨A9, c9, rfl, _, kd⟩
        have OD := Lib.hid (OC.out.nob kd)
        clear kd OC
        go_wp2_with fail
        refine (awake_is _).mono ?_; rintro e we ⟨rfl, ke⟩
        go_wp2
        go_ret
        exact ⟨rfl, (from_join2 (from_join K1.out OD.out.c.keep) ke).done⟩
end Go.Proofs.YtifigjccokpcfaaGreat.Pn
namespace Go.Proofs.YtifigjccokpcfaaGreat
open Go.RowKit
theorem CommonsBridges_walk (w : World) (a0 : Int) (_w0 : (Lit.int .i64 a0).wf = true) (A1 : Option Addr) (n1 c1 : Nat) (x1 : Ty.den (.sl 1 .byte)) (w1 : Holds w (.sl 1 .byte) x1 [.slice A1 n1 c1]) (a2 : Bool) :
    Calls Tryz.prog 6 #[.int .i64 a0, .slice A1 n1 c1, .bool a2] w fun e w' => e = .returned (.bool true) ∧ Below w.heap.size w w' :=
  Pn.bridges_in w a0 A1 n1 c1 x1 (holds_bytes w1).2.1 a2
end Go.Proofs.YtifigjccokpcfaaGreat
