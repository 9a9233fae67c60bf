/- The walk of ProcOrphans. Written by c17/geno.py. -/
import Derived.ProofKit
import Derived.SizedLaws
import Derived.ChangeArms
import Derived.BigRegion
import Derived.Test.YtgcikpgcoemfnaaGreatRows
import Derived.Shelf.SlSortCmp.WholeK
import Derived.Deep.RegionHeld3
import Derived.Deep.QuietTactic
import Derived.BigQuiet
import Derived.StillTailTactics
import Derived.Lib.TrailingZeros
import Derived.Laws.ResultCell
import Derived.Shelf.Spec.TrailingZeros
import Derived.Test.YtgcikpgcoemfnaaGreatPu0
import Derived.Test.YtgcikpgcoemfnaaGreatPu4
import Derived.Test.YtgcikpgcoemfnaaGreatPu18
import Derived.Test.YtgcikpgcoemfnaaGreatPu19
import Derived.Test.YtgcikpgcoemfnaaGreatPu1
import Derived.Test.YtgcikpgcoemfnaaGreatPu7
import Derived.Test.YtgcikpgcoemfnaaGreatPu11
import Derived.Test.YtgcikpgcoemfnaaGreatPu21
import Derived.Test.YtgcikpgcoemfnaaGreatPu22
import Derived.Test.YtgcikpgcoemfnaaGreatPu12
import Derived.Test.YtgcikpgcoemfnaaGreatPu14
import Derived.Test.YtgcikpgcoemfnaaGreatPu13
import Derived.Test.YtgcikpgcoemfnaaGreatPu15
import Derived.Test.YtgcikpgcoemfnaaGreatPu16
import Derived.Test.YtgcikpgcoemfnaaGreatPu24
import Derived.Test.YtgcikpgcoemfnaaGreatPu23
import Derived.Test.YtgcikpgcoemfnaaGreatPu5
import Derived.Test.YtgcikpgcoemfnaaGreatPu8
import Derived.Test.YtgcikpgcoemfnaaGreatPu20
import Derived.Test.YtgcikpgcoemfnaaGreatPu2
import Derived.Test.YtgcikpgcoemfnaaGreatPu9
import Derived.Test.YtgcikpgcoemfnaaGreatPu25
import Derived.Test.YtgcikpgcoemfnaaGreatPu10
import Derived.Test.YtgcikpgcoemfnaaGreatPu26
import Derived.Test.YtgcikpgcoemfnaaGreatPu27
import Derived.Test.YtgcikpgcoemfnaaGreatPu6
import Derived.Test.YtgcikpgcoemfnaaGreatPu28
import Derived.Test.YtgcikpgcoemfnaaGreatPu17
import Derived.Test.YtgcikpgcoemfnaaGreatPu29
import Derived.Test.YtgcikpgcoemfnaaGreatPu31
import Derived.Test.YtgcikpgcoemfnaaGreatPu30
import Derived.Test.YtgcikpgcoemfnaaGreatPu3
import Derived.Test.YtgcikpgcoemfnaaGreatPu32
import Derived.Test.YtgcikpgcoemfnaaGreatPu33
namespace Go.Proofs.YtgcikpgcoemfnaaGreat.Pr
open Go.RowKit Co Pn
set_option linter.unusedVariables false
set_option linter.unusedSimpArgs false
set_option maxRecDepth 100000 in
set_option maxHeartbeats 4000000 in
theorem orphans_in (w : World) (code other : Int) :
    Calls Tryz.prog 3 #[.int .i64 code, .int .i64 other] w fun e w' => e = .returned (.bool true) ∧ Below w.heap.size w w' := by
  have HV0 := Lib.hid (cellsV 0 0 false)
  have HZ2 := Lib.hid (cellsI (n := 16) (l := Cd.noP) rfl)
  have hf0 := fieldR0
  have hf1 := fieldR1
  have HKid := Lib.hid (cellsI (n := 16) (l := kid 0) rfl)
  obtain ⟨o, ho⟩ := code8_nat other
  obtain ⟨k, hk⟩ := code8_nat code
  have HO := Lib.hid (show exitT A3 2 other = (A4 ((o : Nat) : Int), 0) by rw [exitT_code, ho]; exact or3 o)
  have HC := Lib.hid (show exitT (A4 ((o : Nat) : Int)) 1 code = (A5 ((k : Nat) : Int), 0) by rw [exitT_code, hk]; exact or4 _ k)
  have HE3 := Lib.hid (or5 k)
  have HW := Lib.hid (or6 k)
  have hk256 : ((k : Nat) : Int) < 256 := by have := k.isLt; omega
  have hk0 : 0 ≤ ((k : Nat) : Int) := by omega
  obtain ⟨c, hc⟩ : ∃ c, ((k : Nat) : Int) = c := ⟨_, rfl⟩
  rw [hc] at HC HE3 HW hk hk256 hk0
  have HP2 := Lib.hid (show (stOf (A5 c)).p 2 = (Cd.noP, 0) by kernel_rfl)
  have HP3 := Lib.hid (show (stOf (A5 c)).p 3 = (kid 0, 1) by kernel_rfl)
  have HP1 := Lib.hid (show (stOf (A5 c)).p 1 = (zom 1 c, 1) by kernel_rfl)
  have HP4 := Lib.hid (show (stOf (A6 c)).p 3 = (Cd.noP, 0) by kernel_rfl)
  have HZom := Lib.hid (cellsI (n := 16) (l := zom 1 c) rfl)
  have HVr := Lib.hid (cellsV (256 + c) 0 false)
  have hcin := (code8_in code).1
  unfold code8 at hk
  obtain ⟨m1, hm1⟩ : ∃ m1, code.tmod 256 = m1 := ⟨_, rfl⟩
  rw [hm1] at hcin hk
  have hw1 : wrap64 (m1 + 256) = m1 + 256 := by rw [← IntWalk.i64_left, IntKind.wrap_i64]; omega
  have hw2 : wrap64 (256 + c) = 256 + c := by rw [← IntWalk.i64_left, IntKind.wrap_i64]; omega
  have hk : Int.tmod (m1 + 256) 256 = c := hk
  have HT6 := Lib.hid (And.intro hk256 hk0)
  clear hc ho hk256 hk0 hcin
  go_enter Tryz.func3, Tryz.ntmps3
  go_wp2_with fail
  refine (first_is w).mono ?_; rintro e w1 ⟨g0, c0, rfl, hc0, hg0, k1⟩
  go_wp2_with fail
  refine (fill_is _ c0 firstB first_len hc0.reads).mono ?_; rintro e W0 ⟨w2, N1, K, C, bt, k2, pq, R, Ag, ng, cg, g2, B, c2, rfl, kk2, hF⟩
  have HBr := Lib.hid (show C.brs.length = 2 by rw [hF.brs]; rfl)
  have H := Lib.hid hF.ks
  have HT := Lib.hid (hF.ks.still (Keep.refl Nob W0))
  have HFin := Lib.hid (fun W S (t : Kt (fun _ => True) 2560 W0 K C (src2 0) S W) => from_join2 k1 (from_join kk2 (hF.fin t)))
  have hsz0 := Nat.le_refl W0.heap.size
  clear hF hc0 k1 kk2 hg0
  go_wp2_with fail
  have hc := tfork_is HT.out HBr.out 0 (by decide) 1 0 aw1
  unfold rv at hc
  refine hc.mono ?_; rintro e w3 ⟨rfl, t3, kp3⟩
  clear hc
  have HT3 := Lib.hid t3
  have hsz3 := t3.kp.size
  clear t3 kp3
  go_wp2_with fail
  have hc := tfork_is HT3.out HBr.out 1 (by decide) 2 0 or1
  unfold rv at hc
  refine hc.mono ?_; rintro e w4 ⟨rfl, t4, kp4⟩
  clear hc
  have HT4 := Lib.hid t4
  have hsz4 := t4.kp.size
  clear t4 kp4 HT3
  go_wp2_with fail
  have hc := tfork_is HT4.out HBr.out 1 (by decide) 3 0 or2
  unfold rv at hc
  refine hc.mono ?_; rintro e w5 ⟨rfl, t5, kp5⟩
  clear hc
  have HT5 := Lib.hid t5
  have hsz5 := t5.kp.size
  clear t5 kp5 HT4
  go_wp2_with fail
  have hc := texit_is HT5.out HBr.out 2 (by decide) other 0 HO.out
  unfold rv at hc
  refine hc.mono ?_; rintro e w6 ⟨rfl, t6, kp6⟩
  clear hc
  have HT6 := Lib.hid t6
  have hsz6 := t6.kp.size
  clear t6 kp6 HT5
  go_wp2_with fail
  have hc := texit_is HT6.out HBr.out 1 (by decide) code 0 HC.out
  unfold rv at hc
  refine hc.mono ?_; rintro e w7 ⟨rfl, t7, kp7⟩
  clear hc
  have HT7 := Lib.hid t7
  have hsz7 := t7.kp.size
  clear t7 kp7 HT6
  go_wp2_with fail
  have hc := tproc_is HT7.out 2 (by unfold Cd.Wf; decide) Cd.noP 0 HP2.out
  refine hc.mono ?_; rintro e w8 ⟨rfl, t8, kp8⟩
  clear hc
  have HT8 := Lib.hid t8
  have hsz8 := t8.kp.size
  clear t8 kp8 HT7
  go_wp2_with (first
    | (refine flatP.wpList_al rfl rfl ?_; intro wa9 ha9 ka9 sa9; clear sa9)
    | (refine flatP.wpList_st rfl rfl rfl rfl HZ2.out HZ2.out ha9 ?_; intro wb9 hb9 kb9 sb9; clear sb9))
  have HT9 := Lib.hid ((HT8.out.nob ka9).st H.out ha9 (by decide) hsz8 kb9)
  have HB9 := Lib.hid hb9
  have hge9 := hsz8
  generalize w8.heap.size = g9 at *
  clear ha9 ka9 hb9 kb9  HT8
  have hc := tproc_is HT9.out 3 (by unfold Cd.Wf; decide) (kid 0) 1 HP3.out
  refine hc.mono ?_; rintro e w10 ⟨rfl, t10, kp10⟩
  clear hc
  have HB11 := Lib.hid (kp10.lb H.out HB9.out hge9)
  have HT10 := Lib.hid t10
  have hsz10 := t10.kp.size
  clear t10 kp10 HB9 HT9
  go_wp2_with (first
    | (refine flatP.wpList_al rfl rfl ?_; intro wa12 ha12 ka12 sa12; clear sa12)
    | (refine flatP.wpList_st rfl rfl rfl rfl HKid.out HZ2.out ha12 ?_; intro wb12 hb12 kb12 sb12; clear sb12))
  have HB13 := Lib.hid ((HB11.out.nob ka12).keep kb12 (by have := HB11.out.lt; omega))
  have HT12 := Lib.hid ((HT10.out.nob ka12).st H.out ha12 (by decide) hsz10 kb12)
  have HB12 := Lib.hid hb12
  have hge12 := hsz10
  generalize w10.heap.size = g12 at *
  clear ha12 ka12 hb12 kb12 HB11 HT10
  have hc := tproc_is HT12.out 1 (by unfold Cd.Wf; decide) (zom 1 c) 1 HP1.out
  refine hc.mono ?_; rintro e w14 ⟨rfl, t14, kp14⟩
  clear hc
  have HB15 := Lib.hid (kp14.lb H.out HB13.out hge9)
  have HB16 := Lib.hid (kp14.lb H.out HB12.out hge12)
  have HT14 := Lib.hid t14
  have hsz14 := t14.kp.size
  clear t14 kp14 HB13 HB12 HT12
  go_upto_region 11 with (first
    | (refine flatP.wpList_al rfl rfl ?_; intro wa17 ha17 ka17 sa17; clear sa17)
    | (refine flatP.wpList_st rfl rfl rfl rfl HZom.out HZ2.out ha17 ?_; intro wb17 hb17 kb17 sb17; clear sb17))
  have HB18 := Lib.hid ((HB15.out.nob ka17).keep kb17 (by have := HB15.out.lt; omega))
  have HB19 := Lib.hid ((HB16.out.nob ka17).keep kb17 (by have := HB16.out.lt; omega))
  have HT17 := Lib.hid ((HT14.out.nob ka17).st H.out ha17 (by decide) hsz14 kb17)
  have HB17 := Lib.hid hb17
  have hge17 := hsz14
  generalize w14.heap.size = g17 at *
  clear ha17 ka17 hb17 kb17 HB15 HB16 HT14
  have c20 : wb17.cell? ⟨g12, 1, none⟩ = some (.int .i64 0) := HB19.out.cell 1
  have c21 : wb17.cell? ⟨g17, 0, none⟩ = some (.int .i64 2) := HB17.out.cell 0
  have c22 : wb17.cell? ⟨g17, 3, none⟩ = some (.int .i64 c) := HB17.out.cell 3
  go_wp2_with fail
  have hc := texit_is HT17.out HBr.out 3 (by decide) 5 0 HE3.out
  unfold rv at hc
  refine hc.mono ?_; rintro e w23 ⟨rfl, t23, kp23⟩
  clear hc
  have HB24 := Lib.hid (kp23.lb H.out HB18.out hge9)
  have HB25 := Lib.hid (kp23.lb H.out HB19.out hge12)
  have HB26 := Lib.hid (kp23.lb H.out HB17.out hge17)
  have HT23 := Lib.hid t23
  have hsz23 := t23.kp.size
  clear t23 kp23 HB18 HB19 HB17 HT17
  go_wp2_with fail
  have hc := tproc_is HT23.out 3 (by unfold Cd.Wf; decide) Cd.noP 0 HP4.out
  refine hc.mono ?_; rintro e w27 ⟨rfl, t27, kp27⟩
  clear hc
  have HB28 := Lib.hid (kp27.lb H.out HB24.out hge9)
  have HB29 := Lib.hid (kp27.lb H.out HB25.out hge12)
  have HB30 := Lib.hid (kp27.lb H.out HB26.out hge17)
  have HT27 := Lib.hid t27
  have hsz27 := t27.kp.size
  clear t27 kp27 HB24 HB25 HB26 HT23
  go_wp2_with (first
    | (refine flatP.wpList_al rfl rfl ?_; intro wa31 ha31 ka31 sa31; clear sa31)
    | (refine flatP.wpList_st rfl rfl rfl rfl HZ2.out HZ2.out ha31 ?_; intro wb31 hb31 kb31 sb31; clear sb31))
  have HB32 := Lib.hid ((HB28.out.nob ka31).keep kb31 (by have := HB28.out.lt; omega))
  have HB33 := Lib.hid ((HB29.out.nob ka31).keep kb31 (by have := HB29.out.lt; omega))
  have HB34 := Lib.hid ((HB30.out.nob ka31).keep kb31 (by have := HB30.out.lt; omega))
  have HT31 := Lib.hid ((HT27.out.nob ka31).st H.out ha31 (by decide) hsz27 kb31)
  have HB31 := Lib.hid hb31
  have hge31 := hsz27
  generalize w27.heap.size = g31 at *
  clear ha31 ka31 hb31 kb31 HB28 HB29 HB30 HT27
  have hc := twait_is HT31.out HBr.out 0 (by decide) (256 + c) 0 false HW.out
  unfold rv at hc
  refine hc.mono ?_; rintro e w35 ⟨rfl, t35, kp35⟩
  clear hc
  have HB36 := Lib.hid (kp35.lb H.out HB32.out hge9)
  have HB37 := Lib.hid (kp35.lb H.out HB33.out hge12)
  have HB38 := Lib.hid (kp35.lb H.out HB34.out hge17)
  have HB39 := Lib.hid (kp35.lb H.out HB31.out hge31)
  have HT35 := Lib.hid t35
  have hsz35 := t35.kp.size
  clear t35 kp35 HB32 HB33 HB34 HB31 HT31
  go_upto_region 17 with (first
    | (refine flatV.wpList_al rfl rfl ?_; intro wa40 ha40 ka40 sa40; clear sa40)
    | (refine flatV.wpList_st rfl rfl rfl rfl HVr.out HV0.out ha40 ?_; intro wb40 hb40 kb40 sb40; clear sb40))
  have HB41 := Lib.hid ((HB36.out.nob ka40).keep kb40 (by have := HB36.out.lt; omega))
  have HB42 := Lib.hid ((HB37.out.nob ka40).keep kb40 (by have := HB37.out.lt; omega))
  have HB43 := Lib.hid ((HB38.out.nob ka40).keep kb40 (by have := HB38.out.lt; omega))
  have HB44 := Lib.hid ((HB39.out.nob ka40).keep kb40 (by have := HB39.out.lt; omega))
  have HT40 := Lib.hid ((HT35.out.nob ka40).st H.out ha40 (by decide) hsz35 kb40)
  have HB40 := Lib.hid hb40
  have hge40 := hsz35
  generalize w35.heap.size = g40 at *
  clear ha40 ka40 hb40 kb40 HB36 HB37 HB38 HB39 HT35
  have c45 : wb40.cell? ⟨g40, 0, none⟩ = some (.int .i64 (256 + c)) := HB40.out.cell 0
  go_wp2_with fail
  have hc := twait_is HT40.out HBr.out 0 (by decide) 0 110 false aw0
  unfold rv at hc
  refine hc.mono ?_; rintro e w46 ⟨rfl, t46, kp46⟩
  clear hc
  have HB47 := Lib.hid (kp46.lb H.out HB41.out hge9)
  have HB48 := Lib.hid (kp46.lb H.out HB42.out hge12)
  have HB49 := Lib.hid (kp46.lb H.out HB43.out hge17)
  have HB50 := Lib.hid (kp46.lb H.out HB44.out hge31)
  have HB51 := Lib.hid (kp46.lb H.out HB40.out hge40)
  have HT46 := Lib.hid t46
  have hsz46 := t46.kp.size
  clear t46 kp46 HB41 HB42 HB43 HB44 HB40 HT40
  go_wp2_with fail
  have KW := Lib.hid (HFin.out _ _ HT46.out)
  refine (awake_is _).mono ?_; rintro e wz ⟨rfl, kz⟩
  go_wp2
  go_ret
  exact ⟨rfl, (from_join2 KW.out kz).done⟩
end Go.Proofs.YtgcikpgcoemfnaaGreat.Pr
namespace Go.Proofs.YtgcikpgcoemfnaaGreat
open Go.RowKit
theorem ProcOrphans_walk (w : World) (a0 : Int) (_ : (Lit.int .i64 a0).wf = true) (a1 : Int) (_ : (Lit.int .i64 a1).wf = true) :
    Calls Tryz.prog 3 #[.int .i64 a0, .int .i64 a1] w fun e w' => e = .returned (.bool true) ∧ Below w.heap.size w w' := Pr.orphans_in w a0 a1
end Go.Proofs.YtgcikpgcoemfnaaGreat
