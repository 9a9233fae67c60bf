/- Texts PrO, PrL0, PrLa, packed. -/
import Derived.ProofKit
import Derived.SizedLaws
import Derived.ChangeArms
import Derived.Test.YtgcikpgcoemfnaaGreatRows
import Derived.BigQuiet
import Derived.Lib.TrailingZeros
import Derived.Laws.ResultCell
import Derived.Shelf.Spec.TrailingZeros
import Derived.Deep.QuietTactic
import Derived.BigRegion
import Derived.Deep.RegionHeld3
import Derived.Shelf.SlSortCmp.WholeK
import Derived.StillTailTactics
import Derived.Test.YtgcikpgcoemfnaaGreatPu0
import Derived.Test.YtgcikpgcoemfnaaGreatPu4
import Derived.Test.YtgcikpgcoemfnaaGreatPu18
import Derived.Test.YtgcikpgcoemfnaaGreatPu19
import Derived.Test.YtgcikpgcoemfnaaGreatPu1
import Derived.Test.YtgcikpgcoemfnaaGreatPu7
import Derived.Test.YtgcikpgcoemfnaaGreatPu11
import Derived.Test.YtgcikpgcoemfnaaGreatPu21
import Derived.Test.YtgcikpgcoemfnaaGreatPu22
import Derived.Test.YtgcikpgcoemfnaaGreatPu12
import Derived.Test.YtgcikpgcoemfnaaGreatPu14
import Derived.Test.YtgcikpgcoemfnaaGreatPu13
import Derived.Test.YtgcikpgcoemfnaaGreatPu15
import Derived.Test.YtgcikpgcoemfnaaGreatPu16
import Derived.Test.YtgcikpgcoemfnaaGreatPu24
import Derived.Test.YtgcikpgcoemfnaaGreatPu23
import Derived.Test.YtgcikpgcoemfnaaGreatPu5
import Derived.Test.YtgcikpgcoemfnaaGreatPu8
import Derived.Test.YtgcikpgcoemfnaaGreatPu20
import Derived.Test.YtgcikpgcoemfnaaGreatPu2
import Derived.Test.YtgcikpgcoemfnaaGreatPu9
import Derived.Test.YtgcikpgcoemfnaaGreatPu25
import Derived.Test.YtgcikpgcoemfnaaGreatPu10
import Derived.Test.YtgcikpgcoemfnaaGreatPu27
import Derived.Test.YtgcikpgcoemfnaaGreatPu30
import Derived.Test.YtgcikpgcoemfnaaGreatPu3
import Derived.Test.YtgcikpgcoemfnaaGreatPu32
import Derived.Test.YtgcikpgcoemfnaaGreatPu6
import Derived.Test.YtgcikpgcoemfnaaGreatPu17
import Derived.Test.YtgcikpgcoemfnaaGreatPu29
import Derived.Test.YtgcikpgcoemfnaaGreatPu31
import Derived.Test.YtgcikpgcoemfnaaGreatPu26
import Derived.Test.YtgcikpgcoemfnaaGreatPu28
namespace Go.Proofs.YtgcikpgcoemfnaaGreat.Pr
open Go.RowKit Co Pn
set_option linter.unusedVariables false
set_option linter.unusedSimpArgs false
/-- A child of slot p - 1, and what it is when it has ended. -/
def kid (p : Int) : List Int := [1, p, 0, 0, 0, 0, 0, 0, 1, 0, 0, 0, 0, 0, 0, 0]
def zom (p c : Int) : List Int := [2, p, 0, c, 0, 0, 0, 0, 0, 0, 0, 0, 0, 0, 0, 0]
/-- Commons of these processes, whose terminal is named so often. -/
def SdP (ps : List (List Int × Int)) (refs : Int) : Sd := ⟨ps ++ List.replicate (8 - ps.length) (Cd.noP, 0), ([3, 0, refs, 0], 1) :: List.replicate 11 (Fi.noP, 0), T0.r, T0.t, T0.g⟩
def A1 : Sd := SdP [(procF, 1), (kid 1, 1)] 2
def A2 : Sd := SdP [(procF, 1), (kid 1, 1), (kid 2, 1)] 3
def A3 : Sd := SdP [(procF, 1), (kid 1, 1), (kid 2, 1), (kid 2, 1)] 4
def A4 (o : Int) : Sd := SdP [(procF, 1), (kid 1, 1), (zom 2 o, 1), (kid 2, 1)] 3
def A5 (c : Int) : Sd := SdP [(procF, 1), (zom 1 c, 1), (Cd.noP, 0), (kid 0, 1)] 2
def A6 (c : Int) : Sd := SdP [(procF, 1), (zom 1 c, 1)] 1
theorem aw0 : waitT T0 0 = (T0, 0, 110, false) := by decide +kernel
theorem aw1 : forkT T0 0 = (A1, 1, 0) := by decide +kernel
theorem aw2 : waitT A1 0 = (A1, 0, 0, true) := by decide +kernel
theorem aw3 : selfR ((stOf A1).p 1).1 ((stOf A1).p 1).2 = (kid 1, 0) := by decide +kernel
theorem or1 : forkT A1 1 = (A2, 2, 0) := by decide +kernel
theorem or2 : forkT A2 1 = (A3, 3, 0) := by decide +kernel
theorem okd_zom : ∀ c : Fin 256, Cd.okd (zom 1 ((c : Nat) : Int)) = true := by decide +kernel
theorem or3 : ∀ o : Fin 256, exitT A3 2 ((o : Nat) : Int) = (A4 ((o : Nat) : Int), 0) := by decide +kernel
theorem exitS_ok {S : Stt} {i c : Int} {v : List Int} {U : Stt} (hs : S.p i = (v, 1)) (h1 : v.getD 0 0 = 1) (hU : orphS (closeAllS S i) i = U) (ha : actB (U.p (v.getD 1 0 - 1)).1 (U.p (v.getD 1 0 - 1)).2 = true) (hz : (U.p i).2 ≠ 2) (hok : Cd.okd (zomb v (code8 c)) = true) :
    exitS S i c = (U.setP i (zomb v (code8 c)), 0) := by
  unfold exitS
  rw [hs]
  dsimp only
  rw [hU]
  have e : (selfR v 1).2 = 0 := by unfold selfR; rw [if_pos ⟨rfl, h1⟩]
  rw [if_pos e, if_pos ha, hok, decide_eq_true hz]
  rfl
theorem or4 (o : Int) (c : Fin 256) : exitT (A4 o) 1 ((c : Nat) : Int) = (A5 ((c : Nat) : Int), 0) := by
  have hc := okd_zom c
  have c8 : code8 ((c : Nat) : Int) = ((c : Nat) : Int) := code8_self (by omega) (by have := c.isLt; omega)
  generalize ((c : Nat) : Int) = c at *
  have h1 : (stOf (A4 o)).p 1 = (kid 1, 1) := by kernel_rfl
  have h2 : actB ((orphS (closeAllS (stOf (A4 o)) 1) 1).p ((kid 1).getD 1 0 - 1)).1 ((orphS (closeAllS (stOf (A4 o)) 1) 1).p ((kid 1).getD 1 0 - 1)).2 = true := by kernel_rfl
  have h3 : ((orphS (closeAllS (stOf (A4 o)) 1) 1).p 1).2 = 1 := by kernel_rfl
  have h4 : toT ((orphS (closeAllS (stOf (A4 o)) 1) 1).setP 1 (zomb (kid 1) c)) = A5 c := by kernel_rfl
  unfold exitT
  rw [exitS_ok h1 rfl rfl h2 (by rw [h3]; decide) (by rw [c8]; exact hc), c8]
  dsimp only
  rw [h4]
theorem or5 : ∀ c : Fin 256, exitT (A5 ((c : Nat) : Int)) 3 5 = (A6 ((c : Nat) : Int), 0) := by decide +kernel
theorem or6 : ∀ c : Fin 256, waitT (A6 ((c : Nat) : Int)) 0 = (T0, 256 + ((c : Nat) : Int), 0, false) := by decide +kernel
end Go.Proofs.YtgcikpgcoemfnaaGreat.Pr
namespace Go.Proofs.YtgcikpgcoemfnaaGreat.Pr
open Go.RowKit Co Pn
set_option linter.unusedVariables false
set_option linter.unusedSimpArgs false
theorem fieldR0 (a b c d : Value) (W : World) : (Instr.field 32 (.agg #[a, b, c, d]) 0).run Tryz.prog W = .ok a W := by kernel_rfl
theorem fieldR1 (a b c d : Value) (W : World) : (Instr.field 32 (.agg #[a, b, c, d]) 1).run Tryz.prog W = .ok b W := by kernel_rfl
theorem from_join2 {w w1 W : World} (k1 : Keep (From w.heap.size) w w1) (k : Keep (From w1.heap.size) w1 W) : Keep (From w.heap.size) w W :=
  k1.trans k (fun x _ m => Nat.le_trans k1.size m)
section
variable {w W W' : World} {N1 : Nat} {K : Kn} {C : Cm} {b : Bt} {k2 pq : Nat} {R : Dk.Dr} {Ag : Option Addr} {ng cg g : Nat} {B : Option Addr} {c : Nat} {Y : List UInt8} {F : List UInt8 → Prop} {n : Nat} {S : Stt}
theorem _root_.Go.Proofs.YtgcikpgcoemfnaaGreat.Pn.Fl.ks (h : Fl w W N1 K C b k2 pq R Ag ng cg g B c (fillX firstB) Y) : Ks (fun _ => True) 2560 W K C (src2 0) (stOf T0) := by
  refine ⟨h.op.kc, ?_⟩
  have e : C.brs.length = 2 := by rw [h.brs]; rfl
  rw [e, h.bad, h.xs]
  exact sto_first
theorem _root_.Go.Proofs.YtgcikpgcoemfnaaGreat.Pn.Fl.fin {X : List UInt8} (h : Fl w W N1 K C b k2 pq R Ag ng cg g B c X Y) (t : Kt F n W K C (src2 0) S W') : Keep (From w.heap.size) w W' := by
  obtain ⟨ys, _, ct⟩ := t
  exact (h.op.ct ct rfl).keep
end
end Go.Proofs.YtgcikpgcoemfnaaGreat.Pr
namespace Go.Proofs.YtgcikpgcoemfnaaGreat.Pr
open Go.RowKit Co Pn
set_option linter.unusedVariables false
set_option linter.unusedSimpArgs false
set_option maxRecDepth 100000 in
set_option maxHeartbeats 4000000 in
theorem awake_is (w : World) : Calls Tryz.prog 15 #[] w fun e w' => e = .returned (.bool true) ∧ Keep (From w.heap.size) w w' := by
  have HV0 := Lib.hid (cellsV 0 0 false)
  have HZ2 := Lib.hid (cellsI (n := 16) (l := Cd.noP) rfl)
  have hf0 := fieldR0
  have hf1 := fieldR1
  have HKid := Lib.hid (cellsI (n := 16) (l := kid 1) rfl)
  go_enter Tryz.func15, Tryz.ntmps15
  go_wp2_with fail
  refine (first_is w).mono ?_; rintro e w1 ⟨g0, c0, rfl, hc0, hg0, k1⟩
  go_wp2_with fail
  refine (fill_is _ c0 firstB first_len hc0.reads).mono ?_; rintro e W0 ⟨w2, N1, K, C, bt, k2, pq, R, Ag, ng, cg, g2, B, c2, rfl, kk2, hF⟩
  have HBr := Lib.hid (show C.brs.length = 2 by rw [hF.brs]; rfl)
  have H := Lib.hid hF.ks
  have HT := Lib.hid (hF.ks.still (Keep.refl Nob W0))
  have HFin := Lib.hid (fun W S (t : Kt (fun _ => True) 2560 W0 K C (src2 0) S W) => from_join2 k1 (from_join kk2 (hF.fin t)))
  have hsz0 := Nat.le_refl W0.heap.size
  clear hF hc0 k1 kk2 hg0
  go_wp2_with fail
  have hc := twait_is HT.out HBr.out 0 (by decide) 0 110 false aw0
  unfold rv at hc
  refine hc.mono ?_; rintro e w3 ⟨rfl, t3, kp3⟩
  clear hc
  have HT3 := Lib.hid t3
  have hsz3 := t3.kp.size
  clear t3 kp3
  go_wp2_with (first
    | (refine flatV.wpList_al rfl rfl ?_; intro wa4 ha4 ka4 sa4; clear sa4)
    | (refine flatV.wpList_st rfl rfl rfl rfl (cellsV 0 110 false) HV0.out ha4 ?_; intro wb4 hb4 kb4 sb4; clear sb4))
  have HT4 := Lib.hid ((HT3.out.nob ka4).st H.out ha4 (by decide) hsz3 kb4)
  have HB4 := Lib.hid hb4
  have hge4 := hsz3
  generalize w3.heap.size = g4 at *
  clear ha4 ka4 hb4 kb4  HT3
  have hc := tfork_is HT4.out HBr.out 0 (by decide) 1 0 aw1
  unfold rv at hc
  refine hc.mono ?_; rintro e w5 ⟨rfl, t5, kp5⟩
  clear hc
  have HB6 := Lib.hid (kp5.lb H.out HB4.out hge4)
  have HT5 := Lib.hid t5
  have hsz5 := t5.kp.size
  clear t5 kp5 HB4 HT4
  go_wp2_with (first
    | (refine flatV.wpList_al rfl rfl ?_; intro wa7 ha7 ka7 sa7; clear sa7)
    | (refine flatV.wpList_st rfl rfl rfl rfl (cellsV 1 0 false) HV0.out ha7 ?_; intro wb7 hb7 kb7 sb7; clear sb7))
  have HB8 := Lib.hid ((HB6.out.nob ka7).keep kb7 (by have := HB6.out.lt; omega))
  have HT7 := Lib.hid ((HT5.out.nob ka7).st H.out ha7 (by decide) hsz5 kb7)
  have HB7 := Lib.hid hb7
  have hge7 := hsz5
  generalize w5.heap.size = g7 at *
  clear ha7 ka7 hb7 kb7 HB6 HT5
  have hc := twait_is HT7.out HBr.out 0 (by decide) 0 0 true aw2
  unfold rv at hc
  refine hc.mono ?_; rintro e w9 ⟨rfl, t9, kp9⟩
  clear hc
  have HB10 := Lib.hid (kp9.lb H.out HB8.out hge4)
  have HB11 := Lib.hid (kp9.lb H.out HB7.out hge7)
  have HT9 := Lib.hid t9
  have hsz9 := t9.kp.size
  clear t9 kp9 HB8 HB7 HT7
  go_wp2_with (first
    | (refine flatV.wpList_al rfl rfl ?_; intro wa12 ha12 ka12 sa12; clear sa12)
    | (refine flatV.wpList_st rfl rfl rfl rfl (cellsV 0 0 true) HV0.out ha12 ?_; intro wb12 hb12 kb12 sb12; clear sb12))
  have HB13 := Lib.hid ((HB10.out.nob ka12).keep kb12 (by have := HB10.out.lt; omega))
  have HB14 := Lib.hid ((HB11.out.nob ka12).keep kb12 (by have := HB11.out.lt; omega))
  have HT12 := Lib.hid ((HT9.out.nob ka12).st H.out ha12 (by decide) hsz9 kb12)
  have HB12 := Lib.hid hb12
  have hge12 := hsz9
  generalize w9.heap.size = g12 at *
  clear ha12 ka12 hb12 kb12 HB10 HB11 HT9
  have hc := tself_is HT12.out 1 (by unfold Cd.Wf; decide) (kid 1) 0 aw3
  refine hc.mono ?_; rintro e w15 ⟨rfl, t15, kp15⟩
  clear hc
  have HB16 := Lib.hid (kp15.lb H.out HB13.out hge4)
  have HB17 := Lib.hid (kp15.lb H.out HB14.out hge7)
  have HB18 := Lib.hid (kp15.lb H.out HB12.out hge12)
  have HT15 := Lib.hid t15
  have hsz15 := t15.kp.size
  clear t15 kp15 HB13 HB14 HB12 HT12
  go_upto_region 8 with (first
    | (refine flatP.wpList_al rfl rfl ?_; intro wa19 ha19 ka19 sa19; clear sa19)
    | (refine flatP.wpList_st rfl rfl rfl rfl HKid.out HZ2.out ha19 ?_; intro wb19 hb19 kb19 sb19; clear sb19))
  have HB20 := Lib.hid ((HB16.out.nob ka19).keep kb19 (by have := HB16.out.lt; omega))
  have HB21 := Lib.hid ((HB17.out.nob ka19).keep kb19 (by have := HB17.out.lt; omega))
  have HB22 := Lib.hid ((HB18.out.nob ka19).keep kb19 (by have := HB18.out.lt; omega))
  have HT19 := Lib.hid ((HT15.out.nob ka19).st H.out ha19 (by decide) hsz15 kb19)
  have HB19 := Lib.hid hb19
  have hge19 := hsz15
  generalize w15.heap.size = g19 at *
  clear ha19 ka19 hb19 kb19 HB16 HB17 HB18 HT15
  have c23 : wb19.cell? ⟨g4, 1, none⟩ = some (.int .i64 110) := HB20.out.cell 1
  have c24 : wb19.cell? ⟨g7, 1, none⟩ = some (.int .i64 0) := HB21.out.cell 1
  have c25 : wb19.cell? ⟨g7, 0, none⟩ = some (.int .i64 1) := HB21.out.cell 0
  have c26 : wb19.cell? ⟨g12, 3, none⟩ = some (.bool true) := HB22.out.cell 3
  have c27 : wb19.cell? ⟨g19, 1, none⟩ = some (.int .i64 1) := HB19.out.cell 1
  have c28 : wb19.cell? ⟨g19, 8, none⟩ = some (.int .i64 1) := HB19.out.cell 8
  go_wp2
  go_ret
  exact ⟨rfl, HFin.out _ _ HT19.out⟩
end Go.Proofs.YtgcikpgcoemfnaaGreat.Pr
