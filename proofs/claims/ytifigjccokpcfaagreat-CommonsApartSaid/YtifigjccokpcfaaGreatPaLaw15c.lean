/- The walk of CommonsApart. Written by c15/gen15c.py. -/
import Derived.BigRegion
import Derived.Deep.RegionHeld3
import Derived.Test.YtifigjccokpcfaaGreatPk0
import Derived.Test.YtifigjccokpcfaaGreatPk3
import Derived.Test.YtifigjccokpcfaaGreatPk5
import Derived.Test.YtifigjccokpcfaaGreatPax0
import Derived.Test.YtifigjccokpcfaaGreatPk18
import Derived.Test.YtifigjccokpcfaaGreatPk19
import Derived.Test.YtifigjccokpcfaaGreatPk1
import Derived.Test.YtifigjccokpcfaaGreatPk8
import Derived.Test.YtifigjccokpcfaaGreatPk12
import Derived.Test.YtifigjccokpcfaaGreatPk21
import Derived.Test.YtifigjccokpcfaaGreatPk22
import Derived.Test.YtifigjccokpcfaaGreatPk13
import Derived.Test.YtifigjccokpcfaaGreatPax2
import Derived.Test.YtifigjccokpcfaaGreatPk15
import Derived.Test.YtifigjccokpcfaaGreatPk14
import Derived.Test.YtifigjccokpcfaaGreatPk16
import Derived.Test.YtifigjccokpcfaaGreatPk17
import Derived.Test.YtifigjccokpcfaaGreatPk24
import Derived.Test.YtifigjccokpcfaaGreatPk23
import Derived.Test.YtifigjccokpcfaaGreatPk6
import Derived.Test.YtifigjccokpcfaaGreatPk9
import Derived.Test.YtifigjccokpcfaaGreatPk20
import Derived.Test.YtifigjccokpcfaaGreatPk2
import Derived.Test.YtifigjccokpcfaaGreatPax1
import Derived.Test.YtifigjccokpcfaaGreatPk25
import Derived.Test.YtifigjccokpcfaaGreatPk26
import Derived.Test.YtifigjccokpcfaaGreatPk10
import Derived.Test.YtifigjccokpcfaaGreatPk11
import Derived.Test.YtifigjccokpcfaaGreatPax3
import Derived.Test.YtifigjccokpcfaaGreatPk27
import Derived.Test.YtifigjccokpcfaaGreatPk7
import Derived.Test.YtifigjccokpcfaaGreatPk28
import Derived.Test.YtifigjccokpcfaaGreatPax4
namespace Go.Proofs.YtifigjccokpcfaaGreat.Pn
open Go.RowKit Co
set_option linter.unusedVariables false
set_option linter.unusedSimpArgs false
theorem infoI : (Tryz.prog.info? 3).map (fun i => (i.zero, i.size, i.bytes)) = some (some (.int .i64 0), 1, 8) := by kernel_rfl
set_option maxRecDepth 100000 in
set_option maxHeartbeats 32000000 in
theorem apart_in (w : World) (a0 : Int) (A1 : Option Addr) (n1 c1 : Nat) (x1 : List Int) (hr : Reads w A1 n1 (ints x1)) (hn1 : n1 ≤ 17592186043904) (a2 : Int) :
    Calls Tryz.prog 5 #[.int .i64 a0, .slice A1 n1 c1, .int .i64 a2] w fun e w' => e = .returned (.bool true) ∧ Below w.heap.size w w' := by
  obtain ⟨i, hi7, hi⟩ : ∃ i : Nat, i ≤ 7 ∧ bits .and .i64 a0 7 = (i : Int) := by
    have := i64_mask a0 3 (by decide)
    rw [show (2 : Int) ^ 3 - 1 = 7 from rfl] at this
    exact ⟨(a0 % 8).toNat, by omega, by rw [this]; omega⟩
  obtain ⟨m8, hm8⟩ : ∃ m8, bits .and .i64 a2 255 = m8 := ⟨_, rfl⟩
  have hm82 : 0 ≤ m8 ∧ m8 < 256 := by have := i64_mask a2 8 (by decide); rw [show (2 : Int) ^ 8 - 1 = 255 from rfl, hm8] at this; omega
  obtain ⟨m, hm⟩ : ∃ m, m8.tmod 7 = m := ⟨_, rfl⟩
  have hm2 : 0 ≤ m ∧ m ≤ 6 := by rw [Int.tmod_eq_emod_of_nonneg hm82.1] at hm; omega
  obtain ⟨j0, hj07, hj0, hj1⟩ := other_i hi7 m hm2
  have HM := Lib.hid hm2
  have HR := Lib.hid hr
  have HN := Lib.hid hn1
  have hi64 : (i : Int) ≤ 7 := by omega
  obtain ⟨hm0, hm6⟩ := hm2
  obtain ⟨P, hP⟩ : ∃ P, Cd.made x1 = P := ⟨_, rfl⟩
  have HP := Lib.hid (show P.length = 16 ∧ Cd.okd P = true ∧ ∀ x ∈ P, Cd.Wf x from by rw [← hP]; exact ⟨Cd.made_len _, Cd.made_ok _, Cd.made_wf _⟩)
  obtain ⟨Q, hQ⟩ : ∃ Q, Cd.made (5 :: x1) = Q := ⟨_, rfl⟩
  have HQ := Lib.hid (show Q.length = 16 ∧ Cd.okd Q = true ∧ ∀ x ∈ Q, Cd.Wf x from by rw [← hQ]; exact ⟨Cd.made_len _, Cd.made_ok _, Cd.made_wf _⟩)
  have hmade := fun W (h : Reads W A1 n1 (ints x1)) => Cd.made_is A1 n1 c1 x1 W h (by omega) P hP
  have hmade2 := fun A c W (h : Reads W A (1 + n1) (ints (5 :: x1))) => Cd.made_is A (1 + n1) c (5 :: x1) W h (by omega) Q hQ
  unfold Cd.pv at hmade hmade2
  have HMa := Lib.hid hmade
  have HMb := Lib.hid hmade2
  clear hr hmade hmade2 hP hQ hm82 hn1
  go_enter Tryz.func5, Tryz.ntmps5
  go_wp2_with fail
  refine (plan_is w).mono ?_; rintro e w1 ⟨Ab, AB, rfl, hr, k1⟩
  go_wp2_with fail
  refine (open_is Ab AB hr).mono ?_; rintro e w2 ⟨N0, K, C, b, k2, pq, R, Ag, ng, cg, g, B, c, rfl, hO⟩
  have hnew := Co.cnew_is hO.op.kc.k 3 (by rw [hO.g2.n18]; decide) 256 [257, 258] (hO.g2.names (by decide)) (by decide)
  have HG := Lib.hid hO.g2
  have HF := Lib.hid (show K.xs = xs0 ∧ C.brs.length = 2 ∧ C.bad = [] from ⟨hO.xs, by rw [hO.brs]; rfl, hO.bad⟩)
  have O2 := Lib.hid hO.op
  have K1 := Lib.hid k1
  clear hO hr k1
  go_wp2_with fail
  refine hnew.mono ?_; rintro e w3 ⟨D, rfl, hD⟩
  have hlk : Link K D (src2 0) := by
    have := HG.out.link (C := D) (by rw [hD.env]; decide) hD.name hD.brs
    rw [hD.env] at this
    exact this
  have O3 := Lib.hid (Op2.of_new O2.out hD hlk)
  have HD := Lib.hid (show D.brs.length = 2 ∧ D.bad = [] from ⟨by rw [hD.brs]; rfl, hD.bad⟩)
  clear hnew hD hlk O2
  go_wp2_with fail
  refine (HMa.out _ (HR.out.from_ (from_join K1.out O3.out.c.keep))).mono ?_; rintro e w4 ⟨rfl, k4⟩
  have O4 := Lib.hid (O3.out.nob k4)
  clear k4 O3
  have hpb := fun W => Cd.procbytes_is P HP.out.1 HP.out.2.1 W
  unfold Cd.pv at hpb
  have HPB := Lib.hid hpb
  clear hpb
  go_wp2_with fail
  refine (HPB.out _).mono ?_; rintro e w5 ⟨rfl, k5⟩
  have O5 := Lib.hid (O4.out.nob k5)
  clear k5 O4 HPB
  -- the nine
  have hA : Reads (w5.alloc (.cells #[.int .u8 9] 5)) (some ⟨w5.heap.size, 0, none⟩) 1 (bytes [9]) := reads_all (n := 1) (Blk.new w5 5 [.int .u8 9]) rfl
  have O6 := Lib.hid (O5.out.nob ((Keep.refl Nob w5).alloc (.cells #[.int .u8 9] 5)))
  have hre : Reach K.T K.envs.length K.L 1 256 2 ((24 * i + 5 : Nat) : Int) (1 : Nat) ((0 + (24 * i + 5) : Nat) : Int) 0 := HG.out.reach (e := 1) (j := 0) (by decide) (by decide) (.inr rfl) (at_ := 24 * i + 5) (k := 1) (by rw [if_pos rfl]; omega)
  have hw9 : Calls Tryz.prog 28 #[.pointer (some ⟨K.k, 0, none⟩), .int .i64 1, Calc 2 256 (24 * (i : Int) + 5) 0 0 0 (some ⟨w5.heap.size, 0, none⟩) 1 1] (w5.alloc (.cells #[.int .u8 9] 5)) fun e w' => e = .returned (.agg #[.int .i64 0, .int .i64 0, .slice none 0 0]) ∧ To (w5.alloc (.cells #[.int .u8 9] 5)) K { K with xs := xs1 i } w' := by
    have := k_write O6.out.c.kc.k 1 (by rw [HG.out.n18]; decide) 256 ((24 * i + 5 : Nat) : Int) 0 0 0 (some ⟨w5.heap.size, 0, none⟩) 1 1 _ [9] hre hA (xs1 i) (by rw [HF.out.1]; rfl)
    rw [show ((24 * i + 5 : Nat) : Int) = 24 * (i : Int) + 5 by omega] at this
    exact this
  unfold Calc at hw9
  have HW := Lib.hid hw9
  clear hA hre hw9 O5
  go_wp2_with fail
  refine HW.out.mono ?_; rintro e w6 ⟨rfl, t⟩
  have O7 := Lib.hid (O6.out.bytes t)
  clear t O6 HW
  have hc := Co.proc_is O7.out.c.kc (i : Int) (wfi (by omega) (by omega)) Cd.noP 2 [(1, (i : Int))] (by show pread _ _ (xs1 i) _ _ C.bad _ = _; rw [HF.out.2.1, HF.out.2.2]; exact spoilt hi7)
  have HC := Lib.hid hc
  clear hc
  go_wp2_with fail
  refine HC.out.mono ?_; rintro e w7 ⟨rfl, t⟩
  have O8 : Hid (Op2 w1 w7 { K with xs := xs1 i } { C with bad := [(1, (i : Int))] } (src2 0) D (src2 0)) := Lib.hid (O7.out.reads t)
  clear t O7 HC
  have hlen : (Cd.enc P).length = 24 := Cd.enc_len HP.out.1
  have HL := Lib.hid hlen
  clear hlen
  go_wp2_with (first
    | (refine flatP.wpList_al rfl rfl ?_; intro xw1 hbx hkx hsx; clear hsx)
    | (refine flatP.wpList_st rfl rfl rfl rfl (cellsI (n := 16) (l := Cd.noP) rfl) (cellsI (n := 16) (l := Cd.noP) rfl) hbx ?_; intro y1 hby hky hsy; clear hsy)
    | (refine wpList_sb rfl _ rfl (Cd.enc P) rfl ?_; intro w8 c8 hcl hfr k8 hc8; clear hfr hc8))
  have O9 := Lib.hid (O8.out.own hkx hbx (by decide) (by decide) hky)
  clear hbx hkx hby hky O8
  have OA := Lib.hid (O9.out.nob k8)
  have hA : Reads w8 (some ⟨y1.heap.size, 0, none⟩) (Cd.enc P).length (bytes (Cd.enc P)) := reads_of rfl hcl
  have hre : Reach K.T K.envs.length K.L 1 256 2 ((24 * i : Nat) : Int) ((Cd.enc P).length : Nat) ((0 + 24 * i : Nat) : Int) 0 := HG.out.reach (e := 1) (j := 0) (by decide) (by decide) (.inr rfl) (at_ := 24 * i) (k := (Cd.enc P).length) (by rw [if_pos rfl, HL.out]; omega)
  have hw9 : Calls Tryz.prog 28 #[.pointer (some ⟨K.k, 0, none⟩), .int .i64 1, Calc 2 256 (24 * (i : Int)) 0 0 0 (some ⟨y1.heap.size, 0, none⟩) (Cd.enc P).length c8] w8 fun e w' => e = .returned (.agg #[.int .i64 0, .int .i64 0, .slice none 0 0]) ∧ To w8 { K with xs := xs1 i } { K with xs := xs2 i P } w' := by
    have := k_write OA.out.c.kc.k 1 (by rw [HG.out.n18]; decide) 256 ((24 * i : Nat) : Int) 0 0 0 (some ⟨y1.heap.size, 0, none⟩) (Cd.enc P).length c8 _ (Cd.enc P) hre hA (xs2 i P) rfl
    rw [show ((24 * i : Nat) : Int) = 24 * (i : Int) by omega] at this
    exact this
  unfold Calc at hw9
  have HW := Lib.hid hw9
  clear hcl k8 hA hre hw9 O9
  refine HW.out.mono ?_; rintro e w9 ⟨rfl, t⟩
  have OB : Hid (Op2 w1 w9 { K with xs := xs2 i P } { C with bad := [(1, (i : Int))] } (src2 0) D (src2 0)) := Lib.hid (OA.out.bytes t)
  clear t OA HW
  have hc := Co.proc_is OB.out.c.kc (i : Int) (wfi (by omega) (by omega)) Cd.noP 2 [(1, (i : Int))] (by show pread _ _ (xs2 i P) _ _ _ _ = _; exact pread_bad (by simp))
  have HC := Lib.hid hc
  clear hc
  go_wp2_with fail
  refine HC.out.mono ?_; rintro e wa ⟨rfl, t⟩
  have OC : Hid (Op2 w1 wa { K with xs := xs2 i P } { C with bad := [(1, (i : Int))] } (src2 0) D (src2 0)) := Lib.hid (OB.out.reads t)
  clear t OB HC
  go_wp2_with (first
    | (refine flatP.wpList_al rfl rfl ?_; intro xw2 hbx hkx hsx; clear hsx)
    | (refine flatP.wpList_st rfl rfl rfl rfl (cellsI (n := 16) (l := Cd.noP) rfl) (cellsI (n := 16) (l := Cd.noP) rfl) hbx ?_; intro y2 hby hky hsy; clear hsy))
  have OD := Lib.hid (OC.out.own hkx hbx (by decide) (by decide) hky)
  clear hbx hkx hby hky OC
  have hc := Co.proc_is OD.out.d.kc (i : Int) (wfi (by omega) (by omega)) P 1 D.bad (by show pread _ _ (xs2 i P) _ _ _ _ = _; rw [HD.out.1, HD.out.2]; exact read_at (xs1_len hi7) hi7 HP.out.1 HP.out.2.1 (by simp))
  have HC := Lib.hid hc
  clear hc
  refine HC.out.mono ?_; rintro e wb ⟨rfl, t⟩
  have OE := Lib.hid (OD.out.swap.reads t).swap
  clear t OD HC
  obtain ⟨bq, hbq⟩ : ∃ bq, ((j0 : Int) == (i : Int)) = bq := ⟨_, rfl⟩
  go_upto_if 92 with (first
    | (refine flatP.wpList_al rfl rfl ?_; intro xw3 hbx hkx hsx; clear hsx)
    | (refine flatP.wpList_st rfl rfl rfl rfl (cellsI HP.out.1) (cellsI (n := 16) (l := Cd.noP) rfl) hbx ?_; intro y3 hby hky hsy; clear hsy))
  have OF := Lib.hid (OE.out.own hkx hbx (by decide) (by decide) hky)
  have h18 := Lib.hid hby
  clear hbx hkx hby hky OE
  generalize wb.heap.size = g18 at *
  go_cut [20] from 92 to 95 (fun s20 wx => ∃ j : Nat, j ≤ 7 ∧ j ≠ i ∧ s20 = .int .i64 j ∧ wx = y3)
  case first =>
    cases bq with
    | false =>
      have hne : j0 ≠ i := by intro e; rw [e] at hbq; simp at hbq
      go_wp2_with fail
      go_meet
      exact ⟨j0, hj07, hne, rfl, rfl⟩
    | true =>
      have heq : j0 = i := by have := beq_iff_eq.1 hbq; omega
      go_wp2_with fail
      go_meet
      exact ⟨(i + 1) % 8, by omega, by omega, rfl, rfl⟩
  case rest =>
  obtain ⟨j, hj7, hji, rfl, hwc⟩ := hcut
  subst hwc
  generalize wc = y9 at *
  clear hbq hj0 hj1 hj07
  have hA1 : Reads (y9.alloc (.cells #[.int .i64 5] 3)) A1 n1 (ints x1) := (HR.out.from_ (from_join K1.out OF.out.c.keep)).nob ((Keep.refl Nob y9).alloc (.cells #[.int .i64 5] 3))
  have hv5 : Vec (y9.alloc (.cells #[.int .i64 5] 3)) 3 1 (some ⟨y9.heap.size, 0, none⟩) 1 1 (ints [5]) := Vec.of_blk (Blk.new y9 3 (ints [5])) rfl (by decide)
  go_wp2_with (at_builtin; go_loud (refine wpList_ap rfl _ _ 22 rfl 3 1 8 (.int .i64 0) Tryz.underlying22 infoI rfl (by decide) (some ⟨y9.heap.size, 0, none⟩) 1 1 (ints [5]) rfl hv5 A1 n1 c1 (ints x1) rfl n1 (Nat.mul_one _) hA1 (ints_one _) (by have := HN.out; unfold maxLen; omega) (by have := HN.out; omega) ?_); intro A5 c5 v5 hv6 hk6 ho6)
  have k5 : Keep Nob y9 v5 := ((Keep.refl Nob y9).alloc (.cells #[.int .i64 5] 3)).trans hk6 (fun b hb ⟨a, e, h⟩ => by cases e; simp at h; omega)
  have hr5 : Reads v5 A5 (1 + n1) (ints (5 :: x1)) := by have := hv6.reads; rw [Nat.mul_one] at this; exact this
  have OG := Lib.hid (OF.out.nob k5)
  have h18z := Lib.hid (h18.out.nob k5)
  clear h18
  have h18 := h18z
  clear h18z
  clear hA1 hv5 hv6 hk6 ho6 k5 OF
  refine (HMb.out _ _ _ hr5).mono ?_; rintro e v6 ⟨rfl, k6⟩
  have OH := Lib.hid (OG.out.nob k6)
  have h18z := Lib.hid (h18.out.nob k6)
  clear h18
  have h18 := h18z
  clear h18z
  clear hr5 k6 OG
  go_wp2_with (first
    | (refine flatP.wpList_al rfl rfl ?_; intro xw4 hbx hkx hsx; clear hsx)
    | (refine flatP.wpList_st rfl rfl rfl rfl (cellsI HQ.out.1) (cellsI (n := 16) (l := Cd.noP) rfl) hbx ?_; intro y4 hby hky hsy; clear hsy)
    | (have hset : Calls Tryz.prog 11 #[.pointer (some ⟨D.p, 0, none⟩), .int .i64 (j : Int), .agg (ints Q).toArray] y4 fun e w' => e = .returned (.bool true) ∧ To y4 { K with xs := xs2 i P } { K with xs := xs3 i P j Q } w' := Co.setProc_is (OH.out.own hkx hbx (by decide) (by decide) hky).d.kc (j : Int) (wfi (by omega) (by omega)) Q HQ.out.1 HQ.out.2.2 true (xs3 i P j Q) (by show pset _ _ (xs2 i P) _ _ _ _ = _; rw [HD.out.1, HD.out.2]; exact set_at hj7 HQ.out.2.1 (by simp)); refine flatP.wpList_ld rfl rfl rfl (cellsI HQ.out.1) hby ?_))
  have OI := Lib.hid (OH.out.own hkx hbx (by decide) (by decide) hky)
  have h18z := Lib.hid ((h18.out.nob hkx).keep hky (by have := h18.out.lt; omega))
  clear h18
  have h18 := h18z
  clear h18z
  have h21 := Lib.hid hby
  clear hbx hkx hby hky OH
  generalize v6.heap.size = g21 at *
  refine hset.mono ?_; rintro e v7 ⟨rfl, t⟩
  have OJ : Hid (Op2 w1 v7 { K with xs := xs3 i P j Q } { C with bad := [(1, (i : Int))] } (src2 0) D (src2 0)) := Lib.hid (OI.out.swap.bytes t).swap
  have h18z := Lib.hid (Ct.off OI.out.d.kc (Ct.of_to OI.out.d.kc t) h18.out (by decide))
  clear h18
  have h18 := h18z
  clear h18z
  have h21z := Lib.hid (Ct.off OI.out.d.kc (Ct.of_to OI.out.d.kc t) h21.out (by decide))
  clear h21
  have h21 := h21z
  clear h21z
  have hset2 := Co.setProc_is OJ.out.c.kc (i : Int) (wfi (by omega) (by omega)) Q HQ.out.1 HQ.out.2.2 false (xs3 i P j Q) (pset_bad (by show _ ∈ [(1, (i : Int))]; simp))
  have HS2 := Lib.hid hset2
  have hb21 := h21.out
  clear hset t OI hset2
  go_wp2_with (refine flat_ldw flatP (by rfl) rfl rfl (cellsI HQ.out.1) hb21 ?_)
  refine HS2.out.mono ?_; rintro e v8 ⟨rfl, t⟩
  have OK : Hid (Op2 w1 v8 { K with xs := xs3 i P j Q } { C with bad := [(1, (i : Int))] } (src2 0) D (src2 0)) := Lib.hid (OJ.out.bytes t)
  have h18z := Lib.hid (Ct.off OJ.out.c.kc (Ct.of_to OJ.out.c.kc t) h18.out (by decide))
  clear h18
  have h18 := h18z
  clear h18z
  have h21z := Lib.hid (Ct.off OJ.out.c.kc (Ct.of_to OJ.out.c.kc t) h21.out (by decide))
  clear h21
  have h21 := h21z
  clear h21z
  have hset3 := Co.freeProc_is OK.out.c.kc (i : Int) (wfi (by omega) (by omega)) false (xs3 i P j Q) (pwrite_bad (by show _ ∈ [(1, (i : Int))]; simp))
  have HS3 := Lib.hid hset3
  clear t OJ HS2 hset3 hb21
  go_wp2_with fail
  refine HS3.out.mono ?_; rintro e v9 ⟨rfl, t⟩
  have OL : Hid (Op2 w1 v9 { K with xs := xs3 i P j Q } { C with bad := [(1, (i : Int))] } (src2 0) D (src2 0)) := Lib.hid (OK.out.bytes t)
  have h18z := Lib.hid (Ct.off OK.out.c.kc (Ct.of_to OK.out.c.kc t) h18.out (by decide))
  clear h18
  have h18 := h18z
  clear h18z
  have h21z := Lib.hid (Ct.off OK.out.c.kc (Ct.of_to OK.out.c.kc t) h21.out (by decide))
  clear h21
  have h21 := h21z
  clear h21z
  have hc := Co.proc_is OL.out.c.kc (j : Int) (wfi (by omega) (by omega)) Q 1 [(1, (i : Int))] (by show pread _ _ (xs3 i P j Q) _ _ [(1, (i : Int))] _ = _; rw [show ({ C with bad := [(1, (i : Int))] } : Cm).brs.length = 2 from HF.out.2.1]; exact read_at (xs2_len hi7 HP.out.1) hj7 HQ.out.1 HQ.out.2.1 (by simp; omega))
  have HC := Lib.hid hc
  clear t OK HS3 hc
  go_wp2_with fail
  refine HC.out.mono ?_; rintro e va ⟨rfl, t⟩
  have OM : Hid (Op2 w1 va { K with xs := xs3 i P j Q } { C with bad := [(1, (i : Int))] } (src2 0) D (src2 0)) := Lib.hid (OL.out.reads t)
  have h18z := Lib.hid (Ct.off OL.out.c.kc t h18.out (by decide))
  clear h18
  have h18 := h18z
  clear h18z
  have h21z := Lib.hid (Ct.off OL.out.c.kc t h21.out (by decide))
  clear h21
  have h21 := h21z
  clear h21z
  clear t OL HC
  go_wp2_with (first
    | (refine flatP.wpList_al rfl rfl ?_; intro xw5 hbx hkx hsx; clear hsx)
    | (refine flatP.wpList_st rfl rfl rfl rfl (cellsI HQ.out.1) (cellsI (n := 16) (l := Cd.noP) rfl) hbx ?_; intro y5 hby hky hsy; clear hsy))
  have ON := Lib.hid (OM.out.own hkx hbx (by decide) (by decide) hky)
  have h18z := Lib.hid ((h18.out.nob hkx).keep hky (by have := h18.out.lt; omega))
  clear h18
  have h18 := h18z
  clear h18z
  have h21z := Lib.hid ((h21.out.nob hkx).keep hky (by have := h21.out.lt; omega))
  clear h21
  have h21 := h21z
  clear h21z
  have h22 := Lib.hid hby
  clear hbx hkx hby hky OM
  generalize va.heap.size = g22 at *
  have hc := Co.proc_is ON.out.d.kc (i : Int) (wfi (by omega) (by omega)) P 1 D.bad (by show pread _ _ (xs3 i P j Q) _ _ _ _ = _; rw [HD.out.1, HD.out.2]; exact read_by (xs1_len hi7) hi7 hj7 hji HP.out.1 HP.out.2.1 HQ.out.1 (by simp))
  have HC := Lib.hid hc
  clear hc
  refine HC.out.mono ?_; rintro e vb ⟨rfl, t⟩
  have OP := Lib.hid (ON.out.swap.reads t).swap
  have h18z := Lib.hid (Ct.off ON.out.d.kc t h18.out (by decide))
  clear h18
  have h18 := h18z
  clear h18z
  have h21z := Lib.hid (Ct.off ON.out.d.kc t h21.out (by decide))
  clear h21
  have h21 := h21z
  clear h21z
  have h22z := Lib.hid (Ct.off ON.out.d.kc t h22.out (by decide))
  clear h22
  have h22 := h22z
  clear h22z
  clear t ON HC
  go_upto_region 22 with (first
    | (refine flatP.wpList_al rfl rfl ?_; intro xw6 hbx hkx hsx; clear hsx)
    | (refine flatP.wpList_st rfl rfl rfl rfl (cellsI HP.out.1) (cellsI (n := 16) (l := Cd.noP) rfl) hbx ?_; intro y6 hby hky hsy; clear hsy))
  have OQ := Lib.hid (OP.out.own hkx hbx (by decide) (by decide) hky)
  have h18z := Lib.hid ((h18.out.nob hkx).keep hky (by have := h18.out.lt; omega))
  clear h18
  have h18 := h18z
  clear h18z
  have h21z := Lib.hid ((h21.out.nob hkx).keep hky (by have := h21.out.lt; omega))
  clear h21
  have h21 := h21z
  clear h21z
  have h22z := Lib.hid ((h22.out.nob hkx).keep hky (by have := h22.out.lt; omega))
  clear h22
  have h22 := h22z
  clear h22z
  have h24 := Lib.hid hby
  clear hbx hkx hby hky OP
  generalize vb.heap.size = g24 at *
  have hePP : ∀ W, (binOp .eql 39 (.agg (ints P).toArray) (.agg (ints P).toArray)).run Tryz.prog W = .ok (.bool true) W := fun W => by have := Cd.eq_pv P P HP.out.1 HP.out.1 W; rw [decide_eq_true rfl] at this; exact this
  have heQQ : ∀ W, (binOp .eql 39 (.agg (ints Q).toArray) (.agg (ints Q).toArray)).run Tryz.prog W = .ok (.bool true) W := fun W => by have := Cd.eq_pv Q Q HQ.out.1 HQ.out.1 W; rw [decide_eq_true rfl] at this; exact this
  have hbC : ∀ W, Op2 w1 W { K with xs := xs3 i P j Q } { C with bad := [(1, (i : Int))] } (src2 0) D (src2 0) → Calls Tryz.prog 21 #[.pointer (some ⟨C.p, 0, none⟩)] W fun e w' => ∃ A cap, e = .returned (.slice A 1 cap) ∧ Keep Nob W w' := fun W O => (Co.bad_is O.c.kc.c).mono (fun e w' ⟨A, c, h1, _, h2⟩ => ⟨A, c, h1, h2⟩)
  have hbD : ∀ W, Op2 w1 W { K with xs := xs3 i P j Q } { C with bad := [(1, (i : Int))] } (src2 0) D (src2 0) → Calls Tryz.prog 21 #[.pointer (some ⟨D.p, 0, none⟩)] W fun e w' => ∃ A cap, e = .returned (.slice A 0 cap) ∧ Keep Nob W w' := fun W O => by
    have := Co.bad_is O.d.kc.c
    rw [HD.out.2] at this
    exact this.mono (fun e w' ⟨A, c, h1, _, h2⟩ => ⟨A, c, h1, h2⟩)
  have HBC := Lib.hid hbC
  have HBD := Lib.hid hbD
  have OR := Lib.hid (OQ.out.nob (Keep.nobdrew y6))
  have B4 := Lib.hid (And.intro (h18.out.nob (Keep.nobdrew y6)) (And.intro (h21.out.nob (Keep.nobdrew y6)) (And.intro (h22.out.nob (Keep.nobdrew y6)) (h24.out.nob (Keep.nobdrew y6)))))
  have hr0 := Lib.hid (HR.out.from_ (from_join K1.out OR.out.c.keep))
  have hcP := Lib.hid (HMa.out _ hr0.out)
  clear hbC hbD
  refine wp_region_held_drew (S := (fun w' => Blk w' g18 39 (ints P) ∧ Blk w' g21 39 (ints Q) ∧ Blk w' g22 39 (ints Q) ∧ Blk w' g24 39 (ints P))) (by kernel_rfl) B4.out (fun hHeld => ?_)
  refine wpAnyH_take (i := 0) (v := ?_) rfl (by kernel_rfl) (by kernel_rfl) (by kernel_rfl) (fun _ _ _ h => h) (Or.inl ⟨by rfl, ?_⟩) (by assumption) ?_
  rotate_left
  · (intro w hSw; (try dsimp only at hSw); obtain ⟨s18, s21, s22, s24⟩ := hSw; go_simp; try with_reducible rfl)
  try simp only [Act.put, List.getElem_toArray, List.getElem_cons_zero, List.getElem_cons_succ, List.setIfInBounds_toArray, List.set_cons_zero, List.set_cons_succ]
  refine wpAnyH_take (i := 1) (v := ?_) rfl (by kernel_rfl) (by kernel_rfl) (by kernel_rfl) (fun _ _ _ h => h) (Or.inl ⟨by rfl, ?_⟩) (by assumption) ?_
  rotate_left
  · (intro w hSw; (try dsimp only at hSw); obtain ⟨s18, s21, s22, s24⟩ := hSw; go_simp; try with_reducible rfl)
  try simp only [Act.put, List.getElem_toArray, List.getElem_cons_zero, List.getElem_cons_succ, List.setIfInBounds_toArray, List.set_cons_zero, List.set_cons_succ]
  refine wpAnyH_take (i := 2) (v := ?_) rfl (by kernel_rfl) (by kernel_rfl) (by kernel_rfl) (fun _ _ _ h => h) (Or.inl ⟨by rfl, ?_⟩) (by assumption) ?_
  rotate_left
  · (intro w hSw; (try dsimp only at hSw); obtain ⟨s18, s21, s22, s24⟩ := hSw; go_simp; try with_reducible rfl)
  try simp only [Act.put, List.getElem_toArray, List.getElem_cons_zero, List.getElem_cons_succ, List.setIfInBounds_toArray, List.set_cons_zero, List.set_cons_succ]
  refine wpAnyH_take (i := 3) (v := ?_) rfl (by kernel_rfl) (by kernel_rfl) (by kernel_rfl) (fun _ _ _ h => h) (Or.inl ⟨by rfl, ?_⟩) (by assumption) ?_
  rotate_left
  · (intro w hSw; (try dsimp only at hSw); obtain ⟨s18, s21, s22, s24⟩ := hSw; go_simp; try with_reducible rfl)
  try simp only [Act.put, List.getElem_toArray, List.getElem_cons_zero, List.getElem_cons_succ, List.setIfInBounds_toArray, List.set_cons_zero, List.set_cons_succ]
  refine wpAnyH_take (i := 4) (v := ?_) rfl (by kernel_rfl) (by kernel_rfl) (by kernel_rfl) (fun _ _ _ h => h) (Or.inl ⟨by rfl, ?_⟩) (by assumption) ?_
  rotate_left
  · (intro w hSw; (try dsimp only at hSw); obtain ⟨s18, s21, s22, s24⟩ := hSw; go_simp; try with_reducible rfl)
  try simp only [Act.put, List.getElem_toArray, List.getElem_cons_zero, List.getElem_cons_succ, List.setIfInBounds_toArray, List.set_cons_zero, List.set_cons_succ]
  refine wpAnyH_take (i := 5) (v := ?_) rfl (by kernel_rfl) (by kernel_rfl) (by kernel_rfl) (fun _ _ _ h => h) (Or.inl ⟨by rfl, ?_⟩) (by assumption) ?_
  rotate_left
  · (intro w hSw; (try dsimp only at hSw); obtain ⟨s18, s21, s22, s24⟩ := hSw; go_simp; try with_reducible rfl)
  try simp only [Act.put, List.getElem_toArray, List.getElem_cons_zero, List.getElem_cons_succ, List.setIfInBounds_toArray, List.set_cons_zero, List.set_cons_succ]
  refine wpAnyH_take (i := 6) (v := ?_) rfl (by kernel_rfl) (by kernel_rfl) (by kernel_rfl) (fun _ _ _ h => h) (Or.inl ⟨by rfl, ?_⟩) (by assumption) ?_
  rotate_left
  · (intro w hSw; (try dsimp only at hSw); obtain ⟨s18, s21, s22, s24⟩ := hSw; go_simp; try with_reducible rfl)
  try simp only [Act.put, List.getElem_toArray, List.getElem_cons_zero, List.getElem_cons_succ, List.setIfInBounds_toArray, List.set_cons_zero, List.set_cons_succ]
  refine wpAnyH_take (i := 7) (v := ?_) rfl (by kernel_rfl) (by kernel_rfl) (by kernel_rfl) (fun _ _ _ h => h) (Or.inl ⟨by rfl, ?_⟩) (by assumption) ?_
  rotate_left
  · (intro w hSw; (try dsimp only at hSw); obtain ⟨s18, s21, s22, s24⟩ := hSw; go_simp; try with_reducible rfl)
  try simp only [Act.put, List.getElem_toArray, List.getElem_cons_zero, List.getElem_cons_succ, List.setIfInBounds_toArray, List.set_cons_zero, List.set_cons_succ]
  refine wpAnyH_take (i := 8) (v := ?_) rfl (by kernel_rfl) (by kernel_rfl) (by kernel_rfl) (fun _ _ _ h => h) (Or.inl ⟨by rfl, ?_⟩) (by assumption) ?_
  rotate_left
  · (intro w hSw; (try dsimp only at hSw); obtain ⟨s18, s21, s22, s24⟩ := hSw; go_simp; try with_reducible rfl)
  try simp only [Act.put, List.getElem_toArray, List.getElem_cons_zero, List.getElem_cons_succ, List.setIfInBounds_toArray, List.set_cons_zero, List.set_cons_succ]
  refine wpAnyH_take (i := 9) (v := ?_) rfl (by kernel_rfl) (by kernel_rfl) (by kernel_rfl) (fun _ _ _ h => h) (Or.inl ⟨by rfl, ?_⟩) (by assumption) ?_
  rotate_left
  · (intro w hSw; (try dsimp only at hSw); obtain ⟨s18, s21, s22, s24⟩ := hSw; go_simp; try with_reducible rfl)
  try simp only [Act.put, List.getElem_toArray, List.getElem_cons_zero, List.getElem_cons_succ, List.setIfInBounds_toArray, List.set_cons_zero, List.set_cons_succ]
  refine wpAnyH_take (i := 10) (v := ?_) rfl (by kernel_rfl) (by kernel_rfl) (by kernel_rfl) (fun _ _ _ h => h) (Or.inl ⟨by rfl, ?_⟩) (by assumption) ?_
  rotate_left
  · (intro w hSw; (try dsimp only at hSw); obtain ⟨s18, s21, s22, s24⟩ := hSw; go_simp; try with_reducible rfl)
  try simp only [Act.put, List.getElem_toArray, List.getElem_cons_zero, List.getElem_cons_succ, List.setIfInBounds_toArray, List.set_cons_zero, List.set_cons_succ]
  refine wpAnyH_take (i := 11) (v := ?_) rfl (by kernel_rfl) (by kernel_rfl) (by kernel_rfl) (fun _ _ _ h => h) (Or.inl ⟨by rfl, ?_⟩) (by assumption) ?_
  rotate_left
  · (intro w hSw; (try dsimp only at hSw); obtain ⟨s18, s21, s22, s24⟩ := hSw; refine flatP.exec_load (x := .tmp 18) ?_ ?_ (cellsI HP.out.1) s18 <;> rfl)
  try simp only [Act.put, List.getElem_toArray, List.getElem_cons_zero, List.getElem_cons_succ, List.setIfInBounds_toArray, List.set_cons_zero, List.set_cons_succ]
  refine wpAnyH_take (i := 12) (v := ?_) rfl (by kernel_rfl) (by kernel_rfl) (by kernel_rfl) (fun _ _ _ h => h) (Or.inl ⟨by rfl, ?_⟩) (by assumption) ?_
  rotate_left
  · (intro w hSw; (try dsimp only at hSw); obtain ⟨s18, s21, s22, s24⟩ := hSw; go_simp; try with_reducible rfl)
  try simp only [Act.put, List.getElem_toArray, List.getElem_cons_zero, List.getElem_cons_succ, List.setIfInBounds_toArray, List.set_cons_zero, List.set_cons_succ]
  refine wpAnyH_ready (rs := [13]) (by kernel_rfl) (by simp) ?_
  refine AllReadyH.cons rfl (fun K hK => ?_) AllReadyH.nil
  go_simp
  with_reducible_and_instances apply Calls.mono hcP.out; rintro e q1 ⟨rfl, kq⟩
  have Oq1 := Lib.hid (OR.out.nob kq)
  have Bq1 := Lib.hid (And.intro (B4.out.1.nob kq) (And.intro (B4.out.2.1.nob kq) (And.intro (B4.out.2.2.1.nob kq) (B4.out.2.2.2.nob kq))))
  clear kq
  refine hK.out _ _ ?_ (fun hHeld => ?_)
  · exact Bq1.out
  clear hK K
  try simp only [Act.put, List.getElem_toArray, List.getElem_cons_zero, List.getElem_cons_succ, List.setIfInBounds_toArray, List.set_cons_zero, List.set_cons_succ]
  refine wpAnyH_take (i := 14) (v := ?_) rfl (by kernel_rfl) (by kernel_rfl) (by kernel_rfl) (fun _ _ _ h => h) (Or.inl ⟨by rfl, ?_⟩) (by assumption) ?_
  rotate_left
  · (intro w hSw; (try dsimp only at hSw); obtain ⟨s18, s21, s22, s24⟩ := hSw; go_simp; try with_reducible rfl)
  try simp only [Act.put, List.getElem_toArray, List.getElem_cons_zero, List.getElem_cons_succ, List.setIfInBounds_toArray, List.set_cons_zero, List.set_cons_succ]
  refine wpAnyH_take (i := 15) (v := ?_) rfl (by kernel_rfl) (by kernel_rfl) (by kernel_rfl) (fun _ _ _ h => h) (Or.inl ⟨by rfl, ?_⟩) (by assumption) ?_
  rotate_left
  · (intro w hSw; (try dsimp only at hSw); obtain ⟨s18, s21, s22, s24⟩ := hSw; go_simp; try with_reducible rfl)
  try simp only [Act.put, List.getElem_toArray, List.getElem_cons_zero, List.getElem_cons_succ, List.setIfInBounds_toArray, List.set_cons_zero, List.set_cons_succ]
  refine wpAnyH_take (i := 16) (v := ?_) rfl (by kernel_rfl) (by kernel_rfl) (by kernel_rfl) (fun _ _ _ h => h) (Or.inl ⟨by rfl, ?_⟩) (by assumption) ?_
  rotate_left
  · (intro w hSw; (try dsimp only at hSw); obtain ⟨s18, s21, s22, s24⟩ := hSw; go_simp; try with_reducible rfl)
  try simp only [Act.put, List.getElem_toArray, List.getElem_cons_zero, List.getElem_cons_succ, List.setIfInBounds_toArray, List.set_cons_zero, List.set_cons_succ]
  refine wpAnyH_take (i := 17) (v := ?_) rfl (by kernel_rfl) (by kernel_rfl) (by kernel_rfl) (fun _ _ _ h => h) (Or.inl ⟨by rfl, ?_⟩) (by assumption) ?_
  rotate_left
  · (intro w hSw; (try dsimp only at hSw); obtain ⟨s18, s21, s22, s24⟩ := hSw; go_simp; try with_reducible rfl)
  try simp only [Act.put, List.getElem_toArray, List.getElem_cons_zero, List.getElem_cons_succ, List.setIfInBounds_toArray, List.set_cons_zero, List.set_cons_succ]
  refine wpAnyH_take (i := 18) (v := ?_) rfl (by kernel_rfl) (by kernel_rfl) (by kernel_rfl) (fun _ _ _ h => h) (Or.inl ⟨by rfl, ?_⟩) (by assumption) ?_
  rotate_left
  · (intro w hSw; (try dsimp only at hSw); obtain ⟨s18, s21, s22, s24⟩ := hSw; go_simp; try with_reducible rfl)
  try simp only [Act.put, List.getElem_toArray, List.getElem_cons_zero, List.getElem_cons_succ, List.setIfInBounds_toArray, List.set_cons_zero, List.set_cons_succ]
  refine wpAnyH_take (i := 19) (v := ?_) rfl (by kernel_rfl) (by kernel_rfl) (by kernel_rfl) (fun _ _ _ h => h) (Or.inl ⟨by rfl, ?_⟩) (by assumption) ?_
  rotate_left
  · (intro w hSw; (try dsimp only at hSw); obtain ⟨s18, s21, s22, s24⟩ := hSw; go_simp; try with_reducible rfl)
  try simp only [Act.put, List.getElem_toArray, List.getElem_cons_zero, List.getElem_cons_succ, List.setIfInBounds_toArray, List.set_cons_zero, List.set_cons_succ]
  refine wpAnyH_take (i := 20) (v := ?_) rfl (by kernel_rfl) (by kernel_rfl) (by kernel_rfl) (fun _ _ _ h => h) (Or.inl ⟨by rfl, ?_⟩) (by assumption) ?_
  rotate_left
  · (intro w hSw; (try dsimp only at hSw); obtain ⟨s18, s21, s22, s24⟩ := hSw; go_simp; try with_reducible rfl)
  try simp only [Act.put, List.getElem_toArray, List.getElem_cons_zero, List.getElem_cons_succ, List.setIfInBounds_toArray, List.set_cons_zero, List.set_cons_succ]
  refine wpAnyH_take (i := 21) (v := ?_) rfl (by kernel_rfl) (by kernel_rfl) (by kernel_rfl) (fun _ _ _ h => h) (Or.inl ⟨by rfl, ?_⟩) (by assumption) ?_
  rotate_left
  · (intro w hSw; (try dsimp only at hSw); obtain ⟨s18, s21, s22, s24⟩ := hSw; refine flatP.exec_load (x := .tmp 22) ?_ ?_ (cellsI HQ.out.1) s22 <;> rfl)
  try simp only [Act.put, List.getElem_toArray, List.getElem_cons_zero, List.getElem_cons_succ, List.setIfInBounds_toArray, List.set_cons_zero, List.set_cons_succ]
  refine wpAnyH_take (i := 22) (v := ?_) rfl (by kernel_rfl) (by kernel_rfl) (by kernel_rfl) (fun _ _ _ h => h) (Or.inl ⟨by rfl, ?_⟩) (by assumption) ?_
  rotate_left
  · (intro w hSw; (try dsimp only at hSw); obtain ⟨s18, s21, s22, s24⟩ := hSw; refine flatP.exec_load (x := .tmp 21) ?_ ?_ (cellsI HQ.out.1) s21 <;> rfl)
  try simp only [Act.put, List.getElem_toArray, List.getElem_cons_zero, List.getElem_cons_succ, List.setIfInBounds_toArray, List.set_cons_zero, List.set_cons_succ]
  refine wpAnyH_take (i := 23) (v := ?_) rfl (by kernel_rfl) (by kernel_rfl) (by kernel_rfl) (fun _ _ _ h => h) (Or.inl ⟨by rfl, ?_⟩) (by assumption) ?_
  rotate_left
  · (intro w hSw; (try dsimp only at hSw); obtain ⟨s18, s21, s22, s24⟩ := hSw; go_simp; try with_reducible rfl)
  try simp only [Act.put, List.getElem_toArray, List.getElem_cons_zero, List.getElem_cons_succ, List.setIfInBounds_toArray, List.set_cons_zero, List.set_cons_succ]
  refine wpAnyH_take (i := 24) (v := ?_) rfl (by kernel_rfl) (by kernel_rfl) (by kernel_rfl) (fun _ _ _ h => h) (Or.inl ⟨by rfl, ?_⟩) (by assumption) ?_
  rotate_left
  · (intro w hSw; (try dsimp only at hSw); obtain ⟨s18, s21, s22, s24⟩ := hSw; go_simp; try with_reducible rfl)
  try simp only [Act.put, List.getElem_toArray, List.getElem_cons_zero, List.getElem_cons_succ, List.setIfInBounds_toArray, List.set_cons_zero, List.set_cons_succ]
  refine wpAnyH_take (i := 25) (v := ?_) rfl (by kernel_rfl) (by kernel_rfl) (by kernel_rfl) (fun _ _ _ h => h) (Or.inl ⟨by rfl, ?_⟩) (by assumption) ?_
  rotate_left
  · (intro w hSw; (try dsimp only at hSw); obtain ⟨s18, s21, s22, s24⟩ := hSw; go_simp; try with_reducible rfl)
  try simp only [Act.put, List.getElem_toArray, List.getElem_cons_zero, List.getElem_cons_succ, List.setIfInBounds_toArray, List.set_cons_zero, List.set_cons_succ]
  refine wpAnyH_take (i := 26) (v := ?_) rfl (by kernel_rfl) (by kernel_rfl) (by kernel_rfl) (fun _ _ _ h => h) (Or.inl ⟨by rfl, ?_⟩) (by assumption) ?_
  rotate_left
  · (intro w hSw; (try dsimp only at hSw); obtain ⟨s18, s21, s22, s24⟩ := hSw; go_simp; try with_reducible rfl)
  try simp only [Act.put, List.getElem_toArray, List.getElem_cons_zero, List.getElem_cons_succ, List.setIfInBounds_toArray, List.set_cons_zero, List.set_cons_succ]
  refine wpAnyH_take (i := 27) (v := ?_) rfl (by kernel_rfl) (by kernel_rfl) (by kernel_rfl) (fun _ _ _ h => h) (Or.inl ⟨by rfl, ?_⟩) (by assumption) ?_
  rotate_left
  · (intro w hSw; (try dsimp only at hSw); obtain ⟨s18, s21, s22, s24⟩ := hSw; go_simp; try with_reducible rfl)
  try simp only [Act.put, List.getElem_toArray, List.getElem_cons_zero, List.getElem_cons_succ, List.setIfInBounds_toArray, List.set_cons_zero, List.set_cons_succ]
  refine wpAnyH_take (i := 28) (v := ?_) rfl (by kernel_rfl) (by kernel_rfl) (by kernel_rfl) (fun _ _ _ h => h) (Or.inl ⟨by rfl, ?_⟩) (by assumption) ?_
  rotate_left
  · (intro w hSw; (try dsimp only at hSw); obtain ⟨s18, s21, s22, s24⟩ := hSw; go_simp; try with_reducible rfl)
  try simp only [Act.put, List.getElem_toArray, List.getElem_cons_zero, List.getElem_cons_succ, List.setIfInBounds_toArray, List.set_cons_zero, List.set_cons_succ]
  refine wpAnyH_take (i := 29) (v := ?_) rfl (by kernel_rfl) (by kernel_rfl) (by kernel_rfl) (fun _ _ _ h => h) (Or.inl ⟨by rfl, ?_⟩) (by assumption) ?_
  rotate_left
  · (intro w hSw; (try dsimp only at hSw); obtain ⟨s18, s21, s22, s24⟩ := hSw; go_simp; try with_reducible rfl)
  try simp only [Act.put, List.getElem_toArray, List.getElem_cons_zero, List.getElem_cons_succ, List.setIfInBounds_toArray, List.set_cons_zero, List.set_cons_succ]
  refine wpAnyH_take (i := 30) (v := ?_) rfl (by kernel_rfl) (by kernel_rfl) (by kernel_rfl) (fun _ _ _ h => h) (Or.inl ⟨by rfl, ?_⟩) (by assumption) ?_
  rotate_left
  · (intro w hSw; (try dsimp only at hSw); obtain ⟨s18, s21, s22, s24⟩ := hSw; refine flatP.exec_load (x := .tmp 24) ?_ ?_ (cellsI HP.out.1) s24 <;> rfl)
  try simp only [Act.put, List.getElem_toArray, List.getElem_cons_zero, List.getElem_cons_succ, List.setIfInBounds_toArray, List.set_cons_zero, List.set_cons_succ]
  refine wpAnyH_take (i := 31) (v := ?_) rfl (by kernel_rfl) (by kernel_rfl) (by kernel_rfl) (fun _ _ _ h => h) (Or.inl ⟨by rfl, ?_⟩) (by assumption) ?_
  rotate_left
  · (intro w hSw; (try dsimp only at hSw); obtain ⟨s18, s21, s22, s24⟩ := hSw; refine flatP.exec_load (x := .tmp 18) ?_ ?_ (cellsI HP.out.1) s18 <;> rfl)
  try simp only [Act.put, List.getElem_toArray, List.getElem_cons_zero, List.getElem_cons_succ, List.setIfInBounds_toArray, List.set_cons_zero, List.set_cons_succ]
  refine wpAnyH_take (i := 32) (v := ?_) rfl (by kernel_rfl) (by kernel_rfl) (by kernel_rfl) (fun _ _ _ h => h) (Or.inl ⟨by rfl, ?_⟩) (by assumption) ?_
  rotate_left
  · (intro w hSw; (try dsimp only at hSw); obtain ⟨s18, s21, s22, s24⟩ := hSw; go_simp; try with_reducible rfl)
  try simp only [Act.put, List.getElem_toArray, List.getElem_cons_zero, List.getElem_cons_succ, List.setIfInBounds_toArray, List.set_cons_zero, List.set_cons_succ]
  refine wpAnyH_take (i := 33) (v := ?_) rfl (by kernel_rfl) (by kernel_rfl) (by kernel_rfl) (fun _ _ _ h => h) (Or.inl ⟨by rfl, ?_⟩) (by assumption) ?_
  rotate_left
  · (intro w hSw; (try dsimp only at hSw); obtain ⟨s18, s21, s22, s24⟩ := hSw; go_simp; try with_reducible rfl)
  try simp only [Act.put, List.getElem_toArray, List.getElem_cons_zero, List.getElem_cons_succ, List.setIfInBounds_toArray, List.set_cons_zero, List.set_cons_succ]
  refine wpAnyH_take (i := 34) (v := ?_) rfl (by kernel_rfl) (by kernel_rfl) (by kernel_rfl) (fun _ _ _ h => h) (Or.inl ⟨by rfl, ?_⟩) (by assumption) ?_
  rotate_left
  · (intro w hSw; (try dsimp only at hSw); obtain ⟨s18, s21, s22, s24⟩ := hSw; go_simp; try with_reducible rfl)
  try simp only [Act.put, List.getElem_toArray, List.getElem_cons_zero, List.getElem_cons_succ, List.setIfInBounds_toArray, List.set_cons_zero, List.set_cons_succ]
  refine wpAnyH_take (i := 35) (v := ?_) rfl (by kernel_rfl) (by kernel_rfl) (by kernel_rfl) (fun _ _ _ h => h) (Or.inl ⟨by rfl, ?_⟩) (by assumption) ?_
  rotate_left
  · (intro w hSw; (try dsimp only at hSw); obtain ⟨s18, s21, s22, s24⟩ := hSw; go_simp; try with_reducible rfl)
  try simp only [Act.put, List.getElem_toArray, List.getElem_cons_zero, List.getElem_cons_succ, List.setIfInBounds_toArray, List.set_cons_zero, List.set_cons_succ]
  refine wpAnyH_ready (rs := [36]) (by kernel_rfl) (by simp) ?_
  refine AllReadyH.cons rfl (fun K hK => ?_) AllReadyH.nil
  go_simp
  with_reducible_and_instances apply Calls.mono (HBC.out _ Oq1.out); rintro e q2 ⟨A2, c2, rfl, kq⟩
  have Oq2 := Lib.hid (Oq1.out.nob kq)
  have Bq2 := Lib.hid (And.intro (Bq1.out.1.nob kq) (And.intro (Bq1.out.2.1.nob kq) (And.intro (Bq1.out.2.2.1.nob kq) (Bq1.out.2.2.2.nob kq))))
  clear kq
  refine hK.out _ _ ?_ (fun hHeld => ?_)
  · exact Bq2.out
  clear hK K
  try simp only [Act.put, List.getElem_toArray, List.getElem_cons_zero, List.getElem_cons_succ, List.setIfInBounds_toArray, List.set_cons_zero, List.set_cons_succ]
  refine wpAnyH_take (i := 37) (v := ?_) rfl (by kernel_rfl) (by kernel_rfl) (by kernel_rfl) (fun _ _ _ h => h) (Or.inl ⟨by rfl, ?_⟩) (by assumption) ?_
  rotate_left
  · (intro w hSw; (try dsimp only at hSw); obtain ⟨s18, s21, s22, s24⟩ := hSw; go_simp; try with_reducible rfl)
  try simp only [Act.put, List.getElem_toArray, List.getElem_cons_zero, List.getElem_cons_succ, List.setIfInBounds_toArray, List.set_cons_zero, List.set_cons_succ]
  refine wpAnyH_take (i := 38) (v := ?_) rfl (by kernel_rfl) (by kernel_rfl) (by kernel_rfl) (fun _ _ _ h => h) (Or.inl ⟨by rfl, ?_⟩) (by assumption) ?_
  rotate_left
  · (intro w hSw; (try dsimp only at hSw); obtain ⟨s18, s21, s22, s24⟩ := hSw; go_simp; try with_reducible rfl)
  try simp only [Act.put, List.getElem_toArray, List.getElem_cons_zero, List.getElem_cons_succ, List.setIfInBounds_toArray, List.set_cons_zero, List.set_cons_succ]
  refine wpAnyH_take (i := 39) (v := ?_) rfl (by kernel_rfl) (by kernel_rfl) (by kernel_rfl) (fun _ _ _ h => h) (Or.inl ⟨by rfl, ?_⟩) (by assumption) ?_
  rotate_left
  · (intro w hSw; (try dsimp only at hSw); obtain ⟨s18, s21, s22, s24⟩ := hSw; go_simp; try with_reducible rfl)
  try simp only [Act.put, List.getElem_toArray, List.getElem_cons_zero, List.getElem_cons_succ, List.setIfInBounds_toArray, List.set_cons_zero, List.set_cons_succ]
  refine wpAnyH_take (i := 40) (v := ?_) rfl (by kernel_rfl) (by kernel_rfl) (by kernel_rfl) (fun _ _ _ h => h) (Or.inl ⟨by rfl, ?_⟩) (by assumption) ?_
  rotate_left
  · (intro w hSw; (try dsimp only at hSw); obtain ⟨s18, s21, s22, s24⟩ := hSw; go_simp; try with_reducible rfl)
  try simp only [Act.put, List.getElem_toArray, List.getElem_cons_zero, List.getElem_cons_succ, List.setIfInBounds_toArray, List.set_cons_zero, List.set_cons_succ]
  refine wpAnyH_take (i := 41) (v := ?_) rfl (by kernel_rfl) (by kernel_rfl) (by kernel_rfl) (fun _ _ _ h => h) (Or.inl ⟨by rfl, ?_⟩) (by assumption) ?_
  rotate_left
  · (intro w hSw; (try dsimp only at hSw); obtain ⟨s18, s21, s22, s24⟩ := hSw; go_simp; try with_reducible rfl)
  try simp only [Act.put, List.getElem_toArray, List.getElem_cons_zero, List.getElem_cons_succ, List.setIfInBounds_toArray, List.set_cons_zero, List.set_cons_succ]
  refine wpAnyH_ready (rs := [42]) (by kernel_rfl) (by simp) ?_
  refine AllReadyH.cons rfl (fun K hK => ?_) AllReadyH.nil
  go_simp
  with_reducible_and_instances apply Calls.mono (HBD.out _ Oq2.out); rintro e q3 ⟨A3, c3, rfl, kq⟩
  have Oq3 := Lib.hid (Oq2.out.nob kq)
  have Bq3 := Lib.hid (And.intro (Bq2.out.1.nob kq) (And.intro (Bq2.out.2.1.nob kq) (And.intro (Bq2.out.2.2.1.nob kq) (Bq2.out.2.2.2.nob kq))))
  clear kq
  refine hK.out _ _ ?_ (fun hHeld => ?_)
  · exact Bq3.out
  clear hK K
  try simp only [Act.put, List.getElem_toArray, List.getElem_cons_zero, List.getElem_cons_succ, List.setIfInBounds_toArray, List.set_cons_zero, List.set_cons_succ]
  refine wpAnyH_take (i := 43) (v := ?_) rfl (by kernel_rfl) (by kernel_rfl) (by kernel_rfl) (fun _ _ _ h => h) (Or.inl ⟨by rfl, ?_⟩) (by assumption) ?_
  rotate_left
  · (intro w hSw; (try dsimp only at hSw); obtain ⟨s18, s21, s22, s24⟩ := hSw; go_simp; try with_reducible rfl)
  try simp only [Act.put, List.getElem_toArray, List.getElem_cons_zero, List.getElem_cons_succ, List.setIfInBounds_toArray, List.set_cons_zero, List.set_cons_succ]
  refine wpAnyH_take (i := 44) (v := ?_) rfl (by kernel_rfl) (by kernel_rfl) (by kernel_rfl) (fun _ _ _ h => h) (Or.inl ⟨by rfl, ?_⟩) (by assumption) ?_
  rotate_left
  · (intro w hSw; (try dsimp only at hSw); obtain ⟨s18, s21, s22, s24⟩ := hSw; go_simp; try with_reducible rfl)
  try simp only [Act.put, List.getElem_toArray, List.getElem_cons_zero, List.getElem_cons_succ, List.setIfInBounds_toArray, List.set_cons_zero, List.set_cons_succ]
  refine wpAnyH_take (i := 45) (v := ?_) rfl (by kernel_rfl) (by kernel_rfl) (by kernel_rfl) (fun _ _ _ h => h) (Or.inl ⟨by rfl, ?_⟩) (by assumption) ?_
  rotate_left
  · (intro w hSw; (try dsimp only at hSw); obtain ⟨s18, s21, s22, s24⟩ := hSw; go_simp; try with_reducible rfl)
  try simp only [Act.put, List.getElem_toArray, List.getElem_cons_zero, List.getElem_cons_succ, List.setIfInBounds_toArray, List.set_cons_zero, List.set_cons_succ]
  refine wpAnyH_take (i := 46) (v := ?_) rfl (by kernel_rfl) (by kernel_rfl) (by kernel_rfl) (fun _ _ _ h => h) (Or.inl ⟨by rfl, ?_⟩) (by assumption) ?_
  rotate_left
  · (intro w hSw; (try dsimp only at hSw); obtain ⟨s18, s21, s22, s24⟩ := hSw; go_simp; try with_reducible rfl)
  try simp only [Act.put, List.getElem_toArray, List.getElem_cons_zero, List.getElem_cons_succ, List.setIfInBounds_toArray, List.set_cons_zero, List.set_cons_succ]
  refine wpAnyH_ready (rs := [47]) (by kernel_rfl) (by simp) ?_
  refine AllReadyH.cons rfl (fun K hK => ?_) AllReadyH.nil
  go_simp
  with_reducible_and_instances apply Calls.mono (awake_is q3); rintro e q4 ⟨rfl, kq⟩
  have Bq4 := Lib.hid (And.intro (Bq3.out.1.keep kq (fun m => by have := Bq3.out.1.lt; have m : q3.heap.size ≤ g18 := m; omega)) (And.intro (Bq3.out.2.1.keep kq (fun m => by have := Bq3.out.2.1.lt; have m : q3.heap.size ≤ g21 := m; omega)) (And.intro (Bq3.out.2.2.1.keep kq (fun m => by have := Bq3.out.2.2.1.lt; have m : q3.heap.size ≤ g22 := m; omega)) (Bq3.out.2.2.2.keep kq (fun m => by have := Bq3.out.2.2.2.lt; have m : q3.heap.size ≤ g24 := m; omega)))))
  have Kfin := Lib.hid (from_join2 (from_join K1.out Oq3.out.c.keep) kq)
  clear kq
  refine hK.out _ _ ?_ (fun hHeld => ?_)
  · exact Bq4.out
  clear hK K
  try simp only [Act.put, List.getElem_toArray, List.getElem_cons_zero, List.getElem_cons_succ, List.setIfInBounds_toArray, List.set_cons_zero, List.set_cons_succ]
  refine wpAnyH_take (i := 48) (v := ?_) rfl (by kernel_rfl) (by kernel_rfl) (by kernel_rfl) (fun _ _ _ h => h) (Or.inl ⟨by rfl, ?_⟩) (by assumption) ?_
  rotate_left
  · (intro w hSw; (try dsimp only at hSw); obtain ⟨s18, s21, s22, s24⟩ := hSw; go_simp; try with_reducible rfl)
  try simp only [Act.put, List.getElem_toArray, List.getElem_cons_zero, List.getElem_cons_succ, List.setIfInBounds_toArray, List.set_cons_zero, List.set_cons_succ]
  refine wpAnyH_take (i := 49) (v := ?_) rfl (by kernel_rfl) (by kernel_rfl) (by kernel_rfl) (fun _ _ _ h => h) (Or.inl ⟨by rfl, ?_⟩) (by assumption) ?_
  rotate_left
  · (intro w hSw; (try dsimp only at hSw); obtain ⟨s18, s21, s22, s24⟩ := hSw; go_simp; try with_reducible rfl)
  try simp only [Act.put, List.getElem_toArray, List.getElem_cons_zero, List.getElem_cons_succ, List.setIfInBounds_toArray, List.set_cons_zero, List.set_cons_succ]
  refine wpAnyH_done (by kernel_rfl) ?_ _
  go_wp2
  go_ret
  exact ⟨rfl, Kfin.out.done⟩
end Go.Proofs.YtifigjccokpcfaaGreat.Pn
namespace Go.Proofs.YtifigjccokpcfaaGreat
open Go.RowKit
theorem CommonsApart_walk (w : World) (a0 : Int) (_w0 : (Lit.int .i64 a0).wf = true) (A1 : Option Addr) (n1 c1 : Nat) (x1 : Ty.den (.sl 8 (.int .i64))) (w1 : Holds w (.sl 8 (.int .i64)) x1 [.slice A1 n1 c1]) (a2 : Int) (_w2 : (Lit.int .i64 a2).wf = true) :
    Calls Tryz.prog 5 #[.int .i64 a0, .slice A1 n1 c1, .int .i64 a2] w fun e w' => e = .returned (.bool true) ∧ Below w.heap.size w w' :=
  Pn.apart_in w a0 A1 n1 c1 x1 (Qu.holds_ints w1) (by have := holds_len w1; omega) a2
end Go.Proofs.YtifigjccokpcfaaGreat
