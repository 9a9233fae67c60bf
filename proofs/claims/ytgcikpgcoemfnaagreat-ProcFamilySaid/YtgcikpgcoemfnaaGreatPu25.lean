/- Texts CoRF, CoRR, CoRI, CoW, CoM, CoL, Sto0, StC, StD, PlM, Dk0, PlN, packed. -/
import Derived.BigRegion
import Derived.ProofKit
import Derived.SizedLaws
import Derived.ChangeArms
import Derived.Test.YtgcikpgcoemfnaaGreatPu0
import Derived.Test.YtgcikpgcoemfnaaGreatPu4
import Derived.Test.YtgcikpgcoemfnaaGreatPu18
import Derived.Test.YtgcikpgcoemfnaaGreatPu19
import Derived.Test.YtgcikpgcoemfnaaGreatPu1
import Derived.Test.YtgcikpgcoemfnaaGreatPu7
import Derived.Test.YtgcikpgcoemfnaaGreatPu11
import Derived.Test.YtgcikpgcoemfnaaGreatPu21
import Derived.Test.YtgcikpgcoemfnaaGreatPu22
import Derived.Test.YtgcikpgcoemfnaaGreatPu12
import Derived.Test.YtgcikpgcoemfnaaGreatPu14
import Derived.Test.YtgcikpgcoemfnaaGreatPu13
import Derived.Test.YtgcikpgcoemfnaaGreatPu15
import Derived.Test.YtgcikpgcoemfnaaGreatPu16
import Derived.Test.YtgcikpgcoemfnaaGreatPu24
import Derived.Test.YtgcikpgcoemfnaaGreatPu23
import Derived.Test.YtgcikpgcoemfnaaGreatPu5
import Derived.Test.YtgcikpgcoemfnaaGreatPu8
import Derived.Test.YtgcikpgcoemfnaaGreatPu20
import Derived.Test.YtgcikpgcoemfnaaGreatPu2
import Derived.Test.YtgcikpgcoemfnaaGreatPu9
import Derived.Test.YtgcikpgcoemfnaaGreatPu10
namespace Go.Proofs.YtgcikpgcoemfnaaGreat.Co
open Go.RowKit Go.MapKept
set_option linter.unusedVariables false
set_option linter.unusedSimpArgs false
set_option maxRecDepth 100000 in
set_option maxHeartbeats 4000000 in
theorem readF_is {w : World} {K : Kn} {C : Cm} {src : Src} (h : Kc w K C src) (r : Rf) (ho : RecOk r) (v : List Int) (d : Int) (bad' : List Rf) (hv : pread Fi.dcd Fi.noP K.xs src C.brs.length C.bad r = ((v, d), bad')) :
    Calls Tryz.prog 72 #[.pointer (some ⟨C.p, 0, none⟩), .agg #[.int .i64 r.1, .int .i64 r.2], .func (.func 73) #[] #[]] w fun e w' => e = .returned (.tuple #[.agg (ints v).toArray, .int .i64 d]) ∧ Ct w K K C { C with bad := bad' } src w' := by
  have hz : v.length = 4 := by
    have e : v = (pread Fi.dcd Fi.noP K.xs src C.brs.length C.bad r).1.1 := by rw [hv]
    rw [e]
    by_cases hbad : r ∈ C.bad
    · rw [pread_bad hbad]; rfl
    · cases hw : wher C.brs.length r with
      | none => rw [pread_none hbad hw]; rfl
      | some x => rw [pread_some hbad hw rfl]; exact Fi.dcd_len _
  have k1 := (Keep.refl Nob w).alloc (.cells #[.int .i64 r.1, .int .i64 r.2] 57)
  have HH := Lib.hid h
  have HO := Lib.hid ho
  have HV := Lib.hid hv
  clear h ho hv
  obtain ⟨x, hx⟩ : ∃ x, rch C r = x := ⟨_, rfl⟩
  obtain ⟨⟨a, b, m⟩, ok⟩ := x
  have hreach := fun W (kk : Keep Nob w W) => reach_is (HH.out.nob kk).c r HO.out a b m ok hx
  have HX := Lib.hid hx
  clear hx
  generalize hr1 : r.1 = r1 at *
  generalize hr2 : r.2 = r2 at *
  go_enter Tryz.func72, Tryz.ntmps72
  have bR := Blk.new w 57 [.int .i64 r1, .int .i64 r2]
  go_wp2_with (refine flatF.wpList_al rfl rfl ?_; intro w1 hb1 hk1 hs1; have bR1 := bR.nob hk1; have c0 := bR1.cell 0; have c1 := bR1.cell 1; simp only [List.getElem?_cons_zero, List.getElem?_cons_succ] at c0 c1)
  have kA := k1.trans hk1 (fun _ _ f => f)
  have hq0 : w.heap.size + 1 = (w.alloc (.cells #[.int .i64 r1, .int .i64 r2] 57)).heap.size := by simp
  rw [← hq0] at hb1
  clear hs1 k1 bR hk1 hq0 c0 c1
  refine (hreach _ kA).mono ?_; rintro e w2 ⟨rfl, k2⟩
  have kB := kA.trans k2 (fun _ _ f => f)
  have hb2 := hb1.nob k2
  have bR2 := bR1.nob k2
  clear hreach kA k2 hb1 bR1
  generalize hq : w.heap.size = q at *
  have HQ := Lib.hid hq
  clear hq
  cases ok with
  | false =>
    have hp : ((v, d), bad') = ((Fi.noP, 2), C.bad) := by
      rw [← HV.out]
      have hx := HX.out
      unfold rch at hx
      by_cases hbad : r ∈ C.bad
      · exact pread_bad hbad
      · rw [if_neg hbad] at hx
        cases hw : wher C.brs.length r with
        | none => exact pread_none hbad hw
        | some x => rw [hw] at hx; simp at hx
    simp only [Prod.mk.injEq] at hp
    obtain ⟨⟨rfl, rfl⟩, rfl⟩ := hp
    go_wp2_with (first
      | (refine flatF.wpList_al rfl rfl ?_; intro w3 hb3 hk3 hs3; have hb2 := (hb2.alloc (.cells #[.int .i64 a, .int .i64 b, .int .i64 m] 193)).nob hk3; have hk := (kB.alloc (.cells #[.int .i64 a, .int .i64 b, .int .i64 m] 193)).trans hk3 (fun _ _ f => f))
      | (refine flatF.wpList_ld rfl rfl rfl (cellsI rfl) hb3 ?_)
      | (refine flatF.wpList_st rfl rfl rfl rfl (cellsI rfl) (cellsI rfl) hb2 ?_; intro w4 hb4 hk4 hs4))
    refine bodyPost_ret (v := .tuple #[.agg (ints Fi.noP).toArray, .int .i64 2]) (flatF.results_pair rfl _ (cellsI rfl) rfl hb4 _ rfl) rfl ?_
    exact ⟨rfl, Ct.still HH.out (hk.trans hk4 (fun b hb e => by have e : b = q + 1 := e; have := HQ.out; omega))⟩
  | true =>
    have hx := HX.out
    have hnb : r ∉ C.bad := fun hbad => by unfold rch at hx; rw [if_pos hbad] at hx; simp at hx
    obtain ⟨x, hw⟩ : ∃ x, wher C.brs.length r = some x := by
      cases hw : wher C.brs.length r with
      | none => unfold rch at hx; rw [if_neg hnb, hw] at hx; simp at hx
      | some x => exact ⟨x, rfl⟩
    have hp : ((v, d), bad') = ((Fi.dcd (got K.xs src x)), if (Fi.dcd (got K.xs src x)).2 = 2 then ins r C.bad else C.bad) := by
      rw [← HV.out]
      exact pread_some hnb hw rfl
    have hin := wher_in hw
    unfold rch at hx
    rw [if_neg hnb, hw] at hx
    simp only [Prod.mk.injEq, and_true] at hx
    obtain ⟨ha, hb, hm⟩ := hx
    have hload := fun W (kk : Keep Nob w W) => load_is (HH.out.nob kk) x.1 x.2.1 x.2.2 hin.1 hin.2.1 a ha _ rfl
    rw [hb, hm] at hload
    obtain ⟨bs, hbs⟩ : ∃ bs, got K.xs src x = bs := ⟨_, rfl⟩
    rw [show (x.1, x.2.1, x.2.2) = x from rfl, hbs] at hload
    rw [hbs] at hp
    have hp1 : Fi.dcd bs = (v, d) := by
      have := congrArg Prod.fst hp
      exact this.symm
    have hp2 : bad' = if d = 2 then ins r C.bad else C.bad := by
      have := congrArg Prod.snd hp
      rw [hp1] at this
      exact this
    have HNB := Lib.hid (And.intro hnb (show wher C.brs.length r ≠ none from by rw [hw]; simp))
    have hbl : bs.length ≤ 40 := by
      rw [← hbs]
      unfold got
      split
      · exact Nat.le_trans (List.length_take_le _ _) hin.2.2.1
      · simp
    have HBL := Lib.hid hbl
    clear hp hnb hw hin hbs ha hb hm HV HX hbl
    have k3 := kB.alloc (.cells #[.int .i64 a, .int .i64 b, .int .i64 m] 193)
    have hT := hb2.alloc (.cells #[.int .i64 a, .int .i64 b, .int .i64 m] 193)
    have hR := bR2.alloc (.cells #[.int .i64 a, .int .i64 b, .int .i64 m] 193)
    go_wp2_with fail
    refine (hload _ k3).mono ?_; rintro e w3 ⟨A', c', rfl, hrd, t⟩
    have hK3 := HH.out.nob k3
    have hT3 := hK3.k.offT hT (by decide) t.keep
    have hR3 := hK3.k.offT hR (by decide) t.keep
    have hct := Ct.pre k3 (Ct.of_to' hK3 t)
    clear hload hT hR hb2 bR2 k3 t hK3 kB
    go_wp2_with fail
    refine (Fi.decode_is A' bs.length c' bs w3 hrd (by have := HBL.out; omega) v d hp1).mono ?_; rintro e w4 ⟨rfl, k4⟩
    have hct4 := hct.nob k4
    have hT4 := hT3.nob k4
    have hR4 := hR3.nob k4
    clear hct hT3 hR3 k4 hrd
    have hlt4 := hT4.lt
    unfold Fi.pv
    have hpl := HH.out.c.lt.1
    have hal := HH.out.a_lt
    have hge : w.heap.size ≤ w4.heap.size := hct4.keep.size
    have HG := Lib.hid (And.intro hpl (And.intro hal hge))
    clear hpl hal hge
    by_cases hd2 : d = 2
    · subst hd2
      rw [if_pos rfl] at hp2
      subst hp2
      go_wp2_with (first
        | (refine flatF.wpList_al rfl rfl ?_; intro w5 hb5 hk5 hs5; clear hs5)
        | (refine flatF.wpList_st rfl rfl rfl rfl (cellsI hz) (cellsI rfl) hb5 ?_; intro w6 hb6 hk6 hs6; clear hs6))
      have hct6 := (hct4.nob hk5).post hb5 (by decide) (by decide) HG.out.2.2 HG.out.1 HG.out.2.1 hk6
      have hT6 := (hT4.nob hk5).keep hk6 (fun e => by omega)
      have hR6 := (hR4.nob hk5).keep hk6 (fun e => by omega)
      obtain ⟨w7, hrun, hct7, hsz, hkb⟩ := (hct6.is.nob (Keep.nobdrew _)).spoil HO.out HNB.out.1 HNB.out.2
      unfold rval at hrun
      rw [hr1, hr2] at hrun
      have c4 : w6.cell? ⟨C.p, 4, none⟩ = some (.map (some C.b)) := hct6.is.c.obj.cell 4
      have c0 := hR6.cell 0
      have c1 := hR6.cell 1
      simp only [List.getElem?_cons_zero, List.getElem?_cons_succ] at c0 c1
      go_region
      have hct7' := Ct.pre (Keep.nobdrew w6) hct7
      have hT7 := Ct.off hct6.is hct7' hT6 (by decide)
      have hb7 := Ct.off hct6.is hct7' hb6 (by decide)
      have hct8 := Ct.trans hct6 hct7' (fun _ m => .inl m) rfl (fun _ m _ => m)
      clear hrun hct7 hsz hkb c4 c0 c1 hct7' hR6
      go_wp2_with (first
        | (refine flatF.wpList_ld rfl rfl rfl (cellsI hz) hb7 ?_)
        | (refine flatF.wpList_st rfl rfl rfl rfl (cellsI hz) (cellsI rfl) hT7 ?_; intro w8 hb8 hk8 hs8; clear hs8))
      refine bodyPost_ret (v := .tuple #[.agg (ints v).toArray, .int .i64 2]) (flatF.results_pair rfl _ (cellsI hz) rfl hb8 _ rfl) rfl ?_
      exact ⟨rfl, hct8.post hT7 (by decide) (by decide) (by have := HQ.out; omega) HG.out.1 HG.out.2.1 hk8⟩
    · have hd2' : (d == 2) = false := by simpa using hd2
      rw [if_neg hd2] at hp2
      subst hp2
      go_wp2_with (first
        | (refine flatF.wpList_al rfl rfl ?_; intro w5 hb5 hk5 hs5; clear hs5)
        | (refine flatF.wpList_st rfl rfl rfl rfl (cellsI hz) (cellsI rfl) hb5 ?_; intro w6 hb6 hk6 hs6; clear hs6; have hT6 := (hT4.nob hk5).keep hk6 (fun e => by omega))
        | (refine flatF.wpList_ld rfl rfl rfl (cellsI hz) hb6 ?_)
        | (refine flatF.wpList_st rfl rfl rfl rfl (cellsI hz) (cellsI rfl) hT6 ?_; intro w7 hb7 hk7 hs7; clear hs7))
      have hct6 := (hct4.nob hk5).post hb5 (by decide) (by decide) HG.out.2.2 HG.out.1 HG.out.2.1 hk6
      refine bodyPost_ret (v := .tuple #[.agg (ints v).toArray, .int .i64 d]) (flatF.results_pair rfl _ (cellsI hz) rfl hb7 _ rfl) rfl ?_
      exact ⟨rfl, hct6.post hT6 (by decide) (by decide) (by have := HQ.out; omega) HG.out.1 HG.out.2.1 hk7⟩
end Go.Proofs.YtgcikpgcoemfnaaGreat.Co
namespace Go.Proofs.YtgcikpgcoemfnaaGreat.Co
open Go.RowKit Go.MapKept
set_option linter.unusedVariables false
set_option linter.unusedSimpArgs false
set_option maxRecDepth 100000 in
set_option maxHeartbeats 4000000 in
theorem readR_is {w : World} {K : Kn} {C : Cm} {src : Src} (h : Kc w K C src) (r : Rf) (ho : RecOk r) (v : Ri.Pp) (d : Int) (bad' : List Rf) (hv : pread Ri.dcd Ri.noP K.xs src C.brs.length C.bad r = ((v, d), bad')) :
    Calls Tryz.prog 221 #[.pointer (some ⟨C.p, 0, none⟩), .agg #[.int .i64 r.1, .int .i64 r.2], .func (.func 222) #[] #[]] w fun e w' => e = .returned (.tuple #[.agg (Ri.pc v).toArray, .int .i64 d]) ∧ Ct w K K C { C with bad := bad' } src w' := by
  have hz : v.d.length = 32 := by
    have e : v = (pread Ri.dcd Ri.noP K.xs src C.brs.length C.bad r).1.1 := by rw [hv]
    rw [e]
    by_cases hbad : r ∈ C.bad
    · rw [pread_bad hbad]; rfl
    · cases hw : wher C.brs.length r with
      | none => rw [pread_none hbad hw]; rfl
      | some x => rw [pread_some hbad hw rfl]; exact Ri.dcd_len _
  have k1 := (Keep.refl Nob w).alloc (.cells #[.int .i64 r.1, .int .i64 r.2] 57)
  have HH := Lib.hid h
  have HO := Lib.hid ho
  have HV := Lib.hid hv
  clear h ho hv
  obtain ⟨x, hx⟩ : ∃ x, rch C r = x := ⟨_, rfl⟩
  obtain ⟨⟨a, b, m⟩, ok⟩ := x
  have hreach := fun W (kk : Keep Nob w W) => reach_is (HH.out.nob kk).c r HO.out a b m ok hx
  have HX := Lib.hid hx
  clear hx
  generalize hr1 : r.1 = r1 at *
  generalize hr2 : r.2 = r2 at *
  go_enter Tryz.func221, Tryz.ntmps221
  have bR := Blk.new w 57 [.int .i64 r1, .int .i64 r2]
  go_wp2_with (refine flatR.wpList_al rfl rfl ?_; intro w1 hb1 hk1 hs1; have bR1 := bR.nob hk1; have c0 := bR1.cell 0; have c1 := bR1.cell 1; simp only [List.getElem?_cons_zero, List.getElem?_cons_succ] at c0 c1)
  have kA := k1.trans hk1 (fun _ _ f => f)
  have hq0 : w.heap.size + 1 = (w.alloc (.cells #[.int .i64 r1, .int .i64 r2] 57)).heap.size := by simp
  rw [← hq0] at hb1
  clear hs1 k1 bR hk1 hq0 c0 c1
  refine (hreach _ kA).mono ?_; rintro e w2 ⟨rfl, k2⟩
  have kB := kA.trans k2 (fun _ _ f => f)
  have hb2 := hb1.nob k2
  have bR2 := bR1.nob k2
  clear hreach kA k2 hb1 bR1
  generalize hq : w.heap.size = q at *
  have HQ := Lib.hid hq
  clear hq
  cases ok with
  | false =>
    have hp : ((v, d), bad') = ((Ri.noP, 2), C.bad) := by
      rw [← HV.out]
      have hx := HX.out
      unfold rch at hx
      by_cases hbad : r ∈ C.bad
      · exact pread_bad hbad
      · rw [if_neg hbad] at hx
        cases hw : wher C.brs.length r with
        | none => exact pread_none hbad hw
        | some x => rw [hw] at hx; simp at hx
    simp only [Prod.mk.injEq] at hp
    obtain ⟨⟨rfl, rfl⟩, rfl⟩ := hp
    go_wp2_with (first
      | (refine flatR.wpList_al rfl rfl ?_; intro w3 hb3 hk3 hs3; have hb2 := (hb2.alloc (.cells #[.int .i64 a, .int .i64 b, .int .i64 m] 193)).nob hk3; have hk := (kB.alloc (.cells #[.int .i64 a, .int .i64 b, .int .i64 m] 193)).trans hk3 (fun _ _ f => f))
      | (refine flatR.wpList_ld rfl rfl rfl (cellsR rfl) hb3 ?_)
      | (refine flatR.wpList_st rfl rfl rfl rfl (cellsR rfl) (cellsR rfl) hb2 ?_; intro w4 hb4 hk4 hs4))
    refine bodyPost_ret (v := .tuple #[.agg (Ri.pc Ri.noP).toArray, .int .i64 2]) (flatR.results_pair rfl _ (cellsR rfl) rfl hb4 _ rfl) rfl ?_
    exact ⟨rfl, Ct.still HH.out (hk.trans hk4 (fun b hb e => by have e : b = q + 1 := e; have := HQ.out; omega))⟩
  | true =>
    have hx := HX.out
    have hnb : r ∉ C.bad := fun hbad => by unfold rch at hx; rw [if_pos hbad] at hx; simp at hx
    obtain ⟨x, hw⟩ : ∃ x, wher C.brs.length r = some x := by
      cases hw : wher C.brs.length r with
      | none => unfold rch at hx; rw [if_neg hnb, hw] at hx; simp at hx
      | some x => exact ⟨x, rfl⟩
    have hp : ((v, d), bad') = ((Ri.dcd (got K.xs src x)), if (Ri.dcd (got K.xs src x)).2 = 2 then ins r C.bad else C.bad) := by
      rw [← HV.out]
      exact pread_some hnb hw rfl
    have hin := wher_in hw
    unfold rch at hx
    rw [if_neg hnb, hw] at hx
    simp only [Prod.mk.injEq, and_true] at hx
    obtain ⟨ha, hb, hm⟩ := hx
    have hload := fun W (kk : Keep Nob w W) => load_is (HH.out.nob kk) x.1 x.2.1 x.2.2 hin.1 hin.2.1 a ha _ rfl
    rw [hb, hm] at hload
    obtain ⟨bs, hbs⟩ : ∃ bs, got K.xs src x = bs := ⟨_, rfl⟩
    rw [show (x.1, x.2.1, x.2.2) = x from rfl, hbs] at hload
    rw [hbs] at hp
    have hp1 : Ri.dcd bs = (v, d) := by
      have := congrArg Prod.fst hp
      exact this.symm
    have hp2 : bad' = if d = 2 then ins r C.bad else C.bad := by
      have := congrArg Prod.snd hp
      rw [hp1] at this
      exact this
    have HNB := Lib.hid (And.intro hnb (show wher C.brs.length r ≠ none from by rw [hw]; simp))
    have hbl : bs.length ≤ 40 := by
      rw [← hbs]
      unfold got
      split
      · exact Nat.le_trans (List.length_take_le _ _) hin.2.2.1
      · simp
    have HBL := Lib.hid hbl
    clear hp hnb hw hin hbs ha hb hm HV HX hbl
    have k3 := kB.alloc (.cells #[.int .i64 a, .int .i64 b, .int .i64 m] 193)
    have hT := hb2.alloc (.cells #[.int .i64 a, .int .i64 b, .int .i64 m] 193)
    have hR := bR2.alloc (.cells #[.int .i64 a, .int .i64 b, .int .i64 m] 193)
    go_wp2_with fail
    refine (hload _ k3).mono ?_; rintro e w3 ⟨A', c', rfl, hrd, t⟩
    have hK3 := HH.out.nob k3
    have hT3 := hK3.k.offT hT (by decide) t.keep
    have hR3 := hK3.k.offT hR (by decide) t.keep
    have hct := Ct.pre k3 (Ct.of_to' hK3 t)
    clear hload hT hR hb2 bR2 k3 t hK3 kB
    go_wp2_with fail
    refine (Ri.decode_is A' bs.length c' bs w3 hrd (by have := HBL.out; omega) v d hp1).mono ?_; rintro e w4 ⟨rfl, k4⟩
    have hct4 := hct.nob k4
    have hT4 := hT3.nob k4
    have hR4 := hR3.nob k4
    clear hct hT3 hR3 k4 hrd
    have hlt4 := hT4.lt
    unfold Ri.pv
    have hpl := HH.out.c.lt.1
    have hal := HH.out.a_lt
    have hge : w.heap.size ≤ w4.heap.size := hct4.keep.size
    have HG := Lib.hid (And.intro hpl (And.intro hal hge))
    clear hpl hal hge
    by_cases hd2 : d = 2
    · subst hd2
      rw [if_pos rfl] at hp2
      subst hp2
      go_wp2_with (first
        | (refine flatR.wpList_al rfl rfl ?_; intro w5 hb5 hk5 hs5; clear hs5)
        | (refine flatR.wpList_st rfl rfl rfl rfl (cellsR hz) (cellsR rfl) hb5 ?_; intro w6 hb6 hk6 hs6; clear hs6))
      have hct6 := (hct4.nob hk5).post hb5 (by decide) (by decide) HG.out.2.2 HG.out.1 HG.out.2.1 hk6
      have hT6 := (hT4.nob hk5).keep hk6 (fun e => by omega)
      have hR6 := (hR4.nob hk5).keep hk6 (fun e => by omega)
      obtain ⟨w7, hrun, hct7, hsz, hkb⟩ := (hct6.is.nob (Keep.nobdrew _)).spoil HO.out HNB.out.1 HNB.out.2
      unfold rval at hrun
      rw [hr1, hr2] at hrun
      have c4 : w6.cell? ⟨C.p, 4, none⟩ = some (.map (some C.b)) := hct6.is.c.obj.cell 4
      have c0 := hR6.cell 0
      have c1 := hR6.cell 1
      simp only [List.getElem?_cons_zero, List.getElem?_cons_succ] at c0 c1
      go_region
      have hct7' := Ct.pre (Keep.nobdrew w6) hct7
      have hT7 := Ct.off hct6.is hct7' hT6 (by decide)
      have hb7 := Ct.off hct6.is hct7' hb6 (by decide)
      have hct8 := Ct.trans hct6 hct7' (fun _ m => .inl m) rfl (fun _ m _ => m)
      clear hrun hct7 hsz hkb c4 c0 c1 hct7' hR6
      go_wp2_with (first
        | (refine flatR.wpList_ld rfl rfl rfl (cellsR hz) hb7 ?_)
        | (refine flatR.wpList_st rfl rfl rfl rfl (cellsR hz) (cellsR rfl) hT7 ?_; intro w8 hb8 hk8 hs8; clear hs8))
      refine bodyPost_ret (v := .tuple #[.agg (Ri.pc v).toArray, .int .i64 2]) (flatR.results_pair rfl _ (cellsR hz) rfl hb8 _ rfl) rfl ?_
      exact ⟨rfl, hct8.post hT7 (by decide) (by decide) (by have := HQ.out; omega) HG.out.1 HG.out.2.1 hk8⟩
    · have hd2' : (d == 2) = false := by simpa using hd2
      rw [if_neg hd2] at hp2
      subst hp2
      go_wp2_with (first
        | (refine flatR.wpList_al rfl rfl ?_; intro w5 hb5 hk5 hs5; clear hs5)
        | (refine flatR.wpList_st rfl rfl rfl rfl (cellsR hz) (cellsR rfl) hb5 ?_; intro w6 hb6 hk6 hs6; clear hs6; have hT6 := (hT4.nob hk5).keep hk6 (fun e => by omega))
        | (refine flatR.wpList_ld rfl rfl rfl (cellsR hz) hb6 ?_)
        | (refine flatR.wpList_st rfl rfl rfl rfl (cellsR hz) (cellsR rfl) hT6 ?_; intro w7 hb7 hk7 hs7; clear hs7))
      have hct6 := (hct4.nob hk5).post hb5 (by decide) (by decide) HG.out.2.2 HG.out.1 HG.out.2.1 hk6
      refine bodyPost_ret (v := .tuple #[.agg (Ri.pc v).toArray, .int .i64 d]) (flatR.results_pair rfl _ (cellsR hz) rfl hb7 _ rfl) rfl ?_
      exact ⟨rfl, hct6.post hT6 (by decide) (by decide) (by have := HQ.out; omega) HG.out.1 HG.out.2.1 hk7⟩
end Go.Proofs.YtgcikpgcoemfnaaGreat.Co
namespace Go.Proofs.YtgcikpgcoemfnaaGreat.Co
open Go.RowKit Go.MapKept
set_option linter.unusedVariables false
set_option linter.unusedSimpArgs false
set_option maxRecDepth 100000 in
set_option maxHeartbeats 4000000 in
theorem readI_is {w : World} {K : Kn} {C : Cm} {src : Src} (h : Kc w K C src) (r : Rf) (ho : RecOk r) (v d : Int) (bad' : List Rf) (hv : pread fdec 0 K.xs src C.brs.length C.bad r = ((v, d), bad')) :
    Calls Tryz.prog 223 #[.pointer (some ⟨C.p, 0, none⟩), .agg #[.int .i64 r.1, .int .i64 r.2], .func (.func 224) #[] #[]] w fun e w' => e = .returned (.tuple #[.int .i64 v, .int .i64 d]) ∧ Ct w K K C { C with bad := bad' } src w' := by
  have k1 := (Keep.refl Nob w).alloc (.cells #[.int .i64 r.1, .int .i64 r.2] 57)
  have HH := Lib.hid h
  have HO := Lib.hid ho
  have HV := Lib.hid hv
  clear h ho hv
  obtain ⟨x, hx⟩ : ∃ x, rch C r = x := ⟨_, rfl⟩
  obtain ⟨⟨a, b, m⟩, ok⟩ := x
  have hreach := fun W (kk : Keep Nob w W) => reach_is (HH.out.nob kk).c r HO.out a b m ok hx
  have HX := Lib.hid hx
  clear hx
  generalize hr1 : r.1 = r1 at *
  generalize hr2 : r.2 = r2 at *
  go_enter Tryz.func223, Tryz.ntmps223
  have bR := Blk.new w 57 [.int .i64 r1, .int .i64 r2]
  have bR1 := bR
  have c0 := bR1.cell 0
  have c1 := bR1.cell 1
  simp only [List.getElem?_cons_zero, List.getElem?_cons_succ] at c0 c1
  go_wp2_with fail
  have kA := k1
  clear k1 bR c0 c1
  refine (hreach _ kA).mono ?_; rintro e w2 ⟨rfl, k2⟩
  have kB := kA.trans k2 (fun _ _ f => f)
  have bR2 := bR1.nob k2
  clear hreach kA k2 bR1
  generalize hq : w.heap.size = q at *
  have HQ := Lib.hid hq
  clear hq
  cases ok with
  | false =>
    have hp : ((v, d), bad') = ((0, 2), C.bad) := by
      rw [← HV.out]
      have hx := HX.out
      unfold rch at hx
      by_cases hbad : r ∈ C.bad
      · exact pread_bad hbad
      · rw [if_neg hbad] at hx
        cases hw : wher C.brs.length r with
        | none => exact pread_none hbad hw
        | some x => rw [hw] at hx; simp at hx
    simp only [Prod.mk.injEq] at hp
    obtain ⟨⟨rfl, rfl⟩, rfl⟩ := hp
    go_wp2
    go_ret2
    exact ⟨rfl, Ct.still HH.out (kB.alloc _)⟩
  | true =>
    have hx := HX.out
    have hnb : r ∉ C.bad := fun hbad => by unfold rch at hx; rw [if_pos hbad] at hx; simp at hx
    obtain ⟨x, hw⟩ : ∃ x, wher C.brs.length r = some x := by
      cases hw : wher C.brs.length r with
      | none => unfold rch at hx; rw [if_neg hnb, hw] at hx; simp at hx
      | some x => exact ⟨x, rfl⟩
    have hp : ((v, d), bad') = ((fdec (got K.xs src x)), if (fdec (got K.xs src x)).2 = 2 then ins r C.bad else C.bad) := by
      rw [← HV.out]
      exact pread_some hnb hw rfl
    have hin := wher_in hw
    unfold rch at hx
    rw [if_neg hnb, hw] at hx
    simp only [Prod.mk.injEq, and_true] at hx
    obtain ⟨ha, hb, hm⟩ := hx
    have hload := fun W (kk : Keep Nob w W) => load_is (HH.out.nob kk) x.1 x.2.1 x.2.2 hin.1 hin.2.1 a ha _ rfl
    rw [hb, hm] at hload
    obtain ⟨bs, hbs⟩ : ∃ bs, got K.xs src x = bs := ⟨_, rfl⟩
    rw [show (x.1, x.2.1, x.2.2) = x from rfl, hbs] at hload
    rw [hbs] at hp
    have hp1 : fdec bs = (v, d) := by
      have := congrArg Prod.fst hp
      exact this.symm
    have hp2 : bad' = if d = 2 then ins r C.bad else C.bad := by
      have := congrArg Prod.snd hp
      rw [hp1] at this
      exact this
    have HNB := Lib.hid (And.intro hnb (show wher C.brs.length r ≠ none from by rw [hw]; simp))
    have hbl : bs.length ≤ 40 := by
      rw [← hbs]
      unfold got
      split
      · exact Nat.le_trans (List.length_take_le _ _) hin.2.2.1
      · simp
    have HBL := Lib.hid hbl
    clear hp hnb hw hin hbs ha hb hm HV HX hbl
    have k3 := kB.alloc (.cells #[.int .i64 a, .int .i64 b, .int .i64 m] 193)
    have hR := bR2.alloc (.cells #[.int .i64 a, .int .i64 b, .int .i64 m] 193)
    go_wp2_with fail
    refine (hload _ k3).mono ?_; rintro e w3 ⟨A', c', rfl, hrd, t⟩
    have hK3 := HH.out.nob k3
    have hR3 := hK3.k.offT hR (by decide) t.keep
    have hct := Ct.pre k3 (Ct.of_to' hK3 t)
    clear hload hR bR2 k3 t hK3 kB
    go_wp2_with fail
    refine (decf_is A' bs.length c' bs w3 hrd v d hp1).mono ?_; rintro e w4 ⟨rfl, k4⟩
    have hct4 := hct.nob k4
    have hR4 := hR3.nob k4
    clear hct hR3 k4 hrd
    by_cases hd2 : d = 2
    · subst hd2
      rw [if_pos rfl] at hp2
      subst hp2
      obtain ⟨w7, hrun, hct7, hsz, hkb⟩ := (hct4.is.nob (Keep.nobdrew _)).spoil HO.out HNB.out.1 HNB.out.2
      unfold rval at hrun
      rw [hr1, hr2] at hrun
      have c4 : w4.cell? ⟨C.p, 4, none⟩ = some (.map (some C.b)) := hct4.is.c.obj.cell 4
      have c0 := hR4.cell 0
      have c1 := hR4.cell 1
      simp only [List.getElem?_cons_zero, List.getElem?_cons_succ] at c0 c1
      go_wp2_with fail
      go_region
      have hct7' := Ct.pre (Keep.nobdrew w4) hct7
      have hct8 := Ct.trans hct4 hct7' (fun _ m => .inl m) rfl (fun _ m _ => m)
      clear hrun hct7 hsz hkb c4 c0 c1 hct7'
      go_wp2
      go_ret2
      exact ⟨rfl, hct8⟩
    · have hd2' : (d == 2) = false := by simpa using hd2
      rw [if_neg hd2] at hp2
      subst hp2
      go_wp2
      go_ret2
      exact ⟨rfl, hct4⟩
end Go.Proofs.YtgcikpgcoemfnaaGreat.Co
namespace Go.Proofs.YtgcikpgcoemfnaaGreat.Co
open Go.RowKit
set_option linter.unusedVariables false
set_option linter.unusedSimpArgs false
/-- Whether a record is set, and all bytes then. -/
def pset (ok : Bool) (b : List UInt8) (xs : List UInt8) (src : Src) (nb : Nat) (bad : List Rf) (r : Rf) : Bool × List UInt8 := if ok then pwrite xs src nb bad r b else (false, xs)
set_option maxRecDepth 100000 in
set_option maxHeartbeats 4000000 in
theorem writeP_is {w : World} {K : Kn} {C : Cm} {src : Src} (h : Kc w K C src) (r : Rf) (ho : RecOk r) (hsz : ∀ x, wher C.brs.length r = some x → x.2.2 = 24) (v : List Int) (hl : v.length = 16) (hw : ∀ x ∈ v, Cd.Wf x) (ok : Bool) (ys : List UInt8) (hv : pset (Cd.okd v) (Cd.enc v) K.xs src C.brs.length C.bad r = (ok, ys)) :
    Calls Tryz.prog 102 #[.pointer (some ⟨C.p, 0, none⟩), .agg #[.int .i64 r.1, .int .i64 r.2], .agg (ints v).toArray, .func (.func 103) #[] #[]] w fun e w' => e = .returned (.bool ok) ∧ To w K { K with xs := ys } w' := by
  have k1 := (Keep.refl Nob w).alloc (.cells #[.int .i64 r.1, .int .i64 r.2] 57)
  have bR := Blk.new w 57 [.int .i64 r.1, .int .i64 r.2]
  obtain ⟨vo, hvo⟩ : ∃ b, Cd.okd v = b := ⟨_, rfl⟩
  have henc := fun W => Cd.encode_is v hl hw W vo hvo
  unfold Cd.pv at henc
  rw [hvo] at hv
  have hel : (Cd.enc v).length = 24 := Cd.enc_len hl
  have hst := fun W (kk : Keep Nob w W) A m hb oo yy hh => store_is (h.nob kk) r ho A m 24 (Cd.enc v) hel (fun x hx => by rw [hel, hsz x hx]) hb oo yy hh
  have HH := Lib.hid h
  have HC := Lib.hid (cellsI hl)
  clear hsz hvo hel h ho
  generalize r.1 = r1 at *
  generalize r.2 = r2 at *
  have hq1 : (w.alloc (.cells #[.int .i64 r1, .int .i64 r2] 57)).heap.size = w.heap.size + 1 := by simp
  have HQ1 := Lib.hid hq1
  clear hq1
  go_enter Tryz.func102, Tryz.ntmps102
  go_wp2_with (first
    | (refine wpList_box rfl 37 _ rfl _ rfl ?_; intro w1 hb1 hk1 hs1; clear hs1; have bR1 := bR.nob hk1; have c0 := bR1.cell 0; have c1 := bR1.cell 1; simp only [List.getElem?_cons_zero, List.getElem?_cons_succ] at c0 c1; have hb1 : Blk w1 (w.heap.size + 1) 37 (ints v) := (by have h5 := hb1; rw [HQ1.out] at h5; exact h5))
    | (refine flatP.wpList_ld rfl rfl rfl HC.out hb1 ?_))
  refine (henc _).mono ?_; rintro e w2 ⟨x, rfl, hT, k2⟩
  have kk := (k1.trans hk1 (fun _ _ f => f)).trans k2 (fun _ _ f => f)
  have bR2 := bR1.nob k2
  have d0 := bR2.cell 0
  have d1 := bR2.cell 1
  simp only [List.getElem?_cons_zero, List.getElem?_cons_succ] at d0 d1
  clear c0 c1 bR1 bR henc hb1
  cases vo with
  | false =>
    unfold pset at hv
    simp at hv
    obtain ⟨rfl, rfl⟩ := hv
    clear hT
    go_wp2
    go_ret
    exact ⟨rfl, To.still HH.out.k kk⟩
  | true =>
    obtain ⟨A, m, rfl, hvv, _⟩ := hT
    unfold pset at hv
    rw [if_pos rfl] at hv
    have hcall := hst _ kk A m (by simpa using hvv.reads) ok ys hv
    clear hst hv hvv
    go_wp2_with fail
    refine hcall.mono ?_; rintro e w3 ⟨rfl, t⟩
    go_wp2
    go_ret
    exact ⟨rfl, t.pre kk⟩
set_option maxRecDepth 100000 in
set_option maxHeartbeats 4000000 in
theorem writeF_is {w : World} {K : Kn} {C : Cm} {src : Src} (h : Kc w K C src) (r : Rf) (ho : RecOk r) (hsz : ∀ x, wher C.brs.length r = some x → x.2.2 = 8) (v : List Int) (hl : v.length = 4) (ok : Bool) (ys : List UInt8) (hv : pset (Fi.okd v) (Fi.enc v) K.xs src C.brs.length C.bad r = (ok, ys)) :
    Calls Tryz.prog 197 #[.pointer (some ⟨C.p, 0, none⟩), .agg #[.int .i64 r.1, .int .i64 r.2], .agg (ints v).toArray, .func (.func 198) #[] #[]] w fun e w' => e = .returned (.bool ok) ∧ To w K { K with xs := ys } w' := by
  have k1 := (Keep.refl Nob w).alloc (.cells #[.int .i64 r.1, .int .i64 r.2] 57)
  have bR := Blk.new w 57 [.int .i64 r.1, .int .i64 r.2]
  obtain ⟨vo, hvo⟩ : ∃ b, Fi.okd v = b := ⟨_, rfl⟩
  have henc := fun W => Fi.encode_is v hl W vo hvo
  unfold Fi.pv at henc
  rw [hvo] at hv
  have hel : (Fi.enc v).length = 8 := Fi.enc_len _
  have hst := fun W (kk : Keep Nob w W) A m hb oo yy hh => store_is (h.nob kk) r ho A m 8 (Fi.enc v) hel (fun x hx => by rw [hel, hsz x hx]) hb oo yy hh
  have HH := Lib.hid h
  have HC := Lib.hid (cellsI hl)
  clear hsz hvo hel h ho
  generalize r.1 = r1 at *
  generalize r.2 = r2 at *
  have hq1 : (w.alloc (.cells #[.int .i64 r1, .int .i64 r2] 57)).heap.size = w.heap.size + 1 := by simp
  have HQ1 := Lib.hid hq1
  clear hq1
  go_enter Tryz.func197, Tryz.ntmps197
  go_wp2_with (first
    | (refine wpList_box rfl 64 _ rfl _ rfl ?_; intro w1 hb1 hk1 hs1; clear hs1; have bR1 := bR.nob hk1; have c0 := bR1.cell 0; have c1 := bR1.cell 1; simp only [List.getElem?_cons_zero, List.getElem?_cons_succ] at c0 c1; have hb1 : Blk w1 (w.heap.size + 1) 64 (ints v) := (by have h5 := hb1; rw [HQ1.out] at h5; exact h5))
    | (refine flatF.wpList_ld rfl rfl rfl HC.out hb1 ?_))
  refine (henc _).mono ?_; rintro e w2 ⟨x, rfl, hT, k2⟩
  have kk := (k1.trans hk1 (fun _ _ f => f)).trans k2 (fun _ _ f => f)
  have bR2 := bR1.nob k2
  have d0 := bR2.cell 0
  have d1 := bR2.cell 1
  simp only [List.getElem?_cons_zero, List.getElem?_cons_succ] at d0 d1
  clear c0 c1 bR1 bR henc hb1
  cases vo with
  | false =>
    unfold pset at hv
    simp at hv
    obtain ⟨rfl, rfl⟩ := hv
    clear hT
    go_wp2
    go_ret
    exact ⟨rfl, To.still HH.out.k kk⟩
  | true =>
    obtain ⟨A, m, rfl, hvv, _⟩ := hT
    unfold pset at hv
    rw [if_pos rfl] at hv
    have hcall := hst _ kk A m (by simpa using hvv.reads) ok ys hv
    clear hst hv hvv
    go_wp2_with fail
    refine hcall.mono ?_; rintro e w3 ⟨rfl, t⟩
    go_wp2
    go_ret
    exact ⟨rfl, t.pre kk⟩
set_option maxRecDepth 100000 in
set_option maxHeartbeats 4000000 in
theorem writeR_is {w : World} {K : Kn} {C : Cm} {src : Src} (h : Kc w K C src) (r : Rf) (ho : RecOk r) (hsz : ∀ x, wher C.brs.length r = some x → x.2.2 = 40) (v : Ri.Pp) (hl : v.d.length = 32) (ok : Bool) (ys : List UInt8) (hv : pset (Ri.okd v) (Ri.enc v) K.xs src C.brs.length C.bad r = (ok, ys)) :
    Calls Tryz.prog 298 #[.pointer (some ⟨C.p, 0, none⟩), .agg #[.int .i64 r.1, .int .i64 r.2], .agg (Ri.pc v).toArray, .func (.func 299) #[] #[]] w fun e w' => e = .returned (.bool ok) ∧ To w K { K with xs := ys } w' := by
  have k1 := (Keep.refl Nob w).alloc (.cells #[.int .i64 r.1, .int .i64 r.2] 57)
  have bR := Blk.new w 57 [.int .i64 r.1, .int .i64 r.2]
  obtain ⟨vo, hvo⟩ : ∃ b, Ri.okd v = b := ⟨_, rfl⟩
  have henc := fun W => Ri.encode_is v hl W vo hvo
  unfold Ri.pv at henc
  rw [hvo] at hv
  have hel : (Ri.enc v).length = 40 := Ri.enc_len hl
  have hst := fun W (kk : Keep Nob w W) A m hb oo yy hh => store_is (h.nob kk) r ho A m 40 (Ri.enc v) hel (fun x hx => by rw [hel, hsz x hx]) hb oo yy hh
  have HH := Lib.hid h
  have HC := Lib.hid (cellsR hl)
  clear hsz hvo hel h ho
  generalize r.1 = r1 at *
  generalize r.2 = r2 at *
  have hq1 : (w.alloc (.cells #[.int .i64 r1, .int .i64 r2] 57)).heap.size = w.heap.size + 1 := by simp
  have HQ1 := Lib.hid hq1
  clear hq1
  go_enter Tryz.func298, Tryz.ntmps298
  go_wp2_with (first
    | (refine wpList_box rfl 83 _ rfl _ rfl ?_; intro w1 hb1 hk1 hs1; clear hs1; have bR1 := bR.nob hk1; have c0 := bR1.cell 0; have c1 := bR1.cell 1; simp only [List.getElem?_cons_zero, List.getElem?_cons_succ] at c0 c1; have hb1 : Blk w1 (w.heap.size + 1) 83 (Ri.pc v) := (by have h5 := hb1; rw [HQ1.out] at h5; exact h5))
    | (refine flatR.wpList_ld rfl rfl rfl HC.out hb1 ?_))
  refine (henc _).mono ?_; rintro e w2 ⟨x, rfl, hT, k2⟩
  have kk := (k1.trans hk1 (fun _ _ f => f)).trans k2 (fun _ _ f => f)
  have bR2 := bR1.nob k2
  have d0 := bR2.cell 0
  have d1 := bR2.cell 1
  simp only [List.getElem?_cons_zero, List.getElem?_cons_succ] at d0 d1
  clear c0 c1 bR1 bR henc hb1
  cases vo with
  | false =>
    unfold pset at hv
    simp at hv
    obtain ⟨rfl, rfl⟩ := hv
    clear hT
    go_wp2
    go_ret
    exact ⟨rfl, To.still HH.out.k kk⟩
  | true =>
    obtain ⟨A, m, rfl, hvv, _⟩ := hT
    unfold pset at hv
    rw [if_pos rfl] at hv
    have hcall := hst _ kk A m (by simpa using hvv.reads) ok ys hv
    clear hst hv hvv
    go_wp2_with fail
    refine hcall.mono ?_; rintro e w3 ⟨rfl, t⟩
    go_wp2
    go_ret
    exact ⟨rfl, t.pre kk⟩
end Go.Proofs.YtgcikpgcoemfnaaGreat.Co
namespace Go.Proofs.YtgcikpgcoemfnaaGreat.Co
open Go.RowKit
set_option linter.unusedVariables false
set_option linter.unusedSimpArgs false
theorem wsize1 {nb : Nat} {i : Int} (x) (h : wher nb (1, i) = some x) : x.2.2 = 24 := by
  unfold wher at h
  simp at h
  rw [← h.2]
theorem wsize2 {nb : Nat} {i : Int} (x) (h : wher nb (2, i) = some x) : x.2.2 = 8 := by
  unfold wher at h
  simp at h
  rw [← h.2]
theorem wsize3 {nb : Nat} {i : Int} (x) (h : wher nb (3, i) = some x) : x.2.2 = 40 := by
  unfold wher at h
  simp at h
  split at h
  · simp at h; rw [← h.2]
  · simp at h; rw [← h.2]
theorem rec_i {k i : Int} (hk : 1 ≤ k ∧ k ≤ 3) (hi : Cd.Wf i) : RecOk (k, i) := ⟨⟨hk.1, by have := hk.2; show k ≤ 5; omega⟩, fun e => by have e : k = 4 ∨ k = 5 := e; omega, hi⟩
theorem rec_0 {k : Int} (hk : 4 ≤ k ∧ k ≤ 5) : RecOk (k, 0) := ⟨⟨by have := hk.1; show 1 ≤ k; omega, hk.2⟩, fun _ => rfl, by show (-9223372036854775808 : Int) ≤ 0 ∧ (0 : Int) ≤ 9223372036854775807; omega⟩
section
variable {w : World} {K : Kn} {C : Cm} {src : Src}
theorem readP_len {xs : List UInt8} {src : Src} {nb : Nat} {bad bad' : List Rf} {r : Rf} {v : List Int} {d : Int} (hv : pread Cd.dcd Cd.noP xs src nb bad r = ((v, d), bad')) : v.length = 16 := by
  have e : v = (pread Cd.dcd Cd.noP xs src nb bad r).1.1 := by rw [hv]
  rw [e]
  by_cases hbad : r ∈ bad
  · rw [pread_bad hbad]; rfl
  · cases hw : wher nb r with
    | none => rw [pread_none hbad hw]; rfl
    | some x => rw [pread_some hbad hw rfl]; exact Cd.dcd_len _
set_option maxRecDepth 100000 in
set_option maxHeartbeats 2000000 in
theorem proc_is (h : Kc w K C src) (i : Int) (hi : Cd.Wf i) (v : List Int) (d : Int) (bad' : List Rf) (hv : pread Cd.dcd Cd.noP K.xs src C.brs.length C.bad (1, i) = ((v, d), bad')) :
    Calls Tryz.prog 13 #[.pointer (some ⟨C.p, 0, none⟩), .int .i64 i] w fun e w' => e = .returned (.tuple #[.agg (ints v).toArray, .int .i64 d]) ∧ Ct w K K C { C with bad := bad' } src w' := by
  have hz : v.length = 16 := readP_len hv
  have hcall := fun W (kk : Keep Nob w W) => readP_is (h.nob kk) (1, i) (rec_i (by omega) hi) v d bad' hv
  have hpl := h.c.lt.1
  have hal := h.a_lt
  have HG := Lib.hid (And.intro hpl hal)
  have HH := Lib.hid h
  clear hpl hal hv h
  dsimp only at hcall
  go_enter Tryz.func13, Tryz.ntmps13
  go_wp2_with (refine flatP.wpList_al rfl rfl ?_; intro w1 hb1 hk1 hs1; clear hs1)
  have hK1 := hk1
  refine (hcall _ hk1).mono ?_; rintro e w2 ⟨rfl, t⟩
  have hb2 := Ct.off (HH.out.nob hK1) t hb1 (by decide)
  clear hcall
  go_wp2_with (refine flatP.wpList_st rfl rfl rfl rfl (cellsI hz) (cellsI rfl) hb2 ?_; intro w3 hb3 hk3 hs3; clear hs3)
  refine bodyPost_ret (v := .tuple #[.agg (ints v).toArray, .int .i64 d]) (flatP.results_pair rfl _ (cellsI hz) rfl hb3 _ rfl) rfl ?_
  exact ⟨rfl, (Ct.pre hK1 t).post hb2 (by decide) (by decide) (Nat.le_refl _) HG.out.1 HG.out.2 hk3⟩
set_option maxRecDepth 100000 in
set_option maxHeartbeats 2000000 in
theorem setProc_is (h : Kc w K C src) (i : Int) (hi : Cd.Wf i) (v : List Int) (hl : v.length = 16) (hw : ∀ x ∈ v, Cd.Wf x) (ok : Bool) (ys : List UInt8) (hv : pset (Cd.okd v) (Cd.enc v) K.xs src C.brs.length C.bad (1, i) = (ok, ys)) :
    Calls Tryz.prog 37 #[.pointer (some ⟨C.p, 0, none⟩), .int .i64 i, .agg (ints v).toArray] w fun e w' => e = .returned (.bool ok) ∧ To w K { K with xs := ys } w' := by
  have hcall := fun W (kk : Keep Nob w W) => writeP_is (h.nob kk) (1, i) (rec_i (by omega) hi) (fun x hx => wsize1 x hx) v hl hw ok ys hv
  have HC := Lib.hid (cellsI hl)
  clear hv h
  dsimp only at hcall
  go_enter Tryz.func37, Tryz.ntmps37
  go_wp2_with (first
    | (refine wpList_box rfl 37 _ rfl _ rfl ?_; intro w1 hb1 hk1 hs1; clear hs1; have hb1 : Blk w1 w.heap.size 37 (ints v) := hb1)
    | (refine flatP.wpList_ld rfl rfl rfl HC.out hb1 ?_))
  refine (hcall _ hk1).mono ?_; rintro e w2 ⟨rfl, t⟩
  go_wp2
  go_ret
  exact ⟨rfl, t.pre hk1⟩
set_option maxRecDepth 100000 in
set_option maxHeartbeats 2000000 in
theorem freeProc_is (h : Kc w K C src) (i : Int) (hi : Cd.Wf i) (ok : Bool) (ys : List UInt8) (hv : pwrite K.xs src C.brs.length C.bad (1, i) (List.replicate 24 0) = (ok, ys)) :
    Calls Tryz.prog 43 #[.pointer (some ⟨C.p, 0, none⟩), .int .i64 i] w fun e w' => e = .returned (.bool ok) ∧ To w K { K with xs := ys } w' := by
  have hcall := fun W (kk : Keep Nob w W) A hb => store_is (h.nob kk) (1, i) (rec_i (by omega) hi) A 24 24 (List.replicate 24 0) rfl (fun x hx => by rw [wsize1 x hx]; rfl) hb ok ys hv
  clear hv h
  dsimp only at hcall
  go_enter Tryz.func43, Tryz.ntmps43
  go_wp2_with (refine wpList_mk rfl _ _ 28 rfl 5 (.int .u8 0) 1 Tryz.underlying28 Cd.Tryz.info5 rfl .i64 .i64 24 _ rfl rfl rfl (by omega) (by omega) ?_; intro w1 hb1 hk1 hs1; clear hs1)
  rw [← bytes_replicate] at hb1
  refine (hcall _ hk1 _ (reads_all hb1 (by simp))).mono ?_; rintro e w2 ⟨rfl, t⟩
  go_wp2
  go_ret
  exact ⟨rfl, t.pre hk1⟩
theorem readF_len {xs : List UInt8} {src : Src} {nb : Nat} {bad bad' : List Rf} {r : Rf} {v : List Int} {d : Int} (hv : pread Fi.dcd Fi.noP xs src nb bad r = ((v, d), bad')) : v.length = 4 := by
  have e : v = (pread Fi.dcd Fi.noP xs src nb bad r).1.1 := by rw [hv]
  rw [e]
  by_cases hbad : r ∈ bad
  · rw [pread_bad hbad]; rfl
  · cases hw : wher nb r with
    | none => rw [pread_none hbad hw]; rfl
    | some x => rw [pread_some hbad hw rfl]; exact Fi.dcd_len _
set_option maxRecDepth 100000 in
set_option maxHeartbeats 2000000 in
theorem file_is (h : Kc w K C src) (i : Int) (hi : Cd.Wf i) (v : List Int) (d : Int) (bad' : List Rf) (hv : pread Fi.dcd Fi.noP K.xs src C.brs.length C.bad (2, i) = ((v, d), bad')) :
    Calls Tryz.prog 26 #[.pointer (some ⟨C.p, 0, none⟩), .int .i64 i] w fun e w' => e = .returned (.tuple #[.agg (ints v).toArray, .int .i64 d]) ∧ Ct w K K C { C with bad := bad' } src w' := by
  have hz : v.length = 4 := readF_len hv
  have hcall := fun W (kk : Keep Nob w W) => readF_is (h.nob kk) (2, i) (rec_i (by omega) hi) v d bad' hv
  have hpl := h.c.lt.1
  have hal := h.a_lt
  have HG := Lib.hid (And.intro hpl hal)
  have HH := Lib.hid h
  clear hpl hal hv h
  dsimp only at hcall
  go_enter Tryz.func26, Tryz.ntmps26
  go_wp2_with (refine flatF.wpList_al rfl rfl ?_; intro w1 hb1 hk1 hs1; clear hs1)
  have hK1 := hk1
  refine (hcall _ hk1).mono ?_; rintro e w2 ⟨rfl, t⟩
  have hb2 := Ct.off (HH.out.nob hK1) t hb1 (by decide)
  clear hcall
  go_wp2_with (refine flatF.wpList_st rfl rfl rfl rfl (cellsI hz) (cellsI rfl) hb2 ?_; intro w3 hb3 hk3 hs3; clear hs3)
  refine bodyPost_ret (v := .tuple #[.agg (ints v).toArray, .int .i64 d]) (flatF.results_pair rfl _ (cellsI hz) rfl hb3 _ rfl) rfl ?_
  exact ⟨rfl, (Ct.pre hK1 t).post hb2 (by decide) (by decide) (Nat.le_refl _) HG.out.1 HG.out.2 hk3⟩
set_option maxRecDepth 100000 in
set_option maxHeartbeats 2000000 in
theorem setFile_is (h : Kc w K C src) (i : Int) (hi : Cd.Wf i) (v : List Int) (hl : v.length = 4) (ok : Bool) (ys : List UInt8) (hv : pset (Fi.okd v) (Fi.enc v) K.xs src C.brs.length C.bad (2, i) = (ok, ys)) :
    Calls Tryz.prog 101 #[.pointer (some ⟨C.p, 0, none⟩), .int .i64 i, .agg (ints v).toArray] w fun e w' => e = .returned (.bool ok) ∧ To w K { K with xs := ys } w' := by
  have hcall := fun W (kk : Keep Nob w W) => writeF_is (h.nob kk) (2, i) (rec_i (by omega) hi) (fun x hx => wsize2 x hx) v hl ok ys hv
  have HC := Lib.hid (cellsI hl)
  clear hv h
  dsimp only at hcall
  go_enter Tryz.func101, Tryz.ntmps101
  go_wp2_with (first
    | (refine wpList_box rfl 64 _ rfl _ rfl ?_; intro w1 hb1 hk1 hs1; clear hs1; have hb1 : Blk w1 w.heap.size 64 (ints v) := hb1)
    | (refine flatF.wpList_ld rfl rfl rfl HC.out hb1 ?_))
  refine (hcall _ hk1).mono ?_; rintro e w2 ⟨rfl, t⟩
  go_wp2
  go_ret
  exact ⟨rfl, t.pre hk1⟩
set_option maxRecDepth 100000 in
set_option maxHeartbeats 2000000 in
theorem freeFile_is (h : Kc w K C src) (i : Int) (hi : Cd.Wf i) (ok : Bool) (ys : List UInt8) (hv : pwrite K.xs src C.brs.length C.bad (2, i) (List.replicate 8 0) = (ok, ys)) :
    Calls Tryz.prog 121 #[.pointer (some ⟨C.p, 0, none⟩), .int .i64 i] w fun e w' => e = .returned (.bool ok) ∧ To w K { K with xs := ys } w' := by
  have hcall := fun W (kk : Keep Nob w W) A hb => store_is (h.nob kk) (2, i) (rec_i (by omega) hi) A 8 8 (List.replicate 8 0) rfl (fun x hx => by rw [wsize2 x hx]; rfl) hb ok ys hv
  clear hv h
  dsimp only at hcall
  go_enter Tryz.func121, Tryz.ntmps121
  go_wp2_with (refine wpList_mk rfl _ _ 28 rfl 5 (.int .u8 0) 1 Tryz.underlying28 Cd.Tryz.info5 rfl .i64 .i64 8 _ rfl rfl rfl (by omega) (by omega) ?_; intro w1 hb1 hk1 hs1; clear hs1)
  rw [← bytes_replicate] at hb1
  refine (hcall _ hk1 _ (reads_all hb1 (by simp))).mono ?_; rintro e w2 ⟨rfl, t⟩
  go_wp2
  go_ret
  exact ⟨rfl, t.pre hk1⟩
theorem readR_len {xs : List UInt8} {src : Src} {nb : Nat} {bad bad' : List Rf} {r : Rf} {v : Ri.Pp} {d : Int} (hv : pread Ri.dcd Ri.noP xs src nb bad r = ((v, d), bad')) : v.d.length = 32 := by
  have e : v = (pread Ri.dcd Ri.noP xs src nb bad r).1.1 := by rw [hv]
  rw [e]
  by_cases hbad : r ∈ bad
  · rw [pread_bad hbad]; rfl
  · cases hw : wher nb r with
    | none => rw [pread_none hbad hw]; rfl
    | some x => rw [pread_some hbad hw rfl]; exact Ri.dcd_len _
set_option maxRecDepth 100000 in
set_option maxHeartbeats 2000000 in
theorem pipe_is (h : Kc w K C src) (i : Int) (hi : Cd.Wf i) (v : Ri.Pp) (d : Int) (bad' : List Rf) (hv : pread Ri.dcd Ri.noP K.xs src C.brs.length C.bad (3, i) = ((v, d), bad')) :
    Calls Tryz.prog 127 #[.pointer (some ⟨C.p, 0, none⟩), .int .i64 i] w fun e w' => e = .returned (.tuple #[.agg (Ri.pc v).toArray, .int .i64 d]) ∧ Ct w K K C { C with bad := bad' } src w' := by
  have hz : v.d.length = 32 := readR_len hv
  have hcall := fun W (kk : Keep Nob w W) => readR_is (h.nob kk) (3, i) (rec_i (by omega) hi) v d bad' hv
  have hpl := h.c.lt.1
  have hal := h.a_lt
  have HG := Lib.hid (And.intro hpl hal)
  have HH := Lib.hid h
  clear hpl hal hv h
  dsimp only at hcall
  go_enter Tryz.func127, Tryz.ntmps127
  go_wp2_with (refine flatR.wpList_al rfl rfl ?_; intro w1 hb1 hk1 hs1; clear hs1)
  have hK1 := hk1
  refine (hcall _ hk1).mono ?_; rintro e w2 ⟨rfl, t⟩
  have hb2 := Ct.off (HH.out.nob hK1) t hb1 (by decide)
  clear hcall
  go_wp2_with (refine flatR.wpList_st rfl rfl rfl rfl (cellsR hz) (cellsR rfl) hb2 ?_; intro w3 hb3 hk3 hs3; clear hs3)
  refine bodyPost_ret (v := .tuple #[.agg (Ri.pc v).toArray, .int .i64 d]) (flatR.results_pair rfl _ (cellsR hz) rfl hb3 _ rfl) rfl ?_
  exact ⟨rfl, (Ct.pre hK1 t).post hb2 (by decide) (by decide) (Nat.le_refl _) HG.out.1 HG.out.2 hk3⟩
set_option maxRecDepth 100000 in
set_option maxHeartbeats 2000000 in
theorem setPipe_is (h : Kc w K C src) (i : Int) (hi : Cd.Wf i) (v : Ri.Pp) (hl : v.d.length = 32) (ok : Bool) (ys : List UInt8) (hv : pset (Ri.okd v) (Ri.enc v) K.xs src C.brs.length C.bad (3, i) = (ok, ys)) :
    Calls Tryz.prog 218 #[.pointer (some ⟨C.p, 0, none⟩), .int .i64 i, .agg (Ri.pc v).toArray] w fun e w' => e = .returned (.bool ok) ∧ To w K { K with xs := ys } w' := by
  have hcall := fun W (kk : Keep Nob w W) => writeR_is (h.nob kk) (3, i) (rec_i (by omega) hi) (fun x hx => wsize3 x hx) v hl ok ys hv
  have HC := Lib.hid (cellsR hl)
  clear hv h
  dsimp only at hcall
  go_enter Tryz.func218, Tryz.ntmps218
  go_wp2_with (first
    | (refine wpList_box rfl 83 _ rfl _ rfl ?_; intro w1 hb1 hk1 hs1; clear hs1; have hb1 : Blk w1 w.heap.size 83 (Ri.pc v) := hb1)
    | (refine flatR.wpList_ld rfl rfl rfl HC.out hb1 ?_))
  refine (hcall _ hk1).mono ?_; rintro e w2 ⟨rfl, t⟩
  go_wp2
  go_ret
  exact ⟨rfl, t.pre hk1⟩
set_option maxRecDepth 100000 in
set_option maxHeartbeats 2000000 in
theorem freePipe_is (h : Kc w K C src) (i : Int) (hi : Cd.Wf i) (ok : Bool) (ys : List UInt8) (hv : pwrite K.xs src C.brs.length C.bad (3, i) (List.replicate 40 0) = (ok, ys)) :
    Calls Tryz.prog 217 #[.pointer (some ⟨C.p, 0, none⟩), .int .i64 i] w fun e w' => e = .returned (.bool ok) ∧ To w K { K with xs := ys } w' := by
  have hcall := fun W (kk : Keep Nob w W) A hb => store_is (h.nob kk) (3, i) (rec_i (by omega) hi) A 40 40 (List.replicate 40 0) rfl (fun x hx => by rw [wsize3 x hx]; rfl) hb ok ys hv
  clear hv h
  dsimp only at hcall
  go_enter Tryz.func217, Tryz.ntmps217
  go_wp2_with (refine wpList_mk rfl _ _ 28 rfl 5 (.int .u8 0) 1 Tryz.underlying28 Cd.Tryz.info5 rfl .i64 .i64 40 _ rfl rfl rfl (by omega) (by omega) ?_; intro w1 hb1 hk1 hs1; clear hs1)
  rw [← bytes_replicate] at hb1
  refine (hcall _ hk1 _ (reads_all hb1 (by simp))).mono ?_; rintro e w2 ⟨rfl, t⟩
  go_wp2
  go_ret
  exact ⟨rfl, t.pre hk1⟩
set_option maxRecDepth 100000 in
set_option maxHeartbeats 2000000 in
theorem term_is (h : Kc w K C src) (v : Ri.Pp) (d : Int) (bad' : List Rf) (hv : pread Ri.dcd Ri.noP K.xs src C.brs.length C.bad (4, 0) = ((v, d), bad')) :
    Calls Tryz.prog 128 #[.pointer (some ⟨C.p, 0, none⟩)] w fun e w' => e = .returned (.tuple #[.agg (Ri.pc v).toArray, .int .i64 d]) ∧ Ct w K K C { C with bad := bad' } src w' := by
  have hz : v.d.length = 32 := readR_len hv
  have hcall := fun W (kk : Keep Nob w W) => readR_is (h.nob kk) (4, 0) (rec_0 (by omega)) v d bad' hv
  have hpl := h.c.lt.1
  have hal := h.a_lt
  have HG := Lib.hid (And.intro hpl hal)
  have HH := Lib.hid h
  clear hpl hal hv h
  dsimp only at hcall
  go_enter Tryz.func128, Tryz.ntmps128
  go_wp2_with (refine flatR.wpList_al rfl rfl ?_; intro w1 hb1 hk1 hs1; clear hs1)
  have hK1 := hk1
  refine (hcall _ hk1).mono ?_; rintro e w2 ⟨rfl, t⟩
  have hb2 := Ct.off (HH.out.nob hK1) t hb1 (by decide)
  clear hcall
  go_wp2_with (refine flatR.wpList_st rfl rfl rfl rfl (cellsR hz) (cellsR rfl) hb2 ?_; intro w3 hb3 hk3 hs3; clear hs3)
  refine bodyPost_ret (v := .tuple #[.agg (Ri.pc v).toArray, .int .i64 d]) (flatR.results_pair rfl _ (cellsR hz) rfl hb3 _ rfl) rfl ?_
  exact ⟨rfl, (Ct.pre hK1 t).post hb2 (by decide) (by decide) (Nat.le_refl _) HG.out.1 HG.out.2 hk3⟩
set_option maxRecDepth 100000 in
set_option maxHeartbeats 2000000 in
theorem front_is (h : Kc w K C src) (v d : Int) (bad' : List Rf) (hv : pread fdec 0 K.xs src C.brs.length C.bad (5, 0) = ((v, d), bad')) :
    Calls Tryz.prog 129 #[.pointer (some ⟨C.p, 0, none⟩)] w fun e w' => e = .returned (.tuple #[.int .i64 v, .bool (d == 1)]) ∧ Ct w K K C { C with bad := bad' } src w' := by
  have hcall := readI_is h (5, 0) (rec_0 (by omega)) v d bad' hv
  clear hv h
  dsimp only at hcall
  obtain ⟨o, ho⟩ : ∃ o, (d == 1) = o := ⟨_, rfl⟩
  rw [ho]
  go_enter Tryz.func129, Tryz.ntmps129
  go_wp2_with fail
  refine hcall.mono ?_; rintro e w2 ⟨rfl, t⟩
  go_wp2
  go_ret2
  exact ⟨rfl, t⟩
end
end Go.Proofs.YtgcikpgcoemfnaaGreat.Co
namespace Go.Proofs.YtgcikpgcoemfnaaGreat.Co
open Go.RowKit
set_option linter.unusedVariables false
set_option linter.unusedSimpArgs false
/-- What is bad behind a record's being read. -/
def seen (xs : List UInt8) (src : Src) (nb : Nat) (bad : List Rf) (r : Rf) : List Rf :=
  if r.1 = 1 then (pread Cd.dcd Cd.noP xs src nb bad r).2 else if r.1 = 2 then (pread Fi.dcd Fi.noP xs src nb bad r).2
  else if r.1 = 5 then (pread fdec 0 xs src nb bad r).2 else (pread Ri.dcd Ri.noP xs src nb bad r).2
/-- All records of a Commons. -/
def allRecs (nb : Nat) : List Rf := mk 8 (fun i => (1, (i : Int))) ++ mk 12 (fun i => (2, (i : Int))) ++ mk (4 + nb) (fun i => (3, (i : Int))) ++ [(4, 0), (5, 0)]
def look (xs : List UInt8) (src : Src) (nb : Nat) (bad : List Rf) : List Rf := (allRecs nb).foldl (seen xs src nb) bad
theorem foldl_mk {α : Type} (f : α → Rf → α) (g : Nat → Rf) (a : α) (k : Nat) : (mk (k + 1) g).foldl f a = f ((mk k g).foldl f a) (g k) := by
  rw [← mk_succ, List.foldl_append]
  rfl
section
variable {w w' : World} {K : Kn} {C : Cm} {src : Src}
theorem Ct.more {b b' : List Rf} (t : Ct w K K C { C with bad := b } src w') {w2 : World} (t2 : Ct w' K K { C with bad := b } { C with bad := b' } src w2) : Ct w K K C { C with bad := b' } src w2 :=
  t.trans t2 (fun _ m => .inl m) rfl (fun _ m _ => m)
/-- What has been read of a row of records. -/
def upto (xs : List UInt8) (src : Src) (nb : Nat) (kind : Int) (bad : List Rf) (k : Nat) : List Rf := (mk k (fun i => (kind, (i : Int)))).foldl (seen xs src nb) bad
theorem upto_zero (xs : List UInt8) (src : Src) (nb : Nat) (kind : Int) (bad : List Rf) : upto xs src nb kind bad 0 = bad := rfl
theorem upto_succ (xs : List UInt8) (src : Src) (nb : Nat) (kind : Int) (bad : List Rf) (k : Nat) : upto xs src nb kind bad (k + 1) = seen xs src nb (upto xs src nb kind bad k) (kind, k) := foldl_mk _ _ _ _
/-- What a reading call leaves. -/
def Reads1 (K : Kn) (C : Cm) (src : Src) (r : Rf) (bad : List Rf) (W : World) (e : Ending) (w' : World) : Prop :=
  ∃ v, e = .returned v ∧ Ct W K K { C with bad := bad } { C with bad := seen K.xs src C.brs.length bad r } src w'
set_option maxRecDepth 100000 in
set_option maxHeartbeats 1000000 in
theorem look_is (h : Kc w K C src) (b : List Rf) (hb : look K.xs src C.brs.length C.bad = b) :
    Calls Tryz.prog 63 #[.pointer (some ⟨C.p, 0, none⟩)] w fun e w' => e = .returned (.tuple #[]) ∧ Ct w K K C { C with bad := b } src w' := by
  have few := h.c.few
  have H0 := Lib.hid (show Ct w K K C { C with bad := C.bad } src w from Ct.still h (Keep.refl _ _))
  have HP : ∀ W bad (i : Int), Cd.Wf i → Kc W K { C with bad := bad } src → Calls Tryz.prog 13 #[.pointer (some ⟨C.p, 0, none⟩), .int .i64 i] W (Reads1 K C src (1, i) bad W) := fun W bad i hi h =>
    (proc_is h i hi _ _ _ (show pread Cd.dcd Cd.noP K.xs src C.brs.length bad (1, i) = ((_, _), _) from rfl)).mono (fun e w' ⟨h1, h2⟩ => ⟨_, h1, h2⟩)
  have HF : ∀ W bad (i : Int), Cd.Wf i → Kc W K { C with bad := bad } src → Calls Tryz.prog 26 #[.pointer (some ⟨C.p, 0, none⟩), .int .i64 i] W (Reads1 K C src (2, i) bad W) := fun W bad i hi h =>
    (file_is h i hi _ _ _ (show pread Fi.dcd Fi.noP K.xs src C.brs.length bad (2, i) = ((_, _), _) from rfl)).mono (fun e w' ⟨h1, h2⟩ => ⟨_, h1, h2⟩)
  have HR : ∀ W bad (i : Int), Cd.Wf i → Kc W K { C with bad := bad } src → Calls Tryz.prog 127 #[.pointer (some ⟨C.p, 0, none⟩), .int .i64 i] W (Reads1 K C src (3, i) bad W) := fun W bad i hi h =>
    (pipe_is h i hi _ _ _ (show pread Ri.dcd Ri.noP K.xs src C.brs.length bad (3, i) = ((_, _), _) from rfl)).mono (fun e w' ⟨h1, h2⟩ => ⟨_, h1, h2⟩)
  have HT : ∀ W bad, Kc W K { C with bad := bad } src → Calls Tryz.prog 128 #[.pointer (some ⟨C.p, 0, none⟩)] W (Reads1 K C src (4, 0) bad W) := fun W bad h =>
    (term_is h _ _ _ (show pread Ri.dcd Ri.noP K.xs src C.brs.length bad (4, 0) = ((_, _), _) from rfl)).mono (fun e w' ⟨h1, h2⟩ => ⟨_, h1, h2⟩)
  have HG : ∀ W bad, Kc W K { C with bad := bad } src → Calls Tryz.prog 129 #[.pointer (some ⟨C.p, 0, none⟩)] W (Reads1 K C src (5, 0) bad W) := fun W bad h =>
    (front_is h _ _ _ (show pread fdec 0 K.xs src C.brs.length bad (5, 0) = ((_, _), _) from rfl)).mono (fun e w' ⟨h1, h2⟩ => ⟨_, h1, h2⟩)
  have hwf : ∀ k : Nat, k ≤ 40 → Cd.Wf k := fun k hk => by unfold Cd.Wf; omega
  have HWF := Lib.hid hwf
  have H3 := Lib.hid (show ∀ W bad, Kc W K { C with bad := bad } src → W.cell? ⟨C.p, 3, none⟩ = some (.slice C.A C.brs.length C.cap) from fun W bad h => h.c.obj.cell 3)
  have hlook : look K.xs src C.brs.length C.bad = seen K.xs src C.brs.length (seen K.xs src C.brs.length (upto K.xs src C.brs.length 3 (upto K.xs src C.brs.length 2 (upto K.xs src C.brs.length 1 C.bad 8) 12) (4 + C.brs.length)) (4, 0)) (5, 0) := by
    unfold look allRecs
    rw [List.foldl_append, List.foldl_append, List.foldl_append]
    rfl
  rw [hb] at hlook
  have HB := Lib.hid hlook
  clear hb h hlook hwf
  unfold Reads1 at HP HF HR HT HG
  have hs := fun kind bad k => upto_succ K.xs src C.brs.length kind bad k
  have hz := fun kind bad => upto_zero K.xs src C.brs.length kind bad
  obtain ⟨nb, hnb⟩ : ∃ nb, C.brs.length = nb := ⟨_, rfl⟩
  have HN := Lib.hid hnb
  generalize seen K.xs src C.brs.length = se at *
  generalize upto K.xs src C.brs.length = up at *
  generalize hbad : C.bad = bad0 at *
  have HBad := Lib.hid hbad
  have HS := Lib.hid hs
  have HZ := Lib.hid hz
  rw [hnb] at few
  have HFew := Lib.hid few
  clear hs hz hnb hbad few
  go_enter Tryz.func63, Tryz.ntmps63
  go_wp2_with fail
  go_loopw [5] (fun s5 wx => ∃ k : Nat, k ≤ 8 ∧ s5 = .int .i64 k ∧ Ct w K K C { C with bad := up 1 bad0 k } src wx) (fun s5 _ => 8 - (intOf s5).toNat)
  case atStart => exact ⟨0, Nat.zero_le _, rfl, by rw [HZ.out, ← HBad.out]; exact H0.out⟩
  case round =>
    obtain ⟨k, hk, rfl, hct⟩ := hrel
    by_cases hlt : (k : Int) < 8
    · have hcall := HP _ _ k (HWF.out k (by omega)) hct.is
      go_wp2_with fail
      refine hcall.mono ?_; rintro e w1 ⟨v, rfl, t⟩
      have hnext := hct.more t
      clear hcall t
      go_wp2
      go_roundw
      case rel => exact ⟨k + 1, by omega, by go_num, by rw [HS.out]; exact hnext⟩
      case measure => simp [intOf]; omega
    · obtain ⟨b1, hb1⟩ : ∃ b1, up 1 bad0 8 = b1 := ⟨_, rfl⟩
      have h8 : Ct w K K C { C with bad := b1 } src wr := by
        have e : k = 8 := by omega
        subst e
        rw [← hb1]
        exact hct
      have H8 := Lib.hid h8
      rw [hb1] at HB
      clear hct h8 hb1 hk
      go_wp2_with fail
      go_loopw [12] (fun s12 wx => ∃ k : Nat, k ≤ 12 ∧ s12 = .int .i64 k ∧ Ct w K K C { C with bad := up 2 b1 k } src wx) (fun s12 _ => 12 - (intOf s12).toNat)
      case atStart => exact ⟨0, Nat.zero_le _, rfl, by rw [HZ.out]; exact H8.out⟩
      case round =>
        obtain ⟨j, hj, rfl, hct⟩ := hrel
        by_cases hlt2 : (j : Int) < 12
        · have hcall := HF _ _ j (HWF.out j (by omega)) hct.is
          go_wp2_with fail
          refine hcall.mono ?_; rintro e w1 ⟨v, rfl, t⟩
          have hnext := hct.more t
          clear hcall t
          go_wp2
          go_roundw
          case rel => exact ⟨j + 1, by omega, by go_num, by rw [HS.out]; exact hnext⟩
          case measure => simp [intOf]; omega
        · obtain ⟨b2, hb2⟩ : ∃ b2, up 2 b1 12 = b2 := ⟨_, rfl⟩
          have h12 : Ct w K K C { C with bad := b2 } src wr := by
            have e : j = 12 := by omega
            subst e
            rw [← hb2]
            exact hct
          have c3 := H3.out _ _ h12.is
          rw [HN.out] at c3
          have H12 := Lib.hid h12
          rw [hb2] at HB
          have few := HFew.out
          clear hct h12 hb2 hj
          go_wp2_with fail
          go_loopw [25] (fun s25 wx => ∃ k : Nat, k ≤ 4 + nb ∧ s25 = .int .i64 k ∧ Ct w K K C { C with bad := up 3 b2 k } src wx) (fun s25 _ => 4 + nb - (intOf s25).toNat)
          case atStart => exact ⟨0, Nat.zero_le _, rfl, by rw [HZ.out]; exact H12.out⟩
          case round =>
            obtain ⟨q, hq, rfl, hct⟩ := hrel
            by_cases hlt3 : (q : Int) < 4 + (nb : Int)
            · have hcall := HR _ _ q (HWF.out q (by omega)) hct.is
              go_wp2_with fail
              refine hcall.mono ?_; rintro e w1 ⟨v, rfl, t⟩
              have hnext := hct.more t
              clear hcall t
              go_wp2
              go_roundw
              case rel => exact ⟨q + 1, by omega, by go_num, by rw [HS.out]; exact hnext⟩
              case measure => simp [intOf]; omega
            · have hqn : q = 4 + C.brs.length := by have := HN.out; omega
              have HQ := Lib.hid hqn
              have hc1 := HT _ _ hct.is
              clear hqn
              go_wp2_with fail
              refine hc1.mono ?_; rintro e w1 ⟨v1, rfl, t1⟩
              have hct1 := hct.more t1
              have hc2 := HG _ _ hct1.is
              clear hc1 t1
              go_wp2_with fail
              refine hc2.mono ?_; rintro e w2 ⟨v2, rfl, t2⟩
              have hct2 := hct1.more t2
              clear hc2 t2
              go_wp2
              refine bodyPost_end (results_none rfl _ _ _) rfl ?_
              refine ⟨rfl, ?_⟩
              rw [HB.out, ← HQ.out]
              exact hct2
end
end Go.Proofs.YtgcikpgcoemfnaaGreat.Co
namespace Go.Proofs.YtgcikpgcoemfnaaGreat.Co
open Go.RowKit
set_option linter.unusedVariables false
set_option linter.unusedSimpArgs false
/-- What each record reads as: its value, and 0 free, 1 good, 2 bad. -/
structure Stt where
  p : Int → List Int × Int
  f : Int → List Int × Int
  r : Int → Ri.Pp × Int
  t : Ri.Pp × Int
  g : Int × Int
def upd {α : Type} (f : Int → α) (i : Int) (a : α) : Int → α := fun j => if j = i then a else f j
theorem upd_same {α : Type} (f : Int → α) (i : Int) (a : α) : upd f i a i = a := if_pos rfl
theorem upd_far {α : Type} {f : Int → α} {i j : Int} {a : α} (h : j ≠ i) : upd f i a j = f j := if_neg h
/-- A record that there may be. -/
def Rok (r : Rf) : Prop := 1 ≤ r.1 ∧ r.1 ≤ 5 ∧ (r.1 = 4 ∨ r.1 = 5 → r.2 = 0)
/-- The bytes that the Caps reach lie apart, within n bytes. -/
structure Lay (n : Nat) (src : Src) (nb : Nat) : Prop where
  inn : ∀ r x b, Rok r → wher nb r = some x → src x.1 x.2.1 x.2.2 = some b → b + x.2.1 + x.2.2 ≤ n
  ap : ∀ r r' x x' b b', Rok r → Rok r' → r ≠ r' → wher nb r = some x → wher nb r' = some x' → src x.1 x.2.1 x.2.2 = some b → src x'.1 x'.2.1 x'.2.2 = some b' →
    b + x.2.1 + x.2.2 ≤ b' + x'.2.1 ∨ b' + x'.2.1 + x'.2.2 ≤ b + x.2.1
theorem spl_in {L cs : List UInt8} {o : Nat} (h : o + cs.length ≤ L.length) : ((splice L o cs).drop o).take cs.length = cs := by
  unfold splice
  rw [List.drop_append_of_le_length (by simp; omega), List.drop_take]
  simp
theorem spl_by {L cs : List UInt8} {o a n : Nat} (h : o + cs.length ≤ L.length) (ha : a + n ≤ o ∨ o + cs.length ≤ a) : ((splice L o cs).drop a).take n = (L.drop a).take n := by
  apply List.ext_getElem?
  intro i
  unfold splice
  simp only [List.getElem?_take, List.getElem?_drop]
  split
  · rcases ha with ha | ha
    · rw [List.getElem?_append_left (by simp; omega), List.getElem?_take, if_pos (by omega)]
    · rw [List.getElem?_append_right (by simp; omega), List.getElem?_append_right (by simp; omega), List.getElem?_drop]
      simp only [List.length_take]
      congr 1
      omega
  · rfl
section
variable {α : Type} {dec : List UInt8 → α × Int} {z : α} {xs : List UInt8} {src : Src} {n nb : Nat} {bad : List Rf} {r r0 : Rf} {x0 : Nat × Nat × Nat} {b0 : Nat} {b : List UInt8}
theorem pread_far (L : Lay n src nb) (hx : xs.length = n) (hr : Rok r) (h0 : Rok r0) (hne : r ≠ r0) (hw : wher nb r0 = some x0) (hs : src x0.1 x0.2.1 x0.2.2 = some b0) (hb : b.length = x0.2.2) :
    pread dec z (splice xs (b0 + x0.2.1) b) src nb bad r = pread dec z xs src nb bad r := by
  unfold pread
  split
  · rfl
  · split
    · rfl
    · rename_i x hwx
      have e : got (splice xs (b0 + x0.2.1) b) src x = got xs src x := by
        unfold got
        cases hsx : src x.1 x.2.1 x.2.2 with
        | none => rfl
        | some bx =>
          dsimp only
          have h1 := L.inn r0 x0 b0 h0 hw hs
          have h2 := L.ap r r0 x x0 bx b0 hr h0 hne hwx hw hsx hs
          exact spl_by (by omega) (by omega)
      rw [e]
theorem pread_near (L : Lay n src nb) (hx : xs.length = n) (h0 : Rok r0) (hnb : r0 ∉ bad) (hw : wher nb r0 = some x0) (hs : src x0.1 x0.2.1 x0.2.2 = some b0) (hb : b.length = x0.2.2) {v : α} {d : Int} (hd : dec b = (v, d)) (h2 : d ≠ 2) :
    pread dec z (splice xs (b0 + x0.2.1) b) src nb bad r0 = ((v, d), bad) := by
  have h1 := L.inn r0 x0 b0 h0 hw hs
  have e : got (splice xs (b0 + x0.2.1) b) src x0 = b := by
    unfold got
    rw [hs]
    dsimp only
    rw [← hb]
    exact spl_in (by omega)
  have hd2 : dec (got (splice xs (b0 + x0.2.1) b) src x0) = (v, d) := by rw [e]; exact hd
  rw [pread_some hnb hw hd2, if_neg h2]
theorem ins_ne (r : Rf) (l : List Rf) : ins r l ≠ l := fun e => by
  have := (ins_perm r l).length_eq
  rw [e] at this
  simp at this
theorem dead {a : α × Int} (h : pread dec z xs src nb bad r = (a, bad)) (ha : a.2 = 2) (b : List UInt8) : pwrite xs src nb bad r b = (false, xs) := by
  by_cases hb : r ∈ bad
  · exact pwrite_bad hb
  · cases hw : wher nb r with
    | none => exact pwrite_none hb hw
    | some x =>
      rw [pread_some hb hw rfl] at h
      have h1 := congrArg Prod.fst h
      have h2 := congrArg Prod.snd h
      dsimp only at h1 h2
      have e : (dec (got xs src x)).2 = 2 := by rw [show dec (got xs src x) = a from h1]; exact ha
      rw [if_pos e] at h2
      exact absurd h2 (ins_ne _ _)
theorem live (hd : (dec []).2 = 2) {a : α × Int} (h : pread dec z xs src nb bad r = (a, bad)) (ha : a.2 ≠ 2) : r ∉ bad ∧ ∃ x b, wher nb r = some x ∧ src x.1 x.2.1 x.2.2 = some b ∧ dec (got xs src x) = a := by
  by_cases hb : r ∈ bad
  · rw [pread_bad hb] at h
    exact absurd (congrArg (·.1.2) h).symm ha
  · refine ⟨hb, ?_⟩
    cases hw : wher nb r with
    | none =>
      rw [pread_none hb hw] at h
      exact absurd (congrArg (·.1.2) h).symm ha
    | some x =>
      rw [pread_some hb hw rfl] at h
      have h1 : dec (got xs src x) = a := congrArg Prod.fst h
      cases hs : src x.1 x.2.1 x.2.2 with
      | none =>
        have : got xs src x = [] := by unfold got; rw [hs]
        rw [this] at h1
        rw [h1] at hd
        exact absurd hd ha
      | some b => exact ⟨x, b, rfl, hs, h1⟩
end
theorem rok1 (i : Int) : Rok (1, i) := ⟨by show (1 : Int) ≤ 1; decide, by show (1 : Int) ≤ 5; decide, fun h => by have h : (1 : Int) = 4 ∨ (1 : Int) = 5 := h; omega⟩
theorem rok2 (i : Int) : Rok (2, i) := ⟨by show (1 : Int) ≤ 2; decide, by show (2 : Int) ≤ 5; decide, fun h => by have h : (2 : Int) = 4 ∨ (2 : Int) = 5 := h; omega⟩
theorem rok3 (i : Int) : Rok (3, i) := ⟨by show (1 : Int) ≤ 3; decide, by show (3 : Int) ≤ 5; decide, fun h => by have h : (3 : Int) = 4 ∨ (3 : Int) = 5 := h; omega⟩
theorem rok4 : Rok (4, 0) := ⟨by decide, by decide, fun _ => rfl⟩
theorem rok5 : Rok (5, 0) := ⟨by decide, by decide, fun _ => rfl⟩
/-- What the bytes are to a Commons to which just these records are bad; F is whatever own writes leave. -/
structure Sto (F : List UInt8 → Prop) (n : Nat) (src : Src) (nb : Nat) (bad : List Rf) (xs : List UInt8) (S : Stt) : Prop where
  len : xs.length = n
  lay : Lay n src nb
  fr : F xs
  cl : ∀ ys r x b0 b, Rok r → r ∉ bad → wher nb r = some x → src x.1 x.2.1 x.2.2 = some b0 → b.length = x.2.2 → ys.length = n → F ys → F (splice ys (b0 + x.2.1) b)
  p : ∀ i, pread Cd.dcd Cd.noP xs src nb bad (1, i) = (S.p i, bad)
  f : ∀ i, pread Fi.dcd Fi.noP xs src nb bad (2, i) = (S.f i, bad)
  r : ∀ i, pread Ri.dcd Ri.noP xs src nb bad (3, i) = (S.r i, bad)
  t : pread Ri.dcd Ri.noP xs src nb bad (4, 0) = (S.t, bad)
  g : pread fdec 0 xs src nb bad (5, 0) = (S.g, bad)
def Stt.setP (S : Stt) (i : Int) (v : List Int) : Stt := { S with p := upd S.p i (v, 1) }
def Stt.setF (S : Stt) (i : Int) (v : List Int) : Stt := { S with f := upd S.f i (v, 1) }
def Stt.setR (S : Stt) (i : Int) (v : Ri.Pp) : Stt := { S with r := upd S.r i (v, 1) }
def Stt.frP (S : Stt) (i : Int) : Stt := { S with p := upd S.p i (Cd.noP, 0) }
def Stt.frF (S : Stt) (i : Int) : Stt := { S with f := upd S.f i (Fi.noP, 0) }
def Stt.frR (S : Stt) (i : Int) : Stt := { S with r := upd S.r i (Ri.noP, 0) }
theorem dnoP : Cd.dcd (List.replicate 24 0) = (Cd.noP, 0) := by decide +kernel
theorem dnoF : Fi.dcd (List.replicate 8 0) = (Fi.noP, 0) := by decide +kernel
theorem dnoR : Ri.dcd (List.replicate 40 0) = (Ri.noP, 0) := by
  unfold Ri.dcd
  rw [if_pos (by simp), if_pos (by decide)]
section
variable {F : List UInt8 → Prop} {n nb : Nat} {src : Src} {bad : List Rf} {xs : List UInt8} {S : Stt}
theorem ne_k {a b i j : Int} (h : a ≠ b) : ((a, i) : Rf) ≠ (b, j) := fun e => h (congrArg Prod.fst e)
theorem ne_i {a i j : Int} (h : i ≠ j) : ((a, i) : Rf) ≠ (a, j) := fun e => h (congrArg Prod.snd e)
theorem Sto.setP (h : Sto F n src nb bad xs S) (i : Int) {v : List Int} {d : Int} {b : List UInt8} (hd : Cd.dcd b = (v, d)) (h2 : d ≠ 2) (hl : b.length = 24) :
    ∃ ys, pwrite xs src nb bad (1, i) b = (decide ((S.p i).2 ≠ 2), ys) ∧ Sto F n src nb bad ys (if (S.p i).2 ≠ 2 then { S with p := upd S.p i (v, d) } else S) := by
  by_cases hz : (S.p i).2 = 2
  · refine ⟨xs, ?_, ?_⟩
    · rw [dead (h.p i) hz, decide_eq_false (by simpa using hz)]
    · rw [if_neg (by simpa using hz)]; exact h
  · obtain ⟨hnb, x, b0, hw, hs, _⟩ := live (by decide) (h.p i) hz
    have hsz : b.length = x.2.2 := by rw [wsize1 x hw]; exact hl
    refine ⟨splice xs (b0 + x.2.1) b, ?_, ?_⟩
    · rw [pwrite_some hnb hw hs, decide_eq_true hz]
    · rw [if_pos hz]
      have hin := h.lay.inn _ x b0 (rok1 i) hw hs
      have far := fun {α : Type} {dec : List UInt8 → α × Int} {z : α} {r : Rf} (hr : Rok r) (hne : r ≠ (1, i)) => pread_far (dec := dec) (z := z) (bad := bad) h.lay h.len hr (rok1 i) hne hw hs hsz
      refine ⟨by rw [splice_len _ _ _ (by rw [h.len]; omega)]; exact h.len, h.lay, h.cl _ _ x b0 b (rok1 i) hnb hw hs hsz h.len h.fr, h.cl, fun j => ?_, fun j => ?_, fun j => ?_, ?_, ?_⟩
      · by_cases e : j = i
        · subst e
          rw [pread_near h.lay h.len (rok1 j) hnb hw hs hsz hd h2]
          dsimp only
          rw [upd_same]
        · rw [far (rok1 j) (ne_i e), h.p j]
          dsimp only
          rw [upd_far e]
      · rw [far (rok2 j) (ne_k (by decide)), h.f j]
      · rw [far (rok3 j) (ne_k (by decide)), h.r j]
      · rw [far rok4 (ne_k (by decide)), h.t]
      · rw [far rok5 (ne_k (by decide)), h.g]
theorem Sto.setF (h : Sto F n src nb bad xs S) (i : Int) {v : List Int} {d : Int} {b : List UInt8} (hd : Fi.dcd b = (v, d)) (h2 : d ≠ 2) (hl : b.length = 8) :
    ∃ ys, pwrite xs src nb bad (2, i) b = (decide ((S.f i).2 ≠ 2), ys) ∧ Sto F n src nb bad ys (if (S.f i).2 ≠ 2 then { S with f := upd S.f i (v, d) } else S) := by
  by_cases hz : (S.f i).2 = 2
  · refine ⟨xs, ?_, ?_⟩
    · rw [dead (h.f i) hz, decide_eq_false (by simpa using hz)]
    · rw [if_neg (by simpa using hz)]; exact h
  · obtain ⟨hnb, x, b0, hw, hs, _⟩ := live (by decide) (h.f i) hz
    have hsz : b.length = x.2.2 := by rw [wsize2 x hw]; exact hl
    refine ⟨splice xs (b0 + x.2.1) b, ?_, ?_⟩
    · rw [pwrite_some hnb hw hs, decide_eq_true hz]
    · rw [if_pos hz]
      have hin := h.lay.inn _ x b0 (rok2 i) hw hs
      have far := fun {α : Type} {dec : List UInt8 → α × Int} {z : α} {r : Rf} (hr : Rok r) (hne : r ≠ (2, i)) => pread_far (dec := dec) (z := z) (bad := bad) h.lay h.len hr (rok2 i) hne hw hs hsz
      refine ⟨by rw [splice_len _ _ _ (by rw [h.len]; omega)]; exact h.len, h.lay, h.cl _ _ x b0 b (rok2 i) hnb hw hs hsz h.len h.fr, h.cl, fun j => ?_, fun j => ?_, fun j => ?_, ?_, ?_⟩
      · rw [far (rok1 j) (ne_k (by decide)), h.p j]
      · by_cases e : j = i
        · subst e
          rw [pread_near h.lay h.len (rok2 j) hnb hw hs hsz hd h2]
          dsimp only
          rw [upd_same]
        · rw [far (rok2 j) (ne_i e), h.f j]
          dsimp only
          rw [upd_far e]
      · rw [far (rok3 j) (ne_k (by decide)), h.r j]
      · rw [far rok4 (ne_k (by decide)), h.t]
      · rw [far rok5 (ne_k (by decide)), h.g]
theorem Sto.setR (h : Sto F n src nb bad xs S) (i : Int) {v : Ri.Pp} {d : Int} {b : List UInt8} (hd : Ri.dcd b = (v, d)) (h2 : d ≠ 2) (hl : b.length = 40) :
    ∃ ys, pwrite xs src nb bad (3, i) b = (decide ((S.r i).2 ≠ 2), ys) ∧ Sto F n src nb bad ys (if (S.r i).2 ≠ 2 then { S with r := upd S.r i (v, d) } else S) := by
  by_cases hz : (S.r i).2 = 2
  · refine ⟨xs, ?_, ?_⟩
    · rw [dead (h.r i) hz, decide_eq_false (by simpa using hz)]
    · rw [if_neg (by simpa using hz)]; exact h
  · obtain ⟨hnb, x, b0, hw, hs, _⟩ := live (by decide) (h.r i) hz
    have hsz : b.length = x.2.2 := by rw [wsize3 x hw]; exact hl
    refine ⟨splice xs (b0 + x.2.1) b, ?_, ?_⟩
    · rw [pwrite_some hnb hw hs, decide_eq_true hz]
    · rw [if_pos hz]
      have hin := h.lay.inn _ x b0 (rok3 i) hw hs
      have far := fun {α : Type} {dec : List UInt8 → α × Int} {z : α} {r : Rf} (hr : Rok r) (hne : r ≠ (3, i)) => pread_far (dec := dec) (z := z) (bad := bad) h.lay h.len hr (rok3 i) hne hw hs hsz
      refine ⟨by rw [splice_len _ _ _ (by rw [h.len]; omega)]; exact h.len, h.lay, h.cl _ _ x b0 b (rok3 i) hnb hw hs hsz h.len h.fr, h.cl, fun j => ?_, fun j => ?_, fun j => ?_, ?_, ?_⟩
      · rw [far (rok1 j) (ne_k (by decide)), h.p j]
      · rw [far (rok2 j) (ne_k (by decide)), h.f j]
      · by_cases e : j = i
        · subst e
          rw [pread_near h.lay h.len (rok3 j) hnb hw hs hsz hd h2]
          dsimp only
          rw [upd_same]
        · rw [far (rok3 j) (ne_i e), h.r j]
          dsimp only
          rw [upd_far e]
      · rw [far rok4 (ne_k (by decide)), h.t]
      · rw [far rok5 (ne_k (by decide)), h.g]
/-- A look at what is known already. -/
theorem Sto.seen (h : Sto F n src nb bad xs S) {q : Rf} (hq : Rok q) : seen xs src nb bad q = bad := by
  obtain ⟨k, i⟩ := q
  obtain ⟨h1, h2, h3⟩ := hq
  dsimp only at h1 h2 h3
  unfold Co.seen
  dsimp only
  rcases (show k = 1 ∨ k = 2 ∨ k = 3 ∨ k = 4 ∨ k = 5 by omega) with rfl | rfl | rfl | rfl | rfl
  · rw [if_pos rfl, h.p i]
  · rw [if_neg (by decide), if_pos rfl, h.f i]
  · rw [if_neg (by decide), if_neg (by decide), if_neg (by decide), h.r i]
  · obtain rfl := h3 (.inl rfl)
    rw [if_neg (by decide), if_neg (by decide), if_neg (by decide), h.t]
  · obtain rfl := h3 (.inr rfl)
    rw [if_neg (by decide), if_neg (by decide), if_pos rfl, h.g]
theorem rok_all {nb : Nat} {q : Rf} (h : q ∈ allRecs nb) : Rok q := by
  unfold allRecs at h
  simp only [List.mem_append, mk, List.mem_map, List.mem_range, List.mem_cons, List.not_mem_nil, or_false] at h
  rcases h with ((⟨i, _, rfl⟩ | ⟨i, _, rfl⟩) | ⟨i, _, rfl⟩) | rfl | rfl
  · exact rok1 _
  · exact rok2 _
  · exact rok3 _
  · exact rok4
  · exact rok5
theorem fold_same {α β : Type} {f : α → β → α} {a : α} : ∀ {l : List β}, (∀ q ∈ l, f a q = a) → l.foldl f a = a
  | [], _ => rfl
  | q :: l, h => by
    rw [List.foldl_cons, h q (by simp)]
    exact fold_same (fun q hq => h q (by simp [hq]))
theorem Sto.look (h : Sto F n src nb bad xs S) : look xs src nb bad = bad := fold_same fun _ hq => h.seen (rok_all hq)
end
end Go.Proofs.YtgcikpgcoemfnaaGreat.Co
namespace Go.Proofs.YtgcikpgcoemfnaaGreat.Co
open Go.RowKit
set_option linter.unusedVariables false
set_option linter.unusedSimpArgs false
/-- A Commons, and what its records read as. -/
structure Ks (F : List UInt8 → Prop) (n : Nat) (w : World) (K : Kn) (C : Cm) (src : Src) (S : Stt) : Prop where
  kc : Kc w K C src
  s : Sto F n src C.brs.length C.bad K.xs S
/-- What a call leaves: other bytes, just of the Commons' own blocks. -/
def Kt (F : List UInt8 → Prop) (n : Nat) (w : World) (K : Kn) (C : Cm) (src : Src) (S' : Stt) (w' : World) : Prop :=
  ∃ ys, Sto F n src C.brs.length C.bad ys S' ∧ Ct w K { K with xs := ys } C C src w'
section
variable {F : List UInt8 → Prop} {n : Nat} {w w' w1 : World} {K : Kn} {C : Cm} {src : Src} {S S' S2 : Stt}
theorem Ks.still (h : Ks F n w K C src S) (k : Keep Nob w w') : Kt F n w K C src S w' := ⟨K.xs, h.s, Ct.still h.kc k⟩
theorem Kt.nob (t : Kt F n w K C src S' w1) (k : Keep Nob w1 w') : Kt F n w K C src S' w' := by
  obtain ⟨ys, h1, h2⟩ := t
  exact ⟨ys, h1, h2.nob k⟩
/-- The blocks of the kernel, and of the Commons, are those that were there. -/
theorem Ks.lt (h : Ks F n w K C src S) : ∀ b, Mine K b ∨ b = C.p ∨ b = C.b → b < w.heap.size := by
  rintro b (m | rfl | rfl)
  · obtain ⟨t, cs, hb, _⟩ := h.kc.k.ty b m
    exact hb.lt
  · exact h.kc.c.lt.1
  · exact h.kc.c.lt.2
/-- A write to blocks that are new since w. -/
theorem Kt.loc (t : Kt F n w K C src S' w1) (h : Ks F n w K C src S) {M : Nat → Prop} (k : Keep M w1 w') (hM : ∀ b, M b → w.heap.size ≤ b ∧ ∃ ty cs, Blk w1 b ty cs ∧ ¬ Fix ty) : Kt F n w K C src S' w' := by
  obtain ⟨ys, h1, h2⟩ := t
  have old : ∀ b, Mine K b ∨ b = C.p ∨ b = C.b → ¬ M b := fun b m hb => by
    have := h.lt b m
    have := (hM b hb).1
    omega
  have ha := h.kc.a_lt
  have is : Kc w' { K with xs := ys } C src := ⟨h2.is.k.keep k (fun b m => (hM b m).2) (fun b m hm => old b (.inl m) hm), h2.is.c.keep k (old _ (.inr (.inl rfl))) (fun h0 ad e m => by
    have := ha h0 ad e
    have := (hM _ m).1
    omega) (old _ (.inr (.inr rfl))), h2.is.l, h2.is.ap⟩
  exact ⟨ys, h1, is, h2.keep.trans k (fun b hlt m => by
    have := (hM b m).1
    omega), h2.mine⟩
theorem Kt.of_to {ys : List UInt8} (h : Kc w K C src) (hs : Sto F n src C.brs.length C.bad ys S') (t : To w K { K with xs := ys } w') : Kt F n w K C src S' w' := ⟨ys, hs, Ct.of_to h t⟩
/-- What a call may turn of what was there. -/
def Kp (K : Kn) (C : Cm) : World → World → Prop := Keep (fun b => Turn K b ∨ b = C.b)
/-- A call behind what was done since w. -/
theorem Kt.goK {f : FuncId} {args : Array Value} {Q : Ending → World → Prop} (t : Kt F n w K C src S w1) (hc : ∀ K', Ks F n w1 K' C src S → (∀ W, Kp K' C w1 W → Kp K C w1 W) → Calls Tryz.prog f args w1 fun e w' => Q e w' ∧ Kt F n w1 K' C src S' w') :
    Calls Tryz.prog f args w1 fun e w' => Q e w' ∧ Kt F n w K C src S' w' ∧ Kp K C w1 w' := by
  obtain ⟨ys, h1, h2⟩ := t
  refine (hc _ ⟨h2.is, h1⟩ (fun W k => k)).mono ?_
  rintro e w' ⟨hq, zs, h3, h4⟩
  exact ⟨hq, ⟨zs, h3, h2.trans h4 (fun _ m => .inl m) rfl (fun _ m _ => m)⟩, h4.keep⟩
theorem Kt.go {f : FuncId} {args : Array Value} {Q : Ending → World → Prop} (t : Kt F n w K C src S w1) (hc : ∀ K', Ks F n w1 K' C src S → Calls Tryz.prog f args w1 fun e w' => Q e w' ∧ Kt F n w1 K' C src S' w') :
    Calls Tryz.prog f args w1 fun e w' => Q e w' ∧ Kt F n w K C src S' w' ∧ Kp K C w1 w' := t.goK (fun K' hk _ => hc K' hk)
theorem Kt.kp (t : Kt F n w K C src S w') : Kp K C w w' := by
  obtain ⟨ys, _, h2⟩ := t
  exact h2.keep
/-- A local block behind a call. -/
theorem Kp.lb (k : Kp K C w1 w') (h : Ks F n w K C src S) {g : Nat} {ty : TypeId} {cs : List Value} (hb : Blk w1 g ty cs) (hg : w.heap.size ≤ g) : Blk w' g ty cs :=
  hb.keep k (fun m => by
    have := h.lt g (m.elim (fun m => .inl (.inl m)) (fun m => .inr (.inr m)))
    omega)
theorem Kp.vec (k : Kp K C w1 w') (h : Ks F n w K C src S) {e sz m c : Nat} {A : Option Addr} {xs : List Value} (hv : Vec w1 e sz A m c xs) (hA : ∀ b, Own A b → w.heap.size ≤ b) : Vec w' e sz A m c xs :=
  hv.keep k (fun b ho m => by
    have := h.lt b (m.elim (fun m => .inl (.inl m)) (fun m => .inr (.inr m)))
    have := hA b ho
    omega)
/-- A write to a local block. -/
theorem Kt.st (t : Kt F n w K C src S' w1) (h : Ks F n w K C src S) {g : Nat} {ty : TypeId} {cs : List Value} (hb : Blk w1 g ty cs) (hf : ¬ Fix ty) (hg : w.heap.size ≤ g) (k : Keep (· = g) w1 w') : Kt F n w K C src S' w' :=
  t.loc h k (fun b e => e ▸ ⟨hg, ty, cs, hb, hf⟩)
theorem slook_is (h : Ks F n w K C src S) : Calls Tryz.prog 63 #[.pointer (some ⟨C.p, 0, none⟩)] w fun e w' => e = .returned (.tuple #[]) ∧ Kt F n w K C src S w' := by
  refine (look_is h.kc _ h.s.look).mono ?_
  rintro e w' ⟨rfl, t⟩
  exact ⟨rfl, K.xs, h.s, t⟩
theorem sproc_is (h : Ks F n w K C src S) (i : Int) (hi : Cd.Wf i) (v : List Int) (d : Int) (hv : S.p i = (v, d)) :
    Calls Tryz.prog 13 #[.pointer (some ⟨C.p, 0, none⟩), .int .i64 i] w fun e w' => e = .returned (.tuple #[.agg (ints v).toArray, .int .i64 d]) ∧ Kt F n w K C src S w' := by
  refine (proc_is h.kc i hi v d _ ((h.s.p i).trans (by rw [hv]))).mono ?_
  rintro e w' ⟨rfl, t⟩
  exact ⟨rfl, K.xs, h.s, t⟩
theorem pset_p (h : Ks F n w K C src S) (i : Int) {v : List Int} (hl : v.length = 16) (ok : Bool) (hok : (decide ((S.p i).2 ≠ 2) && Cd.okd v) = ok) :
    ∃ ys, pset (Cd.okd v) (Cd.enc v) K.xs src C.brs.length C.bad (1, i) = (ok, ys) ∧ Sto F n src C.brs.length C.bad ys (if ok then S.setP i v else S) := by
  unfold pset
  cases hd : Cd.okd v with
  | false =>
    rw [hd, Bool.and_false] at hok
    subst hok
    exact ⟨K.xs, rfl, h.s⟩
  | true =>
    rw [hd, Bool.and_true] at hok
    obtain ⟨ys, h1, h2⟩ := h.s.setP i (Cd.dcd_enc hl hd) (by decide) (Cd.enc_len hl)
    refine ⟨ys, ?_, ?_⟩
    · rw [if_pos rfl, h1, hok]
    · rw [← hok]
      by_cases hz : (S.p i).2 = 2
      · rw [if_neg (by simpa using hz)] at h2
        rw [decide_eq_false (by simpa using hz)]
        exact h2
      · rw [if_pos hz] at h2
        rw [decide_eq_true hz]
        exact h2
theorem ssetProc_is (h : Ks F n w K C src S) (i : Int) (hi : Cd.Wf i) (v : List Int) (hl : v.length = 16) (hw : ∀ x ∈ v, Cd.Wf x) (ok : Bool) (hok : (decide ((S.p i).2 ≠ 2) && Cd.okd v) = ok) :
    Calls Tryz.prog 37 #[.pointer (some ⟨C.p, 0, none⟩), .int .i64 i, .agg (ints v).toArray] w fun e w' => e = .returned (.bool ok) ∧ Kt F n w K C src (if ok then S.setP i v else S) w' := by
  obtain ⟨ys, h1, h2⟩ := pset_p h i hl ok hok
  refine (setProc_is h.kc i hi v hl hw ok ys h1).mono ?_
  rintro e w' ⟨rfl, t⟩
  exact ⟨rfl, Kt.of_to h.kc h2 t⟩
theorem sfreeProc_is (h : Ks F n w K C src S) (i : Int) (hi : Cd.Wf i) (ok : Bool) (hok : decide ((S.p i).2 ≠ 2) = ok) :
    Calls Tryz.prog 43 #[.pointer (some ⟨C.p, 0, none⟩), .int .i64 i] w fun e w' => e = .returned (.bool ok) ∧ Kt F n w K C src (if ok then S.frP i else S) w' := by
  obtain ⟨ys, h1, h2⟩ := h.s.setP i dnoP (by decide) (by simp)
  rw [hok] at h1
  refine (freeProc_is h.kc i hi ok ys h1).mono ?_
  rintro e w' ⟨rfl, t⟩
  refine ⟨rfl, Kt.of_to h.kc ?_ t⟩
  rw [← hok]
  by_cases hz : (S.p i).2 = 2
  · rw [if_neg (by simpa using hz)] at h2
    rw [decide_eq_false (by simpa using hz)]
    exact h2
  · rw [if_pos hz] at h2
    rw [decide_eq_true hz]
    exact h2
end
end Go.Proofs.YtgcikpgcoemfnaaGreat.Co
namespace Go.Proofs.YtgcikpgcoemfnaaGreat.Co
open Go.RowKit
set_option linter.unusedVariables false
set_option linter.unusedSimpArgs false
structure Sd where
  p : List (List Int × Int)
  f : List (List Int × Int)
  r : List (List Int × Int)
  t : List Int × Int
  g : Int × Int
theorem Sd.same {a b : Sd} : (a.p = b.p ∧ a.f = b.f ∧ a.r = b.r ∧ a.t = b.t ∧ a.g = b.g) ↔ a = b := by
  constructor
  · obtain ⟨p, f, r, t, g⟩ := a
    obtain ⟨p2, f2, r2, t2, g2⟩ := b
    rintro ⟨h1, h2, h3, h4, h5⟩
    dsimp only at h1 h2 h3 h4 h5
    rw [h1, h2, h3, h4, h5]
  · rintro rfl
    exact ⟨rfl, rfl, rfl, rfl, rfl⟩
instance decSd : DecidableEq Sd := fun _ _ => decidable_of_iff _ Sd.same
/-- A pipe as numbers. -/
def pL (P : Ri.Pp) : List Int := P.h :: P.c :: P.r :: P.s :: P.d.map (fun b => ((b.toNat : Nat) : Int))
def lP (l : List Int) : Ri.Pp := ⟨l.getD 0 0, l.getD 1 0, l.getD 2 0, l.getD 3 0, (l.drop 4).map (fun x => UInt8.ofNat x.toNat)⟩
theorem lP_pL (P : Ri.Pp) : lP (pL P) = P := by
  obtain ⟨h, c, r, s, d⟩ := P
  have e : d.map ((fun x : Int => UInt8.ofNat x.toNat) ∘ fun b : UInt8 => ((b.toNat : Nat) : Int)) = d := by
    conv => rhs; rw [← List.map_id d]
    refine List.map_congr_left (fun b _ => ?_)
    simp
  show (⟨h, c, r, s, (d.map _).map _⟩ : Ri.Pp) = _
  rw [List.map_map, e]
def row {α : Type} (n : Int) (z : α) (l : List α) (i : Int) : α := if 0 ≤ i ∧ i < n then l.getD i.toNat z else z
def stOf (T : Sd) : Stt :=
  { p := row 8 (Cd.noP, 2) T.p, f := row 12 (Fi.noP, 2) T.f, r := fun i => (lP (row 6 (pL Ri.noP, 2) T.r i).1, (row 6 (pL Ri.noP, 2) T.r i).2),
    t := (lP T.t.1, T.t.2), g := T.g }
def toT (S : Stt) : Sd := ⟨mk 8 (fun i => S.p i), mk 12 (fun i => S.f i), mk 6 (fun i => (pL (S.r i).1, (S.r i).2)), (pL S.t.1, S.t.2), S.g⟩
theorem row_mk {α : Type} {n : Nat} {z : α} {f : Int → α} (h : ∀ i, ¬ (0 ≤ i ∧ i < (n : Int)) → f i = z) : row n z (mk n (fun i => f i)) = f := by
  funext i
  unfold row
  by_cases hi : 0 ≤ i ∧ i < (n : Int)
  · rw [if_pos hi]
    obtain ⟨k, rfl⟩ := Int.eq_ofNat_of_zero_le hi.1
    rw [List.getD_eq_getElem?_getD]
    unfold mk
    rw [List.getElem?_map, List.getElem?_range (by omega)]
    rfl
  · rw [if_neg hi, h i hi]
/-- Out of its rows nothing is there. -/
structure Norm (S : Stt) : Prop where
  p : ∀ i, ¬ (0 ≤ i ∧ i < 8) → S.p i = (Cd.noP, 2)
  f : ∀ i, ¬ (0 ≤ i ∧ i < 12) → S.f i = (Fi.noP, 2)
  r : ∀ i, ¬ (0 ≤ i ∧ i < 6) → S.r i = (Ri.noP, 2)
theorem Norm.eq {S : Stt} (h : Norm S) : stOf (toT S) = S := by
  obtain ⟨p, f, r, t, g⟩ := S
  have e1 : row 8 (Cd.noP, 2) (Go.Proofs.YtgcikpgcoemfnaaGreat.mk 8 (fun i => p i)) = p := row_mk (n := 8) h.p
  have e2 : row 12 (Fi.noP, 2) (Go.Proofs.YtgcikpgcoemfnaaGreat.mk 12 (fun i => f i)) = f := row_mk (n := 12) h.f
  have e3 : row 6 (pL Ri.noP, 2) (Go.Proofs.YtgcikpgcoemfnaaGreat.mk 6 (fun i => (pL (r i).1, (r i).2))) = fun i => (pL (r i).1, (r i).2) := row_mk (n := 6) (f := fun i => (pL (r i).1, (r i).2)) (fun i hi => by
    have := h.r i hi
    dsimp only at this ⊢
    rw [this])
  unfold stOf toT
  dsimp only
  rw [e1, e2, e3]
  dsimp only
  simp only [lP_pL]
theorem nread {α : Type} {dec : List UInt8 → α × Int} {z : α} {xs : List UInt8} {src : Src} {nb : Nat} {bad : List Rf} {r : Rf} {a : α × Int} (hw : wher nb r = none) (h : pread dec z xs src nb bad r = (a, bad)) : a = (z, 2) := by
  by_cases hb : r ∈ bad
  · rw [pread_bad hb] at h
    exact (Prod.mk.inj h).1.symm
  · rw [pread_none hb hw] at h
    exact (Prod.mk.inj h).1.symm
section
variable {F : List UInt8 → Prop} {n : Nat} {src : Src} {bad : List Rf} {xs : List UInt8} {S : Stt}
theorem Sto.norm (h : Sto F n src 2 bad xs S) : Norm S := by
  refine ⟨fun i hi => nread ?_ (h.p i), fun i hi => nread ?_ (h.f i), fun i hi => nread ?_ (h.r i)⟩
  · unfold wher
    rw [if_pos rfl, if_neg hi]
  · unfold wher
    dsimp only
    rw [if_neg (by decide), if_pos rfl, if_neg hi]
  · unfold wher
    dsimp only
    rw [if_neg (by decide), if_neg (by decide), if_pos rfl]
    by_cases h4 : 4 ≤ i
    · rw [if_pos h4, if_neg (by omega)]
    · rw [if_neg h4, if_neg (by omega)]
theorem Sto.eq (h : Sto F n src 2 bad xs S) : S = stOf (toT S) := h.norm.eq.symm
end
theorem Kt.eq {F : List UInt8 → Prop} {n : Nat} {w w' : World} {K : Kn} {C : Cm} {src : Src} {S : Stt} (t : Kt F n w K C src S w') (hb : C.brs.length = 2) {T : Sd} (h : toT S = T) : Kt F n w K C src (stOf T) w' := by
  obtain ⟨ys, h1, h2⟩ := t
  have h3 := h1
  rw [hb] at h3
  rw [← h, ← h3.eq]
  exact ⟨ys, h1, h2⟩
end Go.Proofs.YtgcikpgcoemfnaaGreat.Co
namespace Go.Proofs.YtgcikpgcoemfnaaGreat.Pn
open Go.RowKit
set_option linter.unusedVariables false
set_option linter.unusedSimpArgs false
open Co (Src Link Cm Kc Ct)
theorem names_row {f : Q → Pl} (hf : ∀ q, (f q).on = q.on ∧ (f q).gen = q.gen) (l : List Cp) (hl : l.length ≤ 32) : ∀ k, k ≤ 32 → names ((rowQ l).map f) k = mk (min k l.length) fun i => (i : Int) + 256
  | 0, _ => by simp [names, mk]
  | k + 1, hk => by
    have ih := names_row hf l hl k (by omega)
    by_cases h : k < l.length
    · have hq : ((rowQ l).map f)[k]? = some (f ⟨1, true, l[k]⟩) := by rw [List.getElem?_map, rowQ_in (List.getElem?_eq_getElem h)]; rfl
      have h1 := hf ⟨1, true, l[k]⟩
      rw [names_on hq h1.1, h1.2, ih, show min k l.length = k by omega, show min (k + 1) l.length = k + 1 by omega, ← mk_succ]
      rfl
    · have hq : ((rowQ l).map f)[k]? = some (f ⟨1, false, zcap⟩) := by rw [List.getElem?_map, rowQ_out (by omega) (by omega)]; rfl
      rw [names_off hq (hf _).1, ih, show min k l.length = min (k + 1) l.length by omega]
theorem names_pl (l : List Cp) (hl : l.length ≤ 32) : names ((rowQ l).map Q.pl) (rowQ l).length = mk l.length fun i => (i : Int) + 256 := by
  rw [rowQ_len hl, names_row (fun _ => ⟨rfl, rfl⟩) l hl 32 (Nat.le_refl _), Nat.min_eq_right hl]
/-- The Caps that Shares give to a session. -/
def capsOf (ses : Int) : List Sh → Nat → List Cp
  | [], _ => []
  | s :: l, i => if ses ∈ s.tos then ⟨i, 3, 0, s.n, (0, 0)⟩ :: capsOf ses l (i + 1) else capsOf ses l (i + 1)
theorem capsOf_snoc (ses : Int) (s : Sh) : ∀ (l : List Sh) (i : Nat), capsOf ses (l ++ [s]) i = capsOf ses l i ++ (if ses ∈ s.tos then [⟨((i + l.length : Nat) : Int), 3, 0, s.n, (0, 0)⟩] else [])
  | [], i => by simp [capsOf]
  | x :: l, i => by
    have ih := capsOf_snoc ses s l (i + 1)
    rw [List.cons_append]
    unfold capsOf
    rw [ih, show i + 1 + l.length = i + (x :: l).length by simp; omega]
    split <;> simp
theorem csAt_caps {envs : List Int} {sh : List Sh} {e : Nat} (he : e < envs.length) : ∀ j, j ≤ sh.length → csAt envs sh j e = capsOf (envs.getD e 0) (sh.take j) 0
  | 0, _ => by simp [csAt, capsOf]
  | j + 1, hj => by
    have ih := csAt_caps (sh := sh) he j (Nat.le_of_succ_le hj)
    obtain ⟨s, hs⟩ : ∃ s, sh[j]? = some s := ⟨_, List.getElem?_eq_getElem (show j < sh.length by omega)⟩
    rw [csAt_next hs, List.take_add_one, hs]
    show gave _ _ _ _ _ _ = capsOf _ (sh.take j ++ [s]) 0
    have hl : (sh.take j).length = j := by rw [List.length_take]; omega
    rw [capsOf_snoc, ← ih, hl, Nat.zero_add]
    unfold gave
    by_cases m : envs.getD e 0 ∈ s.tos
    · rw [if_pos ⟨he, m⟩, if_pos m]
    · rw [if_neg (fun h => m h.2), if_neg m, List.append_nil]
/-- A Commons and its kernel, both made by the call. -/
structure Op0 (w W : World) (K : Kn) (C : Cm) (src : Src) : Prop where
  kc : Kc W K C src
  lo : ∀ x, Mine K x → w.heap.size ≤ x
  lb : w.heap.size ≤ C.b
  keep : Keep (From w.heap.size) w W
section
variable {w W W' : World} {K K' : Kn} {C C' : Cm} {src : Src}
theorem Op0.nob (h : Op0 w W K C src) (k : Keep Nob W W') : Op0 w W' K C src := ⟨h.kc.nob k, h.lo, h.lb, h.keep.nob k⟩
theorem Op0.ct (h : Op0 w W K C src) (t : Ct W K K' C C' src W') (hb : C'.b = C.b) : Op0 w W' K' C' src :=
  ⟨t.is, fun x m => (t.mine x m).elim (h.lo x) (fun e => by have := h.keep.size; omega), by rw [hb]; exact h.lb, h.keep.from_ t.keep (fun b m => m.elim (fun m => h.lo b (.inl m)) (fun e => by rw [e]; exact h.lb))⟩
theorem Op0.bytes {ys : List UInt8} (h : Op0 w W K C src) (t : To W K { K with xs := ys } W') : Op0 w W' { K with xs := ys } C src := h.ct (Ct.of_to h.kc t) rfl
end
end Go.Proofs.YtgcikpgcoemfnaaGreat.Pn
namespace Go.Proofs.YtgcikpgcoemfnaaGreat.Dk
open Go.RowKit
set_option linter.unusedVariables false
set_option linter.unusedSimpArgs false
/-- A Space: where its rows lie, and what lies in them. -/
structure Ds where
  s : Nat
  n : Nat
  AN : Option Addr
  cN : Nat
  AC : Option Addr
  cC : Nat
  q : Nat → Nat
  A : Nat → Option Addr
  ca : Nat → Nat
  r : Nat → Nat
  T : St
def nq (x : Q) : Pl := ⟨x.gen, x.on, []⟩
def crow (l : List Q) : List Value := (l.map fun x => x.c.cells).flatten
structure IsDs (w : World) (S : Ds) : Prop where
  obj : Blk w S.s 288 [.slice S.AN S.n S.cN, .slice S.AC S.n S.cC]
  nrow : Vec w 284 1 S.AN S.n S.cN (mk S.n fun i => .pointer (some ⟨S.q i, 0, none⟩))
  cr : Vec w 362 1 S.AC S.n S.cC (mk S.n fun i => .slice (some ⟨S.r i, 0, none⟩) 32 32)
  nm : ∀ i, i < S.n → Ref.IsNames w (S.q i) (S.A i) (S.ca i) ((S.T i).map nq)
  cp : ∀ i, i < S.n → Blk w (S.r i) 255 (crow (S.T i))
  ainj : ∀ i j, i < S.n → j < S.n → i ≠ j → ∀ x, Own (S.A i) x → ¬ Own (S.A j) x
  rinj : ∀ i j, i < S.n → j < S.n → S.r i = S.r j → i = j
  t32 : ∀ i, i < S.n → (S.T i).length = 32
  n40 : S.n ≤ 40
/-- Its blocks. -/
def Ds.Mine (S : Ds) : Nat → Prop := fun b => b = S.s ∨ Own S.AN b ∨ Own S.AC b ∨ ∃ i, i < S.n ∧ (b = S.q i ∨ Own (S.A i) b ∨ b = S.r i)
section
variable {w w' : World} {S : Ds} {M : Nat → Prop}
theorem IsDs.keep (h : IsDs w S) (k : Keep M w w') (hd : ∀ b, S.Mine b → ¬ M b) : IsDs w' S :=
  ⟨h.obj.keep k (hd _ (.inl rfl)), h.nrow.keep k (fun g hg => hd _ (.inr (.inl hg))), h.cr.keep k (fun g hg => hd _ (.inr (.inr (.inl hg)))),
    fun i hi => (h.nm i hi).keep k (hd _ (.inr (.inr (.inr ⟨i, hi, .inl rfl⟩)))) (fun g hg => hd _ (.inr (.inr (.inr ⟨i, hi, .inr (.inl hg)⟩)))), fun i hi => (h.cp i hi).keep k (hd _ (.inr (.inr (.inr ⟨i, hi, .inr (.inr rfl)⟩)))), h.ainj, h.rinj, h.t32, h.n40⟩
theorem IsDs.nob (h : IsDs w S) (k : Keep Nob w w') : IsDs w' S := h.keep k (fun _ _ f => f)
theorem IsDs.lt (h : IsDs w S) : ∀ b, S.Mine b → b < w.heap.size := by
  rintro b (rfl | hb | hb | ⟨i, hi, rfl | hb | rfl⟩)
  · exact h.obj.lt
  · exact h.nrow.lt b hb
  · exact h.cr.lt b hb
  · exact (h.nm i hi).obj.lt
  · exact (h.nm i hi).row.lt b hb
  · exact (h.cp i hi).lt
theorem crow_get {l : List Q} {i j : Nat} {x : Q} (hx : l[i]? = some x) (hj : j < 6) : (crow l)[i * 6 + j]? = x.c.cells[j]? := by
  unfold crow
  rw [flatten_get (W := 6) _ (by intro c hc; obtain ⟨x, _, rfl⟩ := List.mem_map.1 hc; rfl) i j hj, List.getElem?_map, hx]
  rfl
/-- A Cap's six cells are written at its place. -/
theorem crow_set {l : List Q} {i : Nat} {x : Q} (hx : l[i]? = some x) (y : Q) : ((((((crow l).set (i * 6) (.int .i64 y.c.obj)).set (i * 6 + 1) (.int .i64 y.c.rights)).set (i * 6 + 2) (.int .i64 y.c.lo)).set (i * 6 + 3) (.int .i64 y.c.n)).set (i * 6 + 4) (.int .i64 y.c.root.1)).set (i * 6 + 5) (.int .i64 y.c.root.2) = crow (l.set i y) := by
  have hW : ∀ c ∈ (l.map fun x => x.c.cells), c.length = 6 := by intro c hc; obtain ⟨x, _, rfl⟩ := List.mem_map.1 hc; rfl
  have e0 : (l.map fun x => x.c.cells)[i]? = some x.c.cells := by rw [List.getElem?_map, hx]; rfl
  unfold crow
  obtain ⟨e1, r1, g1⟩ := rows_set hW e0 0 (by decide) (.int .i64 y.c.obj)
  obtain ⟨e2, r2, g2⟩ := rows_set r1 g1 1 (by decide) (.int .i64 y.c.rights)
  obtain ⟨e3, r3, g3⟩ := rows_set r2 g2 2 (by decide) (.int .i64 y.c.lo)
  obtain ⟨e4, r4, g4⟩ := rows_set r3 g3 3 (by decide) (.int .i64 y.c.n)
  obtain ⟨e5, r5, g5⟩ := rows_set r4 g4 4 (by decide) (.int .i64 y.c.root.1)
  obtain ⟨e6, r6, g6⟩ := rows_set r5 g5 5 (by decide) (.int .i64 y.c.root.2)
  rw [show i * 6 = i * 6 + 0 from rfl, e1]
  simp only [Nat.add_zero]
  rw [e2, e3, e4, e5, e6, List.set_set, List.set_set, List.set_set, List.set_set, List.set_set, List.map_set]
  rfl
theorem mk_at {w : World} {e n cap : Nat} {A : Option Addr} {f : Nat → Value} (h : Vec w e 1 A n cap (mk n f)) {i : Nat} (hi : i < n) : ∃ g, A = some ⟨g, 0, none⟩ ∧ w.cell? ⟨g, i, none⟩ = some (f i) := by
  obtain ⟨g, cur, hA, hb, _, hc, ht⟩ := h.at_ (by omega)
  refine ⟨g, hA, ?_⟩
  rw [hb.cell]
  have e1 : (cur.take (n * 1))[i]? = (mk n f)[i]? := by rw [ht]
  rw [List.getElem?_take, if_pos (by omega), mk_get hi] at e1
  exact e1
theorem env_is (h : IsDs w S) (e : Int) (v : Bool) (hv : (decide (0 ≤ e) && decide (e < S.n)) = v) : Calls Tryz.prog 188 #[.pointer (some ⟨S.s, 0, none⟩), .int .i64 e] w fun e' w' => e' = .returned (.bool v) ∧ w = w' := by
  have hc : w.cell? ⟨S.s, 0, none⟩ = some (.slice S.AN S.n S.cN) := h.obj.cell 0
  by_cases h0 : 0 ≤ e
  · obtain rfl : v = decide (e < S.n) := by rw [← hv]; simp [h0]
    clear hv
    go_enter Tryz.func188, Tryz.ntmps188
    go_wp2
    go_ret
    exact ⟨rfl, rfl⟩
  · obtain rfl : v = false := by rw [← hv]; simp [h0]
    clear hv
    go_enter Tryz.func188, Tryz.ntmps188
    go_wp2
    go_ret
    exact ⟨rfl, rfl⟩
/-- What a Cap's being added may turn. -/
def AddM (S : Ds) (e : Nat) : Nat → Prop := fun b => Own (S.A e) b ∨ b = S.r e
theorem add_mine {e : Nat} (he : e < S.n) : ∀ b, AddM S e b → S.Mine b := fun b hb => .inr (.inr (.inr ⟨e, he, hb.elim (fun h => .inr (.inl h)) (fun h => .inr (.inr h))⟩))
theorem up_len {T : St} {e i : Nat} {x : Q} (j : Nat) : (up T e i x j).length = (T j).length := by
  unfold up
  split
  · rename_i h; rw [List.length_set, h]
  · rfl
set_option maxRecDepth 100000 in
set_option maxHeartbeats 4000000 in
theorem add_is (h : IsDs w S) (e : Nat) (he : e < S.n) (c : Cp) (i : Nat) (x : Q) (hx : (S.T e)[i]? = some x) (hf : (nq x).free = true) (hb : ∀ (j : Nat) (y : Q), j < i → (S.T e)[j]? = some y → (nq y).free = false) :
    Calls Tryz.prog 190 #[.pointer (some ⟨S.s, 0, none⟩), .int .i64 e, cval c] w fun e' w' => e' = .returned (.tuple #[.int .i64 (i + 256 * (x.gen : Int)), .int .i64 0]) ∧ IsDs w' { S with T := up S.T e i ⟨x.gen, true, c⟩ } ∧ Keep (AddM S e) w w' := by
  have hN := h.nm e he
  have hx' : ((S.T e).map nq)[i]? = some (nq x) := by rw [List.getElem?_map, hx]; rfl
  have hi : i < 32 := by have := get_lt hx; rw [h.t32 e he] at this; exact this
  have hcall := fun W (k : Keep Nob w W) => Ref.add_yes (hN.nob k) hx' hf (fun j y hj hy => by
    rw [List.getElem?_map] at hy
    obtain ⟨z, hz, rfl⟩ := Option.map_eq_some_iff.1 hy
    exact hb j z hj hz)
  have hge : (x.gen : Int) ≤ 1000000 := by
    have := (free_off hf).2
    simp [nq] at this
    omega
  have hmod : ((i : Int) + 256 * (x.gen : Int)) % 256 = i := by omega
  have hgen0 : 0 ≤ (x.gen : Int) := by omega
  have k1 := (Keep.refl Nob w).alloc (.cells #[.int .i64 c.obj, .int .i64 c.rights, .int .i64 c.lo, .int .i64 c.n, .int .i64 c.root.1, .int .i64 c.root.2] 255)
  have b1 := Blk.new w 255 [.int .i64 c.obj, .int .i64 c.rights, .int .i64 c.lo, .int .i64 c.n, .int .i64 c.root.1, .int .i64 c.root.2]
  have h1 := h.nob k1
  obtain ⟨g, hg, pg⟩ := mk_at h1.nrow he
  have c0 : (w.alloc (.cells #[.int .i64 c.obj, .int .i64 c.rights, .int .i64 c.lo, .int .i64 c.n, .int .i64 c.root.1, .int .i64 c.root.2] 255)).cell? ⟨S.s, 0, none⟩ = some (.slice S.AN S.n S.cN) := h1.obj.cell 0
  rw [hg] at c0
  have hcl := hcall _ k1
  have hn40 := h.n40
  have HH := Lib.hid (And.intro h (And.intro h1 (And.intro hx hN)))
  have HB := Lib.hid b1
  have HK := Lib.hid k1
  clear hcall hb hf hx' hg h h1 b1 k1 hN hx
  have e1 : (nq x).gen = x.gen := rfl
  rw [e1] at hcl
  unfold cval
  go_enter Tryz.func190, Tryz.ntmps190
  go_wp2_with fail
  refine hcl.mono ?_; rintro e' w1 ⟨rfl, hN1, k2, hs2⟩
  have hm2 : ∀ b, Own (S.A e) b → ¬ (b = w.heap.size) := fun b hb e2 => by have := (HH.out.2.2.2).row.lt b hb; omega
  have hB2 := HB.out.keep k2 (fun m => hm2 _ m rfl)
  have hrow := HH.out.2.1.nm e he
  have off : ∀ {b : Nat} {t : TypeId} {cs : List Value}, Blk (w.alloc (.cells #[.int .i64 c.obj, .int .i64 c.rights, .int .i64 c.lo, .int .i64 c.n, .int .i64 c.root.1, .int .i64 c.root.2] 255)) b t cs → t ≠ 378 → ¬ Own (S.A e) b := fun hb ht ho => by
    obtain ⟨cur, hc⟩ := hrow.row.blk ho
    exact hb.ne_ hc ht rfl
  have offV : ∀ {t sz n cap : Nat} {A : Option Addr} {xs : List Value}, Vec (w.alloc (.cells #[.int .i64 c.obj, .int .i64 c.rights, .int .i64 c.lo, .int .i64 c.n, .int .i64 c.root.1, .int .i64 c.root.2] 255)) t sz A n cap xs → t ≠ 378 → ∀ b, Own A b → ¬ Own (S.A e) b := fun hv ht b hb => by
    obtain ⟨cur, hc⟩ := hv.blk hb
    exact off hc ht
  have o2 := HH.out.2.1.obj.keep k2 (off HH.out.2.1.obj (by decide))
  have n2 := HH.out.2.1.nrow.keep k2 (offV HH.out.2.1.nrow (by decide))
  have cr2 := HH.out.2.1.cr.keep k2 (offV HH.out.2.1.cr (by decide))
  have cp2 := fun j (hj : j < S.n) => (HH.out.2.1.cp j hj).keep k2 (off (HH.out.2.1.cp j hj) (by decide))
  have nm2 := fun j (hj : j < S.n) (hje : j ≠ e) => (HH.out.2.1.nm j hj).keep k2 (off (HH.out.2.1.nm j hj).obj (by decide)) (fun b hb hb2 => HH.out.2.1.ainj j e hj he hje b hb hb2)
  obtain ⟨gc, hgc, pgc⟩ := mk_at cr2 he
  have d1 : w1.cell? ⟨S.s, 1, none⟩ = some (.slice S.AC S.n S.cC) := o2.cell 1
  rw [hgc] at d1
  have x0 := hB2.cell 0
  have x1 := hB2.cell 1
  have x2 := hB2.cell 2
  have x3 := hB2.cell 3
  have x4 := hB2.cell 4
  have x5 := hB2.cell 5
  simp only [List.getElem?_cons_zero, List.getElem?_cons_succ] at x0 x1 x2 x3 x4 x5
  have hbe := cp2 e he
  have rc : ∀ j, j < 6 → w1.cell? ⟨S.r e, i * 6 + j, none⟩ = x.c.cells[j]? := fun j hj => by rw [hbe.cell, crow_get HH.out.2.2.1 hj]
  have y0 := rc 0 (by decide)
  have y1 := rc 1 (by decide)
  have y2 := rc 2 (by decide)
  have y3 := rc 3 (by decide)
  have y4 := rc 4 (by decide)
  have y5 := rc 5 (by decide)
  simp only [Cp.cells, Nat.add_zero, List.getElem?_cons_zero, List.getElem?_cons_succ] at y0 y1 y2 y3 y4 y5
  have f0 := hbe.frozen (i * 6)
  have f1 := hbe.frozen (i * 6 + 1)
  have f2 := hbe.frozen (i * 6 + 2)
  have f3 := hbe.frozen (i * 6 + 3)
  have f4 := hbe.frozen (i * 6 + 4)
  have f5 := hbe.frozen (i * 6 + 5)
  have HF := Lib.hid (And.intro o2 (And.intro n2 (And.intro cr2 (And.intro cp2 (And.intro nm2 (And.intro hN1 (And.intro k2 hs2)))))))
  clear o2 n2 cr2 cp2 nm2 hN1 k2 hs2 hrow off offV hm2 hB2 hbe rc hcl pg c0 hgc
  go_wp2_with fail
  go_region
  clear x0 x1 x2 x3 x4 x5 y0 y1 y2 y3 y4 y5 f0 f1 f2 f3 f4 f5 d1 pgc
  obtain ⟨o2, n2, cr2, cp2, nm2, hN1, k2, hs2⟩ := HF.out
  have hbe := cp2 e he
  have hlt := HH.out.1
  obtain ⟨hS, _, hx, _⟩ := HH.out
  have k3 : Keep (· = S.r e) w1 ((((((w1.setCell ⟨S.r e, i * 6, none⟩ (.int .i64 c.obj)).setCell ⟨S.r e, i * 6 + 1, none⟩ (.int .i64 c.rights)).setCell ⟨S.r e, i * 6 + 2, none⟩ (.int .i64 c.lo)).setCell ⟨S.r e, i * 6 + 3, none⟩ (.int .i64 c.n)).setCell ⟨S.r e, i * 6 + 4, none⟩ (.int .i64 c.root.1)).setCell ⟨S.r e, i * 6 + 5, none⟩ (.int .i64 c.root.2)).drew :=
    (((((((Keep.refl (· = S.r e) w1).setCell _ _ (fun _ => rfl)).setCell _ _ (fun _ => rfl)).setCell _ _ (fun _ => rfl)).setCell _ _ (fun _ => rfl)).setCell _ _ (fun _ => rfl)).setCell _ _ (fun _ => rfl)).drew
  have hb6 := ((((((hbe.setCell (i * 6) (.int .i64 c.obj)).setCell (i * 6 + 1) (.int .i64 c.rights)).setCell (i * 6 + 2) (.int .i64 c.lo)).setCell (i * 6 + 3) (.int .i64 c.n)).setCell (i * 6 + 4) (.int .i64 c.root.1)).setCell (i * 6 + 5) (.int .i64 c.root.2)).drew
  rw [crow_set hx ⟨x.gen, true, c⟩] at hb6
  generalize ((((((w1.setCell ⟨S.r e, i * 6, none⟩ (.int .i64 c.obj)).setCell ⟨S.r e, i * 6 + 1, none⟩ (.int .i64 c.rights)).setCell ⟨S.r e, i * 6 + 2, none⟩ (.int .i64 c.lo)).setCell ⟨S.r e, i * 6 + 3, none⟩ (.int .i64 c.n)).setCell ⟨S.r e, i * 6 + 4, none⟩ (.int .i64 c.root.1)).setCell ⟨S.r e, i * 6 + 5, none⟩ (.int .i64 c.root.2)).drew = V at *
  have vb : ∀ {b : Nat} {t : TypeId} {cs : List Value}, Blk w1 b t cs → t ≠ 255 → Blk V b t cs := fun hb ht => hb.keep k3 (hb.ne_ hbe ht)
  have vv : ∀ {t sz n cap : Nat} {A : Option Addr} {xs : List Value}, Vec w1 t sz A n cap xs → t ≠ 255 → Vec V t sz A n cap xs := fun hv ht => hv.keep k3 (fun b hb e2 => by
    obtain ⟨cur, hc⟩ := hv.blk hb
    exact hc.ne_ hbe ht e2)
  have fin : IsDs V { S with T := up S.T e i ⟨x.gen, true, c⟩ } := by
    refine ⟨vb o2 (by decide), vv n2 (by decide), vv cr2 (by decide), fun j hj => ?_, fun j hj => ?_, hS.ainj, hS.rinj, fun j hj => by rw [up_len]; exact hS.t32 j hj, hS.n40⟩
    · by_cases hje : j = e
      · subst hje
        have e3 : List.map nq (up S.T j i ⟨x.gen, true, c⟩ j) = ((List.map nq (S.T j)).set i ⟨x.gen, true, []⟩) := by
          unfold up
          rw [if_pos rfl, List.map_set]
          rfl
        dsimp only
        rw [e3]
        exact ⟨vb hN1.obj (by decide), vv hN1.row (by decide), hN1.pl⟩
      · have e3 : up S.T e i ⟨x.gen, true, c⟩ j = S.T j := by unfold up; rw [if_neg hje]
        dsimp only
        rw [e3]
        have := nm2 j hj hje
        exact ⟨vb this.obj (by decide), vv this.row (by decide), this.pl⟩
    · by_cases hje : j = e
      · subst hje
        have e3 : up S.T j i ⟨x.gen, true, c⟩ j = (S.T j).set i ⟨x.gen, true, c⟩ := by unfold up; rw [if_pos rfl]
        dsimp only
        rw [e3]
        exact hb6
      · have e3 : up S.T e i ⟨x.gen, true, c⟩ j = S.T j := by unfold up; rw [if_neg hje]
        dsimp only
        rw [e3]
        exact (cp2 j hj).keep k3 (fun e2 => hje (hS.rinj j e hj he e2))
  have kk : Keep (AddM S e) w V := ((HK.out.mono (fun _ _ f => f.elim)).trans k2 (fun _ _ m => Or.inl m)).trans k3 (fun _ _ m => Or.inr m)
  have FF := Lib.hid (And.intro fin kk)
  clear fin kk k3 hb6 vb vv o2 n2 cr2 cp2 nm2 hN1 k2 hs2 hbe hlt hS hx
  go_wp2
  go_ret2
  exact ⟨rfl, FF.out.1, FF.out.2⟩
/-- What may be put: an environment that there is, rights and a range in bounds. -/
theorem put_is (h : IsDs w S) (e : Nat) (he : e < S.n) (c : Cp) (h1 : 0 ≤ c.rights ∧ c.rights ≤ 7) (h2 : 0 ≤ c.lo ∧ c.lo ≤ 65536) (h3 : 0 ≤ c.n ∧ c.n ≤ 65536) (i : Nat) (x : Q) (hx : (S.T e)[i]? = some x) (hf : (nq x).free = true) (hb : ∀ (j : Nat) (y : Q), j < i → (S.T e)[j]? = some y → (nq y).free = false) :
    Calls Tryz.prog 167 #[.pointer (some ⟨S.s, 0, none⟩), .int .i64 e, cval c] w fun e' w' => e' = .returned (.tuple #[.int .i64 (i + 256 * (x.gen : Int)), .int .i64 0]) ∧ IsDs w' { S with T := up S.T e i ⟨x.gen, true, ⟨c.obj, c.rights, c.lo, c.n, (0, 0)⟩⟩ } ∧ Keep (AddM S e) w w' := by
  have hadd := fun W (k : Keep Nob w W) => add_is (h.nob k) e he ⟨c.obj, c.rights, c.lo, c.n, (0, 0)⟩ i x hx hf hb
  have henv := fun W (k : Keep Nob w W) => env_is (h.nob k) e true (by simp [he])
  obtain ⟨a1, a2⟩ := h1
  obtain ⟨a3, a4⟩ := h2
  obtain ⟨a5, a6⟩ := h3
  unfold cval at hadd ⊢
  clear h hx hf hb
  dsimp only at hadd
  generalize c.obj = co at *
  generalize c.rights = cr at *
  generalize c.lo = cl at *
  generalize c.n = cn at *
  generalize c.root.1 = c4 at *
  generalize c.root.2 = c5 at *
  go_enter Tryz.func167, Tryz.ntmps167
  go_wp2_with fail
  refine (henv _ ((Keep.refl Nob w).alloc _)).mono ?_; rintro e' w1 ⟨rfl, rfl⟩
  go_wp2_with fail
  refine (hadd _ ((Keep.refl Nob w).alloc _)).mono ?_; rintro e' w2 ⟨rfl, h2, k2⟩
  have kk : Keep (AddM S e) w w2 := (((Keep.refl Nob w).alloc _).mono (fun _ _ f => f.elim)).trans k2 (fun _ _ m => m)
  clear hadd henv k2
  go_wp2
  go_ret2
  exact ⟨rfl, h2, kk⟩
theorem alC (W : World) : (Instr.alloc 255 true (.tuple #[])).run Tryz.prog W = .ok (.pointer (some ⟨W.heap.size, 0, none⟩)) (W.alloc (.cells zcap.cells.toArray 255)) := by
  go_simp
  rfl
theorem infoC_ : (Tryz.prog.info? 255).map (·.size) = some 6 := by kernel_rfl
theorem flatC : Co.Flat 255 6 zcap.cells := ⟨⟨_, Tryz.underlying255, rfl⟩, infoC_, alC, rfl⟩
theorem cellsC (c : Cp) : Co.Cells 6 c.cells := ⟨rfl, by intro v hv; simp [Cp.cells] at hv; rcases hv with rfl | rfl | rfl | rfl | rfl | rfl <;> rfl⟩
set_option maxRecDepth 100000 in
set_option maxHeartbeats 2000000 in
theorem get_yes (h : IsDs w S) {a b : Int} (c : Cp) (hc : Has S.T S.n (a, b) c) :
    Calls Tryz.prog 187 #[.pointer (some ⟨S.s, 0, none⟩), .int .i64 a, .int .i64 b] w fun e' w' => e' = .returned (.tuple #[cval c, .int .i64 0]) ∧ Keep Nob w w' := by
  obtain ⟨e, i, x, hab, he, hx, hon, rfl⟩ := hc
  simp only [Prod.mk.injEq] at hab
  obtain ⟨rfl, hb⟩ := hab
  have hi : i < 32 := by have := get_lt hx; rw [h.t32 e he] at this; exact this
  have hx' : ((S.T e).map nq)[i]? = some (nq x) := by rw [List.getElem?_map, hx]; rfl
  have hgen := (h.nm e he).pl.gen (nq x) (get_mem hx')
  have hgen : x.gen ≤ 1000001 := hgen
  have henv := fun W (k : Keep Nob w W) => env_is (h.nob k) e true (by simp [he])
  have hhas := fun W (k : Keep Nob w W) => Ref.has_yes (a := b) ((h.nm e he).nob k) hx' hon hb
  have hmod : b % 256 = i := by omega
  have hn40 := h.n40
  have H := Lib.hid h
  have sf := Lib.hid (fun W (k : Keep Nob w W) => And.intro ((h.nob k).obj.cell 0) (And.intro ((h.nob k).obj.cell 1) (And.intro (mk_at (h.nob k).nrow he) (And.intro (mk_at (h.nob k).cr he) (fun j (hj : j < 6) => (show W.cell? ⟨S.r e, i * 6 + j, none⟩ = x.c.cells[j]? from by rw [((h.nob k).cp e he).cell, crow_get hx hj]))))))
  clear h hx hx' hgen hon hb
  go_enter Tryz.func187, Tryz.ntmps187
  go_wp2_with (refine flatC.wpList_al rfl rfl ?_; intro w1 hb1 hk1 hs1; clear hs1)
  refine (henv _ hk1).mono ?_; rintro e' w2 ⟨rfl, rfl⟩
  obtain ⟨c0, c1, ⟨gn, hgn, pn⟩, ⟨gc, hgc, pc⟩, rc⟩ := sf.out _ hk1
  simp only [List.getElem?_cons_zero, List.getElem?_cons_succ] at c0 c1
  rw [hgn] at c0
  rw [hgc] at c1
  have y0 := rc 0 (by decide)
  have y1 := rc 1 (by decide)
  have y2 := rc 2 (by decide)
  have y3 := rc 3 (by decide)
  have y4 := rc 4 (by decide)
  have y5 := rc 5 (by decide)
  simp only [Cp.cells, Nat.add_zero, List.getElem?_cons_zero, List.getElem?_cons_succ] at y0 y1 y2 y3 y4 y5
  clear rc henv hgn hgc
  go_wp2_with fail
  refine (hhas _ hk1).mono ?_; rintro e' w2 ⟨rfl, rfl⟩
  clear hhas
  go_wp2_with (refine flatC.wpList_st rfl rfl rfl rfl (cellsC x.c) (cellsC zcap) hb1 ?_; intro w3 hb3 hk3 hs3; clear hs3)
  refine bodyPost_ret (v := .tuple #[.agg x.c.cells.toArray, .int .i64 0]) (flatC.results_pair rfl _ (cellsC x.c) rfl hb3 _ rfl) rfl ?_
  exact ⟨rfl, hk1.trans hk3 (fun b hb e2 => by have e2 : b = w.heap.size := e2; omega)⟩
set_option maxRecDepth 100000 in
set_option maxHeartbeats 2000000 in
theorem get_no (h : IsDs w S) {a b : Int} (hno : ∀ c, ¬ Has S.T S.n (a, b) c) :
    Calls Tryz.prog 187 #[.pointer (some ⟨S.s, 0, none⟩), .int .i64 a, .int .i64 b] w fun e' w' => e' = .returned (.tuple #[cval zcap, .int .i64 2]) ∧ Keep Nob w w' := by
  by_cases hin : 0 ≤ a ∧ a < S.n
  · obtain ⟨e, he0⟩ := Int.eq_ofNat_of_zero_le hin.1
    subst he0
    have he : e < S.n := by omega
    have henv := fun W (k : Keep Nob w W) => env_is (h.nob k) e true (by simp [he])
    have hhas := fun W (k : Keep Nob w W) => Ref.has_no (a := b) ((h.nm e he).nob k) (fun i q hq hon hb => by
      rw [List.getElem?_map] at hq
      obtain ⟨x, hx, rfl⟩ := Option.map_eq_some_iff.1 hq
      exact hno x.c ⟨e, i, x, by rw [hb]; rfl, he, hx, hon, rfl⟩)
    have hn40 := h.n40
    have sf := Lib.hid (fun W (k : Keep Nob w W) => And.intro ((h.nob k).obj.cell 0) (mk_at (h.nob k).nrow he))
    clear h hno hin
    go_enter Tryz.func187, Tryz.ntmps187
    go_wp2_with (refine flatC.wpList_al rfl rfl ?_; intro w1 hb1 hk1 hs1; clear hs1)
    refine (henv _ hk1).mono ?_; rintro e' w2 ⟨rfl, rfl⟩
    obtain ⟨c0, gn, hgn, pn⟩ := sf.out _ hk1
    simp only [List.getElem?_cons_zero, List.getElem?_cons_succ] at c0
    rw [hgn] at c0
    clear henv hgn
    go_wp2_with fail
    refine (hhas _ hk1).mono ?_; rintro e' w2 ⟨rfl, rfl⟩
    clear hhas
    go_wp2_with (refine flatC.wpList_st rfl rfl rfl rfl (cellsC zcap) (cellsC zcap) hb1 ?_; intro w3 hb3 hk3 hs3; clear hs3)
    refine bodyPost_ret (v := .tuple #[.agg zcap.cells.toArray, .int .i64 2]) (flatC.results_pair rfl _ (cellsC zcap) rfl hb3 _ rfl) rfl ?_
    exact ⟨rfl, hk1.trans hk3 (fun b hb e2 => by have e2 : b = w.heap.size := e2; omega)⟩
  · have henv := fun W (k : Keep Nob w W) => env_is (h.nob k) a false (by
      rw [Bool.eq_false_iff]
      intro hh
      simp at hh
      exact hin hh)
    clear h hno hin
    go_enter Tryz.func187, Tryz.ntmps187
    go_wp2_with (refine flatC.wpList_al rfl rfl ?_; intro w1 hb1 hk1 hs1; clear hs1)
    refine (henv _ hk1).mono ?_; rintro e' w2 ⟨rfl, rfl⟩
    go_wp2_with (refine flatC.wpList_st rfl rfl rfl rfl (cellsC zcap) (cellsC zcap) hb1 ?_; intro w3 hb3 hk3 hs3; clear hs3)
    refine bodyPost_ret (v := .tuple #[.agg zcap.cells.toArray, .int .i64 2]) (flatC.results_pair rfl _ (cellsC zcap) rfl hb3 _ rfl) rfl ?_
    exact ⟨rfl, hk1.trans hk3 (fun b hb e2 => by have e2 : b = w.heap.size := e2; omega)⟩
end
end Go.Proofs.YtgcikpgcoemfnaaGreat.Dk
namespace Go.Proofs.YtgcikpgcoemfnaaGreat.Pn
open Go.RowKit
set_option linter.unusedVariables false
set_option linter.unusedSimpArgs false
theorem names_nq (l : List Cp) (hl : l.length ≤ 32) : names ((rowQ l).map Dk.nq) (rowQ l).length = mk l.length fun i => (i : Int) + 256 := by
  rw [rowQ_len hl, names_row (fun _ => ⟨rfl, rfl⟩) l hl 32 (Nat.le_refl _), Nat.min_eq_right hl]
end Go.Proofs.YtgcikpgcoemfnaaGreat.Pn
