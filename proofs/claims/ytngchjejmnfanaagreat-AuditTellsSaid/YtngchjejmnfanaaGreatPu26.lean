/- Texts CoRF, CoRR, CoRI, CoW, CoM, CoL, Aud0, PlM, CoN, Aud1, Aud7, CoB, Blq, Aud9, packed. -/
import Derived.BigRegion
import Derived.Test.YtngchjejmnfanaaGreatPu0
import Derived.Test.YtngchjejmnfanaaGreatPu3
import Derived.Test.YtngchjejmnfanaaGreatPu4
import Derived.Test.YtngchjejmnfanaaGreatPu19
import Derived.Test.YtngchjejmnfanaaGreatPu20
import Derived.Test.YtngchjejmnfanaaGreatPu1
import Derived.Test.YtngchjejmnfanaaGreatPu7
import Derived.Test.YtngchjejmnfanaaGreatPu12
import Derived.Test.YtngchjejmnfanaaGreatPu22
import Derived.Test.YtngchjejmnfanaaGreatPu23
import Derived.Test.YtngchjejmnfanaaGreatPu13
import Derived.Test.YtngchjejmnfanaaGreatPu15
import Derived.Test.YtngchjejmnfanaaGreatPu14
import Derived.Test.YtngchjejmnfanaaGreatPu17
import Derived.Test.YtngchjejmnfanaaGreatPu18
import Derived.Test.YtngchjejmnfanaaGreatPu25
import Derived.Test.YtngchjejmnfanaaGreatPu24
import Derived.Test.YtngchjejmnfanaaGreatPu5
import Derived.Test.YtngchjejmnfanaaGreatPu8
import Derived.Test.YtngchjejmnfanaaGreatPu21
import Derived.Test.YtngchjejmnfanaaGreatPu2
import Derived.Test.YtngchjejmnfanaaGreatPu9
import Derived.Test.YtngchjejmnfanaaGreatPu10
namespace Go.Proofs.YtngchjejmnfanaaGreat.Co
open Go.RowKit Go.MapKept
set_option linter.unusedVariables false
set_option linter.unusedSimpArgs false
set_option maxRecDepth 100000 in
set_option maxHeartbeats 4000000 in
theorem readF_is {w : World} {K : Kn} {C : Cm} {src : Src} (h : Kc w K C src) (r : Rf) (ho : RecOk r) (v : List Int) (d : Int) (bad' : List Rf) (hv : pread Fi.dcd Fi.noP K.xs src C.brs.length C.bad r = ((v, d), bad')) :
    Calls Tryz.prog 147 #[.pointer (some ⟨C.p, 0, none⟩), .agg #[.int .i64 r.1, .int .i64 r.2], .func (.func 148) #[] #[]] w fun e w' => e = .returned (.tuple #[.agg (ints v).toArray, .int .i64 d]) ∧ Ct w K K C { C with bad := bad' } src w' := by
  have hz : v.length = 4 := by
    have e : v = (pread Fi.dcd Fi.noP K.xs src C.brs.length C.bad r).1.1 := by rw [hv]
    rw [e]
    by_cases hbad : r ∈ C.bad
    · rw [pread_bad hbad]; rfl
    · cases hw : wher C.brs.length r with
      | none => rw [pread_none hbad hw]; rfl
      | some x => rw [pread_some hbad hw rfl]; exact Fi.dcd_len _
  have k1 := (Keep.refl Nob w).alloc (.cells #[.int .i64 r.1, .int .i64 r.2] 84)
  have HH := Lib.hid h
  have HO := Lib.hid ho
  have HV := Lib.hid hv
  clear h ho hv
  obtain ⟨x, hx⟩ : ∃ x, rch C r = x := ⟨_, rfl⟩
  obtain ⟨⟨a, b, m⟩, ok⟩ := x
  have hreach := fun W (kk : Keep Nob w W) => reach_is (HH.out.nob kk).c r HO.out a b m ok hx
  have HX := Lib.hid hx
  clear hx
  generalize hr1 : r.1 = r1 at *
  generalize hr2 : r.2 = r2 at *
  go_enter Tryz.func147, Tryz.ntmps147
  have bR := Blk.new w 84 [.int .i64 r1, .int .i64 r2]
  go_wp2_with (refine flatF.wpList_al rfl rfl ?_; intro w1 hb1 hk1 hs1; have bR1 := bR.nob hk1; have c0 := bR1.cell 0; have c1 := bR1.cell 1; simp only [List.getElem?_cons_zero, List.getElem?_cons_succ] at c0 c1)
  have kA := k1.trans hk1 (fun _ _ f => f)
  have hq0 : w.heap.size + 1 = (w.alloc (.cells #[.int .i64 r1, .int .i64 r2] 84)).heap.size := by simp
  rw [← hq0] at hb1
  clear hs1 k1 bR hk1 hq0 c0 c1
  refine (hreach _ kA).mono ?_; rintro e w2 ⟨rfl, k2⟩
  have kB := kA.trans k2 (fun _ _ f => f)
  have hb2 := hb1.nob k2
  have bR2 := bR1.nob k2
  clear hreach kA k2 hb1 bR1
  generalize hq : w.heap.size = q at *
  have HQ := Lib.hid hq
  clear hq
  cases ok with
  | false =>
    have hp : ((v, d), bad') = ((Fi.noP, 2), C.bad) := by
      rw [← HV.out]
      have hx := HX.out
      unfold rch at hx
      by_cases hbad : r ∈ C.bad
      · exact pread_bad hbad
      · rw [if_neg hbad] at hx
        cases hw : wher C.brs.length r with
        | none => exact pread_none hbad hw
        | some x => rw [hw] at hx; simp at hx
    simp only [Prod.mk.injEq] at hp
    obtain ⟨⟨rfl, rfl⟩, rfl⟩ := hp
    go_wp2_with (first
      | (refine flatF.wpList_al rfl rfl ?_; intro w3 hb3 hk3 hs3; have hb2 := (hb2.alloc (.cells #[.int .i64 a, .int .i64 b, .int .i64 m] 232)).nob hk3; have hk := (kB.alloc (.cells #[.int .i64 a, .int .i64 b, .int .i64 m] 232)).trans hk3 (fun _ _ f => f))
      | (refine flatF.wpList_ld rfl rfl rfl (cellsI rfl) hb3 ?_)
      | (refine flatF.wpList_st rfl rfl rfl rfl (cellsI rfl) (cellsI rfl) hb2 ?_; intro w4 hb4 hk4 hs4))
    refine bodyPost_ret (v := .tuple #[.agg (ints Fi.noP).toArray, .int .i64 2]) (flatF.results_pair rfl _ (cellsI rfl) rfl hb4 _ rfl) rfl ?_
    exact ⟨rfl, Ct.still HH.out (hk.trans hk4 (fun b hb e => by have e : b = q + 1 := e; have := HQ.out; omega))⟩
  | true =>
    have hx := HX.out
    have hnb : r ∉ C.bad := fun hbad => by unfold rch at hx; rw [if_pos hbad] at hx; simp at hx
    obtain ⟨x, hw⟩ : ∃ x, wher C.brs.length r = some x := by
      cases hw : wher C.brs.length r with
      | none => unfold rch at hx; rw [if_neg hnb, hw] at hx; simp at hx
      | some x => exact ⟨x, rfl⟩
    have hp : ((v, d), bad') = ((Fi.dcd (got K.xs src x)), if (Fi.dcd (got K.xs src x)).2 = 2 then ins r C.bad else C.bad) := by
      rw [← HV.out]
      exact pread_some hnb hw rfl
    have hin := wher_in hw
    unfold rch at hx
    rw [if_neg hnb, hw] at hx
    simp only [Prod.mk.injEq, and_true] at hx
    obtain ⟨ha, hb, hm⟩ := hx
    have hload := fun W (kk : Keep Nob w W) => load_is (HH.out.nob kk) x.1 x.2.1 x.2.2 hin.1 hin.2.1 a ha _ rfl
    rw [hb, hm] at hload
    obtain ⟨bs, hbs⟩ : ∃ bs, got K.xs src x = bs := ⟨_, rfl⟩
    rw [show (x.1, x.2.1, x.2.2) = x from rfl, hbs] at hload
    rw [hbs] at hp
    have hp1 : Fi.dcd bs = (v, d) := by
      have := congrArg Prod.fst hp
      exact this.symm
    have hp2 : bad' = if d = 2 then ins r C.bad else C.bad := by
      have := congrArg Prod.snd hp
      rw [hp1] at this
      exact this
    have HNB := Lib.hid (And.intro hnb (show wher C.brs.length r ≠ none from by rw [hw]; simp))
    have hbl : bs.length ≤ 40 := by
      rw [← hbs]
      unfold got
      split
      · exact Nat.le_trans (List.length_take_le _ _) hin.2.2.1
      · simp
    have HBL := Lib.hid hbl
    clear hp hnb hw hin hbs ha hb hm HV HX hbl
    have k3 := kB.alloc (.cells #[.int .i64 a, .int .i64 b, .int .i64 m] 232)
    have hT := hb2.alloc (.cells #[.int .i64 a, .int .i64 b, .int .i64 m] 232)
    have hR := bR2.alloc (.cells #[.int .i64 a, .int .i64 b, .int .i64 m] 232)
    go_wp2_with fail
    refine (hload _ k3).mono ?_; rintro e w3 ⟨A', c', rfl, hrd, t⟩
    have hK3 := HH.out.nob k3
    have hT3 := hK3.k.offT hT (by decide) t.keep
    have hR3 := hK3.k.offT hR (by decide) t.keep
    have hct := Ct.pre k3 (Ct.of_to' hK3 t)
    clear hload hT hR hb2 bR2 k3 t hK3 kB
    go_wp2_with fail
    refine (Fi.decode_is A' bs.length c' bs w3 hrd (by have := HBL.out; omega) v d hp1).mono ?_; rintro e w4 ⟨rfl, k4⟩
    have hct4 := hct.nob k4
    have hT4 := hT3.nob k4
    have hR4 := hR3.nob k4
    clear hct hT3 hR3 k4 hrd
    have hlt4 := hT4.lt
    unfold Fi.pv
    have hpl := HH.out.c.lt.1
    have hal := HH.out.a_lt
    have hge : w.heap.size ≤ w4.heap.size := hct4.keep.size
    have HG := Lib.hid (And.intro hpl (And.intro hal hge))
    clear hpl hal hge
    by_cases hd2 : d = 2
    · subst hd2
      rw [if_pos rfl] at hp2
      subst hp2
      go_wp2_with (first
        | (refine flatF.wpList_al rfl rfl ?_; intro w5 hb5 hk5 hs5; clear hs5)
        | (refine flatF.wpList_st rfl rfl rfl rfl (cellsI hz) (cellsI rfl) hb5 ?_; intro w6 hb6 hk6 hs6; clear hs6))
      have hct6 := (hct4.nob hk5).post hb5 (by decide) (by decide) HG.out.2.2 HG.out.1 HG.out.2.1 hk6
      have hT6 := (hT4.nob hk5).keep hk6 (fun e => by omega)
      have hR6 := (hR4.nob hk5).keep hk6 (fun e => by omega)
      obtain ⟨w7, hrun, hct7, hsz, hkb⟩ := (hct6.is.nob (Keep.nobdrew _)).spoil HO.out HNB.out.1 HNB.out.2
      unfold rval at hrun
      rw [hr1, hr2] at hrun
      have c4 : w6.cell? ⟨C.p, 4, none⟩ = some (.map (some C.b)) := hct6.is.c.obj.cell 4
      have c0 := hR6.cell 0
      have c1 := hR6.cell 1
      simp only [List.getElem?_cons_zero, List.getElem?_cons_succ] at c0 c1
      go_region
      have hct7' := Ct.pre (Keep.nobdrew w6) hct7
      have hT7 := Ct.off hct6.is hct7' hT6 (by decide)
      have hb7 := Ct.off hct6.is hct7' hb6 (by decide)
      have hct8 := Ct.trans hct6 hct7' (fun _ m => .inl m) rfl (fun _ m _ => m)
      clear hrun hct7 hsz hkb c4 c0 c1 hct7' hR6
      go_wp2_with (first
        | (refine flatF.wpList_ld rfl rfl rfl (cellsI hz) hb7 ?_)
        | (refine flatF.wpList_st rfl rfl rfl rfl (cellsI hz) (cellsI rfl) hT7 ?_; intro w8 hb8 hk8 hs8; clear hs8))
      refine bodyPost_ret (v := .tuple #[.agg (ints v).toArray, .int .i64 2]) (flatF.results_pair rfl _ (cellsI hz) rfl hb8 _ rfl) rfl ?_
      exact ⟨rfl, hct8.post hT7 (by decide) (by decide) (by have := HQ.out; omega) HG.out.1 HG.out.2.1 hk8⟩
    · have hd2' : (d == 2) = false := by simpa using hd2
      rw [if_neg hd2] at hp2
      subst hp2
      go_wp2_with (first
        | (refine flatF.wpList_al rfl rfl ?_; intro w5 hb5 hk5 hs5; clear hs5)
        | (refine flatF.wpList_st rfl rfl rfl rfl (cellsI hz) (cellsI rfl) hb5 ?_; intro w6 hb6 hk6 hs6; clear hs6; have hT6 := (hT4.nob hk5).keep hk6 (fun e => by omega))
        | (refine flatF.wpList_ld rfl rfl rfl (cellsI hz) hb6 ?_)
        | (refine flatF.wpList_st rfl rfl rfl rfl (cellsI hz) (cellsI rfl) hT6 ?_; intro w7 hb7 hk7 hs7; clear hs7))
      have hct6 := (hct4.nob hk5).post hb5 (by decide) (by decide) HG.out.2.2 HG.out.1 HG.out.2.1 hk6
      refine bodyPost_ret (v := .tuple #[.agg (ints v).toArray, .int .i64 d]) (flatF.results_pair rfl _ (cellsI hz) rfl hb7 _ rfl) rfl ?_
      exact ⟨rfl, hct6.post hT6 (by decide) (by decide) (by have := HQ.out; omega) HG.out.1 HG.out.2.1 hk7⟩
end Go.Proofs.YtngchjejmnfanaaGreat.Co
namespace Go.Proofs.YtngchjejmnfanaaGreat.Co
open Go.RowKit Go.MapKept
set_option linter.unusedVariables false
set_option linter.unusedSimpArgs false
set_option maxRecDepth 100000 in
set_option maxHeartbeats 4000000 in
theorem readR_is {w : World} {K : Kn} {C : Cm} {src : Src} (h : Kc w K C src) (r : Rf) (ho : RecOk r) (v : Ri.Pp) (d : Int) (bad' : List Rf) (hv : pread Ri.dcd Ri.noP K.xs src C.brs.length C.bad r = ((v, d), bad')) :
    Calls Tryz.prog 133 #[.pointer (some ⟨C.p, 0, none⟩), .agg #[.int .i64 r.1, .int .i64 r.2], .func (.func 134) #[] #[]] w fun e w' => e = .returned (.tuple #[.agg (Ri.pc v).toArray, .int .i64 d]) ∧ Ct w K K C { C with bad := bad' } src w' := by
  have hz : v.d.length = 32 := by
    have e : v = (pread Ri.dcd Ri.noP K.xs src C.brs.length C.bad r).1.1 := by rw [hv]
    rw [e]
    by_cases hbad : r ∈ C.bad
    · rw [pread_bad hbad]; rfl
    · cases hw : wher C.brs.length r with
      | none => rw [pread_none hbad hw]; rfl
      | some x => rw [pread_some hbad hw rfl]; exact Ri.dcd_len _
  have k1 := (Keep.refl Nob w).alloc (.cells #[.int .i64 r.1, .int .i64 r.2] 84)
  have HH := Lib.hid h
  have HO := Lib.hid ho
  have HV := Lib.hid hv
  clear h ho hv
  obtain ⟨x, hx⟩ : ∃ x, rch C r = x := ⟨_, rfl⟩
  obtain ⟨⟨a, b, m⟩, ok⟩ := x
  have hreach := fun W (kk : Keep Nob w W) => reach_is (HH.out.nob kk).c r HO.out a b m ok hx
  have HX := Lib.hid hx
  clear hx
  generalize hr1 : r.1 = r1 at *
  generalize hr2 : r.2 = r2 at *
  go_enter Tryz.func133, Tryz.ntmps133
  have bR := Blk.new w 84 [.int .i64 r1, .int .i64 r2]
  go_wp2_with (refine flatR.wpList_al rfl rfl ?_; intro w1 hb1 hk1 hs1; have bR1 := bR.nob hk1; have c0 := bR1.cell 0; have c1 := bR1.cell 1; simp only [List.getElem?_cons_zero, List.getElem?_cons_succ] at c0 c1)
  have kA := k1.trans hk1 (fun _ _ f => f)
  have hq0 : w.heap.size + 1 = (w.alloc (.cells #[.int .i64 r1, .int .i64 r2] 84)).heap.size := by simp
  rw [← hq0] at hb1
  clear hs1 k1 bR hk1 hq0 c0 c1
  refine (hreach _ kA).mono ?_; rintro e w2 ⟨rfl, k2⟩
  have kB := kA.trans k2 (fun _ _ f => f)
  have hb2 := hb1.nob k2
  have bR2 := bR1.nob k2
  clear hreach kA k2 hb1 bR1
  generalize hq : w.heap.size = q at *
  have HQ := Lib.hid hq
  clear hq
  cases ok with
  | false =>
    have hp : ((v, d), bad') = ((Ri.noP, 2), C.bad) := by
      rw [← HV.out]
      have hx := HX.out
      unfold rch at hx
      by_cases hbad : r ∈ C.bad
      · exact pread_bad hbad
      · rw [if_neg hbad] at hx
        cases hw : wher C.brs.length r with
        | none => exact pread_none hbad hw
        | some x => rw [hw] at hx; simp at hx
    simp only [Prod.mk.injEq] at hp
    obtain ⟨⟨rfl, rfl⟩, rfl⟩ := hp
    go_wp2_with (first
      | (refine flatR.wpList_al rfl rfl ?_; intro w3 hb3 hk3 hs3; have hb2 := (hb2.alloc (.cells #[.int .i64 a, .int .i64 b, .int .i64 m] 232)).nob hk3; have hk := (kB.alloc (.cells #[.int .i64 a, .int .i64 b, .int .i64 m] 232)).trans hk3 (fun _ _ f => f))
      | (refine flatR.wpList_ld rfl rfl rfl (cellsR rfl) hb3 ?_)
      | (refine flatR.wpList_st rfl rfl rfl rfl (cellsR rfl) (cellsR rfl) hb2 ?_; intro w4 hb4 hk4 hs4))
    refine bodyPost_ret (v := .tuple #[.agg (Ri.pc Ri.noP).toArray, .int .i64 2]) (flatR.results_pair rfl _ (cellsR rfl) rfl hb4 _ rfl) rfl ?_
    exact ⟨rfl, Ct.still HH.out (hk.trans hk4 (fun b hb e => by have e : b = q + 1 := e; have := HQ.out; omega))⟩
  | true =>
    have hx := HX.out
    have hnb : r ∉ C.bad := fun hbad => by unfold rch at hx; rw [if_pos hbad] at hx; simp at hx
    obtain ⟨x, hw⟩ : ∃ x, wher C.brs.length r = some x := by
      cases hw : wher C.brs.length r with
      | none => unfold rch at hx; rw [if_neg hnb, hw] at hx; simp at hx
      | some x => exact ⟨x, rfl⟩
    have hp : ((v, d), bad') = ((Ri.dcd (got K.xs src x)), if (Ri.dcd (got K.xs src x)).2 = 2 then ins r C.bad else C.bad) := by
      rw [← HV.out]
      exact pread_some hnb hw rfl
    have hin := wher_in hw
    unfold rch at hx
    rw [if_neg hnb, hw] at hx
    simp only [Prod.mk.injEq, and_true] at hx
    obtain ⟨ha, hb, hm⟩ := hx
    have hload := fun W (kk : Keep Nob w W) => load_is (HH.out.nob kk) x.1 x.2.1 x.2.2 hin.1 hin.2.1 a ha _ rfl
    rw [hb, hm] at hload
    obtain ⟨bs, hbs⟩ : ∃ bs, got K.xs src x = bs := ⟨_, rfl⟩
    rw [show (x.1, x.2.1, x.2.2) = x from rfl, hbs] at hload
    rw [hbs] at hp
    have hp1 : Ri.dcd bs = (v, d) := by
      have := congrArg Prod.fst hp
      exact this.symm
    have hp2 : bad' = if d = 2 then ins r C.bad else C.bad := by
      have := congrArg Prod.snd hp
      rw [hp1] at this
      exact this
    have HNB := Lib.hid (And.intro hnb (show wher C.brs.length r ≠ none from by rw [hw]; simp))
    have hbl : bs.length ≤ 40 := by
      rw [← hbs]
      unfold got
      split
      · exact Nat.le_trans (List.length_take_le _ _) hin.2.2.1
      · simp
    have HBL := Lib.hid hbl
    clear hp hnb hw hin hbs ha hb hm HV HX hbl
    have k3 := kB.alloc (.cells #[.int .i64 a, .int .i64 b, .int .i64 m] 232)
    have hT := hb2.alloc (.cells #[.int .i64 a, .int .i64 b, .int .i64 m] 232)
    have hR := bR2.alloc (.cells #[.int .i64 a, .int .i64 b, .int .i64 m] 232)
    go_wp2_with fail
    refine (hload _ k3).mono ?_; rintro e w3 ⟨A', c', rfl, hrd, t⟩
    have hK3 := HH.out.nob k3
    have hT3 := hK3.k.offT hT (by decide) t.keep
    have hR3 := hK3.k.offT hR (by decide) t.keep
    have hct := Ct.pre k3 (Ct.of_to' hK3 t)
    clear hload hT hR hb2 bR2 k3 t hK3 kB
    go_wp2_with fail
    refine (Ri.decode_is A' bs.length c' bs w3 hrd (by have := HBL.out; omega) v d hp1).mono ?_; rintro e w4 ⟨rfl, k4⟩
    have hct4 := hct.nob k4
    have hT4 := hT3.nob k4
    have hR4 := hR3.nob k4
    clear hct hT3 hR3 k4 hrd
    have hlt4 := hT4.lt
    unfold Ri.pv
    have hpl := HH.out.c.lt.1
    have hal := HH.out.a_lt
    have hge : w.heap.size ≤ w4.heap.size := hct4.keep.size
    have HG := Lib.hid (And.intro hpl (And.intro hal hge))
    clear hpl hal hge
    by_cases hd2 : d = 2
    · subst hd2
      rw [if_pos rfl] at hp2
      subst hp2
      go_wp2_with (first
        | (refine flatR.wpList_al rfl rfl ?_; intro w5 hb5 hk5 hs5; clear hs5)
        | (refine flatR.wpList_st rfl rfl rfl rfl (cellsR hz) (cellsR rfl) hb5 ?_; intro w6 hb6 hk6 hs6; clear hs6))
      have hct6 := (hct4.nob hk5).post hb5 (by decide) (by decide) HG.out.2.2 HG.out.1 HG.out.2.1 hk6
      have hT6 := (hT4.nob hk5).keep hk6 (fun e => by omega)
      have hR6 := (hR4.nob hk5).keep hk6 (fun e => by omega)
      obtain ⟨w7, hrun, hct7, hsz, hkb⟩ := (hct6.is.nob (Keep.nobdrew _)).spoil HO.out HNB.out.1 HNB.out.2
      unfold rval at hrun
      rw [hr1, hr2] at hrun
      have c4 : w6.cell? ⟨C.p, 4, none⟩ = some (.map (some C.b)) := hct6.is.c.obj.cell 4
      have c0 := hR6.cell 0
      have c1 := hR6.cell 1
      simp only [List.getElem?_cons_zero, List.getElem?_cons_succ] at c0 c1
      go_region
      have hct7' := Ct.pre (Keep.nobdrew w6) hct7
      have hT7 := Ct.off hct6.is hct7' hT6 (by decide)
      have hb7 := Ct.off hct6.is hct7' hb6 (by decide)
      have hct8 := Ct.trans hct6 hct7' (fun _ m => .inl m) rfl (fun _ m _ => m)
      clear hrun hct7 hsz hkb c4 c0 c1 hct7' hR6
      go_wp2_with (first
        | (refine flatR.wpList_ld rfl rfl rfl (cellsR hz) hb7 ?_)
        | (refine flatR.wpList_st rfl rfl rfl rfl (cellsR hz) (cellsR rfl) hT7 ?_; intro w8 hb8 hk8 hs8; clear hs8))
      refine bodyPost_ret (v := .tuple #[.agg (Ri.pc v).toArray, .int .i64 2]) (flatR.results_pair rfl _ (cellsR hz) rfl hb8 _ rfl) rfl ?_
      exact ⟨rfl, hct8.post hT7 (by decide) (by decide) (by have := HQ.out; omega) HG.out.1 HG.out.2.1 hk8⟩
    · have hd2' : (d == 2) = false := by simpa using hd2
      rw [if_neg hd2] at hp2
      subst hp2
      go_wp2_with (first
        | (refine flatR.wpList_al rfl rfl ?_; intro w5 hb5 hk5 hs5; clear hs5)
        | (refine flatR.wpList_st rfl rfl rfl rfl (cellsR hz) (cellsR rfl) hb5 ?_; intro w6 hb6 hk6 hs6; clear hs6; have hT6 := (hT4.nob hk5).keep hk6 (fun e => by omega))
        | (refine flatR.wpList_ld rfl rfl rfl (cellsR hz) hb6 ?_)
        | (refine flatR.wpList_st rfl rfl rfl rfl (cellsR hz) (cellsR rfl) hT6 ?_; intro w7 hb7 hk7 hs7; clear hs7))
      have hct6 := (hct4.nob hk5).post hb5 (by decide) (by decide) HG.out.2.2 HG.out.1 HG.out.2.1 hk6
      refine bodyPost_ret (v := .tuple #[.agg (Ri.pc v).toArray, .int .i64 d]) (flatR.results_pair rfl _ (cellsR hz) rfl hb7 _ rfl) rfl ?_
      exact ⟨rfl, hct6.post hT6 (by decide) (by decide) (by have := HQ.out; omega) HG.out.1 HG.out.2.1 hk7⟩
end Go.Proofs.YtngchjejmnfanaaGreat.Co
namespace Go.Proofs.YtngchjejmnfanaaGreat.Co
open Go.RowKit Go.MapKept
set_option linter.unusedVariables false
set_option linter.unusedSimpArgs false
set_option maxRecDepth 100000 in
set_option maxHeartbeats 4000000 in
theorem readI_is {w : World} {K : Kn} {C : Cm} {src : Src} (h : Kc w K C src) (r : Rf) (ho : RecOk r) (v d : Int) (bad' : List Rf) (hv : pread fdec 0 K.xs src C.brs.length C.bad r = ((v, d), bad')) :
    Calls Tryz.prog 135 #[.pointer (some ⟨C.p, 0, none⟩), .agg #[.int .i64 r.1, .int .i64 r.2], .func (.func 136) #[] #[]] w fun e w' => e = .returned (.tuple #[.int .i64 v, .int .i64 d]) ∧ Ct w K K C { C with bad := bad' } src w' := by
  have k1 := (Keep.refl Nob w).alloc (.cells #[.int .i64 r.1, .int .i64 r.2] 84)
  have HH := Lib.hid h
  have HO := Lib.hid ho
  have HV := Lib.hid hv
  clear h ho hv
  obtain ⟨x, hx⟩ : ∃ x, rch C r = x := ⟨_, rfl⟩
  obtain ⟨⟨a, b, m⟩, ok⟩ := x
  have hreach := fun W (kk : Keep Nob w W) => reach_is (HH.out.nob kk).c r HO.out a b m ok hx
  have HX := Lib.hid hx
  clear hx
  generalize hr1 : r.1 = r1 at *
  generalize hr2 : r.2 = r2 at *
  go_enter Tryz.func135, Tryz.ntmps135
  have bR := Blk.new w 84 [.int .i64 r1, .int .i64 r2]
  have bR1 := bR
  have c0 := bR1.cell 0
  have c1 := bR1.cell 1
  simp only [List.getElem?_cons_zero, List.getElem?_cons_succ] at c0 c1
  go_wp2_with fail
  have kA := k1
  clear k1 bR c0 c1
  refine (hreach _ kA).mono ?_; rintro e w2 ⟨rfl, k2⟩
  have kB := kA.trans k2 (fun _ _ f => f)
  have bR2 := bR1.nob k2
  clear hreach kA k2 bR1
  generalize hq : w.heap.size = q at *
  have HQ := Lib.hid hq
  clear hq
  cases ok with
  | false =>
    have hp : ((v, d), bad') = ((0, 2), C.bad) := by
      rw [← HV.out]
      have hx := HX.out
      unfold rch at hx
      by_cases hbad : r ∈ C.bad
      · exact pread_bad hbad
      · rw [if_neg hbad] at hx
        cases hw : wher C.brs.length r with
        | none => exact pread_none hbad hw
        | some x => rw [hw] at hx; simp at hx
    simp only [Prod.mk.injEq] at hp
    obtain ⟨⟨rfl, rfl⟩, rfl⟩ := hp
    go_wp2
    go_ret2
    exact ⟨rfl, Ct.still HH.out (kB.alloc _)⟩
  | true =>
    have hx := HX.out
    have hnb : r ∉ C.bad := fun hbad => by unfold rch at hx; rw [if_pos hbad] at hx; simp at hx
    obtain ⟨x, hw⟩ : ∃ x, wher C.brs.length r = some x := by
      cases hw : wher C.brs.length r with
      | none => unfold rch at hx; rw [if_neg hnb, hw] at hx; simp at hx
      | some x => exact ⟨x, rfl⟩
    have hp : ((v, d), bad') = ((fdec (got K.xs src x)), if (fdec (got K.xs src x)).2 = 2 then ins r C.bad else C.bad) := by
      rw [← HV.out]
      exact pread_some hnb hw rfl
    have hin := wher_in hw
    unfold rch at hx
    rw [if_neg hnb, hw] at hx
    simp only [Prod.mk.injEq, and_true] at hx
    obtain ⟨ha, hb, hm⟩ := hx
    have hload := fun W (kk : Keep Nob w W) => load_is (HH.out.nob kk) x.1 x.2.1 x.2.2 hin.1 hin.2.1 a ha _ rfl
    rw [hb, hm] at hload
    obtain ⟨bs, hbs⟩ : ∃ bs, got K.xs src x = bs := ⟨_, rfl⟩
    rw [show (x.1, x.2.1, x.2.2) = x from rfl, hbs] at hload
    rw [hbs] at hp
    have hp1 : fdec bs = (v, d) := by
      have := congrArg Prod.fst hp
      exact this.symm
    have hp2 : bad' = if d = 2 then ins r C.bad else C.bad := by
      have := congrArg Prod.snd hp
      rw [hp1] at this
      exact this
    have HNB := Lib.hid (And.intro hnb (show wher C.brs.length r ≠ none from by rw [hw]; simp))
    have hbl : bs.length ≤ 40 := by
      rw [← hbs]
      unfold got
      split
      · exact Nat.le_trans (List.length_take_le _ _) hin.2.2.1
      · simp
    have HBL := Lib.hid hbl
    clear hp hnb hw hin hbs ha hb hm HV HX hbl
    have k3 := kB.alloc (.cells #[.int .i64 a, .int .i64 b, .int .i64 m] 232)
    have hR := bR2.alloc (.cells #[.int .i64 a, .int .i64 b, .int .i64 m] 232)
    go_wp2_with fail
    refine (hload _ k3).mono ?_; rintro e w3 ⟨A', c', rfl, hrd, t⟩
    have hK3 := HH.out.nob k3
    have hR3 := hK3.k.offT hR (by decide) t.keep
    have hct := Ct.pre k3 (Ct.of_to' hK3 t)
    clear hload hR bR2 k3 t hK3 kB
    go_wp2_with fail
    refine (decf_is A' bs.length c' bs w3 hrd v d hp1).mono ?_; rintro e w4 ⟨rfl, k4⟩
    have hct4 := hct.nob k4
    have hR4 := hR3.nob k4
    clear hct hR3 k4 hrd
    by_cases hd2 : d = 2
    · subst hd2
      rw [if_pos rfl] at hp2
      subst hp2
      obtain ⟨w7, hrun, hct7, hsz, hkb⟩ := (hct4.is.nob (Keep.nobdrew _)).spoil HO.out HNB.out.1 HNB.out.2
      unfold rval at hrun
      rw [hr1, hr2] at hrun
      have c4 : w4.cell? ⟨C.p, 4, none⟩ = some (.map (some C.b)) := hct4.is.c.obj.cell 4
      have c0 := hR4.cell 0
      have c1 := hR4.cell 1
      simp only [List.getElem?_cons_zero, List.getElem?_cons_succ] at c0 c1
      go_wp2_with fail
      go_region
      have hct7' := Ct.pre (Keep.nobdrew w4) hct7
      have hct8 := Ct.trans hct4 hct7' (fun _ m => .inl m) rfl (fun _ m _ => m)
      clear hrun hct7 hsz hkb c4 c0 c1 hct7'
      go_wp2
      go_ret2
      exact ⟨rfl, hct8⟩
    · have hd2' : (d == 2) = false := by simpa using hd2
      rw [if_neg hd2] at hp2
      subst hp2
      go_wp2
      go_ret2
      exact ⟨rfl, hct4⟩
end Go.Proofs.YtngchjejmnfanaaGreat.Co
namespace Go.Proofs.YtngchjejmnfanaaGreat.Co
open Go.RowKit
set_option linter.unusedVariables false
set_option linter.unusedSimpArgs false
/-- Whether a record is set, and all bytes then. -/
def pset (ok : Bool) (b : List UInt8) (xs : List UInt8) (src : Src) (nb : Nat) (bad : List Rf) (r : Rf) : Bool × List UInt8 := if ok then pwrite xs src nb bad r b else (false, xs)
set_option maxRecDepth 100000 in
set_option maxHeartbeats 4000000 in
theorem writeR_is {w : World} {K : Kn} {C : Cm} {src : Src} (h : Kc w K C src) (r : Rf) (ho : RecOk r) (hsz : ∀ x, wher C.brs.length r = some x → x.2.2 = 40) (v : Ri.Pp) (hl : v.d.length = 32) (ok : Bool) (ys : List UInt8) (hv : pset (Ri.okd v) (Ri.enc v) K.xs src C.brs.length C.bad r = (ok, ys)) :
    Calls Tryz.prog 153 #[.pointer (some ⟨C.p, 0, none⟩), .agg #[.int .i64 r.1, .int .i64 r.2], .agg (Ri.pc v).toArray, .func (.func 154) #[] #[]] w fun e w' => e = .returned (.bool ok) ∧ To w K { K with xs := ys } w' := by
  have k1 := (Keep.refl Nob w).alloc (.cells #[.int .i64 r.1, .int .i64 r.2] 84)
  have bR := Blk.new w 84 [.int .i64 r.1, .int .i64 r.2]
  obtain ⟨vo, hvo⟩ : ∃ b, Ri.okd v = b := ⟨_, rfl⟩
  have henc := fun W => Ri.encode_is v hl W vo hvo
  unfold Ri.pv at henc
  rw [hvo] at hv
  have hel : (Ri.enc v).length = 40 := Ri.enc_len hl
  have hst := fun W (kk : Keep Nob w W) A m hb oo yy hh => store_is (h.nob kk) r ho A m 40 (Ri.enc v) hel (fun x hx => by rw [hel, hsz x hx]) hb oo yy hh
  have HH := Lib.hid h
  have HC := Lib.hid (cellsR hl)
  clear hsz hvo hel h ho
  generalize r.1 = r1 at *
  generalize r.2 = r2 at *
  have hq1 : (w.alloc (.cells #[.int .i64 r1, .int .i64 r2] 84)).heap.size = w.heap.size + 1 := by simp
  have HQ1 := Lib.hid hq1
  clear hq1
  go_enter Tryz.func153, Tryz.ntmps153
  go_wp2_with (first
    | (refine wpList_box rfl 44 _ rfl _ rfl ?_; intro w1 hb1 hk1 hs1; clear hs1; have bR1 := bR.nob hk1; have c0 := bR1.cell 0; have c1 := bR1.cell 1; simp only [List.getElem?_cons_zero, List.getElem?_cons_succ] at c0 c1; have hb1 : Blk w1 (w.heap.size + 1) 44 (Ri.pc v) := (by have h5 := hb1; rw [HQ1.out] at h5; exact h5))
    | (refine flatR.wpList_ld rfl rfl rfl HC.out hb1 ?_))
  refine (henc _).mono ?_; rintro e w2 ⟨x, rfl, hT, k2⟩
  have kk := (k1.trans hk1 (fun _ _ f => f)).trans k2 (fun _ _ f => f)
  have bR2 := bR1.nob k2
  have d0 := bR2.cell 0
  have d1 := bR2.cell 1
  simp only [List.getElem?_cons_zero, List.getElem?_cons_succ] at d0 d1
  clear c0 c1 bR1 bR henc hb1
  cases vo with
  | false =>
    unfold pset at hv
    simp at hv
    obtain ⟨rfl, rfl⟩ := hv
    clear hT
    go_wp2
    go_ret
    exact ⟨rfl, To.still HH.out.k kk⟩
  | true =>
    obtain ⟨A, m, rfl, hvv, _⟩ := hT
    unfold pset at hv
    rw [if_pos rfl] at hv
    have hcall := hst _ kk A m (by simpa using hvv.reads) ok ys hv
    clear hst hv hvv
    go_wp2_with fail
    refine hcall.mono ?_; rintro e w3 ⟨rfl, t⟩
    go_wp2
    go_ret
    exact ⟨rfl, t.pre kk⟩
set_option maxRecDepth 100000 in
set_option maxHeartbeats 4000000 in
theorem writeI_is {w : World} {K : Kn} {C : Cm} {src : Src} (h : Kc w K C src) (r : Rf) (ho : RecOk r) (hsz : ∀ x, wher C.brs.length r = some x → x.2.2 = 4) (g : Int) (ok : Bool) (ys : List UInt8) (hv : pset (decide (0 ≤ g ∧ g ≤ 7)) (frontB g) K.xs src C.brs.length C.bad r = (ok, ys)) :
    Calls Tryz.prog 157 #[.pointer (some ⟨C.p, 0, none⟩), .agg #[.int .i64 r.1, .int .i64 r.2], .int .i64 g, .func (.func 158) #[] #[]] w fun e w' => e = .returned (.bool ok) ∧ To w K { K with xs := ys } w' := by
  have k1 := (Keep.refl Nob w).alloc (.cells #[.int .i64 r.1, .int .i64 r.2] 84)
  have bR := Blk.new w 84 [.int .i64 r.1, .int .i64 r.2]
  obtain ⟨vo, hvo⟩ : ∃ b, decide (0 ≤ g ∧ g ≤ 7) = b := ⟨_, rfl⟩
  have henc := fun W => encf_is g W vo hvo
  rw [hvo] at hv
  have hst := fun W (kk : Keep Nob w W) A m hb oo yy hh => store_is (h.nob kk) r ho A m 4 (frontB g) rfl (fun x hx => by rw [hsz x hx]; rfl) hb oo yy hh
  have HH := Lib.hid h
  clear hsz hvo h ho
  generalize r.1 = r1 at *
  generalize r.2 = r2 at *
  go_enter Tryz.func157, Tryz.ntmps157
  go_wp2_with fail
  refine (henc _).mono ?_; rintro e w2 ⟨x, rfl, hT, k2⟩
  have kk := k1.trans k2 (fun _ _ f => f)
  have bR2 := bR.nob k2
  have d0 := bR2.cell 0
  have d1 := bR2.cell 1
  simp only [List.getElem?_cons_zero, List.getElem?_cons_succ] at d0 d1
  clear bR henc
  cases vo with
  | false =>
    unfold pset at hv
    simp at hv
    obtain ⟨rfl, rfl⟩ := hv
    clear hT
    go_wp2
    go_ret
    exact ⟨rfl, To.still HH.out.k kk⟩
  | true =>
    obtain ⟨A, m, rfl, hvv, _⟩ := hT
    unfold pset at hv
    rw [if_pos rfl] at hv
    have hcall := hst _ kk A m (by simpa using hvv.reads) ok ys hv
    clear hst hv hvv
    go_wp2_with fail
    refine hcall.mono ?_; rintro e w3 ⟨rfl, t⟩
    go_wp2
    go_ret
    exact ⟨rfl, t.pre kk⟩
end Go.Proofs.YtngchjejmnfanaaGreat.Co
namespace Go.Proofs.YtngchjejmnfanaaGreat.Co
open Go.RowKit
set_option linter.unusedVariables false
set_option linter.unusedSimpArgs false
theorem wsize4 {nb : Nat} (x) (h : wher nb (4, 0) = some x) : x.2.2 = 40 := by
  unfold wher at h
  simp at h
  rw [← h]
theorem wsize5 {nb : Nat} (x) (h : wher nb (5, 0) = some x) : x.2.2 = 4 := by
  unfold wher at h
  simp at h
  rw [← h]
theorem rec_i {k i : Int} (hk : 1 ≤ k ∧ k ≤ 3) (hi : Cd.Wf i) : RecOk (k, i) := ⟨⟨hk.1, by have := hk.2; show k ≤ 5; omega⟩, fun e => by have e : k = 4 ∨ k = 5 := e; omega, hi⟩
theorem rec_0 {k : Int} (hk : 4 ≤ k ∧ k ≤ 5) : RecOk (k, 0) := ⟨⟨by have := hk.1; show 1 ≤ k; omega, hk.2⟩, fun _ => rfl, by show (-9223372036854775808 : Int) ≤ 0 ∧ (0 : Int) ≤ 9223372036854775807; omega⟩
section
variable {w : World} {K : Kn} {C : Cm} {src : Src}
theorem readP_len {xs : List UInt8} {src : Src} {nb : Nat} {bad bad' : List Rf} {r : Rf} {v : List Int} {d : Int} (hv : pread Cd.dcd Cd.noP xs src nb bad r = ((v, d), bad')) : v.length = 16 := by
  have e : v = (pread Cd.dcd Cd.noP xs src nb bad r).1.1 := by rw [hv]
  rw [e]
  by_cases hbad : r ∈ bad
  · rw [pread_bad hbad]; rfl
  · cases hw : wher nb r with
    | none => rw [pread_none hbad hw]; rfl
    | some x => rw [pread_some hbad hw rfl]; exact Cd.dcd_len _
set_option maxRecDepth 100000 in
set_option maxHeartbeats 2000000 in
theorem proc_is (h : Kc w K C src) (i : Int) (hi : Cd.Wf i) (v : List Int) (d : Int) (bad' : List Rf) (hv : pread Cd.dcd Cd.noP K.xs src C.brs.length C.bad (1, i) = ((v, d), bad')) :
    Calls Tryz.prog 36 #[.pointer (some ⟨C.p, 0, none⟩), .int .i64 i] w fun e w' => e = .returned (.tuple #[.agg (ints v).toArray, .int .i64 d]) ∧ Ct w K K C { C with bad := bad' } src w' := by
  have hz : v.length = 16 := readP_len hv
  have hcall := fun W (kk : Keep Nob w W) => readP_is (h.nob kk) (1, i) (rec_i (by omega) hi) v d bad' hv
  have hpl := h.c.lt.1
  have hal := h.a_lt
  have HG := Lib.hid (And.intro hpl hal)
  have HH := Lib.hid h
  clear hpl hal hv h
  dsimp only at hcall
  go_enter Tryz.func36, Tryz.ntmps36
  go_wp2_with (refine flatP.wpList_al rfl rfl ?_; intro w1 hb1 hk1 hs1; clear hs1)
  have hK1 := hk1
  refine (hcall _ hk1).mono ?_; rintro e w2 ⟨rfl, t⟩
  have hb2 := Ct.off (HH.out.nob hK1) t hb1 (by decide)
  clear hcall
  go_wp2_with (refine flatP.wpList_st rfl rfl rfl rfl (cellsI hz) (cellsI rfl) hb2 ?_; intro w3 hb3 hk3 hs3; clear hs3)
  refine bodyPost_ret (v := .tuple #[.agg (ints v).toArray, .int .i64 d]) (flatP.results_pair rfl _ (cellsI hz) rfl hb3 _ rfl) rfl ?_
  exact ⟨rfl, (Ct.pre hK1 t).post hb2 (by decide) (by decide) (Nat.le_refl _) HG.out.1 HG.out.2 hk3⟩
theorem readF_len {xs : List UInt8} {src : Src} {nb : Nat} {bad bad' : List Rf} {r : Rf} {v : List Int} {d : Int} (hv : pread Fi.dcd Fi.noP xs src nb bad r = ((v, d), bad')) : v.length = 4 := by
  have e : v = (pread Fi.dcd Fi.noP xs src nb bad r).1.1 := by rw [hv]
  rw [e]
  by_cases hbad : r ∈ bad
  · rw [pread_bad hbad]; rfl
  · cases hw : wher nb r with
    | none => rw [pread_none hbad hw]; rfl
    | some x => rw [pread_some hbad hw rfl]; exact Fi.dcd_len _
set_option maxRecDepth 100000 in
set_option maxHeartbeats 2000000 in
theorem file_is (h : Kc w K C src) (i : Int) (hi : Cd.Wf i) (v : List Int) (d : Int) (bad' : List Rf) (hv : pread Fi.dcd Fi.noP K.xs src C.brs.length C.bad (2, i) = ((v, d), bad')) :
    Calls Tryz.prog 48 #[.pointer (some ⟨C.p, 0, none⟩), .int .i64 i] w fun e w' => e = .returned (.tuple #[.agg (ints v).toArray, .int .i64 d]) ∧ Ct w K K C { C with bad := bad' } src w' := by
  have hz : v.length = 4 := readF_len hv
  have hcall := fun W (kk : Keep Nob w W) => readF_is (h.nob kk) (2, i) (rec_i (by omega) hi) v d bad' hv
  have hpl := h.c.lt.1
  have hal := h.a_lt
  have HG := Lib.hid (And.intro hpl hal)
  have HH := Lib.hid h
  clear hpl hal hv h
  dsimp only at hcall
  go_enter Tryz.func48, Tryz.ntmps48
  go_wp2_with (refine flatF.wpList_al rfl rfl ?_; intro w1 hb1 hk1 hs1; clear hs1)
  have hK1 := hk1
  refine (hcall _ hk1).mono ?_; rintro e w2 ⟨rfl, t⟩
  have hb2 := Ct.off (HH.out.nob hK1) t hb1 (by decide)
  clear hcall
  go_wp2_with (refine flatF.wpList_st rfl rfl rfl rfl (cellsI hz) (cellsI rfl) hb2 ?_; intro w3 hb3 hk3 hs3; clear hs3)
  refine bodyPost_ret (v := .tuple #[.agg (ints v).toArray, .int .i64 d]) (flatF.results_pair rfl _ (cellsI hz) rfl hb3 _ rfl) rfl ?_
  exact ⟨rfl, (Ct.pre hK1 t).post hb2 (by decide) (by decide) (Nat.le_refl _) HG.out.1 HG.out.2 hk3⟩
theorem readR_len {xs : List UInt8} {src : Src} {nb : Nat} {bad bad' : List Rf} {r : Rf} {v : Ri.Pp} {d : Int} (hv : pread Ri.dcd Ri.noP xs src nb bad r = ((v, d), bad')) : v.d.length = 32 := by
  have e : v = (pread Ri.dcd Ri.noP xs src nb bad r).1.1 := by rw [hv]
  rw [e]
  by_cases hbad : r ∈ bad
  · rw [pread_bad hbad]; rfl
  · cases hw : wher nb r with
    | none => rw [pread_none hbad hw]; rfl
    | some x => rw [pread_some hbad hw rfl]; exact Ri.dcd_len _
set_option maxRecDepth 100000 in
set_option maxHeartbeats 2000000 in
theorem pipe_is (h : Kc w K C src) (i : Int) (hi : Cd.Wf i) (v : Ri.Pp) (d : Int) (bad' : List Rf) (hv : pread Ri.dcd Ri.noP K.xs src C.brs.length C.bad (3, i) = ((v, d), bad')) :
    Calls Tryz.prog 54 #[.pointer (some ⟨C.p, 0, none⟩), .int .i64 i] w fun e w' => e = .returned (.tuple #[.agg (Ri.pc v).toArray, .int .i64 d]) ∧ Ct w K K C { C with bad := bad' } src w' := by
  have hz : v.d.length = 32 := readR_len hv
  have hcall := fun W (kk : Keep Nob w W) => readR_is (h.nob kk) (3, i) (rec_i (by omega) hi) v d bad' hv
  have hpl := h.c.lt.1
  have hal := h.a_lt
  have HG := Lib.hid (And.intro hpl hal)
  have HH := Lib.hid h
  clear hpl hal hv h
  dsimp only at hcall
  go_enter Tryz.func54, Tryz.ntmps54
  go_wp2_with (refine flatR.wpList_al rfl rfl ?_; intro w1 hb1 hk1 hs1; clear hs1)
  have hK1 := hk1
  refine (hcall _ hk1).mono ?_; rintro e w2 ⟨rfl, t⟩
  have hb2 := Ct.off (HH.out.nob hK1) t hb1 (by decide)
  clear hcall
  go_wp2_with (refine flatR.wpList_st rfl rfl rfl rfl (cellsR hz) (cellsR rfl) hb2 ?_; intro w3 hb3 hk3 hs3; clear hs3)
  refine bodyPost_ret (v := .tuple #[.agg (Ri.pc v).toArray, .int .i64 d]) (flatR.results_pair rfl _ (cellsR hz) rfl hb3 _ rfl) rfl ?_
  exact ⟨rfl, (Ct.pre hK1 t).post hb2 (by decide) (by decide) (Nat.le_refl _) HG.out.1 HG.out.2 hk3⟩
set_option maxRecDepth 100000 in
set_option maxHeartbeats 2000000 in
theorem term_is (h : Kc w K C src) (v : Ri.Pp) (d : Int) (bad' : List Rf) (hv : pread Ri.dcd Ri.noP K.xs src C.brs.length C.bad (4, 0) = ((v, d), bad')) :
    Calls Tryz.prog 37 #[.pointer (some ⟨C.p, 0, none⟩)] w fun e w' => e = .returned (.tuple #[.agg (Ri.pc v).toArray, .int .i64 d]) ∧ Ct w K K C { C with bad := bad' } src w' := by
  have hz : v.d.length = 32 := readR_len hv
  have hcall := fun W (kk : Keep Nob w W) => readR_is (h.nob kk) (4, 0) (rec_0 (by omega)) v d bad' hv
  have hpl := h.c.lt.1
  have hal := h.a_lt
  have HG := Lib.hid (And.intro hpl hal)
  have HH := Lib.hid h
  clear hpl hal hv h
  dsimp only at hcall
  go_enter Tryz.func37, Tryz.ntmps37
  go_wp2_with (refine flatR.wpList_al rfl rfl ?_; intro w1 hb1 hk1 hs1; clear hs1)
  have hK1 := hk1
  refine (hcall _ hk1).mono ?_; rintro e w2 ⟨rfl, t⟩
  have hb2 := Ct.off (HH.out.nob hK1) t hb1 (by decide)
  clear hcall
  go_wp2_with (refine flatR.wpList_st rfl rfl rfl rfl (cellsR hz) (cellsR rfl) hb2 ?_; intro w3 hb3 hk3 hs3; clear hs3)
  refine bodyPost_ret (v := .tuple #[.agg (Ri.pc v).toArray, .int .i64 d]) (flatR.results_pair rfl _ (cellsR hz) rfl hb3 _ rfl) rfl ?_
  exact ⟨rfl, (Ct.pre hK1 t).post hb2 (by decide) (by decide) (Nat.le_refl _) HG.out.1 HG.out.2 hk3⟩
set_option maxRecDepth 100000 in
set_option maxHeartbeats 2000000 in
theorem setTerm_is (h : Kc w K C src) (v : Ri.Pp) (hl : v.d.length = 32) (ok : Bool) (ys : List UInt8) (hv : pset (Ri.okd v) (Ri.enc v) K.xs src C.brs.length C.bad (4, 0) = (ok, ys)) :
    Calls Tryz.prog 61 #[.pointer (some ⟨C.p, 0, none⟩), .agg (Ri.pc v).toArray] w fun e w' => e = .returned (.bool ok) ∧ To w K { K with xs := ys } w' := by
  have hcall := fun W (kk : Keep Nob w W) => writeR_is (h.nob kk) (4, 0) (rec_0 (by omega)) (fun x hx => wsize4 x hx) v hl ok ys hv
  have HC := Lib.hid (cellsR hl)
  clear hv h
  dsimp only at hcall
  go_enter Tryz.func61, Tryz.ntmps61
  go_wp2_with (first
    | (refine wpList_box rfl 44 _ rfl _ rfl ?_; intro w1 hb1 hk1 hs1; clear hs1; have hb1 : Blk w1 w.heap.size 44 (Ri.pc v) := hb1)
    | (refine flatR.wpList_ld rfl rfl rfl HC.out hb1 ?_))
  refine (hcall _ hk1).mono ?_; rintro e w2 ⟨rfl, t⟩
  go_wp2
  go_ret
  exact ⟨rfl, t.pre hk1⟩
set_option maxRecDepth 100000 in
set_option maxHeartbeats 2000000 in
theorem front_is (h : Kc w K C src) (v d : Int) (bad' : List Rf) (hv : pread fdec 0 K.xs src C.brs.length C.bad (5, 0) = ((v, d), bad')) :
    Calls Tryz.prog 38 #[.pointer (some ⟨C.p, 0, none⟩)] w fun e w' => e = .returned (.tuple #[.int .i64 v, .bool (d == 1)]) ∧ Ct w K K C { C with bad := bad' } src w' := by
  have hcall := readI_is h (5, 0) (rec_0 (by omega)) v d bad' hv
  clear hv h
  dsimp only at hcall
  obtain ⟨o, ho⟩ : ∃ o, (d == 1) = o := ⟨_, rfl⟩
  rw [ho]
  go_enter Tryz.func38, Tryz.ntmps38
  go_wp2_with fail
  refine hcall.mono ?_; rintro e w2 ⟨rfl, t⟩
  go_wp2
  go_ret2
  exact ⟨rfl, t⟩
theorem setFront_is (h : Kc w K C src) (g : Int) (ok : Bool) (ys : List UInt8) (hv : pset (decide (0 ≤ g ∧ g ≤ 7)) (frontB g) K.xs src C.brs.length C.bad (5, 0) = (ok, ys)) :
    Calls Tryz.prog 64 #[.pointer (some ⟨C.p, 0, none⟩), .int .i64 g] w fun e w' => e = .returned (.bool ok) ∧ To w K { K with xs := ys } w' := by
  have hcall := writeI_is h (5, 0) (rec_0 (by omega)) (fun x hx => wsize5 x hx) g ok ys hv
  clear hv h
  dsimp only at hcall
  go_enter Tryz.func64, Tryz.ntmps64
  go_wp2_with fail
  refine hcall.mono ?_; rintro e w2 ⟨rfl, t⟩
  go_wp2
  go_ret
  exact ⟨rfl, t⟩
end
end Go.Proofs.YtngchjejmnfanaaGreat.Co
namespace Go.Proofs.YtngchjejmnfanaaGreat.Co
open Go.RowKit
set_option linter.unusedVariables false
set_option linter.unusedSimpArgs false
/-- What is bad behind a record's being read. -/
def seen (xs : List UInt8) (src : Src) (nb : Nat) (bad : List Rf) (r : Rf) : List Rf :=
  if r.1 = 1 then (pread Cd.dcd Cd.noP xs src nb bad r).2 else if r.1 = 2 then (pread Fi.dcd Fi.noP xs src nb bad r).2
  else if r.1 = 5 then (pread fdec 0 xs src nb bad r).2 else (pread Ri.dcd Ri.noP xs src nb bad r).2
/-- All records of a Commons. -/
def allRecs (nb : Nat) : List Rf := mk 8 (fun i => (1, (i : Int))) ++ mk 12 (fun i => (2, (i : Int))) ++ mk (4 + nb) (fun i => (3, (i : Int))) ++ [(4, 0), (5, 0)]
def look (xs : List UInt8) (src : Src) (nb : Nat) (bad : List Rf) : List Rf := (allRecs nb).foldl (seen xs src nb) bad
theorem foldl_mk {α : Type} (f : α → Rf → α) (g : Nat → Rf) (a : α) (k : Nat) : (mk (k + 1) g).foldl f a = f ((mk k g).foldl f a) (g k) := by
  rw [← mk_succ, List.foldl_append]
  rfl
theorem mem_all {r : Rf} {nb : Nat} (ho : RecOk r) (hw : wher nb r ≠ none) : r ∈ allRecs nb := by
  obtain ⟨k, i⟩ := r
  have h1 := ho.k
  have h2 := ho.z
  dsimp only at h1 h2
  unfold allRecs
  simp only [List.mem_append, mk, List.mem_map, List.mem_range, List.mem_cons, List.not_mem_nil, or_false, Prod.mk.injEq]
  unfold wher at hw
  dsimp only at hw
  rcases (show k = 1 ∨ k = 2 ∨ k = 3 ∨ k = 4 ∨ k = 5 by omega) with rfl | rfl | rfl | rfl | rfl
  · left; left; left
    by_cases h : 0 ≤ i ∧ i < 8
    · exact ⟨i.toNat, by omega, rfl, by omega⟩
    · simp [h] at hw
  · left; left; right
    by_cases h : 0 ≤ i ∧ i < 12
    · exact ⟨i.toNat, by omega, rfl, by omega⟩
    · simp [h] at hw
  · left; right
    by_cases h : 0 ≤ i ∧ i < 4 + nb
    · exact ⟨i.toNat, by omega, rfl, by omega⟩
    · exfalso
      rw [if_neg (by decide), if_neg (by decide), if_pos rfl] at hw
      by_cases h4 : 4 ≤ i
      · rw [if_pos h4, if_neg (by omega)] at hw
        exact hw rfl
      · rw [if_neg h4, if_neg (by omega)] at hw
        exact hw rfl
  · right; left; exact ⟨rfl, h2 (.inl rfl)⟩
  · right; right; exact ⟨rfl, h2 (.inr rfl)⟩
theorem nodup_sorted {l : List Rf} (h : l.Pairwise ltR) : l.Nodup := h.imp (fun {a b} hab => fun (e : a = b) => ltR_irr hab (by subst e; exact hab))
theorem bad_le {w : World} {k : Nat} {C : Cm} (h : IsCm w k C) : C.bad.length ≤ 57 := by
  have := nodup_le (nodup_sorted h.srt) (fun r hr => mem_all (h.val r hr).1 (h.val r hr).2)
  have few := h.few
  unfold allRecs at this
  simp [mk] at this
  omega
section
variable {w w' : World} {K : Kn} {C : Cm} {src : Src}
theorem Ct.more {b b' : List Rf} (t : Ct w K K C { C with bad := b } src w') {w2 : World} (t2 : Ct w' K K { C with bad := b } { C with bad := b' } src w2) : Ct w K K C { C with bad := b' } src w2 :=
  t.trans t2 (fun _ m => .inl m) rfl (fun _ m _ => m)
/-- What has been read of a row of records. -/
def upto (xs : List UInt8) (src : Src) (nb : Nat) (kind : Int) (bad : List Rf) (k : Nat) : List Rf := (mk k (fun i => (kind, (i : Int)))).foldl (seen xs src nb) bad
theorem upto_zero (xs : List UInt8) (src : Src) (nb : Nat) (kind : Int) (bad : List Rf) : upto xs src nb kind bad 0 = bad := rfl
theorem upto_succ (xs : List UInt8) (src : Src) (nb : Nat) (kind : Int) (bad : List Rf) (k : Nat) : upto xs src nb kind bad (k + 1) = seen xs src nb (upto xs src nb kind bad k) (kind, k) := foldl_mk _ _ _ _
/-- What a reading call leaves. -/
def Reads1 (K : Kn) (C : Cm) (src : Src) (r : Rf) (bad : List Rf) (W : World) (e : Ending) (w' : World) : Prop :=
  ∃ v, e = .returned v ∧ Ct W K K { C with bad := bad } { C with bad := seen K.xs src C.brs.length bad r } src w'
set_option maxRecDepth 100000 in
set_option maxHeartbeats 1000000 in
theorem look_is (h : Kc w K C src) (b : List Rf) (hb : look K.xs src C.brs.length C.bad = b) :
    Calls Tryz.prog 66 #[.pointer (some ⟨C.p, 0, none⟩)] w fun e w' => e = .returned (.tuple #[]) ∧ Ct w K K C { C with bad := b } src w' := by
  have few := h.c.few
  have H0 := Lib.hid (show Ct w K K C { C with bad := C.bad } src w from Ct.still h (Keep.refl _ _))
  have HP : ∀ W bad (i : Int), Cd.Wf i → Kc W K { C with bad := bad } src → Calls Tryz.prog 36 #[.pointer (some ⟨C.p, 0, none⟩), .int .i64 i] W (Reads1 K C src (1, i) bad W) := fun W bad i hi h =>
    (proc_is h i hi _ _ _ (show pread Cd.dcd Cd.noP K.xs src C.brs.length bad (1, i) = ((_, _), _) from rfl)).mono (fun e w' ⟨h1, h2⟩ => ⟨_, h1, h2⟩)
  have HF : ∀ W bad (i : Int), Cd.Wf i → Kc W K { C with bad := bad } src → Calls Tryz.prog 48 #[.pointer (some ⟨C.p, 0, none⟩), .int .i64 i] W (Reads1 K C src (2, i) bad W) := fun W bad i hi h =>
    (file_is h i hi _ _ _ (show pread Fi.dcd Fi.noP K.xs src C.brs.length bad (2, i) = ((_, _), _) from rfl)).mono (fun e w' ⟨h1, h2⟩ => ⟨_, h1, h2⟩)
  have HR : ∀ W bad (i : Int), Cd.Wf i → Kc W K { C with bad := bad } src → Calls Tryz.prog 54 #[.pointer (some ⟨C.p, 0, none⟩), .int .i64 i] W (Reads1 K C src (3, i) bad W) := fun W bad i hi h =>
    (pipe_is h i hi _ _ _ (show pread Ri.dcd Ri.noP K.xs src C.brs.length bad (3, i) = ((_, _), _) from rfl)).mono (fun e w' ⟨h1, h2⟩ => ⟨_, h1, h2⟩)
  have HT : ∀ W bad, Kc W K { C with bad := bad } src → Calls Tryz.prog 37 #[.pointer (some ⟨C.p, 0, none⟩)] W (Reads1 K C src (4, 0) bad W) := fun W bad h =>
    (term_is h _ _ _ (show pread Ri.dcd Ri.noP K.xs src C.brs.length bad (4, 0) = ((_, _), _) from rfl)).mono (fun e w' ⟨h1, h2⟩ => ⟨_, h1, h2⟩)
  have HG : ∀ W bad, Kc W K { C with bad := bad } src → Calls Tryz.prog 38 #[.pointer (some ⟨C.p, 0, none⟩)] W (Reads1 K C src (5, 0) bad W) := fun W bad h =>
    (front_is h _ _ _ (show pread fdec 0 K.xs src C.brs.length bad (5, 0) = ((_, _), _) from rfl)).mono (fun e w' ⟨h1, h2⟩ => ⟨_, h1, h2⟩)
  have hwf : ∀ k : Nat, k ≤ 40 → Cd.Wf k := fun k hk => by unfold Cd.Wf; omega
  have HWF := Lib.hid hwf
  have H3 := Lib.hid (show ∀ W bad, Kc W K { C with bad := bad } src → W.cell? ⟨C.p, 3, none⟩ = some (.slice C.A C.brs.length C.cap) from fun W bad h => h.c.obj.cell 3)
  have hlook : look K.xs src C.brs.length C.bad = seen K.xs src C.brs.length (seen K.xs src C.brs.length (upto K.xs src C.brs.length 3 (upto K.xs src C.brs.length 2 (upto K.xs src C.brs.length 1 C.bad 8) 12) (4 + C.brs.length)) (4, 0)) (5, 0) := by
    unfold look allRecs
    rw [List.foldl_append, List.foldl_append, List.foldl_append]
    rfl
  rw [hb] at hlook
  have HB := Lib.hid hlook
  clear hb h hlook hwf
  unfold Reads1 at HP HF HR HT HG
  have hs := fun kind bad k => upto_succ K.xs src C.brs.length kind bad k
  have hz := fun kind bad => upto_zero K.xs src C.brs.length kind bad
  obtain ⟨nb, hnb⟩ : ∃ nb, C.brs.length = nb := ⟨_, rfl⟩
  have HN := Lib.hid hnb
  generalize seen K.xs src C.brs.length = se at *
  generalize upto K.xs src C.brs.length = up at *
  generalize hbad : C.bad = bad0 at *
  have HBad := Lib.hid hbad
  have HS := Lib.hid hs
  have HZ := Lib.hid hz
  rw [hnb] at few
  have HFew := Lib.hid few
  clear hs hz hnb hbad few
  go_enter Tryz.func66, Tryz.ntmps66
  go_wp2_with fail
  go_loopw [5] (fun s5 wx => ∃ k : Nat, k ≤ 8 ∧ s5 = .int .i64 k ∧ Ct w K K C { C with bad := up 1 bad0 k } src wx) (fun s5 _ => 8 - (intOf s5).toNat)
  case atStart => exact ⟨0, Nat.zero_le _, rfl, by rw [HZ.out, ← HBad.out]; exact H0.out⟩
  case round =>
    obtain ⟨k, hk, rfl, hct⟩ := hrel
    by_cases hlt : (k : Int) < 8
    · have hcall := HP _ _ k (HWF.out k (by omega)) hct.is
      go_wp2_with fail
      refine hcall.mono ?_; rintro e w1 ⟨v, rfl, t⟩
      have hnext := hct.more t
      clear hcall t
      go_wp2
      go_roundw
      case rel => exact ⟨k + 1, by omega, by go_num, by rw [HS.out]; exact hnext⟩
      case measure => simp [intOf]; omega
    · obtain ⟨b1, hb1⟩ : ∃ b1, up 1 bad0 8 = b1 := ⟨_, rfl⟩
      have h8 : Ct w K K C { C with bad := b1 } src wr := by
        have e : k = 8 := by omega
        subst e
        rw [← hb1]
        exact hct
      have H8 := Lib.hid h8
      rw [hb1] at HB
      clear hct h8 hb1 hk
      go_wp2_with fail
      go_loopw [12] (fun s12 wx => ∃ k : Nat, k ≤ 12 ∧ s12 = .int .i64 k ∧ Ct w K K C { C with bad := up 2 b1 k } src wx) (fun s12 _ => 12 - (intOf s12).toNat)
      case atStart => exact ⟨0, Nat.zero_le _, rfl, by rw [HZ.out]; exact H8.out⟩
      case round =>
        obtain ⟨j, hj, rfl, hct⟩ := hrel
        by_cases hlt2 : (j : Int) < 12
        · have hcall := HF _ _ j (HWF.out j (by omega)) hct.is
          go_wp2_with fail
          refine hcall.mono ?_; rintro e w1 ⟨v, rfl, t⟩
          have hnext := hct.more t
          clear hcall t
          go_wp2
          go_roundw
          case rel => exact ⟨j + 1, by omega, by go_num, by rw [HS.out]; exact hnext⟩
          case measure => simp [intOf]; omega
        · obtain ⟨b2, hb2⟩ : ∃ b2, up 2 b1 12 = b2 := ⟨_, rfl⟩
          have h12 : Ct w K K C { C with bad := b2 } src wr := by
            have e : j = 12 := by omega
            subst e
            rw [← hb2]
            exact hct
          have c3 := H3.out _ _ h12.is
          rw [HN.out] at c3
          have H12 := Lib.hid h12
          rw [hb2] at HB
          have few := HFew.out
          clear hct h12 hb2 hj
          go_wp2_with fail
          go_loopw [25] (fun s25 wx => ∃ k : Nat, k ≤ 4 + nb ∧ s25 = .int .i64 k ∧ Ct w K K C { C with bad := up 3 b2 k } src wx) (fun s25 _ => 4 + nb - (intOf s25).toNat)
          case atStart => exact ⟨0, Nat.zero_le _, rfl, by rw [HZ.out]; exact H12.out⟩
          case round =>
            obtain ⟨q, hq, rfl, hct⟩ := hrel
            by_cases hlt3 : (q : Int) < 4 + (nb : Int)
            · have hcall := HR _ _ q (HWF.out q (by omega)) hct.is
              go_wp2_with fail
              refine hcall.mono ?_; rintro e w1 ⟨v, rfl, t⟩
              have hnext := hct.more t
              clear hcall t
              go_wp2
              go_roundw
              case rel => exact ⟨q + 1, by omega, by go_num, by rw [HS.out]; exact hnext⟩
              case measure => simp [intOf]; omega
            · have hqn : q = 4 + C.brs.length := by have := HN.out; omega
              have HQ := Lib.hid hqn
              have hc1 := HT _ _ hct.is
              clear hqn
              go_wp2_with fail
              refine hc1.mono ?_; rintro e w1 ⟨v1, rfl, t1⟩
              have hct1 := hct.more t1
              have hc2 := HG _ _ hct1.is
              clear hc1 t1
              go_wp2_with fail
              refine hc2.mono ?_; rintro e w2 ⟨v2, rfl, t2⟩
              have hct2 := hct1.more t2
              clear hc2 t2
              go_wp2
              refine bodyPost_end (results_none rfl _ _ _) rfl ?_
              refine ⟨rfl, ?_⟩
              rw [HB.out, ← HQ.out]
              exact hct2
end
end Go.Proofs.YtngchjejmnfanaaGreat.Co
namespace Go.Proofs.YtngchjejmnfanaaGreat.Au
open Go.RowKit Co
set_option linter.unusedVariables false
set_option linter.unusedSimpArgs false
/-- Where the bytes lie that the only Cap reaches. -/
def src1 : Src := fun _ _ _ => some 0
def xsOf (b : List UInt8) : List UInt8 := splice (zeros 8) 0 b
theorem zlen (k : Nat) : (zeros k).length = 64 * k := by simp [zeros]
theorem splice_in {L cs : List UInt8} {o a n : Nat} (h : o + cs.length ≤ L.length) (ha : a + n ≤ cs.length) : ((splice L o cs).drop (o + a)).take n = (cs.drop a).take n := by
  apply List.ext_getElem?
  intro i
  rw [List.getElem?_take, List.getElem?_take]
  by_cases hi : i < n
  · rw [if_pos hi, if_pos hi, List.getElem?_drop, List.getElem?_drop, splice_get _ _ _ h, if_pos (by omega), show o + a + i - o = a + i by omega]
  · rw [if_neg hi, if_neg hi]
theorem got1 {b : List UInt8} (hb : b.length = 492) {a n : Nat} (h : a + n ≤ 492) : got (xsOf b) src1 (0, a, n) = (b.drop a).take n := by
  show (List.drop (0 + a) (xsOf b)).take n = _
  unfold xsOf
  exact splice_in (by rw [hb, zlen]; decide) (by rw [hb]; exact h)
def pAt (b : List UInt8) (i : Nat) : List Int × Int := Cd.dcd ((b.drop (24 * i)).take 24)
def fAt (b : List UInt8) (i : Nat) : List Int × Int := Fi.dcd ((b.drop (192 + 8 * i)).take 8)
def rAt (b : List UInt8) (i : Nat) : Ri.Pp × Int := Ri.dcd ((b.drop (288 + 40 * i)).take 40)
def tAt (b : List UInt8) : Ri.Pp × Int := Ri.dcd ((b.drop 448).take 40)
def gAt (b : List UInt8) : Int × Int := fdec ((b.drop 488).take 4)
/-- Whether a record is bad. -/
def isBad (b : List UInt8) (r : Rf) : Bool :=
  if r.1 = 1 then (pAt b r.2.toNat).2 == 2 else if r.1 = 2 then (fAt b r.2.toNat).2 == 2 else if r.1 = 3 then (rAt b r.2.toNat).2 == 2
  else if r.1 = 4 then (tAt b).2 == 2 else (gAt b).2 == 2
def bads (b : List UInt8) : List Rf := (allRecs 0).filter (isBad b)
theorem all_sorted : (allRecs 0).Pairwise ltR := by
  have h : (allRecs 0).Pairwise (fun a b => lt a b = true) := by decide +kernel
  exact h.imp (fun {a b} h => lt_iff.1 h)
theorem ins_last {r : Rf} : ∀ {l : List Rf}, (∀ x ∈ l, ltR x r) → ins r l = l ++ [r]
  | [], _ => rfl
  | x :: l, h => by
    unfold ins
    rw [if_neg (fun hl => ltR_irr (h x (by simp)) (lt_iff.1 hl)), ins_last (fun y hy => h y (by simp [hy]))]
    rfl
theorem fold_bad {f : List Rf → Rf → List Rf} {p : Rf → Bool} : ∀ {L bad : List Rf}, L.Pairwise ltR → (∀ x ∈ bad, ∀ y ∈ L, ltR x y) → (∀ r ∈ L, ∀ l, r ∉ l → f l r = if p r then ins r l else l) → L.foldl f bad = bad ++ L.filter p
  | [], bad, _, _, _ => by simp
  | r :: L, bad, hL, hb, hf => by
    have hp := List.pairwise_cons.1 hL
    have hn : r ∉ bad := fun h => ltR_irr (hb r h r (by simp)) (hb r h r (by simp))
    rw [List.foldl_cons, hf r (by simp) bad hn]
    by_cases h : p r = true
    · rw [if_pos h, ins_last (fun x hx => hb x hx r (by simp)), List.filter_cons_of_pos h, fold_bad hp.2 (fun x hx y hy => ?_) (fun r' hr' => hf r' (by simp [hr']))]
      · simp
      · rcases List.mem_append.1 hx with hx | hx
        · exact hb x hx y (by simp [hy])
        · rw [List.mem_singleton.1 hx]; exact hp.1 y hy
    · rw [if_neg h, List.filter_cons_of_neg h, fold_bad hp.2 (fun x hx y hy => hb x hx y (by simp [hy])) (fun r' hr' => hf r' (by simp [hr']))]
theorem mem_all0 {r : Rf} (h : r ∈ allRecs 0) : (∃ i, i < 8 ∧ r = (1, ((i : Nat) : Int))) ∨ (∃ i, i < 12 ∧ r = (2, ((i : Nat) : Int))) ∨ (∃ i, i < 4 ∧ r = (3, ((i : Nat) : Int))) ∨ r = (4, 0) ∨ r = (5, 0) := by
  unfold allRecs at h
  simp only [List.mem_append, mk, List.mem_map, List.mem_range, List.mem_cons, List.not_mem_nil, or_false] at h
  rcases h with ((⟨i, hi, rfl⟩ | ⟨i, hi, rfl⟩) | ⟨i, hi, rfl⟩) | rfl | rfl
  · exact .inl ⟨i, hi, rfl⟩
  · exact .inr (.inl ⟨i, hi, rfl⟩)
  · exact .inr (.inr (.inl ⟨i, by omega, rfl⟩))
  · exact .inr (.inr (.inr (.inl rfl)))
  · exact .inr (.inr (.inr (.inr rfl)))
theorem pread_if {α : Type} {dec : List UInt8 → α × Int} {z : α} {xs : List UInt8} {src : Src} {l : List Rf} {r : Rf} (h : r ∉ l) {x : Nat × Nat × Nat} (hw : wher 0 r = some x) : (pread dec z xs src 0 l r).2 = if ((dec (got xs src x)).2 == 2) = true then ins r l else l := by
  rw [pread_some h hw (v := (dec (got xs src x)).1) (d := (dec (got xs src x)).2) rfl]
  by_cases h2 : (dec (got xs src x)).2 = 2
  · rw [if_pos h2, if_pos (by simp [h2])]
  · rw [if_neg h2, if_neg (by simp [h2])]
theorem wher1 {i : Nat} (h : i < 8) : wher 0 (1, (i : Int)) = some (0, 24 * i, 24) := by simp [wher]; omega
theorem wher2 {i : Nat} (h : i < 12) : wher 0 (2, (i : Int)) = some (0, 192 + 8 * i, 8) := by simp [wher]; omega
theorem wher3 {i : Nat} (h : i < 4) : wher 0 (3, (i : Int)) = some (0, 288 + 40 * i, 40) := by simp [wher]; omega
theorem wher4 : wher 0 (4, 0) = some (0, 448, 40) := by simp [wher]
theorem wher5 : wher 0 (5, 0) = some (0, 488, 4) := by simp [wher]
section
variable {b : List UInt8}
theorem seen1 (hb : b.length = 492) {r : Rf} (hr : r ∈ allRecs 0) (l : List Rf) (hl : r ∉ l) : Co.seen (xsOf b) src1 0 l r = if isBad b r then ins r l else l := by
  rcases mem_all0 hr with ⟨i, hi, rfl⟩ | ⟨i, hi, rfl⟩ | ⟨i, hi, rfl⟩ | rfl | rfl
  · simp only [Co.seen, isBad, if_true, Int.toNat_natCast]
    rw [pread_if hl (wher1 hi), got1 hb (by omega)]
    rfl
  · simp only [Co.seen, isBad, show ¬ ((2 : Int) = 1) by decide, if_false, if_true, Int.toNat_natCast]
    rw [pread_if hl (wher2 hi), got1 hb (by omega)]
    rfl
  · simp only [Co.seen, isBad, show ¬ ((3 : Int) = 1) by decide, show ¬ ((3 : Int) = 2) by decide, show ¬ ((3 : Int) = 5) by decide, if_false, if_true, Int.toNat_natCast]
    rw [pread_if hl (wher3 hi), got1 hb (by omega)]
    rfl
  · simp only [Co.seen, isBad, show ¬ ((4 : Int) = 1) by decide, show ¬ ((4 : Int) = 2) by decide, show ¬ ((4 : Int) = 3) by decide, show ¬ ((4 : Int) = 5) by decide, if_false, if_true]
    rw [pread_if hl wher4, got1 hb (by omega)]
    rfl
  · simp only [Co.seen, isBad, show ¬ ((5 : Int) = 1) by decide, show ¬ ((5 : Int) = 2) by decide, show ¬ ((5 : Int) = 3) by decide, show ¬ ((5 : Int) = 4) by decide, if_false, if_true]
    rw [pread_if hl wher5, got1 hb (by omega)]
    rfl
theorem look1 (hb : b.length = 492) : Co.look (xsOf b) src1 0 [] = bads b := by
  unfold Co.look bads
  rw [fold_bad (p := isBad b) all_sorted (fun x hx => by cases hx) (fun r hr l hl => seen1 hb hr l hl)]
  rfl
/-- Where nothing is bad. -/
structure AllGood (b : List UInt8) : Prop where
  p : ∀ i, i < 8 → (pAt b i).2 ≠ 2
  f : ∀ i, i < 12 → (fAt b i).2 ≠ 2
  r : ∀ i, i < 4 → (rAt b i).2 ≠ 2
  t : (tAt b).2 ≠ 2
  g : (gAt b).2 ≠ 2
theorem good_of (h : bads b = []) : AllGood b := by
  have h' : ∀ r ∈ allRecs 0, isBad b r = false := fun r hr => by
    cases hx : isBad b r with
    | false => rfl
    | true =>
      have : r ∈ bads b := List.mem_filter.2 ⟨hr, hx⟩
      rw [h] at this
      cases this
  have m : ∀ r, (∃ i, i < 8 ∧ r = (1, ((i : Nat) : Int))) ∨ (∃ i, i < 12 ∧ r = (2, ((i : Nat) : Int))) ∨ (∃ i, i < 4 ∧ r = (3, ((i : Nat) : Int))) ∨ r = (4, 0) ∨ r = (5, 0) → r ∈ allRecs 0 := fun r hr => by
    unfold allRecs
    simp only [List.mem_append, mk, List.mem_map, List.mem_range, List.mem_cons, List.not_mem_nil, or_false]
    rcases hr with ⟨i, hi, rfl⟩ | ⟨i, hi, rfl⟩ | ⟨i, hi, rfl⟩ | rfl | rfl
    · exact .inl (.inl (.inl ⟨i, hi, rfl⟩))
    · exact .inl (.inl (.inr ⟨i, hi, rfl⟩))
    · exact .inl (.inr ⟨i, by omega, rfl⟩)
    · exact .inr (.inl rfl)
    · exact .inr (.inr rfl)
  refine ⟨fun i hi e => ?_, fun i hi e => ?_, fun i hi e => ?_, fun e => ?_, fun e => ?_⟩
  · have := h' (1, (i : Int)) (m _ (.inl ⟨i, hi, rfl⟩))
    simp [isBad, e] at this
  · have := h' (2, (i : Int)) (m _ (.inr (.inl ⟨i, hi, rfl⟩)))
    simp [isBad, e] at this
  · have := h' (3, (i : Int)) (m _ (.inr (.inr (.inl ⟨i, hi, rfl⟩))))
    simp [isBad, e] at this
  · have := h' (4, 0) (m _ (.inr (.inr (.inr (.inl rfl)))))
    simp [isBad, e] at this
  · have := h' (5, 0) (m _ (.inr (.inr (.inr (.inr rfl)))))
    simp [isBad, e] at this
theorem rdP (hb : b.length = 492) (hg : AllGood b) {i : Nat} (hi : i < 8) : pread Cd.dcd Cd.noP (xsOf b) src1 0 [] (1, (i : Int)) = (((pAt b i).1, (pAt b i).2), []) := by
  have e : Cd.dcd (got (xsOf b) src1 (0, 24 * i, 24)) = ((pAt b i).1, (pAt b i).2) := by rw [got1 hb (by omega)]; rfl
  rw [pread_some (by simp) (wher1 hi) e, if_neg (hg.p i hi)]
theorem rdF (hb : b.length = 492) (hg : AllGood b) {i : Nat} (hi : i < 12) : pread Fi.dcd Fi.noP (xsOf b) src1 0 [] (2, (i : Int)) = (((fAt b i).1, (fAt b i).2), []) := by
  have e : Fi.dcd (got (xsOf b) src1 (0, 192 + 8 * i, 8)) = ((fAt b i).1, (fAt b i).2) := by rw [got1 hb (by omega)]; rfl
  rw [pread_some (by simp) (wher2 hi) e, if_neg (hg.f i hi)]
theorem rdR (hb : b.length = 492) (hg : AllGood b) {i : Nat} (hi : i < 4) : pread Ri.dcd Ri.noP (xsOf b) src1 0 [] (3, (i : Int)) = (((rAt b i).1, (rAt b i).2), []) := by
  have e : Ri.dcd (got (xsOf b) src1 (0, 288 + 40 * i, 40)) = ((rAt b i).1, (rAt b i).2) := by rw [got1 hb (by omega)]; rfl
  rw [pread_some (by simp) (wher3 hi) e, if_neg (hg.r i hi)]
end
/-- Which of n records are there, with their numbers. -/
def there {α : Type} (g : Nat → α × Int) : Nat → List (Nat × α)
  | 0 => []
  | k + 1 => if (g k).2 = 1 then there g k ++ [(k, (g k).1)] else there g k
theorem there_mem {α : Type} {g : Nat → α × Int} {x : Nat × α} : ∀ {n : Nat}, x ∈ there g n ↔ x.1 < n ∧ (g x.1).2 = 1 ∧ (g x.1).1 = x.2
  | 0 => by simp [there]
  | n + 1 => by
    have ih := there_mem (g := g) (x := x) (n := n)
    unfold there
    split
    · rename_i h
      rw [List.mem_append, ih, List.mem_singleton]
      constructor
      · rintro (⟨h1, h2⟩ | rfl)
        · exact ⟨by omega, h2⟩
        · exact ⟨by simp, h, rfl⟩
      · rintro ⟨h1, h2, h3⟩
        by_cases e : x.1 = n
        · right
          subst e
          rw [h3]
        · exact .inl ⟨by omega, h2, h3⟩
    · rename_i h
      rw [ih]
      constructor
      · rintro ⟨h1, h2⟩; exact ⟨by omega, h2⟩
      · rintro ⟨h1, h2, h3⟩
        refine ⟨?_, h2, h3⟩
        by_cases e : x.1 = n
        · subst e; exact absurd h2 h
        · omega
theorem there_len {α : Type} (g : Nat → α × Int) : ∀ n, (there g n).length ≤ n
  | 0 => Nat.le_refl _
  | n + 1 => by
    have ih := there_len g n
    unfold there
    split
    · rw [List.length_append]; simp; omega
    · omega
end Go.Proofs.YtngchjejmnfanaaGreat.Au
namespace Go.Proofs.YtngchjejmnfanaaGreat.Pn
open Go.RowKit
set_option linter.unusedVariables false
set_option linter.unusedSimpArgs false
open Co (Src Link Cm Kc Ct)
theorem names_row {f : Q → Pl} (hf : ∀ q, (f q).on = q.on ∧ (f q).gen = q.gen) (l : List Cp) (hl : l.length ≤ 32) : ∀ k, k ≤ 32 → names ((rowQ l).map f) k = mk (min k l.length) fun i => (i : Int) + 256
  | 0, _ => by simp [names, mk]
  | k + 1, hk => by
    have ih := names_row hf l hl k (by omega)
    by_cases h : k < l.length
    · have hq : ((rowQ l).map f)[k]? = some (f ⟨1, true, l[k]⟩) := by rw [List.getElem?_map, rowQ_in (List.getElem?_eq_getElem h)]; rfl
      have h1 := hf ⟨1, true, l[k]⟩
      rw [names_on hq h1.1, h1.2, ih, show min k l.length = k by omega, show min (k + 1) l.length = k + 1 by omega, ← mk_succ]
      rfl
    · have hq : ((rowQ l).map f)[k]? = some (f ⟨1, false, zcap⟩) := by rw [List.getElem?_map, rowQ_out (by omega) (by omega)]; rfl
      rw [names_off hq (hf _).1, ih, show min k l.length = min (k + 1) l.length by omega]
theorem names_pl (l : List Cp) (hl : l.length ≤ 32) : names ((rowQ l).map Q.pl) (rowQ l).length = mk l.length fun i => (i : Int) + 256 := by
  rw [rowQ_len hl, names_row (fun _ => ⟨rfl, rfl⟩) l hl 32 (Nat.le_refl _), Nat.min_eq_right hl]
/-- The Caps that Shares give to a session. -/
def capsOf (ses : Int) : List Sh → Nat → List Cp
  | [], _ => []
  | s :: l, i => if ses ∈ s.tos then ⟨i, 3, 0, s.n, (0, 0)⟩ :: capsOf ses l (i + 1) else capsOf ses l (i + 1)
theorem capsOf_snoc (ses : Int) (s : Sh) : ∀ (l : List Sh) (i : Nat), capsOf ses (l ++ [s]) i = capsOf ses l i ++ (if ses ∈ s.tos then [⟨((i + l.length : Nat) : Int), 3, 0, s.n, (0, 0)⟩] else [])
  | [], i => by simp [capsOf]
  | x :: l, i => by
    have ih := capsOf_snoc ses s l (i + 1)
    rw [List.cons_append]
    unfold capsOf
    rw [ih, show i + 1 + l.length = i + (x :: l).length by simp; omega]
    split <;> simp
theorem csAt_caps {envs : List Int} {sh : List Sh} {e : Nat} (he : e < envs.length) : ∀ j, j ≤ sh.length → csAt envs sh j e = capsOf (envs.getD e 0) (sh.take j) 0
  | 0, _ => by simp [csAt, capsOf]
  | j + 1, hj => by
    have ih := csAt_caps (sh := sh) he j (Nat.le_of_succ_le hj)
    obtain ⟨s, hs⟩ : ∃ s, sh[j]? = some s := ⟨_, List.getElem?_eq_getElem (show j < sh.length by omega)⟩
    rw [csAt_next hs, List.take_add_one, hs]
    show gave _ _ _ _ _ _ = capsOf _ (sh.take j ++ [s]) 0
    have hl : (sh.take j).length = j := by rw [List.length_take]; omega
    rw [capsOf_snoc, ← ih, hl, Nat.zero_add]
    unfold gave
    by_cases m : envs.getD e 0 ∈ s.tos
    · rw [if_pos ⟨he, m⟩, if_pos m]
    · rw [if_neg (fun h => m h.2), if_neg m, List.append_nil]
/-- A Commons and its kernel, both made by the call. -/
structure Op0 (w W : World) (K : Kn) (C : Cm) (src : Src) : Prop where
  kc : Kc W K C src
  lo : ∀ x, Mine K x → w.heap.size ≤ x
  lb : w.heap.size ≤ C.b
  keep : Keep (From w.heap.size) w W
section
variable {w W W' : World} {K K' : Kn} {C C' : Cm} {src : Src}
theorem Op0.nob (h : Op0 w W K C src) (k : Keep Nob W W') : Op0 w W' K C src := ⟨h.kc.nob k, h.lo, h.lb, h.keep.nob k⟩
theorem Op0.ct (h : Op0 w W K C src) (t : Ct W K K' C C' src W') (hb : C'.b = C.b) : Op0 w W' K' C' src :=
  ⟨t.is, fun x m => (t.mine x m).elim (h.lo x) (fun e => by have := h.keep.size; omega), by rw [hb]; exact h.lb, h.keep.from_ t.keep (fun b m => m.elim (fun m => h.lo b (.inl m)) (fun e => by rw [e]; exact h.lb))⟩
theorem Op0.bytes {ys : List UInt8} (h : Op0 w W K C src) (t : To W K { K with xs := ys } W') : Op0 w W' { K with xs := ys } C src := h.ct (Ct.of_to h.kc t) rfl
end
end Go.Proofs.YtngchjejmnfanaaGreat.Pn
namespace Go.Proofs.YtngchjejmnfanaaGreat.Co
open Go.RowKit Go.MapKept
set_option linter.unusedVariables false
set_option linter.unusedSimpArgs false
/-- A Commons that a call has made. -/
structure NewCm (w w' : World) (k : Nat) (C : Cm) (e : Nat) (n0 : Int) (l : List Int) : Prop where
  is : IsCm w' k C
  env : C.env = e
  name : C.name = n0
  brs : C.brs = l
  bad : C.bad = []
  p : w.heap.size ≤ C.p
  b : w.heap.size ≤ C.b
  a : ∀ ad, C.A = some ad → w.heap.size ≤ ad.block
  keep : Keep Nob w w'
set_option maxRecDepth 100000 in
set_option maxHeartbeats 2000000 in
theorem cnew_is {w : World} {K : Kn} (h : IsKn w K) (e : Nat) (he : e < K.envs.length) (n0 : Int) (l : List Int) (hl : names ((K.T e).map Q.pl) (K.T e).length = n0 :: l) (few : l.length ≤ 31) :
    Calls Tryz.prog 31 #[.pointer (some ⟨K.k, 0, none⟩), .int .i64 e] w fun e' w' => ∃ C, e' = .returned (.tuple #[.pointer (some ⟨C.p, 0, none⟩), .int .i64 0]) ∧ NewCm w w' K.k C e n0 l := by
  have hsp := space_is h
  have hnm := snames_new h.reg.sp he
  rw [hl] at hnm
  have hmm := @run_makeMap Tryz.prog
  clear h hl he
  generalize K.s = ks at *
  generalize K.k = kk at *
  go_enter Tryz.func31, Tryz.ntmps31
  go_wp2_with fail
  refine hsp.mono ?_; rintro e' w1 ⟨rfl, rfl⟩
  go_wp2_with fail
  refine hnm.mono ?_; rintro e' w1 ⟨A, c, rfl, hv, hk, hfr⟩
  obtain ⟨g, cur, rfl, hb, hlc, hcl, ht⟩ := hv.at_ (by simp)
  have hg : w.heap.size ≤ g := hfr g ⟨_, rfl, rfl⟩
  have hrd := hv.reads
  have z0 : w1.cell? ⟨g, 0, none⟩ = some (.int .i64 n0) := by
    obtain ⟨ad, e1, e2⟩ := hrd.2 (by simp)
    cases e1
    exact e2 0 _ rfl
  have z1 : (w1.alloc (.map #[] 0)).cell? ⟨g, 0, none⟩ = some (.int .i64 n0) := by
    rw [(hb.alloc _).cell, ← hb.cell]
    exact z0
  have hr1 : c ≠ 1 → Reads w1 (some ⟨g, 1, none⟩) l.length (ints l) := fun _ => by
    obtain ⟨ad, e1, e2⟩ := hrd.2 (by simp)
    cases e1
    refine ⟨by simp [ints], fun _ => ⟨_, rfl, fun j u hu => ?_⟩⟩
    have e3 := e2 (j + 1) u (by simpa [ints] using hu)
    rw [add_lit] at e3 ⊢
    rw [← e3]
    congr 2
    omega
  have hr0 : c = 1 → Reads w1 (some ⟨g, 0, none⟩) l.length (ints l) := fun e => by
    simp at hlc
    have : l = [] := List.eq_nil_of_length_eq_zero (by omega)
    subst this
    exact Reads.nil_ _ _
  have hlen : (n0 :: l).length = l.length + 1 := rfl
  rw [hlen] at hlc ⊢
  have HH := Lib.hid (And.intro hr1 (And.intro hr0 (And.intro hk hg)))
  clear hsp hnm hv hfr hb hcl ht hrd hr1 hr0 hk hg hlen
  generalize hln : l.length = n at *
  have HL := Lib.hid hln
  have h1n : (1 : Int) ≤ (n : Int) + 1 := by omega
  clear hln
  have fin : ∀ (A : Option Addr) (c' : Nat), Reads w1 A n (ints l) → (∀ ad, A = some ad → w.heap.size ≤ ad.block) →
      ∃ C : Cm, C.p = w1.heap.size + 1 ∧ NewCm w ((w1.alloc (.map #[] 0)).alloc (.cells #[.pointer (some ⟨kk, 0, none⟩), .int .i64 e, .int .i64 n0, .slice A n c', .map (some w1.heap.size)] 129)).drew kk C e n0 l := fun A c' hA hf => by
    have hk1 : Keep Nob w1 ((w1.alloc (.map #[] 0)).alloc (.cells #[.pointer (some ⟨kk, 0, none⟩), .int .i64 e, .int .i64 n0, .slice A n c', .map (some w1.heap.size)] 129)).drew := (((Keep.refl Nob w1).alloc _).alloc _).drew
    have hlen : l.length = n := HL.out
    have hs := HH.out.2.2.1.size
    have hb2 := Blk.new (w1.alloc (.map #[] 0)) 129 [.pointer (some ⟨kk, 0, none⟩), .int .i64 e, .int .i64 n0, .slice A n c', .map (some w1.heap.size)]
    have hsz : (w1.alloc (.map #[] 0)).heap.size = w1.heap.size + 1 := by simp
    rw [hsz] at hb2
    refine ⟨⟨w1.heap.size + 1, e, n0, A, c', l, w1.heap.size, []⟩, rfl, ⟨⟨?_, ?_, ⟨[], ?_, List.Perm.refl _⟩, List.Pairwise.nil, by rw [hlen]; exact few, fun r hr => by cases hr⟩, rfl, rfl, rfl, rfl, by dsimp only; omega, hs, hf, HH.out.2.2.1.trans hk1 (fun _ _ f => f)⟩⟩
    · dsimp only
      rw [hlen]
      exact hb2
    · dsimp only
      rw [hlen]
      exact hA.nob hk1
    · exact (MapIs.new w1).nob (((Keep.refl Nob _).alloc _).drew)
  have FIN := Lib.hid fin
  clear fin
  by_cases hc1 : c = 1
  · subst hc1
    go_wp2_with fail
    go_region
    have hn0 : n = 0 := by omega
    subst hn0
    obtain ⟨C, hp, hC⟩ := FIN.out (some ⟨g, 0, none⟩) 0 (HH.out.2.1 trivial) (fun ad e => by cases e; exact HH.out.2.2.2)
    go_wp2
    go_ret2
    exact ⟨C, by rw [hp]; rfl, hC⟩
  · go_wp2_with fail
    go_region
    obtain ⟨C, hp, hC⟩ := FIN.out (some ⟨g, 1, none⟩) (c - 1) (HH.out.1 hc1) (fun ad e => by cases e; exact HH.out.2.2.2)
    go_wp2
    go_ret2
    exact ⟨C, by rw [hp]; rfl, hC⟩
end Go.Proofs.YtngchjejmnfanaaGreat.Co
namespace Go.Proofs.YtngchjejmnfanaaGreat.Au
open Go.RowKit
set_option linter.unusedVariables false
set_option linter.unusedSimpArgs false
open Co (Src Link Cm Kc Ct)
/-- A Boot of one environment that has 492 bytes. -/
structure Bt1 (b : Bt) : Prop where
  frames : b.frames = [8]
  envs : b.envs = [0]
  sects : b.sects = []
  lease : b.lease = 1
  shared : ∃ s, b.shared = [s] ∧ s.ses = 0 ∧ s.frame = 0 ∧ s.lo = 0 ∧ s.n = 492 ∧ s.tos = [0]
def caps1 : List Cp := [⟨0, 3, 0, 492, (0, 0)⟩]
section
variable {b : Bt}
theorem Bt1.ok (h : Bt1 b) : BtOk b [8] := by
  obtain ⟨s, hs, h1, h2, h3, h4, h5⟩ := h.shared
  refine ⟨by rw [h.frames]; rfl, by rw [h.frames]; decide, by rw [h.frames]; decide, by rw [h.envs]; decide, by rw [h.sects]; decide, by rw [hs]; simp, by rw [h.lease]; decide, by rw [h.lease]; decide, fun x hx => ?_, fun s hs => (by rw [h.sects] at hs; cases hs), fun s' hs' => ?_⟩
  · rw [h.envs] at hx
    rw [h.frames]
    obtain rfl := List.mem_singleton.1 hx
    decide
  · rw [hs] at hs'
    obtain rfl := List.mem_singleton.1 hs'
    unfold ShOk
    rw [h1, h2, h3, h4, h5]
    exact ⟨by decide, by decide, by decide, by decide, by decide, by decide, by decide, fun x hx => by obtain rfl := List.mem_singleton.1 hx; decide, by decide⟩
theorem Bt1.cs (h : Bt1 b) : csAt b.envs b.shared b.shared.length 0 = caps1 := by
  obtain ⟨s, hs, h1, h2, h3, h4, h5⟩ := h.shared
  rw [Pn.csAt_caps (by rw [h.envs]; decide) _ (Nat.le_refl _), List.take_length, h.envs, hs]
  simp [Pn.capsOf, caps1, h4, h5]
theorem Bt1.spans (h : Bt1 b) : b.shared.map (spanOf [8]) = [(0, 492)] := by
  obtain ⟨s, hs, h1, h2, h3, h4, h5⟩ := h.shared
  rw [hs]
  simp [spanOf, Qu.first, h1, h2, h3, h4]
end
/-- The rights of its environment. -/
structure G1 (T : St) (n : Nat) (L : List Rf) : Prop where
  n1 : n = 1
  cs : ∃ cs : Nat → List Cp, T = tOf cs ∧ cs 0 = caps1
  spans : L = [(0, 492)]
section
variable {T : St} {n : Nat} {L : List Rf}
theorem G1.of {b : Bt} (h : Bt1 b) (hn : n = b.envs.length) (hT : T = tOf (csAt b.envs b.shared b.shared.length)) (hL : L = b.shared.map (spanOf [8])) : G1 T n L :=
  ⟨by rw [hn, h.envs]; rfl, ⟨_, hT, h.cs⟩, by rw [hL, h.spans]⟩
theorem G1.has (h : G1 T n L) : Has T n (((0 : Nat) : Int), ((0 : Nat) : Int) + 256) ⟨0, 3, 0, 492, (0, 0)⟩ := by
  obtain ⟨cs, hT, hc⟩ := h.cs
  have h32 : ∀ e, e < n → (cs e).length ≤ 32 := fun e he => by
    obtain rfl : e = 0 := by have := h.n1; omega
    rw [hc]; decide
  rw [hT]
  exact (row_has h32 _ _).2 ⟨0, 0, by rw [h.n1]; decide, rfl, by rw [hc]; rfl⟩
theorem G1.reach (h : G1 T n L) {right : Int} (hr : right = 1 ∨ right = 2) {at_ k : Nat} (hin : at_ + k ≤ 492) : Reach T n L 0 256 right at_ k ((0 + at_ : Nat) : Int) 0 := by
  have hh := h.has
  have hb : ∀ x : Int, x = 3 → (bits .and .i64 x right == 0) = false := fun x hx => by subst hx; rcases hr with rfl | rfl <;> decide
  rw [h.spans]
  exact Reach.yes _ (0, 492) _ hh (hb _ rfl) ⟨by omega, by omega, by dsimp only; omega, by dsimp only; omega, rfl, by dsimp only; omega⟩ (by dsimp only; omega)
theorem G1.names (h : G1 T n L) : names ((T 0).map Q.pl) (T 0).length = 256 :: [] := by
  obtain ⟨cs, hT, hc⟩ := h.cs
  have e : T 0 = rowQ caps1 := by rw [hT]; show rowQ (cs 0) = _; rw [hc]
  rw [e, Pn.names_pl _ (by decide)]
  rfl
end
theorem G1.link {K : Kn} {C : Cm} (h : G1 K.T K.envs.length K.L) (he : C.env = 0) (hn : C.name = 256) (hb : C.brs = []) : Link K C src1 := by
  refine ⟨by rw [h.n1, he]; decide, fun j b at_ k hj hs right hr hin => ?_, fun j _ _ _ hs => by cases hs⟩
  rw [hb] at hj
  obtain rfl : j = 0 := by simpa using hj
  cases hs
  rw [if_pos rfl] at hin
  rw [he, show C.nm 0 = 256 from hn]
  exact h.reach hr hin
end Go.Proofs.YtngchjejmnfanaaGreat.Au
namespace Go.Proofs.YtngchjejmnfanaaGreat.Au
open Go.RowKit
set_option linter.unusedVariables false
set_option linter.unusedSimpArgs false
open Co (Src Link Cm Kc Ct)
/-- What over leaves: a kernel and a Commons over bytes. -/
structure Over (w W : World) (K : Kn) (C : Cm) (b : List UInt8) (bad : List Rf) : Prop where
  op : Pn.Op0 w W K C src1
  xs : K.xs = xsOf b
  env : C.env = 0
  brs : C.brs = []
  bad : C.bad = bad
set_option maxRecDepth 100000 in
set_option maxHeartbeats 4000000 in
theorem over_is {w : World} (A : Option Addr) (c : Nat) (b : List UInt8) (hb : Reads w A 492 (bytes b)) (hl : b.length = 492) :
    Calls Tryz.prog 73 #[.slice A 492 c] w fun e w' => ∃ K C, e = .returned (.pointer (some ⟨C.p, 0, none⟩)) ∧ Over w w' K C b [] := by
  have k0 := ((((Keep.refl Nob w).alloc (.cells #[.int .i64 8] 3)).alloc (.cells #[.int .i64 0] 3)).alloc (.cells #[.int .i64 0] 3)).alloc (.cells #[.int .i64 0, .int .i64 0, .int .i64 0, .int .i64 492, .slice (some ⟨w.heap.size + 1 + 1, 0, none⟩) 1 1] 173)
  have r0 : Reads ((((w.alloc (.cells #[.int .i64 8] 3)).alloc (.cells #[.int .i64 0] 3)).alloc (.cells #[.int .i64 0] 3)).alloc (.cells #[.int .i64 0, .int .i64 0, .int .i64 0, .int .i64 492, .slice (some ⟨w.heap.size + 1 + 1, 0, none⟩) 1 1] 173)) (some ⟨w.heap.size, 0, none⟩) 1 (ints [8]) := reads_all ((((Blk.new w 3 [.int .i64 8]).alloc _).alloc _).alloc _) rfl
  have r1 : Reads ((((w.alloc (.cells #[.int .i64 8] 3)).alloc (.cells #[.int .i64 0] 3)).alloc (.cells #[.int .i64 0] 3)).alloc (.cells #[.int .i64 0, .int .i64 0, .int .i64 0, .int .i64 492, .slice (some ⟨w.heap.size + 1 + 1, 0, none⟩) 1 1] 173)) (some ⟨w.heap.size + 1, 0, none⟩) 1 (ints [0]) := by
    have := reads_all (n := 1) (((Blk.new (w.alloc (.cells #[.int .i64 8] 3)) 3 [.int .i64 0]).alloc (.cells #[.int .i64 0] 3)).alloc (.cells #[.int .i64 0, .int .i64 0, .int .i64 0, .int .i64 492, .slice (some ⟨w.heap.size + 1 + 1, 0, none⟩) 1 1] 173)) rfl
    simp at this
    exact this
  have r2 : Reads ((((w.alloc (.cells #[.int .i64 8] 3)).alloc (.cells #[.int .i64 0] 3)).alloc (.cells #[.int .i64 0] 3)).alloc (.cells #[.int .i64 0, .int .i64 0, .int .i64 0, .int .i64 492, .slice (some ⟨w.heap.size + 1 + 1, 0, none⟩) 1 1] 173)) (some ⟨w.heap.size + 1 + 1, 0, none⟩) 1 (ints [0]) := by
    have := reads_all (n := 1) ((Blk.new ((w.alloc (.cells #[.int .i64 8] 3)).alloc (.cells #[.int .i64 0] 3)) 3 [.int .i64 0]).alloc (.cells #[.int .i64 0, .int .i64 0, .int .i64 0, .int .i64 492, .slice (some ⟨w.heap.size + 1 + 1, 0, none⟩) 1 1] 173)) rfl
    simp at this
    exact this
  have r3 : Reads ((((w.alloc (.cells #[.int .i64 8] 3)).alloc (.cells #[.int .i64 0] 3)).alloc (.cells #[.int .i64 0] 3)).alloc (.cells #[.int .i64 0, .int .i64 0, .int .i64 0, .int .i64 492, .slice (some ⟨w.heap.size + 1 + 1, 0, none⟩) 1 1] 173)) (some ⟨w.heap.size + 1 + 1 + 1, 0, none⟩) 5 [.int .i64 0, .int .i64 0, .int .i64 0, .int .i64 492, .slice (some ⟨w.heap.size + 1 + 1, 0, none⟩) 1 1] := by
    have := reads_all (n := 5) (Blk.new (((w.alloc (.cells #[.int .i64 8] 3)).alloc (.cells #[.int .i64 0] 3)).alloc (.cells #[.int .i64 0] 3)) 173 [.int .i64 0, .int .i64 0, .int .i64 0, .int .i64 492, .slice (some ⟨w.heap.size + 1 + 1, 0, none⟩) 1 1]) rfl
    simp at this
    exact this
  have hI : IsBt ((((w.alloc (.cells #[.int .i64 8] 3)).alloc (.cells #[.int .i64 0] 3)).alloc (.cells #[.int .i64 0] 3)).alloc (.cells #[.int .i64 0, .int .i64 0, .int .i64 0, .int .i64 492, .slice (some ⟨w.heap.size + 1 + 1, 0, none⟩) 1 1] 173)) ⟨[8], some ⟨w.heap.size, 0, none⟩, 1, [0], some ⟨w.heap.size + 1, 0, none⟩, 1, [], none, 0, 1, [⟨0, 0, 0, 492, some ⟨w.heap.size + 1 + 1, 0, none⟩, 1, [0]⟩], some ⟨w.heap.size + 1 + 1 + 1, 0, none⟩, 1⟩ :=
    ⟨r0, Nat.le_refl _, r1, Reads.nil_ _ _, fun s hs => (by cases hs), r3, fun s hs => (by obtain rfl := List.mem_singleton.1 hs; exact r2)⟩
  have h1 : Bt1 ⟨[8], some ⟨w.heap.size, 0, none⟩, 1, [0], some ⟨w.heap.size + 1, 0, none⟩, 1, [], none, 0, 1, [⟨0, 0, 0, 492, some ⟨w.heap.size + 1 + 1, 0, none⟩, 1, [0]⟩], some ⟨w.heap.size + 1 + 1 + 1, 0, none⟩, 1⟩ :=
    ⟨rfl, rfl, rfl, rfl, _, rfl, rfl, rfl, rfl, rfl, rfl⟩
  have hnew := knew_is hI h1.ok
  unfold Bt.val at hnew
  have HR := Lib.hid (hb.nob k0)
  have K0 := Lib.hid k0
  have H1 := Lib.hid h1
  clear k0 r0 r1 r2 r3 hI h1 hb
  go_enter Tryz.func73, Tryz.ntmps73
  go_wp2_with fail
  refine hnew.mono ?_; rintro e w1 ⟨K, rfl, hK, hBo⟩
  have hg : G1 K.T K.envs.length K.L := G1.of H1.out (by rw [hBo.envs]) hBo.T hBo.L
  have hxs : K.xs = zeros 8 := hBo.xs
  have hsp := space_is hK.is
  have hnm := snames_new hK.is.reg.sp (e := 0) (by rw [hg.n1]; decide)
  rw [hg.names] at hnm
  have HG := Lib.hid (And.intro hg hxs)
  have HK := Lib.hid hK
  have HR1 := Lib.hid (HR.out.nob hK.keep)
  have HK1 := Lib.hid (K0.out.nobt hK.keep)
  have HM := Lib.hid (show ∀ x, Mine K x → w.heap.size ≤ x from fun x m => Nat.le_trans K0.out.size (hK.mine x m))
  clear hnew hK hBo hg hxs HR K0
  go_wp2_with fail
  refine hsp.mono ?_; rintro e w2 ⟨rfl, rfl⟩
  go_wp2_with fail
  refine hnm.mono ?_; rintro e w3 ⟨B, cB, rfl, hv, k3, hfr⟩
  obtain ⟨g, cur, rfl, hB, _, _, ht⟩ := hv.at_ (by simp)
  have hrd := hv.reads
  have z0 : w3.cell? ⟨g, 0, none⟩ = some (.int .i64 256) := by
    obtain ⟨ad, e1, e2⟩ := hrd.2 (by simp)
    cases e1
    exact e2 0 _ rfl
  have hre : Reach K.T K.envs.length K.L 0 256 2 ((0 : Nat) : Int) (492 : Nat) ((0 + 0 : Nat) : Int) 0 := HG.out.1.reach (.inr rfl) (by decide)
  have hw : Calls Tryz.prog 33 #[.pointer (some ⟨K.k, 0, none⟩), .int .i64 0, Calc 2 256 0 0 0 0 A 492 c] w3 fun e w' => e = .returned (.agg #[.int .i64 0, .int .i64 0, .slice none 0 0]) ∧ To w3 K { K with xs := xsOf b } w' :=
    k_write (HK.out.is.nob k3) 0 (by rw [HG.out.1.n1]; decide) 256 0 0 0 0 A 492 c 0 b hre (HR1.out.nob k3) (xsOf b) (by rw [HG.out.2]; rfl)
  unfold Calc at hw
  have K3 := Lib.hid (HK1.out.nobt k3)
  clear hv k3 hB ht hrd hnm hsp hre hfr
  go_wp2_with fail
  refine hw.mono ?_; rintro e w4 ⟨rfl, t⟩
  have hnew2 := Co.cnew_is t.is 0 (by rw [HG.out.1.n1]; decide) 256 [] HG.out.1.names (by decide)
  have HT := Lib.hid t
  clear hw t z0
  go_wp2_with fail
  refine hnew2.mono ?_; rintro e w5 ⟨C, rfl, hC⟩
  have hlk : Link { K with xs := xsOf b } C src1 := HG.out.1.link (K := { K with xs := xsOf b }) hC.env hC.name hC.brs
  have hlt : ∀ x, Mine { K with xs := xsOf b } x → x < w4.heap.size := fun x m => HT.out.is.mine_lt x m
  have kc : Kc w5 { K with xs := xsOf b } C src1 := ⟨HT.out.is.nob hC.keep, hC.is, hlk, fun h0 ad e m => by have := hC.a ad e; have := hlt _ m; omega⟩
  have s1 := HK1.out.size
  have s3 := K3.out.size
  have s4 := HT.out.keep.size
  have kk : Keep (From w.heap.size) w w5 := ((K3.out.mono (fun _ _ f => f.elim)).trans HT.out.keep (fun x _ m => HM.out x (.inl m))).nob hC.keep
  have FIN := Lib.hid (show Over w w5 { K with xs := xsOf b } C b [] from ⟨⟨kc, fun x m => HM.out x m, by have := hC.b; omega, kk⟩, rfl, hC.env, hC.brs, hC.bad⟩)
  clear hnew2 hC hlk hlt kc kk s1 s3 s4
  go_wp2
  go_ret
  exact ⟨_, C, rfl, FIN.out⟩
end Go.Proofs.YtngchjejmnfanaaGreat.Au
namespace Go.Proofs.YtngchjejmnfanaaGreat.Co
open Go.RowKit Go.MapKept
set_option linter.unusedVariables false
set_option linter.unusedSimpArgs false
theorem infoRec : (Tryz.prog.info? 84).map (fun i => (i.zero, i.size, i.bytes)) = some (some (.agg #[.int .i64 0, .int .i64 0]), 2, 16) := by kernel_rfl
set_option maxRecDepth 100000 in
set_option maxHeartbeats 4000000 in
theorem bad_is {w : World} {k : Nat} {C : Cm} (h : IsCm w k C) :
    Calls Tryz.prog 12 #[.pointer (some ⟨C.p, 0, none⟩)] w fun e w' => ∃ A cap, e = .returned (.slice A C.bad.length cap) ∧ Vec w' 84 2 A C.bad.length cap (refs C.bad) ∧ Keep Nob w w' := by
  obtain ⟨F, hF', hperm⟩ := h.map
  have hF : MapIs Tryz.prog 84 w C.b (setM F) := hF'
  clear hF'
  have hFl : F.length ≤ 57 := by rw [hperm.length_eq]; exact bad_le h
  have hFs : (setM F).length = F.length := by simp [setM]
  have HFs := Lib.hid hFs
  have c4 : w.cell? ⟨C.p, 4, none⟩ = some (.map (some C.b)) := h.obj.cell 4
  have hsrt := h.srt
  have hfin : ∀ U : List Rf, U.Perm F → U.Pairwise (fun a b => ¬ ltR b a) → U = C.bad := fun U hU hs => by
    have hUp := hU.trans hperm
    refine sorted_eq hUp ?_ hsrt
    have hnd : U.Nodup := hUp.nodup_iff.2 (nodup_sorted hsrt)
    refine (List.Pairwise.and hs hnd).imp (fun {a b} hab => ?_)
    rcases ltR_tri a b with h1 | h1 | h1
    · exact h1
    · exact absurd h1 hab.2
    · exact absurd h1 hab.1
  have HFin := Lib.hid hfin
  have hobj := h.obj
  generalize C.b = bf at *
  generalize hcp : C.p = cp at *
  clear hFs h hfin hsrt hperm
  have hc4 : ∀ W, Keep Nob w W → W.cell? ⟨cp, 4, none⟩ = some (.map (some bf)) := fun W kk => (hobj.nob kk).cell 4
  clear hobj
  go_enter Tryz.func12, Tryz.ntmps12
  go_wp2_with (first
    | (at_len; go_loud (refine wpList_mapLen rfl _ 127 rfl 84 328 Tryz.underlying127 rfl hF ?_); go_loud (rw [HFs.out]))
    | (refine wpList_mk0 rfl _ _ 49 rfl 84 (.agg #[.int .i64 0, .int .i64 0]) 16 Tryz.underlying49 infoRec .i64 .i64 F.length _ rfl rfl rfl (by omega) (by unfold maxLen; omega) ?_; intro w3 hV3 hk5; have hF3 := hF.nob hk5; have c43 := hc4 _ hk5)
    | (at_range; refine wpList_mapRange rfl 127 _ rfl 84 328 Tryz.underlying127 rfl hF3 ?_; intro w4 hR4 hk6 hs6))
  have hV4 := hV3.nob hk6
  have hlt3 := hV3.lt w.heap.size ⟨_, rfl, rfl⟩
  have k6 := hk5.nobt hk6
  clear c4 c43 hc4
  go_frame
  go_loopw [3] (fun s11 wx => ∃ acc left g cap, s11 = .slice (some ⟨g, 0, none⟩) acc.length cap ∧ Vec wx 84 2 (some ⟨g, 0, none⟩) acc.length cap (refs acc) ∧ Ranging Tryz.prog 84 wx bf w3.heap.size (setM F) left ∧ (setM acc ++ left).Perm (setM F) ∧ Keep Nob w wx ∧ w.heap.size ≤ g) (fun _ wx => wx.rangeLeft bf w3.heap.size)
  case atStart => exact ⟨[], setM F, _, _, rfl, hV4, hR4, List.Perm.refl _, k6, Nat.le_refl _⟩
  case round =>
    obtain ⟨acc, left, g, cap, rfl, hV, hR, hp, hK, hA⟩ := hrel
    have hshape : ∀ p ∈ left, ∃ ρ : Rf, p = (rval ρ, .agg #[]) := by
      intro p hp'
      have h1 : p ∈ setM F := hp.mem_iff.1 (List.mem_append.2 (.inr hp'))
      obtain ⟨ρ, _, e⟩ := List.mem_map.1 h1
      exact ⟨ρ, e.symm⟩
    have hlen := hp.length_eq
    rw [List.length_append] at hlen
    have hal : acc.length ≤ 57 := by
      have h1 : (setM acc).length = acc.length := by simp [setM]
      have h2 := HFs.out
      omega
    have Hp := Lib.hid hp
    have hneR := hR.ne_own hV
    clear hp hlen
    go_wp2_with (first
      | (at_next; refine wpList_setNext rfl _ rfl 84 rfl hR hshape (fun hl0 => ?_) (fun ρ left' w5 hpl hR5 hk7 hs7 hen => ?_) <;> (try clear hs7))
      | (at_builtin; go_loud (refine wpList_ap rfl _ _ 49 rfl 84 2 16 (.agg #[.int .i64 0, .int .i64 0]) Tryz.underlying49 infoRec rfl (by decide) (some ⟨g, 0, none⟩) acc.length cap _ rfl (((hV.keep hk7 (fun g ho e => hneR (e ▸ ho))).nob ((Keep.refl Nob w5).alloc (.cells #[.int .i64 ρ.1, .int .i64 ρ.2] 84))).nob ((Keep.refl Nob _).alloc (.cells #[.int .i64 ρ.1, .int .i64 ρ.2] 84))) (some ⟨w5.heap.size + 1, 0, none⟩) 1 1 [.int .i64 ρ.1, .int .i64 ρ.2] rfl 2 rfl (reads_all (t := 84) (by have h5 := Blk.new (w5.alloc (.cells #[.int .i64 ρ.1, .int .i64 ρ.2] 84)) 84 [.int .i64 ρ.1, .int .i64 ρ.2]; simpa using h5) rfl) (by simp [Value.oneCell']) (by unfold maxLen; omega) (by omega) ?_); intro A2 c2 w6 hv2 hk8 ho2))
    · subst hl0
      have hpf : acc.Perm F := setM_perm (by have := Hp.out; rwa [List.append_nil] at this)
      refine (sort_is hV (by omega)).mono ?_; rintro e w7 ⟨rfl, U, hU1, hU2, hU3, hk9⟩
      obtain rfl := HFin.out U (hU1.trans hpf) hU2
      have hUl := hU1.length_eq
      have K9 := hK.trans hk9 (fun b hb e => by omega)
      have HUl := Lib.hid hUl
      clear hUl
      go_wp2
      go_ret
      exact ⟨_, cap, by rw [HUl.out]; rfl, by rw [HUl.out]; exact hU3, K9⟩
    · have hR6 := (hR5.keep (((Keep.refl Nob w5).alloc (.cells #[.int .i64 ρ.1, .int .i64 ρ.2] 84)).alloc (.cells #[.int .i64 ρ.1, .int .i64 ρ.2] 84)) (fun f => f) (fun f => f)).keep hk8 (hR.is.ne_own hV) hneR
      have hl := hpl.length_eq
      have hlt7 := hR5.is.lt
      have hlr := hR.lt
      have hws := hK.size
      have hkk := hk7.size
      have hw3 := hk5.size
      have K6 := (((hK.trans hk7 (fun b hb e => by omega)).alloc (.cells #[.int .i64 ρ.1, .int .i64 ρ.2] 84)).alloc (.cells #[.int .i64 ρ.1, .int .i64 ρ.2] 84)).trans hk8 (fun b hb ⟨a, ha, hb2⟩ => by cases ha; simp at hb2; omega)
      obtain ⟨g2, _, hA2, _⟩ := hv2.at_ (Nat.succ_pos _)
      subst hA2
      have hg2 : w.heap.size ≤ g2 := by
        rcases ho2 g2 ⟨_, rfl, rfl⟩ with ⟨a, ha, hb2⟩ | h1
        · cases ha; simp at hb2; omega
        · rw [h1]; simp; omega
      have hp6 : (setM (acc ++ [ρ]) ++ left').Perm (setM F) := by
        rw [setM_add, List.append_assoc]
        exact (hpl.symm.append_left _).trans Hp.out
      have hv6 : Vec w6 84 2 (some ⟨g2, 0, none⟩) (acc.length + 1) c2 (refs (acc ++ [ρ])) := by rw [refs_append]; exact hv2
      refine ⟨⟨acc ++ [ρ], left', g2, c2, by simp, by rw [List.length_append]; exact hv6, hR6, hp6, K6, hg2⟩, ?_⟩
      rw [hR6.left_eq, hR.left_eq]
      simp at hl
      omega
end Go.Proofs.YtngchjejmnfanaaGreat.Co
namespace Go.Proofs.YtngchjejmnfanaaGreat
open Go.RowKit
set_option linter.unusedVariables false
set_option linter.unusedSimpArgs false
section
variable {w w' : World} {K K' : Kn}
set_option maxRecDepth 100000 in
set_option maxHeartbeats 4000000 in
theorem do_read_b (h : IsKn w K) (i : Nat) (hi : i < K.envs.length) (cap at_ n to_ on : Int) (A : Option Addr) (m c : Nat) (er : Int) (l : Nat) (ys : List UInt8) (hcall : ∀ W, Keep Nob w W → Calls Tryz.prog 110 #[.pointer (some ⟨K.q, 0, none⟩), .int .i64 i, .int .i64 cap, .int .i64 at_, .int .i64 n] W fun e w' => ∃ g, e = .returned (.tuple #[.slice (some ⟨g, 0, none⟩) l l, .int .i64 er]) ∧ Blk w' g 5 (bytes ys) ∧ W.heap.size ≤ g ∧ Keep Nob W w') :
    Calls Tryz.prog 33 #[.pointer (some ⟨K.k, 0, none⟩), .int .i64 i, Calc 1 cap at_ n to_ on A m c] w fun e w' => ∃ g, e = .returned (.agg #[.int .i64 er, .int .i64 0, .slice (some ⟨g, 0, none⟩) l l]) ∧ Blk w' g 5 (bytes ys) ∧ w.heap.size ≤ g ∧ To w K K w' := by
  have k1 : Keep Nob w ((w.alloc (.cells #[.int .i64 1, .int .i64 cap, .int .i64 at_, .int .i64 n, .int .i64 to_, .int .i64 on, .slice A m c] 104)).alloc (.cells #[.int .i64 0, .int .i64 0, .slice none 0 0] 101)) := ((Keep.refl Nob w).alloc _).alloc _
  have b1 : Blk ((w.alloc (.cells #[.int .i64 1, .int .i64 cap, .int .i64 at_, .int .i64 n, .int .i64 to_, .int .i64 on, .slice A m c] 104)).alloc (.cells #[.int .i64 0, .int .i64 0, .slice none 0 0] 101)) w.heap.size 104 [.int .i64 1, .int .i64 cap, .int .i64 at_, .int .i64 n, .int .i64 to_, .int .i64 on, .slice A m c] := (Blk.new w 104 _).alloc _
  have b2 : Blk ((w.alloc (.cells #[.int .i64 1, .int .i64 cap, .int .i64 at_, .int .i64 n, .int .i64 to_, .int .i64 on, .slice A m c] 104)).alloc (.cells #[.int .i64 0, .int .i64 0, .slice none 0 0] 101)) (w.heap.size + 1) 101 [.int .i64 0, .int .i64 0, .slice none 0 0] := by
    have := Blk.new (w.alloc (.cells #[.int .i64 1, .int .i64 cap, .int .i64 at_, .int .i64 n, .int .i64 to_, .int .i64 on, .slice A m c] 104)) 101 [.int .i64 0, .int .i64 0, .slice none 0 0]
    simpa using this
  have h1 := h.nob k1
  have KK := Lib.hid (And.intro k1 (And.intro b1 (And.intro b2 h1)))
  clear k1 b1 b2 h1
  unfold Calc
  go_enter Tryz.func33, Tryz.ntmps33
  go_wp2_with fail
  obtain ⟨ss, hss⟩ : ∃ ss, K.envs.getD i 0 = ss := ⟨_, rfl⟩
  refine (session_yes KK.out.2.2.2 i hi ss hss).mono ?_; rintro e w1 ⟨rfl, rfl⟩
  generalize hw1 : ((w.alloc (.cells #[.int .i64 1, .int .i64 cap, .int .i64 at_, .int .i64 n, .int .i64 to_, .int .i64 on, .slice A m c] 104)).alloc (.cells #[.int .i64 0, .int .i64 0, .slice none 0 0] 101)) = w1 at *
  clear hw1
  have l0 := KK.out.2.1.cell 0
  simp only [List.getElem?_cons_zero] at l0
  have sf : ∀ (K' : Kn) (W : World), IsKn W K' → (K'.k = K.k ∧ K'.q = K.q ∧ K'.s = K.s ∧ K'.pq = K.pq) → Blk W w.heap.size 104 [.int .i64 1, .int .i64 cap, .int .i64 at_, .int .i64 n, .int .i64 to_, .int .i64 on, .slice A m c] → (W.cell? ⟨K.k, 5, none⟩ = some (.pointer (some ⟨K.q, 0, none⟩)) ∧ W.cell? ⟨w.heap.size, 1, none⟩ = some (.int .i64 cap) ∧ W.cell? ⟨w.heap.size, 2, none⟩ = some (.int .i64 at_) ∧ W.cell? ⟨w.heap.size, 3, none⟩ = some (.int .i64 n)) := by
    rintro K' W hW ⟨e1, e2, e3, e4⟩ hb
    have cK := hW.c5
    rw [e1, e2] at cK
    exact ⟨cK, hb.cell 1, hb.cell 2, hb.cell 3⟩
  have kd := Keep.nobdrew w1
  have hcl := hcall w1.drew (KK.out.1.drew)
  have s0 := sf K w1.drew (KK.out.2.2.2.nob kd) ⟨rfl, rfl, rfl, rfl⟩ (KK.out.2.1.nob kd)
  have SF := Lib.hid sf
  clear sf hcall hss h hi
  go_wp2_with fail
  go_region_held3 (fun w' => w'.cell? ⟨K.k, 5, none⟩ = some (.pointer (some ⟨K.q, 0, none⟩)) ∧ w'.cell? ⟨w.heap.size, 1, none⟩ = some (.int .i64 cap) ∧ w'.cell? ⟨w.heap.size, 2, none⟩ = some (.int .i64 at_) ∧ w'.cell? ⟨w.heap.size, 3, none⟩ = some (.int .i64 n))
    (first | exact s0 | exact SF.out K _ (KK.out.2.2.2.nob kx) ⟨rfl, rfl, rfl, rfl⟩ (KK.out.2.1.nob kx))
    (first | (go_at_call 110; refine hcl.mono ?_; rintro e w2 ⟨g, rfl, hrd, hfr, k2⟩; have kx := kd.trans k2 (fun _ _ f => f)))
  have ba := KK.out.2.2.1.nob kx
  have z0 := ba.cell 0
  have z1 := ba.cell 1
  have z2 := ba.cell 2
  have f0 := ba.frozen 0
  have f1 := ba.frozen 1
  have f2 := ba.frozen 2
  simp only [List.getElem?_cons_zero, List.getElem?_cons_succ] at z0 z1 z2
  have HB := Lib.hid ba
  have fin := Lib.hid (((To.still KK.out.2.2.2 kx).pre KK.out.1).ans ba (by omega) (.int .i64 er) (.int .i64 0) (.slice (some ⟨g, 0, none⟩) l l))
  have hfr2 : w.heap.size ≤ g ∧ g ≠ w.heap.size + 1 := by
    have h3 := KK.out.2.2.1.lt
    have h4 : w1.drew.heap.size = w1.heap.size := rfl
    constructor <;> omega
  have hrd2 := hrd.keep (ans_keep w2 (w.heap.size + 1) (.int .i64 er) (.int .i64 0) (.slice (some ⟨g, 0, none⟩) l l)) (fun m => hfr2.2 m)
  have HR := Lib.hid (And.intro hrd2 hfr2)
  clear ba kx k2 hrd hrd2 hfr hfr2 hcl
  go_wp2
  (try simp only [Exit.inBlock, Exit.then])
  refine bodyPost_ret (v := .agg #[.int .i64 er, .int .i64 0, (.slice (some ⟨g, 0, none⟩) l l)]) (results_cell_row rfl _ _ (w.heap.size + 1) 101 #[.int .i64 er, .int .i64 0, (.slice (some ⟨g, 0, none⟩) l l)] (0, 0) _ rfl (ans_blk HB.out _ _ _) Tryz.underlying101 rfl infoAns) rfl ?_
  exact ⟨g, rfl, HR.out.1, HR.out.2.1, fin.out⟩
theorem k_read_b (h : IsKn w K) (i : Nat) (hi : i < K.envs.length) (cap at_ to_ on : Int) (A : Option Addr) (m c : Nat) (k a : Nat) (hv : Reach K.T K.envs.length K.L i cap 1 at_ k a 0) (ys : List UInt8) (hy : (K.xs.drop a).take k = ys) (n : Int) (hn : n = k) :
    Calls Tryz.prog 33 #[.pointer (some ⟨K.k, 0, none⟩), .int .i64 i, Calc 1 cap at_ n to_ on A m c] w fun e w' => ∃ g, e = .returned (.agg #[.int .i64 0, .int .i64 0, .slice (some ⟨g, 0, none⟩) k k]) ∧ Blk w' g 5 (bytes ys) ∧ w.heap.size ≤ g ∧ To w K K w' := by
  subst hn
  refine do_read_b h i hi cap at_ k to_ on A m c 0 k ys (fun W kk => ?_)
  refine (read_yes (h.nob kk).reg hv).mono ?_
  have hr := hv.range h.reg
  have hl : ((K.xs.drop a).take k).length = k := by simp; omega
  rintro e w2 ⟨g, rfl, hb, hg, k2⟩
  rw [hy] at hb hl ⊢
  rw [hl]
  exact ⟨g, rfl, hb, hg, k2⟩
end
end Go.Proofs.YtngchjejmnfanaaGreat
namespace Go.Proofs.YtngchjejmnfanaaGreat.Co
open Go.RowKit
section
variable {w w' : World} {K K' : Kn} {C : Cm} {src : Src}
theorem do_load_b (h : Kc w K C src) (j at_ n b : Nat) (hs : src j at_ n = some b) (hj : j ≤ C.brs.length) (hin : at_ + n ≤ if j = 0 then 492 else 40) (bs : List UInt8) (hbs : got K.xs src (j, at_, n) = bs) :
    Calls Tryz.prog 33 #[.pointer (some ⟨K.k, 0, none⟩), .int .i64 C.env, Calc 1 (C.nm j) at_ n 0 0 none 0 0] w fun e w' => ∃ g, e = .returned (.agg #[.int .i64 0, .int .i64 0, .slice (some ⟨g, 0, none⟩) bs.length bs.length]) ∧ Blk w' g 5 (bytes bs) ∧ w.heap.size ≤ g ∧ To w K K w' := by
  have hr := h.l.yes j b at_ n hj hs 1 (.inl rfl) hin
  have hrr := hr.range h.k.reg
  have hg : (K.xs.drop (b + at_)).take n = bs := by
    unfold got at hbs
    dsimp only at hbs
    rw [hs] at hbs
    exact hbs
  have hl : bs.length = n := by rw [← hg]; simp; omega
  rw [hl]
  exact k_read_b h.k C.env h.l.env (C.nm j) at_ 0 0 none 0 0 n (b + at_) hr bs hg n rfl
set_option maxRecDepth 100000 in
set_option maxHeartbeats 4000000 in
theorem load_b (h : Kc w K C src) (j at_ n b0 : Nat) (hs0 : src j at_ n = some b0) (hj : j ≤ C.brs.length) (hin : at_ + n ≤ if j = 0 then 492 else 40) (nm : Int) (hnm : C.nm j = nm) (bs : List UInt8) (hbs : got K.xs src (j, at_, n) = bs) :
    Calls Tryz.prog 137 #[.pointer (some ⟨C.p, 0, none⟩), .agg #[.int .i64 nm, .int .i64 at_, .int .i64 n]] w fun e w' => ∃ g, e = .returned (.slice (some ⟨g, 0, none⟩) bs.length bs.length) ∧ Blk w' g 5 (bytes bs) ∧ w.heap.size ≤ g ∧ To w K K w' := by
  subst hnm
  have k1 := (Keep.refl Nob w).alloc (.cells #[.int .i64 (C.nm j), .int .i64 at_, .int .i64 n] 232)
  have b1 := Blk.new w 232 [.int .i64 (C.nm j), .int .i64 at_, .int .i64 n]
  have h1 := h.nob k1
  have hq : w.heap.size < (w.alloc (.cells #[.int .i64 (C.nm j), .int .i64 at_, .int .i64 n] 232)).heap.size := b1.lt
  have sf : ∀ W, Kc W K C src → Blk W w.heap.size 232 [.int .i64 (C.nm j), .int .i64 at_, .int .i64 n] → W.cell? ⟨C.p, 0, none⟩ = some (.pointer (some ⟨K.k, 0, none⟩)) ∧ W.cell? ⟨C.p, 1, none⟩ = some (.int .i64 C.env) ∧ W.cell? ⟨w.heap.size, 0, none⟩ = some (.int .i64 (C.nm j)) ∧ W.cell? ⟨w.heap.size, 1, none⟩ = some (.int .i64 at_) ∧ W.cell? ⟨w.heap.size, 2, none⟩ = some (.int .i64 n) := fun W hW hb =>
    ⟨hW.c.obj.cell 0, hW.c.obj.cell 1, hb.cell 0, hb.cell 1, hb.cell 2⟩
  have hcl := do_load_b (h1.nob (Keep.nobdrew _)) j at_ n b0 hs0 hj hin bs hbs
  unfold Calc at hcl
  have s0 := sf _ (h1.nob (Keep.nobdrew _)) (b1.nob (Keep.nobdrew _))
  have hf2 := field2
  have SF := Lib.hid sf
  have H := Lib.hid (And.intro h1 (And.intro b1 k1))
  clear h1 b1 hbs sf
  generalize C.nm j = nm at *
  go_enter Tryz.func137, Tryz.ntmps137
  go_wp2_with fail
  generalize w.alloc (.cells #[.int .i64 nm, .int .i64 at_, .int .i64 n] 232) = W at *
  generalize w.heap.size = q at *
  go_region_held3 (fun w' => w'.cell? ⟨C.p, 0, none⟩ = some (.pointer (some ⟨K.k, 0, none⟩)) ∧ w'.cell? ⟨C.p, 1, none⟩ = some (.int .i64 C.env) ∧ w'.cell? ⟨q, 0, none⟩ = some (.int .i64 nm) ∧ w'.cell? ⟨q, 1, none⟩ = some (.int .i64 at_) ∧ w'.cell? ⟨q, 2, none⟩ = some (.int .i64 n))
    (first | exact s0 | exact s1)
    (first | (go_at_call 33; with_reducible_and_instances apply Calls.mono hcl; rintro e w1 ⟨g, rfl, hR, hfr, t⟩; have s1 := SF.out _ ((H.out.1.nob (Keep.nobdrew _)).still t) ((H.out.1.nob (Keep.nobdrew _)).k.offT (H.out.2.1.nob (Keep.nobdrew _)) (by decide) t.keep)))
  go_wp2
  go_ret
  exact ⟨g, rfl, hR, Nat.le_trans H.out.2.2.size hfr, (t.pre (Keep.nobdrew _)).pre H.out.2.2⟩
theorem view_b (h : Kc w K C src) (b0 : Nat) (hs0 : src 0 0 492 = some b0) (bs : List UInt8) (hbs : got K.xs src (0, 0, 492) = bs) :
    Calls Tryz.prog 39 #[.pointer (some ⟨C.p, 0, none⟩)] w fun e w' => ∃ g, e = .returned (.slice (some ⟨g, 0, none⟩) bs.length bs.length) ∧ Blk w' g 5 (bytes bs) ∧ w.heap.size ≤ g ∧ To w K K w' := by
  have hcall := load_b h 0 0 492 b0 hs0 (Nat.zero_le _) (by simp) C.name rfl bs hbs
  have c2 : w.cell? ⟨C.p, 2, none⟩ = some (.int .i64 C.name) := h.c.obj.cell 2
  have e0 : ((0 : Nat) : Int) = 0 := rfl
  have e1 : ((492 : Nat) : Int) = 492 := rfl
  rw [e0, e1] at hcall
  clear hbs h e0 e1
  go_enter Tryz.func39, Tryz.ntmps39
  go_wp2_with fail
  refine hcall.mono ?_; rintro e w2 ⟨g, rfl, hr, hfr, t⟩
  go_wp2
  go_ret
  exact ⟨g, rfl, hr, hfr, t⟩
end
end Go.Proofs.YtngchjejmnfanaaGreat.Co
namespace Go.Proofs.YtngchjejmnfanaaGreat.Au
open Go.RowKit Co
set_option linter.unusedVariables false
set_option linter.unusedSimpArgs false
set_option maxRecDepth 100000 in
set_option maxHeartbeats 2000000 in
theorem looked_is {w : World} (A : Option Addr) (c : Nat) (b : List UInt8) (hb : Reads w A 492 (bytes b)) (hl : b.length = 492) :
    Calls Tryz.prog 76 #[.slice A 492 c] w fun e w' => ∃ K C B cap, e = .returned (.tuple #[.pointer (some ⟨C.p, 0, none⟩), .slice B (bads b).length cap]) ∧ Over w w' K C b (bads b) ∧ Vec w' 84 2 B (bads b).length cap (refs (bads b)) := by
  have hov := over_is A c b hb hl
  clear hb
  go_enter Tryz.func76, Tryz.ntmps76
  go_wp2_with fail
  refine hov.mono ?_; rintro e w1 ⟨K, C, rfl, O⟩
  have hlk := Co.look_is O.op.kc (bads b) (by rw [O.xs, O.brs, O.bad]; exact look1 hl)
  have HO := Lib.hid O
  clear hov O
  go_wp2_with fail
  refine hlk.mono ?_; rintro e w2 ⟨rfl, t⟩
  have O2 := Lib.hid (show Over w w2 K { C with bad := bads b } b (bads b) from ⟨HO.out.op.ct t rfl, HO.out.xs, HO.out.env, HO.out.brs, rfl⟩)
  have hbd := Co.bad_is O2.out.op.kc.c
  dsimp only at hbd
  clear hlk t
  go_wp2_with fail
  refine hbd.mono ?_; rintro e w3 ⟨B, cap, rfl, hv, k3⟩
  have O3 := Lib.hid (show Over w w3 K { C with bad := bads b } b (bads b) from ⟨O2.out.op.nob k3, O2.out.xs, O2.out.env, O2.out.brs, rfl⟩)
  have HV := Lib.hid hv
  clear hbd hv k3
  go_wp2
  go_ret2
  exact ⟨K, { C with bad := bads b }, B, cap, rfl, O3.out, HV.out⟩
theorem looked_no {w : World} (A : Option Addr) (n c : Nat) (hn : n ≠ 492) :
    Calls Tryz.prog 76 #[.slice A n c] w fun e w' => e = .returned (.tuple #[.pointer none, .slice (some ⟨w.heap.size, 0, none⟩) 1 1]) ∧ Blk w' w.heap.size 84 [.int .i64 0, .int .i64 0] ∧ Keep Nob w w' := by
  have h1 : ¬ ((n : Int) = 492) := by omega
  have hb := Blk.new w 84 [.int .i64 0, .int .i64 0]
  have k := (Keep.refl Nob w).alloc (.cells #[.int .i64 0, .int .i64 0] 84)
  have F := Lib.hid (And.intro hb k)
  clear hb k
  go_enter Tryz.func76, Tryz.ntmps76
  go_wp2
  go_ret2
  exact ⟨rfl, F.out⟩
/-- Which records are bad, of whatever bytes. -/
def abad (b : List UInt8) : List Rf := if b.length = 492 then bads b else [(0, 0)]
theorem abad_is {w : World} (A : Option Addr) (n c : Nat) (b : List UInt8) (hb : Reads w A n (bytes b)) :
    Calls Tryz.prog 27 #[.slice A n c] w fun e w' => ∃ B cap, e = .returned (.slice B (abad b).length cap) ∧ Reads w' B ((abad b).length * 2) (refs (abad b)) ∧ Keep (From w.heap.size) w w' := by
  have hl : b.length = n := by have := hb.1; simpa [bytes] using this
  by_cases h : n = 492
  · subst h
    have hlk := looked_is A c b hb hl
    have e : abad b = bads b := if_pos hl
    rw [e]
    clear hb e
    go_enter Tryz.func27, Tryz.ntmps27
    go_wp2_with fail
    refine hlk.mono ?_; rintro e w1 ⟨K, C, B, cap, rfl, O, hv⟩
    have F := Lib.hid (And.intro hv.reads O.op.keep)
    clear hlk O hv
    go_wp2
    go_ret
    exact ⟨B, cap, rfl, F.out⟩
  · have hlk := looked_no (w := w) A n c h
    have e : abad b = [(0, 0)] := if_neg (by omega)
    rw [e]
    clear hb e
    go_enter Tryz.func27, Tryz.ntmps27
    go_wp2_with fail
    refine hlk.mono ?_; rintro e w1 ⟨rfl, hB, k⟩
    have F := Lib.hid (And.intro (reads_all (n := 2) hB rfl) (k.mono (fun _ _ f => f.elim) : Keep (From w.heap.size) w w1))
    clear hlk hB k
    go_wp2
    go_ret
    exact ⟨_, 1, rfl, F.out⟩
def z492 : List UInt8 := List.replicate 492 0
theorem z492_len : z492.length = 492 := List.length_replicate
theorem z492_made : ∃ Z : Array Value, Z.toList = bytes z492 ∧ ∀ W : World, (Instr.makeSlice 36 (.int .i64 492) (.int .i64 492)).run Tryz.prog W = .ok (.slice (some ⟨W.heap.size, 0, none⟩) 492 492) (W.alloc (.cells Z 5)) := by
  refine ⟨madeCells #[.int .u8 0] 492, ?_, fun W => ?_⟩
  · rw [toList_madeCells_one]
    unfold z492
    rw [bytes_replicate]
  · exact run_make_row' (P := Tryz.prog) 36 5 (.int .u8 0) 1 Tryz.underlying36 Cd.Tryz.info5 rfl .i64 .i64 492 (by decide) (by decide) W
def xsT : List UInt8 := splice (xsOf z492) 448 (Ri.enc Pn.pipe1)
def xsB : List UInt8 := splice xsT 488 (frontB 0)
theorem setT : pset (Ri.okd Pn.pipe1) (Ri.enc Pn.pipe1) (xsOf z492) src1 0 [] (4, 0) = (true, xsT) := by
  unfold pset
  rw [if_pos Pn.pipe1_ok, pwrite_some (by simp) wher4 (base := 0) rfl]
  rfl
theorem setF : pset (decide ((0 : Int) ≤ 0 ∧ (0 : Int) ≤ 7)) (frontB 0) xsT src1 0 [] (5, 0) = (true, xsB) := by
  unfold pset
  rw [if_pos (by decide), pwrite_some (by simp) wher5 (base := 0) rfl]
  rfl
theorem gotB : got xsB src1 (0, 0, 492) = Pn.blankB := by decide +kernel
set_option maxRecDepth 100000 in
set_option maxHeartbeats 2000000 in
theorem blank_is (w : World) : Calls Tryz.prog 16 #[] w fun e w' => ∃ g, e = .returned (.slice (some ⟨g, 0, none⟩) 492 492) ∧ Blk w' g 5 (bytes Pn.blankB) ∧ w.heap.size ≤ g ∧ Keep (From w.heap.size) w w' := by
  obtain ⟨Z, hZ, hmk⟩ := z492_made
  have hzb : Blk (w.alloc (.cells Z 5)) w.heap.size 5 (bytes z492) := by
    have := Blk.new w 5 (bytes z492)
    rw [← hZ] at this
    rw [← hZ]
    exact this
  have hov := over_is (w := w.alloc (.cells Z 5)) (some ⟨w.heap.size, 0, none⟩) 492 z492 (reads_all hzb (by rw [← hZ]; simp [hZ, bytes, z492_len])) z492_len
  have K0 := Lib.hid ((Keep.refl Nob w).alloc (.cells Z 5))
  have hpv : Ri.pv Pn.pipe1 = .agg #[.int .i64 0, .int .i64 0, .int .i64 1, .int .i64 1, .int .u8 0, .int .u8 0, .int .u8 0, .int .u8 0, .int .u8 0, .int .u8 0, .int .u8 0, .int .u8 0, .int .u8 0, .int .u8 0, .int .u8 0, .int .u8 0, .int .u8 0, .int .u8 0, .int .u8 0, .int .u8 0, .int .u8 0, .int .u8 0, .int .u8 0, .int .u8 0, .int .u8 0, .int .u8 0, .int .u8 0, .int .u8 0, .int .u8 0, .int .u8 0, .int .u8 0, .int .u8 0, .int .u8 0, .int .u8 0, .int .u8 0, .int .u8 0] := rfl
  clear hZ hzb
  go_enter Tryz.func16, Tryz.ntmps16
  go_wp2_with fail
  refine hov.mono ?_; rintro e w1 ⟨K, C, rfl, O⟩
  have hst := Co.setTerm_is O.op.kc Pn.pipe1 rfl true xsT (by rw [O.xs, O.brs, O.bad]; exact setT)
  rw [show Value.agg (Ri.pc Pn.pipe1).toArray = Ri.pv Pn.pipe1 from rfl, hpv] at hst
  have HO := Lib.hid O
  clear hov O hpv
  go_wp2_with fail
  refine hst.mono ?_; rintro e w2 ⟨rfl, t⟩
  have hsf := Co.setFront_is (HO.out.op.bytes t).kc 0 true xsB (by dsimp only; rw [HO.out.brs, HO.out.bad]; exact setF)
  have HT := Lib.hid (HO.out.op.bytes t)
  clear hst t
  go_wp2_with fail
  refine hsf.mono ?_; rintro e w3 ⟨rfl, t⟩
  have HF := Lib.hid (HT.out.bytes t)
  have hvw := Co.view_b HF.out.kc 0 rfl Pn.blankB gotB
  rw [Pn.blank_len] at hvw
  clear hsf t
  go_wp2_with fail
  refine hvw.mono ?_; rintro e w4 ⟨g, rfl, hB, hg, t⟩
  have z1 := K0.out.size
  have z2 := HF.out.keep.size
  have kk : Keep (From w.heap.size) w w4 := ((K0.out.mono (fun _ _ f => f.elim)).trans HF.out.keep (fun x _ m => Nat.le_trans z1 m)).from_ t.keep (fun x m => Nat.le_trans z1 (HF.out.lo x (.inl m)))
  have FIN := Lib.hid (And.intro hB (And.intro (show w.heap.size ≤ g by omega) kk))
  clear hvw hB hg t kk z1 z2
  go_wp2
  go_ret
  exact ⟨g, rfl, FIN.out⟩
end Go.Proofs.YtngchjejmnfanaaGreat.Au
