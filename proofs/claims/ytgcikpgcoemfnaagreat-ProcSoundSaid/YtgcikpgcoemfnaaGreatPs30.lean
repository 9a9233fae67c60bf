import Derived.Test.YtgcikpgcoemfnaaGreatPs29
import Derived.Test.YtgcikpgcoemfnaaGreatPs14
set_option maxRecDepth 100000
set_option maxHeartbeats 8000000
set_option linter.unusedVariables false
set_option linter.unusedSimpArgs false
namespace Go.Proofs.YtgcikpgcoemfnaaGreat.Co
open Go.RowKit Go.MapKept
theorem la {w : World} {K : Kn} {C : Cm} {src : Src} (h : Kc w K C src) (r : Rf) (ho : dK r) (v : List Int) (d : Int) (bad' : List Rf) (hv : aC Fi.dcd Fi.noP K.xs src C.brs.length C.bad r = ((v, d), bad')) :
  Calls Tryz.prog 72 #[.pointer (some ⟨C.p, 0, none⟩), .agg #[.int .i64 r.1, .int .i64 r.2], .func (.func 73) #[] #[]] w fun e w' => e = .returned (.tuple #[.agg (ab v).toArray, .int .i64 d]) ∧ Ct w K K C { C with bad := bad' } src w' := by
 have hz : v.length = 4 := by
  have e : v = (aC Fi.dcd Fi.noP K.xs src C.brs.length C.bad r).1.1 := by rw [hv]
  rw [e]
  by_cases hbad : r ∈ C.bad
  ·rw [bh hbad]; rfl
  ·cases hw : aw C.brs.length r with
   | none => rw [aY hbad hw]; rfl
   | some x => rw [aF hbad hw rfl]; exact Fi.di _
 have k1 := (Keep.refl Nob w).alloc (.cells #[.int .i64 r.1, .int .i64 r.2] 57)
 have HH := aa h
 have HO := aa ho
 have HV := aa hv
 clear h ho hv
 obtain ⟨x, hx⟩ : ∃ x, rch C r = x := ⟨_, rfl⟩
 obtain ⟨⟨a, b, m⟩, ok⟩ := x
 have hreach := fun W (kk : Keep Nob w W) => cM (HH.out.nob kk).c r HO.out a b m ok hx
 have HX := aa hx
 clear hx
 generalize hr1 : r.1 = r1 at *
 generalize hr2 : r.2 = r2 at *
 go_enter Tryz.func72, Tryz.ntmps72
 have bR := Blk.new w 57 [.int .i64 r1, .int .i64 r2]
 go_wp2_with (refine bn.wpList_al rfl rfl ?_; intro w1 hb1 hk1 hs1; have bR1 := bR.nob hk1; have c0 := bR1.cell 0; have c1 := bR1.cell 1; simp only [List.getElem?_cons_zero, List.getElem?_cons_succ] at c0 c1)
 have kA := k1.trans hk1 (fun _ _ f => f)
 have hq0 : w.heap.size + 1 = (w.alloc (.cells #[.int .i64 r1, .int .i64 r2] 57)).heap.size := by simp
 rw [← hq0] at hb1
 clear hs1 k1 bR hk1 hq0 c0 c1
 refine (hreach _ kA).mono ?_; rintro e w2 ⟨rfl, k2⟩
 have kB := kA.trans k2 (fun _ _ f => f)
 have hb2 := hb1.nob k2
 have bR2 := bR1.nob k2
 clear hreach kA k2 hb1 bR1
 generalize hq : w.heap.size = q at *
 have HQ := aa hq
 clear hq
 cases ok with
 | false =>
  have hp : ((v, d), bad') = ((Fi.noP, 2), C.bad) := by
   rw [← HV.out]
   have hx := HX.out
   unfold rch at hx
   by_cases hbad : r ∈ C.bad
   ·exact bh hbad
   ·rw [if_neg hbad] at hx
    cases hw : aw C.brs.length r with
    | none => exact aY hbad hw
    | some x => rw [hw] at hx; simp at hx
  simp only [Prod.mk.injEq] at hp
  obtain ⟨⟨rfl, rfl⟩, rfl⟩ := hp
  go_wp2_with (first
   | (refine bn.wpList_al rfl rfl ?_; intro w3 hb3 hk3 hs3; have hb2 := (hb2.alloc (.cells #[.int .i64 a, .int .i64 b, .int .i64 m] 193)).nob hk3; have hk := (kB.alloc (.cells #[.int .i64 a, .int .i64 b, .int .i64 m] 193)).trans hk3 (fun _ _ f => f))
   | (refine bn.wpList_ld rfl rfl rfl (ai rfl) hb3 ?_)
   | (refine bn.wpList_st rfl rfl rfl rfl (ai rfl) (ai rfl) hb2 ?_; intro w4 hb4 hk4 hs4))
  refine bodyPost_ret (v := .tuple #[.agg (ab Fi.noP).toArray, .int .i64 2]) (bn.results_pair rfl _ (ai rfl) rfl hb4 _ rfl) rfl ?_
  exact ⟨rfl, Ct.still HH.out (hk.trans hk4 (fun b hb e => by have e : b = q + 1 := e; have := HQ.out; omega))⟩
 | true =>
  have hx := HX.out
  have hnb : r ∉ C.bad := fun hbad => by unfold rch at hx; rw [if_pos hbad] at hx; simp at hx
  obtain ⟨x, hw⟩ : ∃ x, aw C.brs.length r = some x := by
   cases hw : aw C.brs.length r with
   | none => unfold rch at hx; rw [if_neg hnb, hw] at hx; simp at hx
   | some x => exact ⟨x, rfl⟩
  have hp : ((v, d), bad') = ((Fi.dcd (got K.xs src x)), if (Fi.dcd (got K.xs src x)).2 = 2 then ins r C.bad else C.bad) := by
   rw [← HV.out]
   exact aF hnb hw rfl
  have hin := iv hw
  unfold rch at hx
  rw [if_neg hnb, hw] at hx
  simp only [Prod.mk.injEq, and_true] at hx
  obtain ⟨ha, hb, hm⟩ := hx
  have hload := fun W (kk : Keep Nob w W) => jT (HH.out.nob kk) x.1 x.2.1 x.2.2 hin.1 hin.2.1 a ha _ rfl
  rw [hb, hm] at hload
  obtain ⟨bs, hbs⟩ : ∃ bs, got K.xs src x = bs := ⟨_, rfl⟩
  rw [show (x.1, x.2.1, x.2.2) = x from rfl, hbs] at hload
  rw [hbs] at hp
  have hp1 : Fi.dcd bs = (v, d) := by
   have := congrArg Prod.fst hp
   exact this.symm
  have hp2 : bad' = if d = 2 then ins r C.bad else C.bad := by
   have := congrArg Prod.snd hp
   rw [hp1] at this
   exact this
  have HNB := aa (And.intro hnb (show aw C.brs.length r ≠ none from by rw [hw]; simp))
  have hbl : bs.length ≤ 40 := by
   rw [← hbs]
   unfold got
   split
   ·exact Nat.le_trans (List.length_take_le _ _) hin.2.2.1
   ·simp
  have HBL := aa hbl
  clear hp hnb hw hin hbs ha hb hm HV HX hbl
  have k3 := kB.alloc (.cells #[.int .i64 a, .int .i64 b, .int .i64 m] 193)
  have hT := hb2.alloc (.cells #[.int .i64 a, .int .i64 b, .int .i64 m] 193)
  have hR := bR2.alloc (.cells #[.int .i64 a, .int .i64 b, .int .i64 m] 193)
  go_wp2_with fail
  refine (hload _ k3).mono ?_; rintro e w3 ⟨A', c', rfl, hrd, t⟩
  have hK3 := HH.out.nob k3
  have hT3 := hK3.k.offT hT (by decide) t.keep
  have hR3 := hK3.k.offT hR (by decide) t.keep
  have hct := Ct.pre k3 (Ct.of_to' hK3 t)
  clear hload hT hR hb2 bR2 k3 t hK3 kB
  go_wp2_with fail
  refine (Fi.fM A' bs.length c' bs w3 hrd (by have := HBL.out; omega) v d hp1).mono ?_; rintro e w4 ⟨rfl, k4⟩
  have hct4 := hct.nob k4
  have hT4 := hT3.nob k4
  have hR4 := hR3.nob k4
  clear hct hT3 hR3 k4 hrd
  have hlt4 := hT4.lt
  unfold Fi.pv
  have hpl := HH.out.c.lt.1
  have hal := HH.out.a_lt
  have hge : w.heap.size ≤ w4.heap.size := hct4.keep.size
  have HG := aa (And.intro hpl (And.intro hal hge))
  clear hpl hal hge
  by_cases hd2 : d = 2
  ·subst hd2
   rw [if_pos rfl] at hp2
   subst hp2
   go_wp2_with (first
    | (refine bn.wpList_al rfl rfl ?_; intro w5 hb5 hk5 hs5; clear hs5)
    | (refine bn.wpList_st rfl rfl rfl rfl (ai hz) (ai rfl) hb5 ?_; intro w6 hb6 hk6 hs6; clear hs6))
   have hct6 := (hct4.nob hk5).post hb5 (by decide) (by decide) HG.out.2.2 HG.out.1 HG.out.2.1 hk6
   have hT6 := (hT4.nob hk5).keep hk6 (fun e => by omega)
   have hR6 := (hR4.nob hk5).keep hk6 (fun e => by omega)
   obtain ⟨w7, hrun, hct7, hsz, hkb⟩ := (hct6.is.nob (Keep.nobdrew _)).spoil HO.out HNB.out.1 HNB.out.2
   unfold eA at hrun
   rw [hr1, hr2] at hrun
   have c4 : w6.cell? ⟨C.p, 4, none⟩ = some (.map (some C.b)) := hct6.is.c.obj.cell 4
   have c0 := hR6.cell 0
   have c1 := hR6.cell 1
   simp only [List.getElem?_cons_zero, List.getElem?_cons_succ] at c0 c1
   go_region
   have hct7' := Ct.pre (Keep.nobdrew w6) hct7
   have hT7 := Ct.off hct6.is hct7' hT6 (by decide)
   have hb7 := Ct.off hct6.is hct7' hb6 (by decide)
   have hct8 := Ct.trans hct6 hct7' (fun _ m => .inl m) rfl (fun _ m _ => m)
   clear hrun hct7 hsz hkb c4 c0 c1 hct7' hR6
   go_wp2_with (first
    | (refine bn.wpList_ld rfl rfl rfl (ai hz) hb7 ?_)
    | (refine bn.wpList_st rfl rfl rfl rfl (ai hz) (ai rfl) hT7 ?_; intro w8 hb8 hk8 hs8; clear hs8))
   refine bodyPost_ret (v := .tuple #[.agg (ab v).toArray, .int .i64 2]) (bn.results_pair rfl _ (ai hz) rfl hb8 _ rfl) rfl ?_
   exact ⟨rfl, hct8.post hT7 (by decide) (by decide) (by have := HQ.out; omega) HG.out.1 HG.out.2.1 hk8⟩
  ·have hd2' : (d == 2) = false := by simpa using hd2
   rw [if_neg hd2] at hp2
   subst hp2
   go_wp2_with (first
    | (refine bn.wpList_al rfl rfl ?_; intro w5 hb5 hk5 hs5; clear hs5)
    | (refine bn.wpList_st rfl rfl rfl rfl (ai hz) (ai rfl) hb5 ?_; intro w6 hb6 hk6 hs6; clear hs6; have hT6 := (hT4.nob hk5).keep hk6 (fun e => by omega))
    | (refine bn.wpList_ld rfl rfl rfl (ai hz) hb6 ?_)
    | (refine bn.wpList_st rfl rfl rfl rfl (ai hz) (ai rfl) hT6 ?_; intro w7 hb7 hk7 hs7; clear hs7))
   have hct6 := (hct4.nob hk5).post hb5 (by decide) (by decide) HG.out.2.2 HG.out.1 HG.out.2.1 hk6
   refine bodyPost_ret (v := .tuple #[.agg (ab v).toArray, .int .i64 d]) (bn.results_pair rfl _ (ai hz) rfl hb7 _ rfl) rfl ?_
   exact ⟨rfl, hct6.post hT6 (by decide) (by decide) (by have := HQ.out; omega) HG.out.1 HG.out.2.1 hk7⟩
end Go.Proofs.YtgcikpgcoemfnaaGreat.Co
namespace Go.Proofs.YtgcikpgcoemfnaaGreat.Co
open Go.RowKit Go.MapKept
theorem iZ {w : World} {K : Kn} {C : Cm} {src : Src} (h : Kc w K C src) (r : Rf) (ho : dK r) (v : Ri.Pp) (d : Int) (bad' : List Rf) (hv : aC Ri.dcd Ri.noP K.xs src C.brs.length C.bad r = ((v, d), bad')) :
  Calls Tryz.prog 221 #[.pointer (some ⟨C.p, 0, none⟩), .agg #[.int .i64 r.1, .int .i64 r.2], .func (.func 222) #[] #[]] w fun e w' => e = .returned (.tuple #[.agg (Ri.pc v).toArray, .int .i64 d]) ∧ Ct w K K C { C with bad := bad' } src w' := by
 have hz : v.d.length = 32 := by
  have e : v = (aC Ri.dcd Ri.noP K.xs src C.brs.length C.bad r).1.1 := by rw [hv]
  rw [e]
  by_cases hbad : r ∈ C.bad
  ·rw [bh hbad]; rfl
  ·cases hw : aw C.brs.length r with
   | none => rw [aY hbad hw]; rfl
   | some x => rw [aF hbad hw rfl]; exact Ri.di _
 have k1 := (Keep.refl Nob w).alloc (.cells #[.int .i64 r.1, .int .i64 r.2] 57)
 have HH := aa h
 have HO := aa ho
 have HV := aa hv
 clear h ho hv
 obtain ⟨x, hx⟩ : ∃ x, rch C r = x := ⟨_, rfl⟩
 obtain ⟨⟨a, b, m⟩, ok⟩ := x
 have hreach := fun W (kk : Keep Nob w W) => cM (HH.out.nob kk).c r HO.out a b m ok hx
 have HX := aa hx
 clear hx
 generalize hr1 : r.1 = r1 at *
 generalize hr2 : r.2 = r2 at *
 go_enter Tryz.func221, Tryz.ntmps221
 have bR := Blk.new w 57 [.int .i64 r1, .int .i64 r2]
 go_wp2_with (refine bj.wpList_al rfl rfl ?_; intro w1 hb1 hk1 hs1; have bR1 := bR.nob hk1; have c0 := bR1.cell 0; have c1 := bR1.cell 1; simp only [List.getElem?_cons_zero, List.getElem?_cons_succ] at c0 c1)
 have kA := k1.trans hk1 (fun _ _ f => f)
 have hq0 : w.heap.size + 1 = (w.alloc (.cells #[.int .i64 r1, .int .i64 r2] 57)).heap.size := by simp
 rw [← hq0] at hb1
 clear hs1 k1 bR hk1 hq0 c0 c1
 refine (hreach _ kA).mono ?_; rintro e w2 ⟨rfl, k2⟩
 have kB := kA.trans k2 (fun _ _ f => f)
 have hb2 := hb1.nob k2
 have bR2 := bR1.nob k2
 clear hreach kA k2 hb1 bR1
 generalize hq : w.heap.size = q at *
 have HQ := aa hq
 clear hq
 cases ok with
 | false =>
  have hp : ((v, d), bad') = ((Ri.noP, 2), C.bad) := by
   rw [← HV.out]
   have hx := HX.out
   unfold rch at hx
   by_cases hbad : r ∈ C.bad
   ·exact bh hbad
   ·rw [if_neg hbad] at hx
    cases hw : aw C.brs.length r with
    | none => exact aY hbad hw
    | some x => rw [hw] at hx; simp at hx
  simp only [Prod.mk.injEq] at hp
  obtain ⟨⟨rfl, rfl⟩, rfl⟩ := hp
  go_wp2_with (first
   | (refine bj.wpList_al rfl rfl ?_; intro w3 hb3 hk3 hs3; have hb2 := (hb2.alloc (.cells #[.int .i64 a, .int .i64 b, .int .i64 m] 193)).nob hk3; have hk := (kB.alloc (.cells #[.int .i64 a, .int .i64 b, .int .i64 m] 193)).trans hk3 (fun _ _ f => f))
   | (refine bj.wpList_ld rfl rfl rfl (aO rfl) hb3 ?_)
   | (refine bj.wpList_st rfl rfl rfl rfl (aO rfl) (aO rfl) hb2 ?_; intro w4 hb4 hk4 hs4))
  refine bodyPost_ret (v := .tuple #[.agg (Ri.pc Ri.noP).toArray, .int .i64 2]) (bj.results_pair rfl _ (aO rfl) rfl hb4 _ rfl) rfl ?_
  exact ⟨rfl, Ct.still HH.out (hk.trans hk4 (fun b hb e => by have e : b = q + 1 := e; have := HQ.out; omega))⟩
 | true =>
  have hx := HX.out
  have hnb : r ∉ C.bad := fun hbad => by unfold rch at hx; rw [if_pos hbad] at hx; simp at hx
  obtain ⟨x, hw⟩ : ∃ x, aw C.brs.length r = some x := by
   cases hw : aw C.brs.length r with
   | none => unfold rch at hx; rw [if_neg hnb, hw] at hx; simp at hx
   | some x => exact ⟨x, rfl⟩
  have hp : ((v, d), bad') = ((Ri.dcd (got K.xs src x)), if (Ri.dcd (got K.xs src x)).2 = 2 then ins r C.bad else C.bad) := by
   rw [← HV.out]
   exact aF hnb hw rfl
  have hin := iv hw
  unfold rch at hx
  rw [if_neg hnb, hw] at hx
  simp only [Prod.mk.injEq, and_true] at hx
  obtain ⟨ha, hb, hm⟩ := hx
  have hload := fun W (kk : Keep Nob w W) => jT (HH.out.nob kk) x.1 x.2.1 x.2.2 hin.1 hin.2.1 a ha _ rfl
  rw [hb, hm] at hload
  obtain ⟨bs, hbs⟩ : ∃ bs, got K.xs src x = bs := ⟨_, rfl⟩
  rw [show (x.1, x.2.1, x.2.2) = x from rfl, hbs] at hload
  rw [hbs] at hp
  have hp1 : Ri.dcd bs = (v, d) := by
   have := congrArg Prod.fst hp
   exact this.symm
  have hp2 : bad' = if d = 2 then ins r C.bad else C.bad := by
   have := congrArg Prod.snd hp
   rw [hp1] at this
   exact this
  have HNB := aa (And.intro hnb (show aw C.brs.length r ≠ none from by rw [hw]; simp))
  have hbl : bs.length ≤ 40 := by
   rw [← hbs]
   unfold got
   split
   ·exact Nat.le_trans (List.length_take_le _ _) hin.2.2.1
   ·simp
  have HBL := aa hbl
  clear hp hnb hw hin hbs ha hb hm HV HX hbl
  have k3 := kB.alloc (.cells #[.int .i64 a, .int .i64 b, .int .i64 m] 193)
  have hT := hb2.alloc (.cells #[.int .i64 a, .int .i64 b, .int .i64 m] 193)
  have hR := bR2.alloc (.cells #[.int .i64 a, .int .i64 b, .int .i64 m] 193)
  go_wp2_with fail
  refine (hload _ k3).mono ?_; rintro e w3 ⟨A', c', rfl, hrd, t⟩
  have hK3 := HH.out.nob k3
  have hT3 := hK3.k.offT hT (by decide) t.keep
  have hR3 := hK3.k.offT hR (by decide) t.keep
  have hct := Ct.pre k3 (Ct.of_to' hK3 t)
  clear hload hT hR hb2 bR2 k3 t hK3 kB
  go_wp2_with fail
  refine (Ri.fM A' bs.length c' bs w3 hrd (by have := HBL.out; omega) v d hp1).mono ?_; rintro e w4 ⟨rfl, k4⟩
  have hct4 := hct.nob k4
  have hT4 := hT3.nob k4
  have hR4 := hR3.nob k4
  clear hct hT3 hR3 k4 hrd
  have hlt4 := hT4.lt
  unfold Ri.pv
  have hpl := HH.out.c.lt.1
  have hal := HH.out.a_lt
  have hge : w.heap.size ≤ w4.heap.size := hct4.keep.size
  have HG := aa (And.intro hpl (And.intro hal hge))
  clear hpl hal hge
  by_cases hd2 : d = 2
  ·subst hd2
   rw [if_pos rfl] at hp2
   subst hp2
   go_wp2_with (first
    | (refine bj.wpList_al rfl rfl ?_; intro w5 hb5 hk5 hs5; clear hs5)
    | (refine bj.wpList_st rfl rfl rfl rfl (aO hz) (aO rfl) hb5 ?_; intro w6 hb6 hk6 hs6; clear hs6))
   have hct6 := (hct4.nob hk5).post hb5 (by decide) (by decide) HG.out.2.2 HG.out.1 HG.out.2.1 hk6
   have hT6 := (hT4.nob hk5).keep hk6 (fun e => by omega)
   have hR6 := (hR4.nob hk5).keep hk6 (fun e => by omega)
   obtain ⟨w7, hrun, hct7, hsz, hkb⟩ := (hct6.is.nob (Keep.nobdrew _)).spoil HO.out HNB.out.1 HNB.out.2
   unfold eA at hrun
   rw [hr1, hr2] at hrun
   have c4 : w6.cell? ⟨C.p, 4, none⟩ = some (.map (some C.b)) := hct6.is.c.obj.cell 4
   have c0 := hR6.cell 0
   have c1 := hR6.cell 1
   simp only [List.getElem?_cons_zero, List.getElem?_cons_succ] at c0 c1
   go_region
   have hct7' := Ct.pre (Keep.nobdrew w6) hct7
   have hT7 := Ct.off hct6.is hct7' hT6 (by decide)
   have hb7 := Ct.off hct6.is hct7' hb6 (by decide)
   have hct8 := Ct.trans hct6 hct7' (fun _ m => .inl m) rfl (fun _ m _ => m)
   clear hrun hct7 hsz hkb c4 c0 c1 hct7' hR6
   go_wp2_with (first
    | (refine bj.wpList_ld rfl rfl rfl (aO hz) hb7 ?_)
    | (refine bj.wpList_st rfl rfl rfl rfl (aO hz) (aO rfl) hT7 ?_; intro w8 hb8 hk8 hs8; clear hs8))
   refine bodyPost_ret (v := .tuple #[.agg (Ri.pc v).toArray, .int .i64 2]) (bj.results_pair rfl _ (aO hz) rfl hb8 _ rfl) rfl ?_
   exact ⟨rfl, hct8.post hT7 (by decide) (by decide) (by have := HQ.out; omega) HG.out.1 HG.out.2.1 hk8⟩
  ·have hd2' : (d == 2) = false := by simpa using hd2
   rw [if_neg hd2] at hp2
   subst hp2
   go_wp2_with (first
    | (refine bj.wpList_al rfl rfl ?_; intro w5 hb5 hk5 hs5; clear hs5)
    | (refine bj.wpList_st rfl rfl rfl rfl (aO hz) (aO rfl) hb5 ?_; intro w6 hb6 hk6 hs6; clear hs6; have hT6 := (hT4.nob hk5).keep hk6 (fun e => by omega))
    | (refine bj.wpList_ld rfl rfl rfl (aO hz) hb6 ?_)
    | (refine bj.wpList_st rfl rfl rfl rfl (aO hz) (aO rfl) hT6 ?_; intro w7 hb7 hk7 hs7; clear hs7))
   have hct6 := (hct4.nob hk5).post hb5 (by decide) (by decide) HG.out.2.2 HG.out.1 HG.out.2.1 hk6
   refine bodyPost_ret (v := .tuple #[.agg (Ri.pc v).toArray, .int .i64 d]) (bj.results_pair rfl _ (aO hz) rfl hb7 _ rfl) rfl ?_
   exact ⟨rfl, hct6.post hT6 (by decide) (by decide) (by have := HQ.out; omega) HG.out.1 HG.out.2.1 hk7⟩
end Go.Proofs.YtgcikpgcoemfnaaGreat.Co
namespace Go.Proofs.YtgcikpgcoemfnaaGreat.Co
open Go.RowKit Go.MapKept
theorem readI_is {w : World} {K : Kn} {C : Cm} {src : Src} (h : Kc w K C src) (r : Rf) (ho : dK r) (v d : Int) (bad' : List Rf) (hv : aC fdec 0 K.xs src C.brs.length C.bad r = ((v, d), bad')) :
  Calls Tryz.prog 223 #[.pointer (some ⟨C.p, 0, none⟩), .agg #[.int .i64 r.1, .int .i64 r.2], .func (.func 224) #[] #[]] w fun e w' => e = .returned (.tuple #[.int .i64 v, .int .i64 d]) ∧ Ct w K K C { C with bad := bad' } src w' := by
 have k1 := (Keep.refl Nob w).alloc (.cells #[.int .i64 r.1, .int .i64 r.2] 57)
 have HH := aa h
 have HO := aa ho
 have HV := aa hv
 clear h ho hv
 obtain ⟨x, hx⟩ : ∃ x, rch C r = x := ⟨_, rfl⟩
 obtain ⟨⟨a, b, m⟩, ok⟩ := x
 have hreach := fun W (kk : Keep Nob w W) => cM (HH.out.nob kk).c r HO.out a b m ok hx
 have HX := aa hx
 clear hx
 generalize hr1 : r.1 = r1 at *
 generalize hr2 : r.2 = r2 at *
 go_enter Tryz.func223, Tryz.ntmps223
 have bR := Blk.new w 57 [.int .i64 r1, .int .i64 r2]
 have bR1 := bR
 have c0 := bR1.cell 0
 have c1 := bR1.cell 1
 simp only [List.getElem?_cons_zero, List.getElem?_cons_succ] at c0 c1
 go_wp2_with fail
 have kA := k1
 clear k1 bR c0 c1
 refine (hreach _ kA).mono ?_; rintro e w2 ⟨rfl, k2⟩
 have kB := kA.trans k2 (fun _ _ f => f)
 have bR2 := bR1.nob k2
 clear hreach kA k2 bR1
 generalize hq : w.heap.size = q at *
 have HQ := aa hq
 clear hq
 cases ok with
 | false =>
  have hp : ((v, d), bad') = ((0, 2), C.bad) := by
   rw [← HV.out]
   have hx := HX.out
   unfold rch at hx
   by_cases hbad : r ∈ C.bad
   ·exact bh hbad
   ·rw [if_neg hbad] at hx
    cases hw : aw C.brs.length r with
    | none => exact aY hbad hw
    | some x => rw [hw] at hx; simp at hx
  simp only [Prod.mk.injEq] at hp
  obtain ⟨⟨rfl, rfl⟩, rfl⟩ := hp
  go_wp2
  go_ret2
  exact ⟨rfl, Ct.still HH.out (kB.alloc _)⟩
 | true =>
  have hx := HX.out
  have hnb : r ∉ C.bad := fun hbad => by unfold rch at hx; rw [if_pos hbad] at hx; simp at hx
  obtain ⟨x, hw⟩ : ∃ x, aw C.brs.length r = some x := by
   cases hw : aw C.brs.length r with
   | none => unfold rch at hx; rw [if_neg hnb, hw] at hx; simp at hx
   | some x => exact ⟨x, rfl⟩
  have hp : ((v, d), bad') = ((fdec (got K.xs src x)), if (fdec (got K.xs src x)).2 = 2 then ins r C.bad else C.bad) := by
   rw [← HV.out]
   exact aF hnb hw rfl
  have hin := iv hw
  unfold rch at hx
  rw [if_neg hnb, hw] at hx
  simp only [Prod.mk.injEq, and_true] at hx
  obtain ⟨ha, hb, hm⟩ := hx
  have hload := fun W (kk : Keep Nob w W) => jT (HH.out.nob kk) x.1 x.2.1 x.2.2 hin.1 hin.2.1 a ha _ rfl
  rw [hb, hm] at hload
  obtain ⟨bs, hbs⟩ : ∃ bs, got K.xs src x = bs := ⟨_, rfl⟩
  rw [show (x.1, x.2.1, x.2.2) = x from rfl, hbs] at hload
  rw [hbs] at hp
  have hp1 : fdec bs = (v, d) := by
   have := congrArg Prod.fst hp
   exact this.symm
  have hp2 : bad' = if d = 2 then ins r C.bad else C.bad := by
   have := congrArg Prod.snd hp
   rw [hp1] at this
   exact this
  have HNB := aa (And.intro hnb (show aw C.brs.length r ≠ none from by rw [hw]; simp))
  have hbl : bs.length ≤ 40 := by
   rw [← hbs]
   unfold got
   split
   ·exact Nat.le_trans (List.length_take_le _ _) hin.2.2.1
   ·simp
  have HBL := aa hbl
  clear hp hnb hw hin hbs ha hb hm HV HX hbl
  have k3 := kB.alloc (.cells #[.int .i64 a, .int .i64 b, .int .i64 m] 193)
  have hR := bR2.alloc (.cells #[.int .i64 a, .int .i64 b, .int .i64 m] 193)
  go_wp2_with fail
  refine (hload _ k3).mono ?_; rintro e w3 ⟨A', c', rfl, hrd, t⟩
  have hK3 := HH.out.nob k3
  have hR3 := hK3.k.offT hR (by decide) t.keep
  have hct := Ct.pre k3 (Ct.of_to' hK3 t)
  clear hload hR bR2 k3 t hK3 kB
  go_wp2_with fail
  refine (decf_is A' bs.length c' bs w3 hrd v d hp1).mono ?_; rintro e w4 ⟨rfl, k4⟩
  have hct4 := hct.nob k4
  have hR4 := hR3.nob k4
  clear hct hR3 k4 hrd
  by_cases hd2 : d = 2
  ·subst hd2
   rw [if_pos rfl] at hp2
   subst hp2
   obtain ⟨w7, hrun, hct7, hsz, hkb⟩ := (hct4.is.nob (Keep.nobdrew _)).spoil HO.out HNB.out.1 HNB.out.2
   unfold eA at hrun
   rw [hr1, hr2] at hrun
   have c4 : w4.cell? ⟨C.p, 4, none⟩ = some (.map (some C.b)) := hct4.is.c.obj.cell 4
   have c0 := hR4.cell 0
   have c1 := hR4.cell 1
   simp only [List.getElem?_cons_zero, List.getElem?_cons_succ] at c0 c1
   go_wp2_with fail
   go_region
   have hct7' := Ct.pre (Keep.nobdrew w4) hct7
   have hct8 := Ct.trans hct4 hct7' (fun _ m => .inl m) rfl (fun _ m _ => m)
   clear hrun hct7 hsz hkb c4 c0 c1 hct7'
   go_wp2
   go_ret2
   exact ⟨rfl, hct8⟩
  ·have hd2' : (d == 2) = false := by simpa using hd2
   rw [if_neg hd2] at hp2
   subst hp2
   go_wp2
   go_ret2
   exact ⟨rfl, hct4⟩
end Go.Proofs.YtgcikpgcoemfnaaGreat.Co
namespace Go.Proofs.YtgcikpgcoemfnaaGreat.Co
open Go.RowKit
def pset (ok : Bool) (b : List UInt8) (xs : List UInt8) (src : Src) (nb : Nat) (bad : List Rf) (r : Rf) : Bool × List UInt8 := if ok then db xs src nb bad r b else (false, xs)
theorem writeP_is {w : World} {K : Kn} {C : Cm} {src : Src} (h : Kc w K C src) (r : Rf) (ho : dK r) (hsz : ∀ x, aw C.brs.length r = some x → x.2.2 = 24) (v : List Int) (hl : v.length = 16) (hw : ∀ x ∈ v, Cd.Wf x) (ok : Bool) (ys : List UInt8) (hv : pset (Cd.okd v) (Cd.enc v) K.xs src C.brs.length C.bad r = (ok, ys)) :
  Calls Tryz.prog 102 #[.pointer (some ⟨C.p, 0, none⟩), .agg #[.int .i64 r.1, .int .i64 r.2], .agg (ab v).toArray, .func (.func 103) #[] #[]] w fun e w' => e = .returned (.bool ok) ∧ To w K { K with xs := ys } w' := by
 have k1 := (Keep.refl Nob w).alloc (.cells #[.int .i64 r.1, .int .i64 r.2] 57)
 have bR := Blk.new w 57 [.int .i64 r.1, .int .i64 r.2]
 obtain ⟨vo, hvo⟩ : ∃ b, Cd.okd v = b := ⟨_, rfl⟩
 have henc := fun W => Cd.fE v hl hw W vo hvo
 unfold Cd.pv at henc
 rw [hvo] at hv
 have hel : (Cd.enc v).length = 24 := Cd.aJ hl
 have hst := fun W (kk : Keep Nob w W) A m hb oo yy hh => fy (h.nob kk) r ho A m 24 (Cd.enc v) hel (fun x hx => by rw [hel, hsz x hx]) hb oo yy hh
 have HH := aa h
 have HC := aa (ai hl)
 clear hsz hvo hel h ho
 generalize r.1 = r1 at *
 generalize r.2 = r2 at *
 have hq1 : (w.alloc (.cells #[.int .i64 r1, .int .i64 r2] 57)).heap.size = w.heap.size + 1 := by simp
 have HQ1 := aa hq1
 clear hq1
 go_enter Tryz.func102, Tryz.ntmps102
 go_wp2_with (first
  | (refine af rfl 37 _ rfl _ rfl ?_; intro w1 hb1 hk1 hs1; clear hs1; have bR1 := bR.nob hk1; have c0 := bR1.cell 0; have c1 := bR1.cell 1; simp only [List.getElem?_cons_zero, List.getElem?_cons_succ] at c0 c1; have hb1 : Blk w1 (w.heap.size + 1) 37 (ab v) := (by have h5 := hb1; rw [HQ1.out] at h5; exact h5))
  | (refine ar.wpList_ld rfl rfl rfl HC.out hb1 ?_))
 refine (henc _).mono ?_; rintro e w2 ⟨x, rfl, hT, k2⟩
 have kk := (k1.trans hk1 (fun _ _ f => f)).trans k2 (fun _ _ f => f)
 have bR2 := bR1.nob k2
 have d0 := bR2.cell 0
 have d1 := bR2.cell 1
 simp only [List.getElem?_cons_zero, List.getElem?_cons_succ] at d0 d1
 clear c0 c1 bR1 bR henc hb1
 cases vo with
 | false =>
  unfold pset at hv
  simp at hv
  obtain ⟨rfl, rfl⟩ := hv
  clear hT
  go_wp2
  go_ret
  exact ⟨rfl, To.still HH.out.k kk⟩
 | true =>
  obtain ⟨A, m, rfl, hvv, _⟩ := hT
  unfold pset at hv
  rw [if_pos rfl] at hv
  have hcall := hst _ kk A m (by simpa using hvv.reads) ok ys hv
  clear hst hv hvv
  go_wp2_with fail
  refine hcall.mono ?_; rintro e w3 ⟨rfl, t⟩
  go_wp2
  go_ret
  exact ⟨rfl, t.pre kk⟩
theorem writeF_is {w : World} {K : Kn} {C : Cm} {src : Src} (h : Kc w K C src) (r : Rf) (ho : dK r) (hsz : ∀ x, aw C.brs.length r = some x → x.2.2 = 8) (v : List Int) (hl : v.length = 4) (ok : Bool) (ys : List UInt8) (hv : pset (Fi.okd v) (Fi.enc v) K.xs src C.brs.length C.bad r = (ok, ys)) :
  Calls Tryz.prog 197 #[.pointer (some ⟨C.p, 0, none⟩), .agg #[.int .i64 r.1, .int .i64 r.2], .agg (ab v).toArray, .func (.func 198) #[] #[]] w fun e w' => e = .returned (.bool ok) ∧ To w K { K with xs := ys } w' := by
 have k1 := (Keep.refl Nob w).alloc (.cells #[.int .i64 r.1, .int .i64 r.2] 57)
 have bR := Blk.new w 57 [.int .i64 r.1, .int .i64 r.2]
 obtain ⟨vo, hvo⟩ : ∃ b, Fi.okd v = b := ⟨_, rfl⟩
 have henc := fun W => Fi.fE v hl W vo hvo
 unfold Fi.pv at henc
 rw [hvo] at hv
 have hel : (Fi.enc v).length = 8 := Fi.aJ _
 have hst := fun W (kk : Keep Nob w W) A m hb oo yy hh => fy (h.nob kk) r ho A m 8 (Fi.enc v) hel (fun x hx => by rw [hel, hsz x hx]) hb oo yy hh
 have HH := aa h
 have HC := aa (ai hl)
 clear hsz hvo hel h ho
 generalize r.1 = r1 at *
 generalize r.2 = r2 at *
 have hq1 : (w.alloc (.cells #[.int .i64 r1, .int .i64 r2] 57)).heap.size = w.heap.size + 1 := by simp
 have HQ1 := aa hq1
 clear hq1
 go_enter Tryz.func197, Tryz.ntmps197
 go_wp2_with (first
  | (refine af rfl 64 _ rfl _ rfl ?_; intro w1 hb1 hk1 hs1; clear hs1; have bR1 := bR.nob hk1; have c0 := bR1.cell 0; have c1 := bR1.cell 1; simp only [List.getElem?_cons_zero, List.getElem?_cons_succ] at c0 c1; have hb1 : Blk w1 (w.heap.size + 1) 64 (ab v) := (by have h5 := hb1; rw [HQ1.out] at h5; exact h5))
  | (refine bn.wpList_ld rfl rfl rfl HC.out hb1 ?_))
 refine (henc _).mono ?_; rintro e w2 ⟨x, rfl, hT, k2⟩
 have kk := (k1.trans hk1 (fun _ _ f => f)).trans k2 (fun _ _ f => f)
 have bR2 := bR1.nob k2
 have d0 := bR2.cell 0
 have d1 := bR2.cell 1
 simp only [List.getElem?_cons_zero, List.getElem?_cons_succ] at d0 d1
 clear c0 c1 bR1 bR henc hb1
 cases vo with
 | false =>
  unfold pset at hv
  simp at hv
  obtain ⟨rfl, rfl⟩ := hv
  clear hT
  go_wp2
  go_ret
  exact ⟨rfl, To.still HH.out.k kk⟩
 | true =>
  obtain ⟨A, m, rfl, hvv, _⟩ := hT
  unfold pset at hv
  rw [if_pos rfl] at hv
  have hcall := hst _ kk A m (by simpa using hvv.reads) ok ys hv
  clear hst hv hvv
  go_wp2_with fail
  refine hcall.mono ?_; rintro e w3 ⟨rfl, t⟩
  go_wp2
  go_ret
  exact ⟨rfl, t.pre kk⟩
theorem writeR_is {w : World} {K : Kn} {C : Cm} {src : Src} (h : Kc w K C src) (r : Rf) (ho : dK r) (hsz : ∀ x, aw C.brs.length r = some x → x.2.2 = 40) (v : Ri.Pp) (hl : v.d.length = 32) (ok : Bool) (ys : List UInt8) (hv : pset (Ri.okd v) (Ri.enc v) K.xs src C.brs.length C.bad r = (ok, ys)) :
  Calls Tryz.prog 298 #[.pointer (some ⟨C.p, 0, none⟩), .agg #[.int .i64 r.1, .int .i64 r.2], .agg (Ri.pc v).toArray, .func (.func 299) #[] #[]] w fun e w' => e = .returned (.bool ok) ∧ To w K { K with xs := ys } w' := by
 have k1 := (Keep.refl Nob w).alloc (.cells #[.int .i64 r.1, .int .i64 r.2] 57)
 have bR := Blk.new w 57 [.int .i64 r.1, .int .i64 r.2]
 obtain ⟨vo, hvo⟩ : ∃ b, Ri.okd v = b := ⟨_, rfl⟩
 have henc := fun W => Ri.fE v hl W vo hvo
 unfold Ri.pv at henc
 rw [hvo] at hv
 have hel : (Ri.enc v).length = 40 := Ri.aJ hl
 have hst := fun W (kk : Keep Nob w W) A m hb oo yy hh => fy (h.nob kk) r ho A m 40 (Ri.enc v) hel (fun x hx => by rw [hel, hsz x hx]) hb oo yy hh
 have HH := aa h
 have HC := aa (aO hl)
 clear hsz hvo hel h ho
 generalize r.1 = r1 at *
 generalize r.2 = r2 at *
 have hq1 : (w.alloc (.cells #[.int .i64 r1, .int .i64 r2] 57)).heap.size = w.heap.size + 1 := by simp
 have HQ1 := aa hq1
 clear hq1
 go_enter Tryz.func298, Tryz.ntmps298
 go_wp2_with (first
  | (refine af rfl 83 _ rfl _ rfl ?_; intro w1 hb1 hk1 hs1; clear hs1; have bR1 := bR.nob hk1; have c0 := bR1.cell 0; have c1 := bR1.cell 1; simp only [List.getElem?_cons_zero, List.getElem?_cons_succ] at c0 c1; have hb1 : Blk w1 (w.heap.size + 1) 83 (Ri.pc v) := (by have h5 := hb1; rw [HQ1.out] at h5; exact h5))
  | (refine bj.wpList_ld rfl rfl rfl HC.out hb1 ?_))
 refine (henc _).mono ?_; rintro e w2 ⟨x, rfl, hT, k2⟩
 have kk := (k1.trans hk1 (fun _ _ f => f)).trans k2 (fun _ _ f => f)
 have bR2 := bR1.nob k2
 have d0 := bR2.cell 0
 have d1 := bR2.cell 1
 simp only [List.getElem?_cons_zero, List.getElem?_cons_succ] at d0 d1
 clear c0 c1 bR1 bR henc hb1
 cases vo with
 | false =>
  unfold pset at hv
  simp at hv
  obtain ⟨rfl, rfl⟩ := hv
  clear hT
  go_wp2
  go_ret
  exact ⟨rfl, To.still HH.out.k kk⟩
 | true =>
  obtain ⟨A, m, rfl, hvv, _⟩ := hT
  unfold pset at hv
  rw [if_pos rfl] at hv
  have hcall := hst _ kk A m (by simpa using hvv.reads) ok ys hv
  clear hst hv hvv
  go_wp2_with fail
  refine hcall.mono ?_; rintro e w3 ⟨rfl, t⟩
  go_wp2
  go_ret
  exact ⟨rfl, t.pre kk⟩
end Go.Proofs.YtgcikpgcoemfnaaGreat.Co
namespace Go.Proofs.YtgcikpgcoemfnaaGreat.Co
open Go.RowKit
theorem wsize1 {nb : Nat} {i : Int} (x) (h : aw nb (1, i) = some x) : x.2.2 = 24 := by
 unfold aw at h
 simp at h
 rw [← h.2]
theorem wsize2 {nb : Nat} {i : Int} (x) (h : aw nb (2, i) = some x) : x.2.2 = 8 := by
 unfold aw at h
 simp at h
 rw [← h.2]
theorem wsize3 {nb : Nat} {i : Int} (x) (h : aw nb (3, i) = some x) : x.2.2 = 40 := by
 unfold aw at h
 simp at h
 split at h
 ·simp at h; rw [← h.2]
 ·simp at h; rw [← h.2]
theorem iw {k i : Int} (hk : 1 ≤ k ∧ k ≤ 3) (hi : Cd.Wf i) : dK (k, i) := ⟨⟨hk.1, by have := hk.2; show k ≤ 5; omega⟩, fun e => by have e : k = 4 ∨ k = 5 := e; omega, hi⟩
theorem rec_0 {k : Int} (hk : 4 ≤ k ∧ k ≤ 5) : dK (k, 0) := ⟨⟨by have := hk.1; show 1 ≤ k; omega, hk.2⟩, fun _ => rfl, by show (-9223372036854775808 : Int) ≤ 0 ∧ (0 : Int) ≤ 9223372036854775807; omega⟩
section
variable {w : World} {K : Kn} {C : Cm} {src : Src}
theorem readP_len {xs : List UInt8} {src : Src} {nb : Nat} {bad bad' : List Rf} {r : Rf} {v : List Int} {d : Int} (hv : aC Cd.dcd Cd.noP xs src nb bad r = ((v, d), bad')) : v.length = 16 := by
 have e : v = (aC Cd.dcd Cd.noP xs src nb bad r).1.1 := by rw [hv]
 rw [e]
 by_cases hbad : r ∈ bad
 ·rw [bh hbad]; rfl
 ·cases hw : aw nb r with
  | none => rw [aY hbad hw]; rfl
  | some x => rw [aF hbad hw rfl]; exact Cd.di _
theorem proc_is (h : Kc w K C src) (i : Int) (hi : Cd.Wf i) (v : List Int) (d : Int) (bad' : List Rf) (hv : aC Cd.dcd Cd.noP K.xs src C.brs.length C.bad (1, i) = ((v, d), bad')) :
  Calls Tryz.prog 13 #[.pointer (some ⟨C.p, 0, none⟩), .int .i64 i] w fun e w' => e = .returned (.tuple #[.agg (ab v).toArray, .int .i64 d]) ∧ Ct w K K C { C with bad := bad' } src w' := by
 have hz : v.length = 16 := readP_len hv
 have hcall := fun W (kk : Keep Nob w W) => ld (h.nob kk) (1, i) (iw (by omega) hi) v d bad' hv
 have hpl := h.c.lt.1
 have hal := h.a_lt
 have HG := aa (And.intro hpl hal)
 have HH := aa h
 clear hpl hal hv h
 dsimp only at hcall
 go_enter Tryz.func13, Tryz.ntmps13
 go_wp2_with (refine ar.wpList_al rfl rfl ?_; intro w1 hb1 hk1 hs1; clear hs1)
 have hK1 := hk1
 refine (hcall _ hk1).mono ?_; rintro e w2 ⟨rfl, t⟩
 have hb2 := Ct.off (HH.out.nob hK1) t hb1 (by decide)
 clear hcall
 go_wp2_with (refine ar.wpList_st rfl rfl rfl rfl (ai hz) (ai rfl) hb2 ?_; intro w3 hb3 hk3 hs3; clear hs3)
 refine bodyPost_ret (v := .tuple #[.agg (ab v).toArray, .int .i64 d]) (ar.results_pair rfl _ (ai hz) rfl hb3 _ rfl) rfl ?_
 exact ⟨rfl, (Ct.pre hK1 t).post hb2 (by decide) (by decide) (Nat.le_refl _) HG.out.1 HG.out.2 hk3⟩
theorem setProc_is (h : Kc w K C src) (i : Int) (hi : Cd.Wf i) (v : List Int) (hl : v.length = 16) (hw : ∀ x ∈ v, Cd.Wf x) (ok : Bool) (ys : List UInt8) (hv : pset (Cd.okd v) (Cd.enc v) K.xs src C.brs.length C.bad (1, i) = (ok, ys)) :
  Calls Tryz.prog 37 #[.pointer (some ⟨C.p, 0, none⟩), .int .i64 i, .agg (ab v).toArray] w fun e w' => e = .returned (.bool ok) ∧ To w K { K with xs := ys } w' := by
 have hcall := fun W (kk : Keep Nob w W) => writeP_is (h.nob kk) (1, i) (iw (by omega) hi) (fun x hx => wsize1 x hx) v hl hw ok ys hv
 have HC := aa (ai hl)
 clear hv h
 dsimp only at hcall
 go_enter Tryz.func37, Tryz.ntmps37
 go_wp2_with (first
  | (refine af rfl 37 _ rfl _ rfl ?_; intro w1 hb1 hk1 hs1; clear hs1; have hb1 : Blk w1 w.heap.size 37 (ab v) := hb1)
  | (refine ar.wpList_ld rfl rfl rfl HC.out hb1 ?_))
 refine (hcall _ hk1).mono ?_; rintro e w2 ⟨rfl, t⟩
 go_wp2
 go_ret
 exact ⟨rfl, t.pre hk1⟩
theorem freeProc_is (h : Kc w K C src) (i : Int) (hi : Cd.Wf i) (ok : Bool) (ys : List UInt8) (hv : db K.xs src C.brs.length C.bad (1, i) (List.replicate 24 0) = (ok, ys)) :
  Calls Tryz.prog 43 #[.pointer (some ⟨C.p, 0, none⟩), .int .i64 i] w fun e w' => e = .returned (.bool ok) ∧ To w K { K with xs := ys } w' := by
 have hcall := fun W (kk : Keep Nob w W) A hb => fy (h.nob kk) (1, i) (iw (by omega) hi) A 24 24 (List.replicate 24 0) rfl (fun x hx => by rw [wsize1 x hx]; rfl) hb ok ys hv
 clear hv h
 dsimp only at hcall
 go_enter Tryz.func43, Tryz.ntmps43
 go_wp2_with (refine bu rfl _ _ 28 rfl 5 (.int .u8 0) 1 Tryz.underlying28 Cd.Tryz.info5 rfl .i64 .i64 24 _ rfl rfl rfl (by omega) (by omega) ?_; intro w1 hb1 hk1 hs1; clear hs1)
 rw [← ao] at hb1
 refine (hcall _ hk1 _ (aj hb1 (by simp))).mono ?_; rintro e w2 ⟨rfl, t⟩
 go_wp2
 go_ret
 exact ⟨rfl, t.pre hk1⟩
theorem readF_len {xs : List UInt8} {src : Src} {nb : Nat} {bad bad' : List Rf} {r : Rf} {v : List Int} {d : Int} (hv : aC Fi.dcd Fi.noP xs src nb bad r = ((v, d), bad')) : v.length = 4 := by
 have e : v = (aC Fi.dcd Fi.noP xs src nb bad r).1.1 := by rw [hv]
 rw [e]
 by_cases hbad : r ∈ bad
 ·rw [bh hbad]; rfl
 ·cases hw : aw nb r with
  | none => rw [aY hbad hw]; rfl
  | some x => rw [aF hbad hw rfl]; exact Fi.di _
theorem file_is (h : Kc w K C src) (i : Int) (hi : Cd.Wf i) (v : List Int) (d : Int) (bad' : List Rf) (hv : aC Fi.dcd Fi.noP K.xs src C.brs.length C.bad (2, i) = ((v, d), bad')) :
  Calls Tryz.prog 26 #[.pointer (some ⟨C.p, 0, none⟩), .int .i64 i] w fun e w' => e = .returned (.tuple #[.agg (ab v).toArray, .int .i64 d]) ∧ Ct w K K C { C with bad := bad' } src w' := by
 have hz : v.length = 4 := readF_len hv
 have hcall := fun W (kk : Keep Nob w W) => la (h.nob kk) (2, i) (iw (by omega) hi) v d bad' hv
 have hpl := h.c.lt.1
 have hal := h.a_lt
 have HG := aa (And.intro hpl hal)
 have HH := aa h
 clear hpl hal hv h
 dsimp only at hcall
 go_enter Tryz.func26, Tryz.ntmps26
 go_wp2_with (refine bn.wpList_al rfl rfl ?_; intro w1 hb1 hk1 hs1; clear hs1)
 have hK1 := hk1
 refine (hcall _ hk1).mono ?_; rintro e w2 ⟨rfl, t⟩
 have hb2 := Ct.off (HH.out.nob hK1) t hb1 (by decide)
 clear hcall
 go_wp2_with (refine bn.wpList_st rfl rfl rfl rfl (ai hz) (ai rfl) hb2 ?_; intro w3 hb3 hk3 hs3; clear hs3)
 refine bodyPost_ret (v := .tuple #[.agg (ab v).toArray, .int .i64 d]) (bn.results_pair rfl _ (ai hz) rfl hb3 _ rfl) rfl ?_
 exact ⟨rfl, (Ct.pre hK1 t).post hb2 (by decide) (by decide) (Nat.le_refl _) HG.out.1 HG.out.2 hk3⟩
theorem setFile_is (h : Kc w K C src) (i : Int) (hi : Cd.Wf i) (v : List Int) (hl : v.length = 4) (ok : Bool) (ys : List UInt8) (hv : pset (Fi.okd v) (Fi.enc v) K.xs src C.brs.length C.bad (2, i) = (ok, ys)) :
  Calls Tryz.prog 101 #[.pointer (some ⟨C.p, 0, none⟩), .int .i64 i, .agg (ab v).toArray] w fun e w' => e = .returned (.bool ok) ∧ To w K { K with xs := ys } w' := by
 have hcall := fun W (kk : Keep Nob w W) => writeF_is (h.nob kk) (2, i) (iw (by omega) hi) (fun x hx => wsize2 x hx) v hl ok ys hv
 have HC := aa (ai hl)
 clear hv h
 dsimp only at hcall
 go_enter Tryz.func101, Tryz.ntmps101
 go_wp2_with (first
  | (refine af rfl 64 _ rfl _ rfl ?_; intro w1 hb1 hk1 hs1; clear hs1; have hb1 : Blk w1 w.heap.size 64 (ab v) := hb1)
  | (refine bn.wpList_ld rfl rfl rfl HC.out hb1 ?_))
 refine (hcall _ hk1).mono ?_; rintro e w2 ⟨rfl, t⟩
 go_wp2
 go_ret
 exact ⟨rfl, t.pre hk1⟩
theorem freeFile_is (h : Kc w K C src) (i : Int) (hi : Cd.Wf i) (ok : Bool) (ys : List UInt8) (hv : db K.xs src C.brs.length C.bad (2, i) (List.replicate 8 0) = (ok, ys)) :
  Calls Tryz.prog 121 #[.pointer (some ⟨C.p, 0, none⟩), .int .i64 i] w fun e w' => e = .returned (.bool ok) ∧ To w K { K with xs := ys } w' := by
 have hcall := fun W (kk : Keep Nob w W) A hb => fy (h.nob kk) (2, i) (iw (by omega) hi) A 8 8 (List.replicate 8 0) rfl (fun x hx => by rw [wsize2 x hx]; rfl) hb ok ys hv
 clear hv h
 dsimp only at hcall
 go_enter Tryz.func121, Tryz.ntmps121
 go_wp2_with (refine bu rfl _ _ 28 rfl 5 (.int .u8 0) 1 Tryz.underlying28 Cd.Tryz.info5 rfl .i64 .i64 8 _ rfl rfl rfl (by omega) (by omega) ?_; intro w1 hb1 hk1 hs1; clear hs1)
 rw [← ao] at hb1
 refine (hcall _ hk1 _ (aj hb1 (by simp))).mono ?_; rintro e w2 ⟨rfl, t⟩
 go_wp2
 go_ret
 exact ⟨rfl, t.pre hk1⟩
theorem jz {xs : List UInt8} {src : Src} {nb : Nat} {bad bad' : List Rf} {r : Rf} {v : Ri.Pp} {d : Int} (hv : aC Ri.dcd Ri.noP xs src nb bad r = ((v, d), bad')) : v.d.length = 32 := by
 have e : v = (aC Ri.dcd Ri.noP xs src nb bad r).1.1 := by rw [hv]
 rw [e]
 by_cases hbad : r ∈ bad
 ·rw [bh hbad]; rfl
 ·cases hw : aw nb r with
  | none => rw [aY hbad hw]; rfl
  | some x => rw [aF hbad hw rfl]; exact Ri.di _
theorem pipe_is (h : Kc w K C src) (i : Int) (hi : Cd.Wf i) (v : Ri.Pp) (d : Int) (bad' : List Rf) (hv : aC Ri.dcd Ri.noP K.xs src C.brs.length C.bad (3, i) = ((v, d), bad')) :
  Calls Tryz.prog 127 #[.pointer (some ⟨C.p, 0, none⟩), .int .i64 i] w fun e w' => e = .returned (.tuple #[.agg (Ri.pc v).toArray, .int .i64 d]) ∧ Ct w K K C { C with bad := bad' } src w' := by
 have hz : v.d.length = 32 := jz hv
 have hcall := fun W (kk : Keep Nob w W) => iZ (h.nob kk) (3, i) (iw (by omega) hi) v d bad' hv
 have hpl := h.c.lt.1
 have hal := h.a_lt
 have HG := aa (And.intro hpl hal)
 have HH := aa h
 clear hpl hal hv h
 dsimp only at hcall
 go_enter Tryz.func127, Tryz.ntmps127
 go_wp2_with (refine bj.wpList_al rfl rfl ?_; intro w1 hb1 hk1 hs1; clear hs1)
 have hK1 := hk1
 refine (hcall _ hk1).mono ?_; rintro e w2 ⟨rfl, t⟩
 have hb2 := Ct.off (HH.out.nob hK1) t hb1 (by decide)
 clear hcall
 go_wp2_with (refine bj.wpList_st rfl rfl rfl rfl (aO hz) (aO rfl) hb2 ?_; intro w3 hb3 hk3 hs3; clear hs3)
 refine bodyPost_ret (v := .tuple #[.agg (Ri.pc v).toArray, .int .i64 d]) (bj.results_pair rfl _ (aO hz) rfl hb3 _ rfl) rfl ?_
 exact ⟨rfl, (Ct.pre hK1 t).post hb2 (by decide) (by decide) (Nat.le_refl _) HG.out.1 HG.out.2 hk3⟩
theorem setPipe_is (h : Kc w K C src) (i : Int) (hi : Cd.Wf i) (v : Ri.Pp) (hl : v.d.length = 32) (ok : Bool) (ys : List UInt8) (hv : pset (Ri.okd v) (Ri.enc v) K.xs src C.brs.length C.bad (3, i) = (ok, ys)) :
  Calls Tryz.prog 218 #[.pointer (some ⟨C.p, 0, none⟩), .int .i64 i, .agg (Ri.pc v).toArray] w fun e w' => e = .returned (.bool ok) ∧ To w K { K with xs := ys } w' := by
 have hcall := fun W (kk : Keep Nob w W) => writeR_is (h.nob kk) (3, i) (iw (by omega) hi) (fun x hx => wsize3 x hx) v hl ok ys hv
 have HC := aa (aO hl)
 clear hv h
 dsimp only at hcall
 go_enter Tryz.func218, Tryz.ntmps218
 go_wp2_with (first
  | (refine af rfl 83 _ rfl _ rfl ?_; intro w1 hb1 hk1 hs1; clear hs1; have hb1 : Blk w1 w.heap.size 83 (Ri.pc v) := hb1)
  | (refine bj.wpList_ld rfl rfl rfl HC.out hb1 ?_))
 refine (hcall _ hk1).mono ?_; rintro e w2 ⟨rfl, t⟩
 go_wp2
 go_ret
 exact ⟨rfl, t.pre hk1⟩
theorem freePipe_is (h : Kc w K C src) (i : Int) (hi : Cd.Wf i) (ok : Bool) (ys : List UInt8) (hv : db K.xs src C.brs.length C.bad (3, i) (List.replicate 40 0) = (ok, ys)) :
  Calls Tryz.prog 217 #[.pointer (some ⟨C.p, 0, none⟩), .int .i64 i] w fun e w' => e = .returned (.bool ok) ∧ To w K { K with xs := ys } w' := by
 have hcall := fun W (kk : Keep Nob w W) A hb => fy (h.nob kk) (3, i) (iw (by omega) hi) A 40 40 (List.replicate 40 0) rfl (fun x hx => by rw [wsize3 x hx]; rfl) hb ok ys hv
 clear hv h
 dsimp only at hcall
 go_enter Tryz.func217, Tryz.ntmps217
 go_wp2_with (refine bu rfl _ _ 28 rfl 5 (.int .u8 0) 1 Tryz.underlying28 Cd.Tryz.info5 rfl .i64 .i64 40 _ rfl rfl rfl (by omega) (by omega) ?_; intro w1 hb1 hk1 hs1; clear hs1)
 rw [← ao] at hb1
 refine (hcall _ hk1 _ (aj hb1 (by simp))).mono ?_; rintro e w2 ⟨rfl, t⟩
 go_wp2
 go_ret
 exact ⟨rfl, t.pre hk1⟩
theorem term_is (h : Kc w K C src) (v : Ri.Pp) (d : Int) (bad' : List Rf) (hv : aC Ri.dcd Ri.noP K.xs src C.brs.length C.bad (4, 0) = ((v, d), bad')) :
  Calls Tryz.prog 128 #[.pointer (some ⟨C.p, 0, none⟩)] w fun e w' => e = .returned (.tuple #[.agg (Ri.pc v).toArray, .int .i64 d]) ∧ Ct w K K C { C with bad := bad' } src w' := by
 have hz : v.d.length = 32 := jz hv
 have hcall := fun W (kk : Keep Nob w W) => iZ (h.nob kk) (4, 0) (rec_0 (by omega)) v d bad' hv
 have hpl := h.c.lt.1
 have hal := h.a_lt
 have HG := aa (And.intro hpl hal)
 have HH := aa h
 clear hpl hal hv h
 dsimp only at hcall
 go_enter Tryz.func128, Tryz.ntmps128
 go_wp2_with (refine bj.wpList_al rfl rfl ?_; intro w1 hb1 hk1 hs1; clear hs1)
 have hK1 := hk1
 refine (hcall _ hk1).mono ?_; rintro e w2 ⟨rfl, t⟩
 have hb2 := Ct.off (HH.out.nob hK1) t hb1 (by decide)
 clear hcall
 go_wp2_with (refine bj.wpList_st rfl rfl rfl rfl (aO hz) (aO rfl) hb2 ?_; intro w3 hb3 hk3 hs3; clear hs3)
 refine bodyPost_ret (v := .tuple #[.agg (Ri.pc v).toArray, .int .i64 d]) (bj.results_pair rfl _ (aO hz) rfl hb3 _ rfl) rfl ?_
 exact ⟨rfl, (Ct.pre hK1 t).post hb2 (by decide) (by decide) (Nat.le_refl _) HG.out.1 HG.out.2 hk3⟩
theorem front_is (h : Kc w K C src) (v d : Int) (bad' : List Rf) (hv : aC fdec 0 K.xs src C.brs.length C.bad (5, 0) = ((v, d), bad')) :
  Calls Tryz.prog 129 #[.pointer (some ⟨C.p, 0, none⟩)] w fun e w' => e = .returned (.tuple #[.int .i64 v, .bool (d == 1)]) ∧ Ct w K K C { C with bad := bad' } src w' := by
 have hcall := readI_is h (5, 0) (rec_0 (by omega)) v d bad' hv
 clear hv h
 dsimp only at hcall
 obtain ⟨o, ho⟩ : ∃ o, (d == 1) = o := ⟨_, rfl⟩
 rw [ho]
 go_enter Tryz.func129, Tryz.ntmps129
 go_wp2_with fail
 refine hcall.mono ?_; rintro e w2 ⟨rfl, t⟩
 go_wp2
 go_ret2
 exact ⟨rfl, t⟩
end
end Go.Proofs.YtgcikpgcoemfnaaGreat.Co
namespace Go.Proofs.YtgcikpgcoemfnaaGreat.Co
open Go.RowKit
def seen (xs : List UInt8) (src : Src) (nb : Nat) (bad : List Rf) (r : Rf) : List Rf :=
 if r.1 = 1 then (aC Cd.dcd Cd.noP xs src nb bad r).2 else if r.1 = 2 then (aC Fi.dcd Fi.noP xs src nb bad r).2
 else if r.1 = 5 then (aC fdec 0 xs src nb bad r).2 else (aC Ri.dcd Ri.noP xs src nb bad r).2
def bD (nb : Nat) : List Rf := mk 8 (fun i => (1, (i : Int))) ++ mk 12 (fun i => (2, (i : Int))) ++ mk (4 + nb) (fun i => (3, (i : Int))) ++ [(4, 0), (5, 0)]
def look (xs : List UInt8) (src : Src) (nb : Nat) (bad : List Rf) : List Rf := (bD nb).foldl (seen xs src nb) bad
theorem foldl_mk {α : Type} (f : α → Rf → α) (g : Nat → Rf) (a : α) (k : Nat) : (mk (k + 1) g).foldl f a = f ((mk k g).foldl f a) (g k) := by
 rw [← dE, List.foldl_append]
 rfl
theorem mem_all {r : Rf} {nb : Nat} (ho : dK r) (hw : aw nb r ≠ none) : r ∈ bD nb := by
 obtain ⟨k, i⟩ := r
 have h1 := ho.k
 have h2 := ho.z
 dsimp only at h1 h2
 unfold bD
 simp only [List.mem_append, mk, List.mem_map, List.mem_range, List.mem_cons, List.not_mem_nil, or_false, Prod.mk.injEq]
 unfold aw at hw
 dsimp only at hw
 rcases (show k = 1 ∨ k = 2 ∨ k = 3 ∨ k = 4 ∨ k = 5 by omega) with rfl | rfl | rfl | rfl | rfl
 ·left; left; left
  by_cases h : 0 ≤ i ∧ i < 8
  ·exact ⟨i.toNat, by omega, rfl, by omega⟩
  ·simp [h] at hw
 ·left; left; right
  by_cases h : 0 ≤ i ∧ i < 12
  ·exact ⟨i.toNat, by omega, rfl, by omega⟩
  ·simp [h] at hw
 ·left; right
  by_cases h : 0 ≤ i ∧ i < 4 + nb
  ·exact ⟨i.toNat, by omega, rfl, by omega⟩
  ·exfalso
   rw [if_neg (by decide), if_neg (by decide), if_pos rfl] at hw
   by_cases h4 : 4 ≤ i
   ·rw [if_pos h4, if_neg (by omega)] at hw
    exact hw rfl
   ·rw [if_neg h4, if_neg (by omega)] at hw
    exact hw rfl
 ·right; left; exact ⟨rfl, h2 (.inl rfl)⟩
 ·right; right; exact ⟨rfl, h2 (.inr rfl)⟩
theorem jb {l : List Rf} (h : l.Pairwise ltR) : l.Nodup := h.imp (fun {a b} hab => fun (e : a = b) => jS hab (by subst e; exact hab))
theorem bad_le {w : World} {k : Nat} {C : Cm} (h : IsCm w k C) : C.bad.length ≤ 57 := by
 have := nodup_le (jb h.srt) (fun r hr => mem_all (h.val r hr).1 (h.val r hr).2)
 have few := h.few
 unfold bD at this
 simp [mk] at this
 omega
section
variable {w w' : World} {K : Kn} {C : Cm} {src : Src}
theorem Ct.more {b b' : List Rf} (t : Ct w K K C { C with bad := b } src w') {w2 : World} (t2 : Ct w' K K { C with bad := b } { C with bad := b' } src w2) : Ct w K K C { C with bad := b' } src w2 :=
 t.trans t2 (fun _ m => .inl m) rfl (fun _ m _ => m)
def upto (xs : List UInt8) (src : Src) (nb : Nat) (kind : Int) (bad : List Rf) (k : Nat) : List Rf := (mk k (fun i => (kind, (i : Int)))).foldl (seen xs src nb) bad
theorem upto_zero (xs : List UInt8) (src : Src) (nb : Nat) (kind : Int) (bad : List Rf) : upto xs src nb kind bad 0 = bad := rfl
theorem upto_succ (xs : List UInt8) (src : Src) (nb : Nat) (kind : Int) (bad : List Rf) (k : Nat) : upto xs src nb kind bad (k + 1) = seen xs src nb (upto xs src nb kind bad k) (kind, k) := foldl_mk _ _ _ _
def jo (K : Kn) (C : Cm) (src : Src) (r : Rf) (bad : List Rf) (W : World) (e : Ending) (w' : World) : Prop :=
 ∃ v, e = .returned v ∧ Ct W K K { C with bad := bad } { C with bad := seen K.xs src C.brs.length bad r } src w'
theorem look_is (h : Kc w K C src) (b : List Rf) (hb : look K.xs src C.brs.length C.bad = b) :
  Calls Tryz.prog 63 #[.pointer (some ⟨C.p, 0, none⟩)] w fun e w' => e = .returned (.tuple #[]) ∧ Ct w K K C { C with bad := b } src w' := by
 have few := h.c.few
 have H0 := aa (show Ct w K K C { C with bad := C.bad } src w from Ct.still h (Keep.refl _ _))
 have HP : ∀ W bad (i : Int), Cd.Wf i → Kc W K { C with bad := bad } src → Calls Tryz.prog 13 #[.pointer (some ⟨C.p, 0, none⟩), .int .i64 i] W (jo K C src (1, i) bad W) := fun W bad i hi h =>
  (proc_is h i hi _ _ _ (show aC Cd.dcd Cd.noP K.xs src C.brs.length bad (1, i) = ((_, _), _) from rfl)).mono (fun e w' ⟨h1, h2⟩ => ⟨_, h1, h2⟩)
 have HF : ∀ W bad (i : Int), Cd.Wf i → Kc W K { C with bad := bad } src → Calls Tryz.prog 26 #[.pointer (some ⟨C.p, 0, none⟩), .int .i64 i] W (jo K C src (2, i) bad W) := fun W bad i hi h =>
  (file_is h i hi _ _ _ (show aC Fi.dcd Fi.noP K.xs src C.brs.length bad (2, i) = ((_, _), _) from rfl)).mono (fun e w' ⟨h1, h2⟩ => ⟨_, h1, h2⟩)
 have HR : ∀ W bad (i : Int), Cd.Wf i → Kc W K { C with bad := bad } src → Calls Tryz.prog 127 #[.pointer (some ⟨C.p, 0, none⟩), .int .i64 i] W (jo K C src (3, i) bad W) := fun W bad i hi h =>
  (pipe_is h i hi _ _ _ (show aC Ri.dcd Ri.noP K.xs src C.brs.length bad (3, i) = ((_, _), _) from rfl)).mono (fun e w' ⟨h1, h2⟩ => ⟨_, h1, h2⟩)
 have HT : ∀ W bad, Kc W K { C with bad := bad } src → Calls Tryz.prog 128 #[.pointer (some ⟨C.p, 0, none⟩)] W (jo K C src (4, 0) bad W) := fun W bad h =>
  (term_is h _ _ _ (show aC Ri.dcd Ri.noP K.xs src C.brs.length bad (4, 0) = ((_, _), _) from rfl)).mono (fun e w' ⟨h1, h2⟩ => ⟨_, h1, h2⟩)
 have HG : ∀ W bad, Kc W K { C with bad := bad } src → Calls Tryz.prog 129 #[.pointer (some ⟨C.p, 0, none⟩)] W (jo K C src (5, 0) bad W) := fun W bad h =>
  (front_is h _ _ _ (show aC fdec 0 K.xs src C.brs.length bad (5, 0) = ((_, _), _) from rfl)).mono (fun e w' ⟨h1, h2⟩ => ⟨_, h1, h2⟩)
 have hwf : ∀ k : Nat, k ≤ 40 → Cd.Wf k := fun k hk => by unfold Cd.Wf; omega
 have HWF := aa hwf
 have H3 := aa (show ∀ W bad, Kc W K { C with bad := bad } src → W.cell? ⟨C.p, 3, none⟩ = some (.slice C.A C.brs.length C.cap) from fun W bad h => h.c.obj.cell 3)
 have hlook : look K.xs src C.brs.length C.bad = seen K.xs src C.brs.length (seen K.xs src C.brs.length (upto K.xs src C.brs.length 3 (upto K.xs src C.brs.length 2 (upto K.xs src C.brs.length 1 C.bad 8) 12) (4 + C.brs.length)) (4, 0)) (5, 0) := by
  unfold look bD
  rw [List.foldl_append, List.foldl_append, List.foldl_append]
  rfl
 rw [hb] at hlook
 have HB := aa hlook
 clear hb h hlook hwf
 unfold jo at HP HF HR HT HG
 have hs := fun kind bad k => upto_succ K.xs src C.brs.length kind bad k
 have hz := fun kind bad => upto_zero K.xs src C.brs.length kind bad
 obtain ⟨nb, hnb⟩ : ∃ nb, C.brs.length = nb := ⟨_, rfl⟩
 have HN := aa hnb
 generalize seen K.xs src C.brs.length = se at *
 generalize upto K.xs src C.brs.length = up at *
 generalize hbad : C.bad = bad0 at *
 have HBad := aa hbad
 have HS := aa hs
 have HZ := aa hz
 rw [hnb] at few
 have HFew := aa few
 clear hs hz hnb hbad few
 go_enter Tryz.func63, Tryz.ntmps63
 go_wp2_with fail
 go_loopw [5] (fun s5 wx => ∃ k : Nat, k ≤ 8 ∧ s5 = .int .i64 k ∧ Ct w K K C { C with bad := up 1 bad0 k } src wx) (fun s5 _ => 8 - (intOf s5).toNat)
 case atStart => exact ⟨0, Nat.zero_le _, rfl, by rw [HZ.out, ← HBad.out]; exact H0.out⟩
 case round =>
  obtain ⟨k, hk, rfl, hct⟩ := hrel
  by_cases hlt : (k : Int) < 8
  ·have hcall := HP _ _ k (HWF.out k (by omega)) hct.is
   go_wp2_with fail
   refine hcall.mono ?_; rintro e w1 ⟨v, rfl, t⟩
   have hnext := hct.more t
   clear hcall t
   go_wp2
   go_roundw
   case rel => exact ⟨k + 1, by omega, by go_num, by rw [HS.out]; exact hnext⟩
   case measure => simp [intOf]; omega
  ·obtain ⟨b1, hb1⟩ : ∃ b1, up 1 bad0 8 = b1 := ⟨_, rfl⟩
   have h8 : Ct w K K C { C with bad := b1 } src wr := by
    have e : k = 8 := by omega
    subst e
    rw [← hb1]
    exact hct
   have H8 := aa h8
   rw [hb1] at HB
   clear hct h8 hb1 hk
   go_wp2_with fail
   go_loopw [12] (fun s12 wx => ∃ k : Nat, k ≤ 12 ∧ s12 = .int .i64 k ∧ Ct w K K C { C with bad := up 2 b1 k } src wx) (fun s12 _ => 12 - (intOf s12).toNat)
   case atStart => exact ⟨0, Nat.zero_le _, rfl, by rw [HZ.out]; exact H8.out⟩
   case round =>
    obtain ⟨j, hj, rfl, hct⟩ := hrel
    by_cases hlt2 : (j : Int) < 12
    ·have hcall := HF _ _ j (HWF.out j (by omega)) hct.is
     go_wp2_with fail
     refine hcall.mono ?_; rintro e w1 ⟨v, rfl, t⟩
     have hnext := hct.more t
     clear hcall t
     go_wp2
     go_roundw
     case rel => exact ⟨j + 1, by omega, by go_num, by rw [HS.out]; exact hnext⟩
     case measure => simp [intOf]; omega
    ·obtain ⟨b2, hb2⟩ : ∃ b2, up 2 b1 12 = b2 := ⟨_, rfl⟩
     have h12 : Ct w K K C { C with bad := b2 } src wr := by
      have e : j = 12 := by omega
      subst e
      rw [← hb2]
      exact hct
     have c3 := H3.out _ _ h12.is
     rw [HN.out] at c3
     have H12 := aa h12
     rw [hb2] at HB
     have few := HFew.out
     clear hct h12 hb2 hj
     go_wp2_with fail
     go_loopw [25] (fun s25 wx => ∃ k : Nat, k ≤ 4 + nb ∧ s25 = .int .i64 k ∧ Ct w K K C { C with bad := up 3 b2 k } src wx) (fun s25 _ => 4 + nb - (intOf s25).toNat)
     case atStart => exact ⟨0, Nat.zero_le _, rfl, by rw [HZ.out]; exact H12.out⟩
     case round =>
      obtain ⟨q, hq, rfl, hct⟩ := hrel
      by_cases hlt3 : (q : Int) < 4 + (nb : Int)
      ·have hcall := HR _ _ q (HWF.out q (by omega)) hct.is
       go_wp2_with fail
       refine hcall.mono ?_; rintro e w1 ⟨v, rfl, t⟩
       have hnext := hct.more t
       clear hcall t
       go_wp2
       go_roundw
       case rel => exact ⟨q + 1, by omega, by go_num, by rw [HS.out]; exact hnext⟩
       case measure => simp [intOf]; omega
      ·have hqn : q = 4 + C.brs.length := by have := HN.out; omega
       have HQ := aa hqn
       have hc1 := HT _ _ hct.is
       clear hqn
       go_wp2_with fail
       refine hc1.mono ?_; rintro e w1 ⟨v1, rfl, t1⟩
       have hct1 := hct.more t1
       have hc2 := HG _ _ hct1.is
       clear hc1 t1
       go_wp2_with fail
       refine hc2.mono ?_; rintro e w2 ⟨v2, rfl, t2⟩
       have hct2 := hct1.more t2
       clear hc2 t2
       go_wp2
       refine bodyPost_end (results_none rfl _ _ _) rfl ?_
       refine ⟨rfl, ?_⟩
       rw [HB.out, ← HQ.out]
       exact hct2
end
end Go.Proofs.YtgcikpgcoemfnaaGreat.Co
namespace Go.Proofs.YtgcikpgcoemfnaaGreat.Co
open Go.RowKit
structure Stt where
 p : Int → List Int × Int
 f : Int → List Int × Int
 r : Int → Ri.Pp × Int
 t : Ri.Pp × Int
 g : Int × Int
def upd {α : Type} (f : Int → α) (i : Int) (a : α) : Int → α := fun j => if j = i then a else f j
theorem cL {α : Type} (f : Int → α) (i : Int) (a : α) : upd f i a i = a := if_pos rfl
theorem cO {α : Type} {f : Int → α} {i j : Int} {a : α} (h : j ≠ i) : upd f i a j = f j := if_neg h
def Rok (r : Rf) : Prop := 1 ≤ r.1 ∧ r.1 ≤ 5 ∧ (r.1 = 4 ∨ r.1 = 5 → r.2 = 0)
structure Lay (n : Nat) (src : Src) (nb : Nat) : Prop where
 inn : ∀ r x b, Rok r → aw nb r = some x → src x.1 x.2.1 x.2.2 = some b → b + x.2.1 + x.2.2 ≤ n
 ap : ∀ r r' x x' b b', Rok r → Rok r' → r ≠ r' → aw nb r = some x → aw nb r' = some x' → src x.1 x.2.1 x.2.2 = some b → src x'.1 x'.2.1 x'.2.2 = some b' →
  b + x.2.1 + x.2.2 ≤ b' + x'.2.1 ∨ b' + x'.2.1 + x'.2.2 ≤ b + x.2.1
theorem spl_in {L cs : List UInt8} {o : Nat} (h : o + cs.length ≤ L.length) : ((splice L o cs).drop o).take cs.length = cs := by
 unfold splice
 rw [List.drop_append_of_le_length (by simp; omega), List.drop_take]
 simp
theorem spl_by {L cs : List UInt8} {o a n : Nat} (h : o + cs.length ≤ L.length) (ha : a + n ≤ o ∨ o + cs.length ≤ a) : ((splice L o cs).drop a).take n = (L.drop a).take n := by
 apply List.ext_getElem?
 intro i
 unfold splice
 simp only [List.getElem?_take, List.getElem?_drop]
 split
 ·rcases ha with ha | ha
  ·rw [List.getElem?_append_left (by simp; omega), List.getElem?_take, if_pos (by omega)]
  ·rw [List.getElem?_append_right (by simp; omega), List.getElem?_append_right (by simp; omega), List.getElem?_drop]
   simp only [List.length_take]
   congr 1
   omega
 ·rfl
section
variable {α : Type} {dec : List UInt8 → α × Int} {z : α} {xs : List UInt8} {src : Src} {n nb : Nat} {bad : List Rf} {r r0 : Rf} {x0 : Nat × Nat × Nat} {b0 : Nat} {b : List UInt8}
theorem jm (L : Lay n src nb) (hx : xs.length = n) (hr : Rok r) (h0 : Rok r0) (hne : r ≠ r0) (hw : aw nb r0 = some x0) (hs : src x0.1 x0.2.1 x0.2.2 = some b0) (hb : b.length = x0.2.2) :
  aC dec z (splice xs (b0 + x0.2.1) b) src nb bad r = aC dec z xs src nb bad r := by
 unfold aC
 split
 ·rfl
 ·split
  ·rfl
  ·rename_i x hwx
   have e : got (splice xs (b0 + x0.2.1) b) src x = got xs src x := by
    unfold got
    cases hsx : src x.1 x.2.1 x.2.2 with
    | none => rfl
    | some bx =>
     dsimp only
     have h1 := L.inn r0 x0 b0 h0 hw hs
     have h2 := L.ap r r0 x x0 bx b0 hr h0 hne hwx hw hsx hs
     exact spl_by (by omega) (by omega)
   rw [e]
theorem iq (L : Lay n src nb) (hx : xs.length = n) (h0 : Rok r0) (hnb : r0 ∉ bad) (hw : aw nb r0 = some x0) (hs : src x0.1 x0.2.1 x0.2.2 = some b0) (hb : b.length = x0.2.2) {v : α} {d : Int} (hd : dec b = (v, d)) (h2 : d ≠ 2) :
  aC dec z (splice xs (b0 + x0.2.1) b) src nb bad r0 = ((v, d), bad) := by
 have h1 := L.inn r0 x0 b0 h0 hw hs
 have e : got (splice xs (b0 + x0.2.1) b) src x0 = b := by
  unfold got
  rw [hs]
  dsimp only
  rw [← hb]
  exact spl_in (by omega)
 have hd2 : dec (got (splice xs (b0 + x0.2.1) b) src x0) = (v, d) := by rw [e]; exact hd
 rw [aF hnb hw hd2, if_neg h2]
theorem ins_ne (r : Rf) (l : List Rf) : ins r l ≠ l := fun e => by
 have := (iH r l).length_eq
 rw [e] at this
 simp at this
theorem dead {a : α × Int} (h : aC dec z xs src nb bad r = (a, bad)) (ha : a.2 = 2) (b : List UInt8) : db xs src nb bad r b = (false, xs) := by
 by_cases hb : r ∈ bad
 ·exact kZ hb
 ·cases hw : aw nb r with
  | none => exact jN hb hw
  | some x =>
   rw [aF hb hw rfl] at h
   have h1 := congrArg Prod.fst h
   have h2 := congrArg Prod.snd h
   dsimp only at h1 h2
   have e : (dec (got xs src x)).2 = 2 := by rw [show dec (got xs src x) = a from h1]; exact ha
   rw [if_pos e] at h2
   exact absurd h2 (ins_ne _ _)
theorem live (hd : (dec []).2 = 2) {a : α × Int} (h : aC dec z xs src nb bad r = (a, bad)) (ha : a.2 ≠ 2) : r ∉ bad ∧ ∃ x b, aw nb r = some x ∧ src x.1 x.2.1 x.2.2 = some b ∧ dec (got xs src x) = a := by
 by_cases hb : r ∈ bad
 ·rw [bh hb] at h
  exact absurd (congrArg (·.1.2) h).symm ha
 ·refine ⟨hb, ?_⟩
  cases hw : aw nb r with
  | none =>
   rw [aY hb hw] at h
   exact absurd (congrArg (·.1.2) h).symm ha
  | some x =>
   rw [aF hb hw rfl] at h
   have h1 : dec (got xs src x) = a := congrArg Prod.fst h
   cases hs : src x.1 x.2.1 x.2.2 with
   | none =>
    have : got xs src x = [] := by unfold got; rw [hs]
    rw [this] at h1
    rw [h1] at hd
    exact absurd hd ha
   | some b => exact ⟨x, b, rfl, hs, h1⟩
end
theorem rok1 (i : Int) : Rok (1, i) := ⟨by show (1 : Int) ≤ 1; decide, by show (1 : Int) ≤ 5; decide, fun h => by have h : (1 : Int) = 4 ∨ (1 : Int) = 5 := h; omega⟩
theorem rok2 (i : Int) : Rok (2, i) := ⟨by show (1 : Int) ≤ 2; decide, by show (2 : Int) ≤ 5; decide, fun h => by have h : (2 : Int) = 4 ∨ (2 : Int) = 5 := h; omega⟩
theorem rok3 (i : Int) : Rok (3, i) := ⟨by show (1 : Int) ≤ 3; decide, by show (3 : Int) ≤ 5; decide, fun h => by have h : (3 : Int) = 4 ∨ (3 : Int) = 5 := h; omega⟩
theorem rok4 : Rok (4, 0) := ⟨by decide, by decide, fun _ => rfl⟩
theorem rok5 : Rok (5, 0) := ⟨by decide, by decide, fun _ => rfl⟩
structure Sto (F : List UInt8 → Prop) (n : Nat) (src : Src) (nb : Nat) (bad : List Rf) (xs : List UInt8) (S : Stt) : Prop where
 len : xs.length = n
 lay : Lay n src nb
 fr : F xs
 cl : ∀ ys r x b0 b, Rok r → r ∉ bad → aw nb r = some x → src x.1 x.2.1 x.2.2 = some b0 → b.length = x.2.2 → ys.length = n → F ys → F (splice ys (b0 + x.2.1) b)
 p : ∀ i, aC Cd.dcd Cd.noP xs src nb bad (1, i) = (S.p i, bad)
 f : ∀ i, aC Fi.dcd Fi.noP xs src nb bad (2, i) = (S.f i, bad)
 r : ∀ i, aC Ri.dcd Ri.noP xs src nb bad (3, i) = (S.r i, bad)
 t : aC Ri.dcd Ri.noP xs src nb bad (4, 0) = (S.t, bad)
 g : aC fdec 0 xs src nb bad (5, 0) = (S.g, bad)
def Stt.setP (S : Stt) (i : Int) (v : List Int) : Stt := { S with p := upd S.p i (v, 1) }
def Stt.setF (S : Stt) (i : Int) (v : List Int) : Stt := { S with f := upd S.f i (v, 1) }
def Stt.setR (S : Stt) (i : Int) (v : Ri.Pp) : Stt := { S with r := upd S.r i (v, 1) }
def Stt.frP (S : Stt) (i : Int) : Stt := { S with p := upd S.p i (Cd.noP, 0) }
def Stt.frF (S : Stt) (i : Int) : Stt := { S with f := upd S.f i (Fi.noP, 0) }
def Stt.frR (S : Stt) (i : Int) : Stt := { S with r := upd S.r i (Ri.noP, 0) }
theorem dnoP : Cd.dcd (List.replicate 24 0) = (Cd.noP, 0) := by decide +kernel
theorem dnoF : Fi.dcd (List.replicate 8 0) = (Fi.noP, 0) := by decide +kernel
theorem dnoR : Ri.dcd (List.replicate 40 0) = (Ri.noP, 0) := by
 unfold Ri.dcd
 rw [if_pos (by simp), if_pos (by decide)]
section
variable {F : List UInt8 → Prop} {n nb : Nat} {src : Src} {bad : List Rf} {xs : List UInt8} {S : Stt}
theorem ne_k {a b i j : Int} (h : a ≠ b) : ((a, i) : Rf) ≠ (b, j) := fun e => h (congrArg Prod.fst e)
theorem ne_i {a i j : Int} (h : i ≠ j) : ((a, i) : Rf) ≠ (a, j) := fun e => h (congrArg Prod.snd e)
theorem Sto.setP (h : Sto F n src nb bad xs S) (i : Int) {v : List Int} {d : Int} {b : List UInt8} (hd : Cd.dcd b = (v, d)) (h2 : d ≠ 2) (hl : b.length = 24) :
  ∃ ys, db xs src nb bad (1, i) b = (decide ((S.p i).2 ≠ 2), ys) ∧ Sto F n src nb bad ys (if (S.p i).2 ≠ 2 then { S with p := upd S.p i (v, d) } else S) := by
 by_cases hz : (S.p i).2 = 2
 ·refine ⟨xs, ?_, ?_⟩
  ·rw [dead (h.p i) hz, decide_eq_false (by simpa using hz)]
  ·rw [if_neg (by simpa using hz)]; exact h
 ·obtain ⟨hnb, x, b0, hw, hs, _⟩ := live (by decide) (h.p i) hz
  have hsz : b.length = x.2.2 := by rw [wsize1 x hw]; exact hl
  refine ⟨splice xs (b0 + x.2.1) b, ?_, ?_⟩
  ·rw [gJ hnb hw hs, decide_eq_true hz]
  ·rw [if_pos hz]
   have hin := h.lay.inn _ x b0 (rok1 i) hw hs
   have far := fun {α : Type} {dec : List UInt8 → α × Int} {z : α} {r : Rf} (hr : Rok r) (hne : r ≠ (1, i)) => jm (dec := dec) (z := z) (bad := bad) h.lay h.len hr (rok1 i) hne hw hs hsz
   refine ⟨by rw [aX _ _ _ (by rw [h.len]; omega)]; exact h.len, h.lay, h.cl _ _ x b0 b (rok1 i) hnb hw hs hsz h.len h.fr, h.cl, fun j => ?_, fun j => ?_, fun j => ?_, ?_, ?_⟩
   ·by_cases e : j = i
    ·subst e
     rw [iq h.lay h.len (rok1 j) hnb hw hs hsz hd h2]
     dsimp only
     rw [cL]
    ·rw [far (rok1 j) (ne_i e), h.p j]
     dsimp only
     rw [cO e]
   ·rw [far (rok2 j) (ne_k (by decide)), h.f j]
   ·rw [far (rok3 j) (ne_k (by decide)), h.r j]
   ·rw [far rok4 (ne_k (by decide)), h.t]
   ·rw [far rok5 (ne_k (by decide)), h.g]
theorem Sto.setF (h : Sto F n src nb bad xs S) (i : Int) {v : List Int} {d : Int} {b : List UInt8} (hd : Fi.dcd b = (v, d)) (h2 : d ≠ 2) (hl : b.length = 8) :
  ∃ ys, db xs src nb bad (2, i) b = (decide ((S.f i).2 ≠ 2), ys) ∧ Sto F n src nb bad ys (if (S.f i).2 ≠ 2 then { S with f := upd S.f i (v, d) } else S) := by
 by_cases hz : (S.f i).2 = 2
 ·refine ⟨xs, ?_, ?_⟩
  ·rw [dead (h.f i) hz, decide_eq_false (by simpa using hz)]
  ·rw [if_neg (by simpa using hz)]; exact h
 ·obtain ⟨hnb, x, b0, hw, hs, _⟩ := live (by decide) (h.f i) hz
  have hsz : b.length = x.2.2 := by rw [wsize2 x hw]; exact hl
  refine ⟨splice xs (b0 + x.2.1) b, ?_, ?_⟩
  ·rw [gJ hnb hw hs, decide_eq_true hz]
  ·rw [if_pos hz]
   have hin := h.lay.inn _ x b0 (rok2 i) hw hs
   have far := fun {α : Type} {dec : List UInt8 → α × Int} {z : α} {r : Rf} (hr : Rok r) (hne : r ≠ (2, i)) => jm (dec := dec) (z := z) (bad := bad) h.lay h.len hr (rok2 i) hne hw hs hsz
   refine ⟨by rw [aX _ _ _ (by rw [h.len]; omega)]; exact h.len, h.lay, h.cl _ _ x b0 b (rok2 i) hnb hw hs hsz h.len h.fr, h.cl, fun j => ?_, fun j => ?_, fun j => ?_, ?_, ?_⟩
   ·rw [far (rok1 j) (ne_k (by decide)), h.p j]
   ·by_cases e : j = i
    ·subst e
     rw [iq h.lay h.len (rok2 j) hnb hw hs hsz hd h2]
     dsimp only
     rw [cL]
    ·rw [far (rok2 j) (ne_i e), h.f j]
     dsimp only
     rw [cO e]
   ·rw [far (rok3 j) (ne_k (by decide)), h.r j]
   ·rw [far rok4 (ne_k (by decide)), h.t]
   ·rw [far rok5 (ne_k (by decide)), h.g]
theorem Sto.setR (h : Sto F n src nb bad xs S) (i : Int) {v : Ri.Pp} {d : Int} {b : List UInt8} (hd : Ri.dcd b = (v, d)) (h2 : d ≠ 2) (hl : b.length = 40) :
  ∃ ys, db xs src nb bad (3, i) b = (decide ((S.r i).2 ≠ 2), ys) ∧ Sto F n src nb bad ys (if (S.r i).2 ≠ 2 then { S with r := upd S.r i (v, d) } else S) := by
 by_cases hz : (S.r i).2 = 2
 ·refine ⟨xs, ?_, ?_⟩
  ·rw [dead (h.r i) hz, decide_eq_false (by simpa using hz)]
  ·rw [if_neg (by simpa using hz)]; exact h
 ·obtain ⟨hnb, x, b0, hw, hs, _⟩ := live (by decide) (h.r i) hz
  have hsz : b.length = x.2.2 := by rw [wsize3 x hw]; exact hl
  refine ⟨splice xs (b0 + x.2.1) b, ?_, ?_⟩
  ·rw [gJ hnb hw hs, decide_eq_true hz]
  ·rw [if_pos hz]
   have hin := h.lay.inn _ x b0 (rok3 i) hw hs
   have far := fun {α : Type} {dec : List UInt8 → α × Int} {z : α} {r : Rf} (hr : Rok r) (hne : r ≠ (3, i)) => jm (dec := dec) (z := z) (bad := bad) h.lay h.len hr (rok3 i) hne hw hs hsz
   refine ⟨by rw [aX _ _ _ (by rw [h.len]; omega)]; exact h.len, h.lay, h.cl _ _ x b0 b (rok3 i) hnb hw hs hsz h.len h.fr, h.cl, fun j => ?_, fun j => ?_, fun j => ?_, ?_, ?_⟩
   ·rw [far (rok1 j) (ne_k (by decide)), h.p j]
   ·rw [far (rok2 j) (ne_k (by decide)), h.f j]
   ·by_cases e : j = i
    ·subst e
     rw [iq h.lay h.len (rok3 j) hnb hw hs hsz hd h2]
     dsimp only
     rw [cL]
    ·rw [far (rok3 j) (ne_i e), h.r j]
     dsimp only
     rw [cO e]
   ·rw [far rok4 (ne_k (by decide)), h.t]
   ·rw [far rok5 (ne_k (by decide)), h.g]
theorem Sto.seen (h : Sto F n src nb bad xs S) {q : Rf} (hq : Rok q) : seen xs src nb bad q = bad := by
 obtain ⟨k, i⟩ := q
 obtain ⟨h1, h2, h3⟩ := hq
 dsimp only at h1 h2 h3
 unfold Co.seen
 dsimp only
 rcases (show k = 1 ∨ k = 2 ∨ k = 3 ∨ k = 4 ∨ k = 5 by omega) with rfl | rfl | rfl | rfl | rfl
 ·rw [if_pos rfl, h.p i]
 ·rw [if_neg (by decide), if_pos rfl, h.f i]
 ·rw [if_neg (by decide), if_neg (by decide), if_neg (by decide), h.r i]
 ·obtain rfl := h3 (.inl rfl)
  rw [if_neg (by decide), if_neg (by decide), if_neg (by decide), h.t]
 ·obtain rfl := h3 (.inr rfl)
  rw [if_neg (by decide), if_neg (by decide), if_pos rfl, h.g]
theorem rok_all {nb : Nat} {q : Rf} (h : q ∈ bD nb) : Rok q := by
 unfold bD at h
 simp only [List.mem_append, mk, List.mem_map, List.mem_range, List.mem_cons, List.not_mem_nil, or_false] at h
 rcases h with ((⟨i, _, rfl⟩ | ⟨i, _, rfl⟩) | ⟨i, _, rfl⟩) | rfl | rfl
 ·exact rok1 _
 ·exact rok2 _
 ·exact rok3 _
 ·exact rok4
 ·exact rok5
theorem fold_same {α β : Type} {f : α → β → α} {a : α} : ∀ {l : List β}, (∀ q ∈ l, f a q = a) → l.foldl f a = a
 | [], _ => rfl
 | q :: l, h => by
  rw [List.foldl_cons, h q (by simp)]
  exact fold_same (fun q hq => h q (by simp [hq]))
theorem Sto.look (h : Sto F n src nb bad xs S) : look xs src nb bad = bad := fold_same fun _ hq => h.seen (rok_all hq)
end
end Go.Proofs.YtgcikpgcoemfnaaGreat.Co
namespace Go.Proofs.YtgcikpgcoemfnaaGreat.Co
open Go.RowKit
structure Ks (F : List UInt8 → Prop) (n : Nat) (w : World) (K : Kn) (C : Cm) (src : Src) (S : Stt) : Prop where
 kc : Kc w K C src
 s : Sto F n src C.brs.length C.bad K.xs S
def Kt (F : List UInt8 → Prop) (n : Nat) (w : World) (K : Kn) (C : Cm) (src : Src) (S' : Stt) (w' : World) : Prop :=
 ∃ ys, Sto F n src C.brs.length C.bad ys S' ∧ Ct w K { K with xs := ys } C C src w'
section
variable {F : List UInt8 → Prop} {n : Nat} {w w' w1 : World} {K : Kn} {C : Cm} {src : Src} {S S' S2 : Stt}
theorem Ks.still (h : Ks F n w K C src S) (k : Keep Nob w w') : Kt F n w K C src S w' := ⟨K.xs, h.s, Ct.still h.kc k⟩
theorem Kt.nob (t : Kt F n w K C src S' w1) (k : Keep Nob w1 w') : Kt F n w K C src S' w' := by
 obtain ⟨ys, h1, h2⟩ := t
 exact ⟨ys, h1, h2.nob k⟩
theorem Ks.lt (h : Ks F n w K C src S) : ∀ b, Mine K b ∨ b = C.p ∨ b = C.b → b < w.heap.size := by
 rintro b (m | rfl | rfl)
 ·obtain ⟨t, cs, hb, _⟩ := h.kc.k.ty b m
  exact hb.lt
 ·exact h.kc.c.lt.1
 ·exact h.kc.c.lt.2
theorem Kt.loc (t : Kt F n w K C src S' w1) (h : Ks F n w K C src S) {M : Nat → Prop} (k : Keep M w1 w') (hM : ∀ b, M b → w.heap.size ≤ b ∧ ∃ ty cs, Blk w1 b ty cs ∧ ¬ Fix ty) : Kt F n w K C src S' w' := by
 obtain ⟨ys, h1, h2⟩ := t
 have old : ∀ b, Mine K b ∨ b = C.p ∨ b = C.b → ¬ M b := fun b m hb => by
  have := h.lt b m
  have := (hM b hb).1
  omega
 have ha := h.kc.a_lt
 have is : Kc w' { K with xs := ys } C src := ⟨h2.is.k.keep k (fun b m => (hM b m).2) (fun b m hm => old b (.inl m) hm), h2.is.c.keep k (old _ (.inr (.inl rfl))) (fun h0 ad e m => by
  have := ha h0 ad e
  have := (hM _ m).1
  omega) (old _ (.inr (.inr rfl))), h2.is.l, h2.is.ap⟩
 exact ⟨ys, h1, is, h2.keep.trans k (fun b hlt m => by
  have := (hM b m).1
  omega), h2.mine⟩
theorem Kt.of_to {ys : List UInt8} (h : Kc w K C src) (hs : Sto F n src C.brs.length C.bad ys S') (t : To w K { K with xs := ys } w') : Kt F n w K C src S' w' := ⟨ys, hs, Ct.of_to h t⟩
def Kp (K : Kn) (C : Cm) : World → World → Prop := Keep (fun b => Turn K b ∨ b = C.b)
theorem Kt.goK {f : FuncId} {args : Array Value} {Q : Ending → World → Prop} (t : Kt F n w K C src S w1) (hc : ∀ K', Ks F n w1 K' C src S → (∀ W, Kp K' C w1 W → Kp K C w1 W) → Calls Tryz.prog f args w1 fun e w' => Q e w' ∧ Kt F n w1 K' C src S' w') :
  Calls Tryz.prog f args w1 fun e w' => Q e w' ∧ Kt F n w K C src S' w' ∧ Kp K C w1 w' := by
 obtain ⟨ys, h1, h2⟩ := t
 refine (hc _ ⟨h2.is, h1⟩ (fun W k => k)).mono ?_
 rintro e w' ⟨hq, zs, h3, h4⟩
 exact ⟨hq, ⟨zs, h3, h2.trans h4 (fun _ m => .inl m) rfl (fun _ m _ => m)⟩, h4.keep⟩
theorem Kt.go {f : FuncId} {args : Array Value} {Q : Ending → World → Prop} (t : Kt F n w K C src S w1) (hc : ∀ K', Ks F n w1 K' C src S → Calls Tryz.prog f args w1 fun e w' => Q e w' ∧ Kt F n w1 K' C src S' w') :
  Calls Tryz.prog f args w1 fun e w' => Q e w' ∧ Kt F n w K C src S' w' ∧ Kp K C w1 w' := t.goK (fun K' hk _ => hc K' hk)
theorem Kt.kp (t : Kt F n w K C src S w') : Kp K C w w' := by
 obtain ⟨ys, _, h2⟩ := t
 exact h2.keep
theorem Kp.lb (k : Kp K C w1 w') (h : Ks F n w K C src S) {g : Nat} {ty : TypeId} {cs : List Value} (hb : Blk w1 g ty cs) (hg : w.heap.size ≤ g) : Blk w' g ty cs :=
 hb.keep k (fun m => by
  have := h.lt g (m.elim (fun m => .inl (.inl m)) (fun m => .inr (.inr m)))
  omega)
theorem Kp.vec (k : Kp K C w1 w') (h : Ks F n w K C src S) {e sz m c : Nat} {A : Option Addr} {xs : List Value} (hv : Vec w1 e sz A m c xs) (hA : ∀ b, Own A b → w.heap.size ≤ b) : Vec w' e sz A m c xs :=
 hv.keep k (fun b ho m => by
  have := h.lt b (m.elim (fun m => .inl (.inl m)) (fun m => .inr (.inr m)))
  have := hA b ho
  omega)
theorem Kt.st (t : Kt F n w K C src S' w1) (h : Ks F n w K C src S) {g : Nat} {ty : TypeId} {cs : List Value} (hb : Blk w1 g ty cs) (hf : ¬ Fix ty) (hg : w.heap.size ≤ g) (k : Keep (· = g) w1 w') : Kt F n w K C src S' w' :=
 t.loc h k (fun b e => e ▸ ⟨hg, ty, cs, hb, hf⟩)
theorem ll (h : Ks F n w K C src S) : Calls Tryz.prog 63 #[.pointer (some ⟨C.p, 0, none⟩)] w fun e w' => e = .returned (.tuple #[]) ∧ Kt F n w K C src S w' := by
 refine (look_is h.kc _ h.s.look).mono ?_
 rintro e w' ⟨rfl, t⟩
 exact ⟨rfl, K.xs, h.s, t⟩
theorem lz (h : Ks F n w K C src S) (i : Int) (hi : Cd.Wf i) (v : List Int) (d : Int) (hv : S.p i = (v, d)) :
  Calls Tryz.prog 13 #[.pointer (some ⟨C.p, 0, none⟩), .int .i64 i] w fun e w' => e = .returned (.tuple #[.agg (ab v).toArray, .int .i64 d]) ∧ Kt F n w K C src S w' := by
 refine (proc_is h.kc i hi v d _ ((h.s.p i).trans (by rw [hv]))).mono ?_
 rintro e w' ⟨rfl, t⟩
 exact ⟨rfl, K.xs, h.s, t⟩
theorem pset_p (h : Ks F n w K C src S) (i : Int) {v : List Int} (hl : v.length = 16) (ok : Bool) (hok : (decide ((S.p i).2 ≠ 2) && Cd.okd v) = ok) :
  ∃ ys, pset (Cd.okd v) (Cd.enc v) K.xs src C.brs.length C.bad (1, i) = (ok, ys) ∧ Sto F n src C.brs.length C.bad ys (if ok then S.setP i v else S) := by
 unfold pset
 cases hd : Cd.okd v with
 | false =>
  rw [hd, Bool.and_false] at hok
  subst hok
  exact ⟨K.xs, rfl, h.s⟩
 | true =>
  rw [hd, Bool.and_true] at hok
  obtain ⟨ys, h1, h2⟩ := h.s.setP i (Cd.gQ hl hd) (by decide) (Cd.aJ hl)
  refine ⟨ys, ?_, ?_⟩
  ·rw [if_pos rfl, h1, hok]
  ·rw [← hok]
   by_cases hz : (S.p i).2 = 2
   ·rw [if_neg (by simpa using hz)] at h2
    rw [decide_eq_false (by simpa using hz)]
    exact h2
   ·rw [if_pos hz] at h2
    rw [decide_eq_true hz]
    exact h2
theorem bv (h : Ks F n w K C src S) (i : Int) (hi : Cd.Wf i) (v : List Int) (hl : v.length = 16) (hw : ∀ x ∈ v, Cd.Wf x) (ok : Bool) (hok : (decide ((S.p i).2 ≠ 2) && Cd.okd v) = ok) :
  Calls Tryz.prog 37 #[.pointer (some ⟨C.p, 0, none⟩), .int .i64 i, .agg (ab v).toArray] w fun e w' => e = .returned (.bool ok) ∧ Kt F n w K C src (if ok then S.setP i v else S) w' := by
 obtain ⟨ys, h1, h2⟩ := pset_p h i hl ok hok
 refine (setProc_is h.kc i hi v hl hw ok ys h1).mono ?_
 rintro e w' ⟨rfl, t⟩
 exact ⟨rfl, Kt.of_to h.kc h2 t⟩
theorem fV (h : Ks F n w K C src S) (i : Int) (hi : Cd.Wf i) (ok : Bool) (hok : decide ((S.p i).2 ≠ 2) = ok) :
  Calls Tryz.prog 43 #[.pointer (some ⟨C.p, 0, none⟩), .int .i64 i] w fun e w' => e = .returned (.bool ok) ∧ Kt F n w K C src (if ok then S.frP i else S) w' := by
 obtain ⟨ys, h1, h2⟩ := h.s.setP i dnoP (by decide) (by simp)
 rw [hok] at h1
 refine (freeProc_is h.kc i hi ok ys h1).mono ?_
 rintro e w' ⟨rfl, t⟩
 refine ⟨rfl, Kt.of_to h.kc ?_ t⟩
 rw [← hok]
 by_cases hz : (S.p i).2 = 2
 ·rw [if_neg (by simpa using hz)] at h2
  rw [decide_eq_false (by simpa using hz)]
  exact h2
 ·rw [if_pos hz] at h2
  rw [decide_eq_true hz]
  exact h2
end
end Go.Proofs.YtgcikpgcoemfnaaGreat.Co
namespace Go.Proofs.YtgcikpgcoemfnaaGreat.Pr
open Go.RowKit Co
theorem ik : (Tryz.prog.info? 94).map (·.size) = some 18 := by kernel_rfl
theorem alS (W : World) : (Instr.alloc 94 true (.tuple #[])).run Tryz.prog W = .ok (.pointer (some ⟨W.heap.size, 0, none⟩)) (W.alloc (.cells (ab (List.replicate 18 0)).toArray 94)) := by
 go_simp
 rfl
theorem cI : cS 94 18 (ab (List.replicate 18 0)) := ⟨⟨_, Tryz.underlying94, rfl⟩, ik, alS, rfl⟩
theorem bu_slot (i d : Int) (l : List Int) (h : l.length = 16) (W : World) : (Instr.build 94 #[(0, .int .i64 i), (1, .int .i64 d), (2, .agg (ab l).toArray)]).run Tryz.prog W = .ok (.agg (ab (i :: d :: l)).toArray) W := by
 obtain ⟨a0, a1, a2, a3, a4, a5, a6, a7, f0, f1, f2, f3, f4, f5, f6, f7, rfl⟩ := Cd.aD h
 exact run_build W _ _ _ (by kernel_rfl)
section
variable {P : Program} {o : Oper} {ops : Array Oper} {Q : Exit → Act → World → Prop} {rest : List Oper} {a : Act} {w : World}
theorem wpList_bd3 (hgd : o.guard = none) (t : TypeId) (x y z : Operand) (ho : o.op = .build t #[(0, x), (1, y), (2, z)]) (u v s R : Value) (hx : a.eval x = u) (hy : a.eval y = v) (hz : a.eval z = s) (hrun : (Instr.build t #[(0, u), (1, v), (2, s)]).run P w = .ok R w)
  (h : wpList P ops Q rest (a.put o.dst R) w) : wpList P ops Q (o :: rest) a w := by
 refine wpList_plain hgd fun K hK => ?_
 unfold Oper.wp
 simp [execOp, ho, hx, hy, hz, hrun, Result.andThen]
 exact hK _ _ h
end
theorem _root_.Go.Proofs.YtgcikpgcoemfnaaGreat.Co.cS.wpList_ldG {t : TypeId} {n : Nat} {z q : List Value} {o : Oper} {ops : Array Oper} {Q : Exit → Act → World → Prop} {rest : List Oper} {a : Act} {w : World} {g : Nat} {x : Operand} (F : cS t n z) (hw : Region.wanted o (yielded ops a.tmps) = true) (ho : o.op = .load t x) (hx : a.eval x = .pointer (some ⟨g, 0, none⟩)) (hq : cE n q) (hb : Blk w g t q)
  (h : wpList Tryz.prog ops Q rest (a.put o.dst (.agg q.toArray)) w) : wpList Tryz.prog ops Q (o :: rest) a w := by
 refine wpList_step fun K hK => ?_
 rw [if_pos hw]
 have hrun := F.load hq hb
 unfold Oper.wp
 simp [execOp, ho, hx, Instr.loadAt, Instr.sureAddr, hrun, Result.andThen]
 exact hK _ _ h
theorem eu {F : List UInt8 → Prop} {n nb : Nat} {src : Src} {bad : List Rf} {xs : List UInt8} {S : Stt} (h : Sto F n src nb bad xs S) {i : Int} {v : List Int} {d : Int} (hv : S.p i = (v, d)) : v.length = 16 :=
 readP_len ((h.p i).trans (by rw [hv]))
def actB (v : List Int) (d : Int) : Bool := d == 1 && v.getD 0 0 != 2
def chB (v : List Int) (d i : Int) : Bool := d == 1 && v.getD 1 0 == i + 1
def cH (v : List Int) (d : Int) : List Int × Int := if d = 1 ∧ v.getD 0 0 = 1 then (v, 0) else (Cd.noP, 105)
def erB (ok : Bool) : Int := if ok then 0 else 105
section
variable {F : List UInt8 → Prop} {n : Nat} {w w' w1 : World} {K : Kn} {C : Cm} {src : Src} {S S' S2 : Stt}
theorem ed (b : Bool) (w : World) : Calls Tryz.prog 42 #[.bool b] w fun e w' => e = .returned (.int .i64 (erB b)) ∧ w = w' := by
 go_enter Tryz.func42, Tryz.ntmps42
 cases b with
 | true =>
  go_wp2
  go_ret
  exact ⟨rfl, rfl⟩
 | false =>
  go_wp2
  go_ret
  exact ⟨rfl, rfl⟩
theorem at_is (h : Ks F n w K C src S) (i : Int) (hi : Cd.Wf i) (v : List Int) (d : Int) (hv : S.p i = (v, d)) :
  Calls Tryz.prog 40 #[.pointer (some ⟨C.p, 0, none⟩), .int .i64 i] w fun e w' => e = .returned (.agg (ab (i :: d :: v)).toArray) ∧ Kt F n w K C src S w' := by
 have hl := eu h.s hv
 have HC := aa (ai hl)
 have HC2 := aa (ai (n := 18) (l := i :: d :: v) (by simp [hl]))
 have HZ := aa (ai (n := 18) (l := List.replicate 18 0) rfl)
 have HZ2 := aa (ai (n := 16) (l := Cd.noP) rfl)
 have HB := aa (bu_slot i d v hl)
 have H := aa h
 have HCall := aa (fun W K' (hk : Ks F n W K' C src S) => lz hk i hi v d hv)
 clear h hv hl
 go_enter Tryz.func40, Tryz.ntmps40
 go_wp2_with (refine cI.wpList_al rfl rfl ?_; intro w1 hb1 hk1 hs1)
 have T1 := H.out.still hk1
 refine (T1.go (HCall.out _)).mono ?_; rintro e w2 ⟨rfl, T2, kp2⟩
 have hb2 := kp2.lb H.out hb1 (Nat.le_refl _)
 have HT2 := aa T2
 have hsz := Nat.le_trans hk1.size kp2.size
 clear T1 T2 kp2 hb1 hk1 hs1
 go_upto_region 2 with (first
  | (refine ar.wpList_al rfl rfl ?_; intro w3 hb3 hk3 hs3; clear hs3)
  | (refine ar.wpList_st rfl rfl rfl rfl HC.out HZ2.out hb3 ?_; intro w4 hb4 hk4 hs4; clear hs4))
 have T4 := aa ((HT2.out.nob hk3).st H.out hb3 (by decide) hsz hk4)
 have hb5 := (hb2.nob hk3).keep hk4 (by have := hb2.lt; omega)
 clear hb2 hk3 hb3 hk4
 go_wp2_with (refine ar.wpList_ld rfl rfl rfl HC.out hb4 ?_; refine wpList_bd3 rfl _ _ _ _ rfl _ _ _ _ rfl rfl rfl (HB.out _) ?_; refine cI.wpList_st rfl rfl rfl rfl HC2.out HZ.out hb5 ?_; intro w6 hb6 hk6 hs6; clear hs6)
 refine bodyPost_ret (v := .agg (ab (i :: d :: v)).toArray) (cI.results_one rfl _ HC2.out rfl hb6) rfl ?_
 exact ⟨rfl, T4.out.st H.out hb5 (by decide) (Nat.le_refl _) hk6⟩
theorem eF {w : World} {g : Nat} {ty : TypeId} {l : List Int} (hb : Blk w g ty (ab l)) (k : Nat) (hk : k < l.length) : w.cell? ⟨g, k, none⟩ = some (.int .i64 (l.getD k 0)) := by
 rw [hb.cell k, bg, List.getElem?_eq_getElem hk, List.getD_eq_getElem?_getD, List.getElem?_eq_getElem hk]
 rfl
theorem gM (h : Ks F n w K C src S) (i : Int) (hi : Cd.Wf i) (v : List Int) (d : Int) (hv : S.p i = (v, d)) (R : List Int) (er : Int) (hr : cH v d = (R, er)) :
  Calls Tryz.prog 20 #[.pointer (some ⟨C.p, 0, none⟩), .int .i64 i] w fun e w' => e = .returned (.tuple #[.agg (ab R).toArray, .int .i64 er]) ∧ Kt F n w K C src S w' := by
 have hl := eu h.s hv
 have HL := aa hl
 have HC := aa (ai hl)
 have HZ2 := aa (ai (n := 16) (l := Cd.noP) rfl)
 have H := aa h
 have HCall := aa (fun W K' (hk : Ks F n W K' C src S) => lz hk i hi v d hv)
 have HR := aa hr
 clear h hv hl hr
 go_enter Tryz.func20, Tryz.ntmps20
 go_wp2_with (refine ar.wpList_al rfl rfl ?_; intro w1 hb1 hk1 hs1)
 have T1 := H.out.still hk1
 refine (T1.go (fun K' hk => ll hk)).mono ?_; rintro e w2 ⟨rfl, T2, kp2⟩
 have hb2 := kp2.lb H.out hb1 (Nat.le_refl _)
 have hsz := Nat.le_trans hk1.size kp2.size
 clear T1 kp2 hb1 hk1 hs1
 go_wp2_with fail
 refine (T2.go (HCall.out _)).mono ?_; rintro e w3 ⟨rfl, T3, kp3⟩
 have hb3 := kp3.lb H.out hb2 (Nat.le_refl _)
 have HT3 := aa T3
 have hsz2 := Nat.le_trans hsz kp3.size
 clear T2 T3 kp3 hb2 hsz
 go_upto_region 3 with (first
  | (refine ar.wpList_al rfl rfl ?_; intro w4 hb4 hk4 hs4; clear hs4)
  | (refine ar.wpList_st rfl rfl rfl rfl HC.out HZ2.out hb4 ?_; intro w5 hb5 hk5 hs5; clear hs5))
 have T5 := aa ((HT3.out.nob hk4).st H.out hb4 (by decide) hsz2 hk5)
 have hb6 := (hb3.nob hk4).keep hk5 (by have := hb3.lt; omega)
 have hc0 := eF hb5 0 (by rw [HL.out]; decide)
 have HB6 := aa hb6
 have HB5 := aa hb5
 generalize w3.heap.size = g4 at *
 clear hb3 hk4 hb4 hk5 hb6 hb5
 obtain ⟨s, hs⟩ : ∃ s, v.getD 0 0 = s := ⟨_, rfl⟩
 rw [hs] at hc0
 have HS := aa hs
 clear hs hsz2
 rcases (show d ≠ 1 ∨ (d = 1 ∧ s ≠ 1) ∨ (d = 1 ∧ s = 1) by omega) with e1 | ⟨e1, e2⟩ | ⟨e1, e2⟩
 ·have er : R = Cd.noP ∧ er = 105 := by
   have := HR.out
   unfold cH at this
   rw [if_neg (by simp [e1])] at this
   simpa using this.symm
  obtain ⟨rfl, rfl⟩ := er
  go_wp2_with (refine ar.wpList_st rfl rfl rfl rfl HZ2.out HZ2.out HB6.out ?_; intro w7 hb7 hk7 hs7; clear hs7)
  refine bodyPost_ret (v := .tuple #[.agg (ab Cd.noP).toArray, .int .i64 105]) (ar.results_pair rfl _ HZ2.out rfl hb7 _ rfl) rfl ?_
  exact ⟨rfl, T5.out.st H.out HB6.out (by decide) (Nat.le_refl _) hk7⟩
 ·have er : R = Cd.noP ∧ er = 105 := by
   have := HR.out
   unfold cH at this
   rw [if_neg (by rw [HS.out]; simp [e2])] at this
   simpa using this.symm
  obtain ⟨rfl, rfl⟩ := er
  subst e1
  go_wp2_with (refine ar.wpList_st rfl rfl rfl rfl HZ2.out HZ2.out HB6.out ?_; intro w7 hb7 hk7 hs7; clear hs7)
  refine bodyPost_ret (v := .tuple #[.agg (ab Cd.noP).toArray, .int .i64 105]) (ar.results_pair rfl _ HZ2.out rfl hb7 _ rfl) rfl ?_
  exact ⟨rfl, T5.out.st H.out HB6.out (by decide) (Nat.le_refl _) hk7⟩
 ·have er : v = R ∧ 0 = er := by
   have := HR.out
   unfold cH at this
   rw [if_pos ⟨e1, by rw [HS.out]; exact e2⟩] at this
   simpa using this
  obtain ⟨rfl, rfl⟩ := er
  subst e1 e2
  go_wp2_with (refine ar.wpList_ld rfl rfl rfl HC.out HB5.out ?_; refine ar.wpList_st rfl rfl rfl rfl HC.out HZ2.out HB6.out ?_; intro w7 hb7 hk7 hs7; clear hs7)
  refine bodyPost_ret (v := .tuple #[.agg (ab v).toArray, .int .i64 0]) (ar.results_pair rfl _ HC.out rfl hb7 _ rfl) rfl ?_
  exact ⟨rfl, T5.out.st H.out HB6.out (by decide) (Nat.le_refl _) hk7⟩
theorem acts_is (i d : Int) (v : List Int) (hl : v.length = 16) (r : Bool) (hr : actB v d = r) (w : World) :
  Calls Tryz.prog 41 #[.agg (ab (i :: d :: v)).toArray] w fun e w' => e = .returned (.bool r) ∧ Keep Nob w w' := by
 have h1 : (ab (i :: d :: v))[1]? = some (.int .i64 d) := rfl
 have h2 : (ab (i :: d :: v))[2]? = some (.int .i64 (v.getD 0 0)) := by
  obtain ⟨a0, a1, a2, a3, a4, a5, a6, a7, f0, f1, f2, f3, f4, f5, f6, f7, rfl⟩ := Cd.aD hl
  rfl
 have HR := aa hr
 unfold actB at HR
 generalize v.getD 0 0 = s at *
 generalize ab (i :: d :: v) = cs at *
 clear hr hl
 rcases (show d ≠ 1 ∨ (d = 1 ∧ s = 2) ∨ (d = 1 ∧ s ≠ 2) by omega) with e1 | ⟨e1, e2⟩ | ⟨e1, e2⟩
 all_goals
  go_enter Tryz.func41, Tryz.ntmps41
  go_wp2_with (refine af rfl 94 _ rfl cs.toArray rfl ?_; intro w1 hb k1 hs; clear hs; have c1 : w1.cell? ⟨w.heap.size, 1, none⟩ = some (.int .i64 d) := (hb.cell 1).trans h1; have c2 : w1.cell? ⟨w.heap.size, 2, none⟩ = some (.int .i64 s) := (hb.cell 2).trans h2; have K1 := aa k1; clear hb k1)
  go_ret
  exact ⟨by rw [← HR.out]; simp [e1] <;> simp [e2], K1.out⟩
theorem kF (i d j : Int) (hj : -9223372036854775808 ≤ j + 1 ∧ j + 1 ≤ 9223372036854775807) (v : List Int) (hl : v.length = 16) (r : Bool) (hr : chB v d j = r) (w : World) :
  Calls Tryz.prog 47 #[.agg (ab (i :: d :: v)).toArray, .int .i64 j] w fun e w' => e = .returned (.bool r) ∧ Keep Nob w w' := by
 have h1 : (ab (i :: d :: v))[1]? = some (.int .i64 d) := rfl
 have h2 : (ab (i :: d :: v))[3]? = some (.int .i64 (v.getD 1 0)) := by
  obtain ⟨a0, a1, a2, a3, a4, a5, a6, a7, f0, f1, f2, f3, f4, f5, f6, f7, rfl⟩ := Cd.aD hl
  rfl
 obtain ⟨j1, hj1⟩ : ∃ j1, j + 1 = j1 := ⟨_, rfl⟩
 have hwr : IntKind.i64.wrap (j + 1) = j1 := by rw [IntKind.wrap_i64]; omega
 have hwr2 : wrap64 (j + 1) = j1 := by rw [← hwr, IntWalk.i64_left]
 have HR := aa hr
 unfold chB at HR
 generalize v.getD 1 0 = s at *
 generalize ab (i :: d :: v) = cs at *
 rw [hj1] at HR
 clear hr hl hj hj1
 rcases (show d ≠ 1 ∨ (d = 1 ∧ s ≠ j1) ∨ (d = 1 ∧ s = j1) by omega) with e1 | ⟨e1, e2⟩ | ⟨e1, e2⟩
 all_goals
  go_enter Tryz.func47, Tryz.ntmps47
  go_wp2_with (refine af rfl 94 _ rfl cs.toArray rfl ?_; intro w1 hb k1 hs; clear hs; have c1 : w1.cell? ⟨w.heap.size, 1, none⟩ = some (.int .i64 d) := (hb.cell 1).trans h1; have c2 : w1.cell? ⟨w.heap.size, 3, none⟩ = some (.int .i64 s) := (hb.cell 3).trans h2; have K1 := aa k1; clear hb k1)
  go_ret
  exact ⟨by rw [← HR.out]; simp [e1] <;> simp [e2], K1.out⟩
end
end Go.Proofs.YtgcikpgcoemfnaaGreat.Pr
namespace Go.Proofs.YtgcikpgcoemfnaaGreat.Co
open Go.RowKit
section
variable {F : List UInt8 → Prop} {n : Nat} {w w' w1 : World} {K : Kn} {C : Cm} {src : Src} {S S' S2 : Stt}
theorem freed {A : Type} {a b : A} {d : Int} {ok : Bool} (hok : decide (d ≠ 2) = ok) : (if d ≠ 2 then a else b) = (if ok then a else b) := by
 subst hok
 by_cases hz : d = 2
 ·rw [if_neg (by simpa using hz), if_neg (by simpa using hz)]
 ·rw [if_pos hz, if_pos (by simpa using hz)]
theorem sfile_is (h : Ks F n w K C src S) (i : Int) (hi : Cd.Wf i) (v : List Int) (d : Int) (hv : S.f i = (v, d)) :
  Calls Tryz.prog 26 #[.pointer (some ⟨C.p, 0, none⟩), .int .i64 i] w fun e w' => e = .returned (.tuple #[.agg (ab v).toArray, .int .i64 d]) ∧ Kt F n w K C src S w' := by
 refine (file_is h.kc i hi v d _ ((h.s.f i).trans (by rw [hv]))).mono ?_
 rintro e w' ⟨rfl, t⟩
 exact ⟨rfl, K.xs, h.s, t⟩
theorem pset_f (h : Ks F n w K C src S) (i : Int) {v : List Int} (hl : v.length = 4) (ok : Bool) (hok : (decide ((S.f i).2 ≠ 2) && Fi.okd v) = ok) :
  ∃ ys, pset (Fi.okd v) (Fi.enc v) K.xs src C.brs.length C.bad (2, i) = (ok, ys) ∧ Sto F n src C.brs.length C.bad ys (if ok then S.setF i v else S) := by
 unfold pset
 cases hd : Fi.okd v with
 | false =>
  rw [hd, Bool.and_false] at hok
  subst hok
  exact ⟨K.xs, rfl, h.s⟩
 | true =>
  rw [hd, Bool.and_true] at hok
  obtain ⟨ys, h1, h2⟩ := h.s.setF i (Fi.gQ hl hd) (by decide) (Fi.aJ v)
  refine ⟨ys, ?_, ?_⟩
  ·rw [if_pos rfl, h1, hok]
  ·rw [freed hok] at h2
   exact h2
theorem jH (h : Ks F n w K C src S) (i : Int) (hi : Cd.Wf i) (v : List Int) (hl : v.length = 4) (ok : Bool) (hok : (decide ((S.f i).2 ≠ 2) && Fi.okd v) = ok) :
  Calls Tryz.prog 101 #[.pointer (some ⟨C.p, 0, none⟩), .int .i64 i, .agg (ab v).toArray] w fun e w' => e = .returned (.bool ok) ∧ Kt F n w K C src (if ok then S.setF i v else S) w' := by
 obtain ⟨ys, h1, h2⟩ := pset_f h i hl ok hok
 refine (setFile_is h.kc i hi v hl ok ys h1).mono ?_
 rintro e w' ⟨rfl, t⟩
 exact ⟨rfl, Kt.of_to h.kc h2 t⟩
theorem sfreeFile_is (h : Ks F n w K C src S) (i : Int) (hi : Cd.Wf i) (ok : Bool) (hok : decide ((S.f i).2 ≠ 2) = ok) :
  Calls Tryz.prog 121 #[.pointer (some ⟨C.p, 0, none⟩), .int .i64 i] w fun e w' => e = .returned (.bool ok) ∧ Kt F n w K C src (if ok then S.frF i else S) w' := by
 obtain ⟨ys, h1, h2⟩ := h.s.setF i dnoF (by decide) (by simp)
 rw [hok] at h1
 rw [freed hok] at h2
 refine (freeFile_is h.kc i hi ok ys h1).mono ?_
 rintro e w' ⟨rfl, t⟩
 exact ⟨rfl, Kt.of_to h.kc h2 t⟩
theorem spipe_is (h : Ks F n w K C src S) (i : Int) (hi : Cd.Wf i) (v : Ri.Pp) (d : Int) (hv : S.r i = (v, d)) :
  Calls Tryz.prog 127 #[.pointer (some ⟨C.p, 0, none⟩), .int .i64 i] w fun e w' => e = .returned (.tuple #[.agg (Ri.pc v).toArray, .int .i64 d]) ∧ Kt F n w K C src S w' := by
 refine (pipe_is h.kc i hi v d _ ((h.s.r i).trans (by rw [hv]))).mono ?_
 rintro e w' ⟨rfl, t⟩
 exact ⟨rfl, K.xs, h.s, t⟩
theorem pset_r (h : Ks F n w K C src S) (i : Int) {v : Ri.Pp} (hl : v.d.length = 32) (ok : Bool) (hok : (decide ((S.r i).2 ≠ 2) && Ri.okd v) = ok) :
  ∃ ys, pset (Ri.okd v) (Ri.enc v) K.xs src C.brs.length C.bad (3, i) = (ok, ys) ∧ Sto F n src C.brs.length C.bad ys (if ok then S.setR i v else S) := by
 unfold pset
 cases hd : Ri.okd v with
 | false =>
  rw [hd, Bool.and_false] at hok
  subst hok
  exact ⟨K.xs, rfl, h.s⟩
 | true =>
  rw [hd, Bool.and_true] at hok
  obtain ⟨ys, h1, h2⟩ := h.s.setR i (Ri.gQ hl hd) (by decide) (Ri.aJ hl)
  refine ⟨ys, ?_, ?_⟩
  ·rw [if_pos rfl, h1, hok]
  ·rw [freed hok] at h2
   exact h2
theorem dw (h : Ks F n w K C src S) (i : Int) (hi : Cd.Wf i) (v : Ri.Pp) (hl : v.d.length = 32) (ok : Bool) (hok : (decide ((S.r i).2 ≠ 2) && Ri.okd v) = ok) :
  Calls Tryz.prog 218 #[.pointer (some ⟨C.p, 0, none⟩), .int .i64 i, .agg (Ri.pc v).toArray] w fun e w' => e = .returned (.bool ok) ∧ Kt F n w K C src (if ok then S.setR i v else S) w' := by
 obtain ⟨ys, h1, h2⟩ := pset_r h i hl ok hok
 refine (setPipe_is h.kc i hi v hl ok ys h1).mono ?_
 rintro e w' ⟨rfl, t⟩
 exact ⟨rfl, Kt.of_to h.kc h2 t⟩
theorem ja (h : Ks F n w K C src S) (i : Int) (hi : Cd.Wf i) (ok : Bool) (hok : decide ((S.r i).2 ≠ 2) = ok) :
  Calls Tryz.prog 217 #[.pointer (some ⟨C.p, 0, none⟩), .int .i64 i] w fun e w' => e = .returned (.bool ok) ∧ Kt F n w K C src (if ok then S.frR i else S) w' := by
 obtain ⟨ys, h1, h2⟩ := h.s.setR i dnoR (by decide) (by simp)
 rw [hok] at h1
 rw [freed hok] at h2
 refine (freePipe_is h.kc i hi ok ys h1).mono ?_
 rintro e w' ⟨rfl, t⟩
 exact ⟨rfl, Kt.of_to h.kc h2 t⟩
end
end Go.Proofs.YtgcikpgcoemfnaaGreat.Co
namespace Go.Proofs.YtgcikpgcoemfnaaGreat.Pr
open Go.RowKit Co
def dec0 (x : Int) : Int := max (x - 1) 0
def cutP (k : Int) (p : Ri.Pp) : Ri.Pp := if k = 1 then { p with r := dec0 p.r } else { p with s := dec0 p.s }
def shutS (S : Stt) (k i : Int) : Stt × Bool :=
 if (S.r i).2 = 1 then (if i < 4 ∧ (cutP k (S.r i).1).r = 0 ∧ (cutP k (S.r i).1).s = 0 then (S.frR i, true) else (S.setR i (cutP k (S.r i).1), true)) else (S, false)
theorem cutP_len {k : Int} {p : Ri.Pp} (h : p.d.length = 32) : (cutP k p).d.length = 32 := by
 unfold cutP
 split <;> exact h
theorem cutP_ok {k : Int} {p : Ri.Pp} (h : Ri.okd p = true) : Ri.okd (cutP k p) = true := by
 have b := Ri.aH h
 obtain ⟨h1, h2, h3, h4⟩ := b
 unfold cutP dec0
 split
 ·refine Ri.ft.ok ⟨h1, h2, ?_, h4⟩
  dsimp only
  omega
 ·refine Ri.ft.ok ⟨h1, h2, h3, ?_⟩
  dsimp only
  omega
theorem Ri_good {l : List UInt8} {v : Ri.Pp} (h : Ri.dcd l = (v, 1)) : Ri.okd v = true := by
 unfold Ri.dcd at h
 split at h
 ·split at h
  ·simp at h
  ·split at h
   ·rename_i hg
    simp only [Prod.mk.injEq, and_true] at h
    subst h
    unfold Ri.gd at hg
    simp only [Bool.and_eq_true] at hg
    exact hg.1
   ·simp at h
 ·simp at h
section
variable {F : List UInt8 → Prop} {n nb : Nat} {src : Src} {bad : List Rf} {xs : List UInt8} {S : Stt}
theorem goodR (h : Sto F n src nb bad xs S) {i : Int} {p : Ri.Pp} (hv : S.r i = (p, 1)) : Ri.okd p = true := by
 obtain ⟨_, x, b, _, _, hd⟩ := live (by decide) (h.r i) (by rw [hv]; show (1 : Int) ≠ 2; decide)
 rw [hv] at hd
 exact Ri_good hd
theorem lenR (h : Sto F n src nb bad xs S) {i : Int} {p : Ri.Pp} {d : Int} (hv : S.r i = (p, d)) : p.d.length = 32 :=
 jz ((h.r i).trans (by rw [hv]))
end
section
variable {F : List UInt8 → Prop} {n : Nat} {w w' w1 : World} {K : Kn} {C : Cm} {src : Src} {S S' S2 : Stt}
theorem shut_is (h : Ks F n w K C src S) (k pi rf fl : Int) (hpi : Cd.Wf pi) (S' : Stt) (ok : Bool) (hs : shutS S k pi = (S', ok)) :
  Calls Tryz.prog 122 #[.pointer (some ⟨C.p, 0, none⟩), .agg (ab [k, pi, rf, fl]).toArray] w fun e w' => e = .returned (.bool ok) ∧ Kt F n w K C src S' w' := by
 obtain ⟨p, d, hv⟩ : ∃ p d, S.r pi = (p, d) := ⟨_, _, rfl⟩
 have HGood := aa (fun e : d = 1 => goodR h.s (show S.r pi = (p, 1) by rw [hv, e]))
 have hl := lenR h.s hv
 have HL := aa hl
 have HCp := aa (aO hl)
 have HZ := aa (aO (p := Ri.noP) rfl)
 have H := aa h
 have HCall := aa (fun W K' (hk : Ks F n W K' C src S) => spipe_is hk pi hpi p d hv)
 have HPi := aa hpi
 unfold shutS at hs
 rw [hv] at hs
 dsimp only at hs
 have HS := aa hs
 have HV := aa hv
 clear h hl hv hs hpi
 obtain ⟨cx, hcx⟩ : ∃ cx, ab [k, pi, rf, fl] = cx := ⟨_, rfl⟩
 have h0 : cx[0]? = some (.int .i64 k) := by rw [← hcx]; rfl
 have h1 : cx[1]? = some (.int .i64 pi) := by rw [← hcx]; rfl
 rw [hcx]
 clear hcx
 go_enter Tryz.func122, Tryz.ntmps122
 go_wp2_with (refine af rfl 64 _ rfl cx.toArray rfl ?_; intro w1 hb1 hk1 hs1; have c1 : w1.cell? ⟨w.heap.size, 1, none⟩ = some (.int .i64 pi) := (hb1.cell 1).trans h1; have hx1 : Blk w1 w.heap.size 64 cx := hb1; clear hb1)
 have T1 := H.out.still hk1
 refine (T1.go (HCall.out _)).mono ?_; rintro e w2 ⟨rfl, T2, kp2⟩
 have HX2 := aa (kp2.lb H.out hx1 (Nat.le_refl _))
 have HT2 := aa T2
 have hsz := Nat.le_trans hk1.size kp2.size
 clear T1 T2 kp2 hx1 hk1 hs1 c1
 go_upto_region 2 with (first
  | (refine bj.wpList_al rfl rfl ?_; intro w3 hb3 hk3 hs3; clear hs3)
  | (refine bj.wpList_st rfl rfl rfl rfl HCp.out HZ.out hb3 ?_; intro w4 hb4 hk4 hs4; clear hs4))
 have T4 := aa ((HT2.out.nob hk3).st H.out hb3 (by decide) hsz hk4)
 have HB4 := aa hb4
 have HX4 := aa ((HX2.out.nob hk3).keep hk4 (by have := HX2.out.lt; omega))
 have hgne : w.heap.size ≠ w2.heap.size := by have := HX2.out.lt; omega
 generalize w2.heap.size = g5 at *
 clear hk3 hb3 hk4 hb4 HT2 HX2
 by_cases hd : d = 1
 ·subst hd
  have hgd := HGood.out rfl
  have hbd := Ri.aH hgd
  obtain ⟨q, hq⟩ : ∃ q, cutP k p = q := ⟨_, rfl⟩
  have HQl := aa (show q.d.length = 32 by rw [← hq]; exact cutP_len HL.out)
  have HQo := aa (show Ri.okd q = true by rw [← hq]; exact cutP_ok hgd)
  have HCq := aa (aO HQl.out)
  rw [if_pos rfl, hq] at HS
  have HQ := aa hq
  have r0 := hbd.r
  have s0 := hbd.s
  have xk : w4.cell? ⟨w.heap.size, 0, none⟩ = some (.int .i64 k) := (HX4.out.cell 0).trans h0
  have xp : w4.cell? ⟨w.heap.size, 1, none⟩ = some (.int .i64 pi) := (HX4.out.cell 1).trans h1
  clear hq hgd hbd h0 h1
  have hc2 : w4.cell? ⟨g5, 2, none⟩ = some (.int .i64 p.r) := HB4.out.cell 2
  have hc3 : w4.cell? ⟨g5, 3, none⟩ = some (.int .i64 p.s) := HB4.out.cell 3
  obtain ⟨pr, hpr⟩ : ∃ x, p.r = x := ⟨_, rfl⟩
  obtain ⟨ps, hps⟩ : ∃ x, p.s = x := ⟨_, rfl⟩
  rw [hpr] at hc2 r0
  rw [hps] at hc3 s0
  have HPr := aa hpr
  have HPs := aa hps
  clear hpr hps
  have hf2 := HB4.out.frozen 2
  have hf3 := HB4.out.frozen 3
  have hok : ∀ {a : Prop} [Decidable a], (decide ((S.r pi).2 ≠ 2) && Ri.okd q) = true := fun {a} _ => by
   rw [HQo.out, HV.out]
   rfl
  have HOk := aa (show (decide ((S.r pi).2 ≠ 2) && Ri.okd q) = true by rw [HQo.out, HV.out]; rfl)
  have HOk2 := aa (show decide ((S.r pi).2 ≠ 2) = true by rw [HV.out]; rfl)
  clear hok
  rcases (show k = 1 ∨ k ≠ 1 by omega) with ek | ek
  ·obtain ⟨v1, hv1⟩ : ∃ v1, pr - 1 = v1 := ⟨_, rfl⟩
   have hw1 : wrap64 (pr - 1) = v1 := by rw [← IntWalk.i64_left, IntKind.wrap_i64]; omega
   have hw2 : IntKind.i64.wrap (pr - 1) = v1 := by rw [IntKind.wrap_i64]; omega
   have HV1 := aa hv1
   clear hv1
   go_upto_region 7 with fail
   have T6 := aa (T4.out.st H.out HB4.out (by decide) hsz ((Keep.refl _ w4).setCell ⟨g5, 2, none⟩ (.int .i64 (max v1 0)) (fun _ => rfl)))
   have HB6 := aa (show Blk (w4.setCell ⟨g5, 2, none⟩ (.int .i64 (max v1 0))) g5 83 (Ri.pc q) by
    rw [show Ri.pc q = (Ri.pc p).set 2 (.int .i64 (max v1 0)) by rw [← HQ.out]; unfold cutP dec0; rw [if_pos ek]; rw [HPr.out, HV1.out]; rfl]
    exact HB4.out.setCell 2 _)
   have xp6 : (w4.setCell ⟨g5, 2, none⟩ (.int .i64 (max v1 0))).cell? ⟨w.heap.size, 1, none⟩ = some (.int .i64 pi) := by
    have hx6 := HX4.out.far (p := ⟨g5, 2, none⟩) hgne (.int .i64 (max v1 0))
    exact (hx6.cell 1).trans ((HX4.out.cell 1).symm.trans xp)
   clear xk xp hc2 hc3 hf2 hf3 r0 s0 hw1 hw2
   generalize w4.setCell ⟨g5, 2, none⟩ (.int .i64 (max v1 0)) = w6 at *
   have q2 : w6.cell? ⟨g5, 2, none⟩ = some (.int .i64 q.r) := HB6.out.cell 2
   have q3 : w6.cell? ⟨g5, 3, none⟩ = some (.int .i64 q.s) := HB6.out.cell 3
   obtain ⟨qr, hqr⟩ : ∃ x, q.r = x := ⟨_, rfl⟩
   obtain ⟨qs, hqs⟩ : ∃ x, q.s = x := ⟨_, rfl⟩
   rw [hqr] at q2 HS
   rw [hqs] at q3 HS
   clear hqr hqs
   rcases (show ¬ pi < 4 ∨ (pi < 4 ∧ qr ≠ 0) ∨ (pi < 4 ∧ qr = 0 ∧ qs ≠ 0) ∨ (pi < 4 ∧ qr = 0 ∧ qs = 0) by omega) with e1 | ⟨e1, e2⟩ | ⟨e1, e2, e3⟩ | ⟨e1, e2, e3⟩
   ·have hs := HS.out
    rw [if_neg (by simp [e1])] at hs
    obtain ⟨rfl, rfl⟩ := Prod.mk.inj hs
    clear hs
    go_wp2_with (refine bj.wpList_ld rfl rfl rfl HCq.out HB6.out ?_)
    refine (T6.out.go (fun K' hK => dw hK pi HPi.out q HQl.out true HOk.out)).mono ?_; rintro e w7 ⟨rfl, T7, _⟩
    have HT7 := aa T7
    clear T7
    go_wp2
    go_ret
    exact ⟨rfl, HT7.out⟩
   ·have hs := HS.out
    rw [if_neg (by simp [e2])] at hs
    obtain ⟨rfl, rfl⟩ := Prod.mk.inj hs
    clear hs
    go_wp2_with (refine bj.wpList_ld rfl rfl rfl HCq.out HB6.out ?_)
    refine (T6.out.go (fun K' hK => dw hK pi HPi.out q HQl.out true HOk.out)).mono ?_; rintro e w7 ⟨rfl, T7, _⟩
    have HT7 := aa T7
    clear T7
    go_wp2
    go_ret
    exact ⟨rfl, HT7.out⟩
   ·have hs := HS.out
    rw [if_neg (by simp [e3])] at hs
    obtain ⟨rfl, rfl⟩ := Prod.mk.inj hs
    clear hs
    go_wp2_with (refine bj.wpList_ld rfl rfl rfl HCq.out HB6.out ?_)
    refine (T6.out.go (fun K' hK => dw hK pi HPi.out q HQl.out true HOk.out)).mono ?_; rintro e w7 ⟨rfl, T7, _⟩
    have HT7 := aa T7
    clear T7
    go_wp2
    go_ret
    exact ⟨rfl, HT7.out⟩
   ·have hs := HS.out
    rw [if_pos ⟨e1, e2, e3⟩] at hs
    obtain ⟨rfl, rfl⟩ := Prod.mk.inj hs
    clear hs
    go_wp2_with fail
    refine (T6.out.go (fun K' hK => ja hK pi HPi.out true HOk2.out)).mono ?_; rintro e w7 ⟨rfl, T7, _⟩
    have HT7 := aa T7
    clear T7
    go_wp2
    go_ret
    exact ⟨rfl, HT7.out⟩
  ·obtain ⟨v1, hv1⟩ : ∃ v1, ps - 1 = v1 := ⟨_, rfl⟩
   have hw1 : wrap64 (ps - 1) = v1 := by rw [← IntWalk.i64_left, IntKind.wrap_i64]; omega
   have hw2 : IntKind.i64.wrap (ps - 1) = v1 := by rw [IntKind.wrap_i64]; omega
   have HV1 := aa hv1
   clear hv1
   go_upto_region 7 with fail
   have T6 := aa (T4.out.st H.out HB4.out (by decide) hsz ((Keep.refl _ w4).setCell ⟨g5, 3, none⟩ (.int .i64 (max v1 0)) (fun _ => rfl)))
   have HB6 := aa (show Blk (w4.setCell ⟨g5, 3, none⟩ (.int .i64 (max v1 0))) g5 83 (Ri.pc q) by
    rw [show Ri.pc q = (Ri.pc p).set 3 (.int .i64 (max v1 0)) by rw [← HQ.out]; unfold cutP dec0; rw [if_neg ek]; rw [HPs.out, HV1.out]; rfl]
    exact HB4.out.setCell 3 _)
   have xp6 : (w4.setCell ⟨g5, 3, none⟩ (.int .i64 (max v1 0))).cell? ⟨w.heap.size, 1, none⟩ = some (.int .i64 pi) := by
    have hx6 := HX4.out.far (p := ⟨g5, 3, none⟩) hgne (.int .i64 (max v1 0))
    exact (hx6.cell 1).trans ((HX4.out.cell 1).symm.trans xp)
   clear xk xp hc2 hc3 hf2 hf3 r0 s0 hw1 hw2
   generalize w4.setCell ⟨g5, 3, none⟩ (.int .i64 (max v1 0)) = w6 at *
   have q2 : w6.cell? ⟨g5, 2, none⟩ = some (.int .i64 q.r) := HB6.out.cell 2
   have q3 : w6.cell? ⟨g5, 3, none⟩ = some (.int .i64 q.s) := HB6.out.cell 3
   obtain ⟨qr, hqr⟩ : ∃ x, q.r = x := ⟨_, rfl⟩
   obtain ⟨qs, hqs⟩ : ∃ x, q.s = x := ⟨_, rfl⟩
   rw [hqr] at q2 HS
   rw [hqs] at q3 HS
   clear hqr hqs
   rcases (show ¬ pi < 4 ∨ (pi < 4 ∧ qr ≠ 0) ∨ (pi < 4 ∧ qr = 0 ∧ qs ≠ 0) ∨ (pi < 4 ∧ qr = 0 ∧ qs = 0) by omega) with e1 | ⟨e1, e2⟩ | ⟨e1, e2, e3⟩ | ⟨e1, e2, e3⟩
   ·have hs := HS.out
    rw [if_neg (by simp [e1])] at hs
    obtain ⟨rfl, rfl⟩ := Prod.mk.inj hs
    clear hs
    go_wp2_with (refine bj.wpList_ld rfl rfl rfl HCq.out HB6.out ?_)
    refine (T6.out.go (fun K' hK => dw hK pi HPi.out q HQl.out true HOk.out)).mono ?_; rintro e w7 ⟨rfl, T7, _⟩
    have HT7 := aa T7
    clear T7
    go_wp2
    go_ret
    exact ⟨rfl, HT7.out⟩
   ·have hs := HS.out
    rw [if_neg (by simp [e2])] at hs
    obtain ⟨rfl, rfl⟩ := Prod.mk.inj hs
    clear hs
    go_wp2_with (refine bj.wpList_ld rfl rfl rfl HCq.out HB6.out ?_)
    refine (T6.out.go (fun K' hK => dw hK pi HPi.out q HQl.out true HOk.out)).mono ?_; rintro e w7 ⟨rfl, T7, _⟩
    have HT7 := aa T7
    clear T7
    go_wp2
    go_ret
    exact ⟨rfl, HT7.out⟩
   ·have hs := HS.out
    rw [if_neg (by simp [e3])] at hs
    obtain ⟨rfl, rfl⟩ := Prod.mk.inj hs
    clear hs
    go_wp2_with (refine bj.wpList_ld rfl rfl rfl HCq.out HB6.out ?_)
    refine (T6.out.go (fun K' hK => dw hK pi HPi.out q HQl.out true HOk.out)).mono ?_; rintro e w7 ⟨rfl, T7, _⟩
    have HT7 := aa T7
    clear T7
    go_wp2
    go_ret
    exact ⟨rfl, HT7.out⟩
   ·have hs := HS.out
    rw [if_pos ⟨e1, e2, e3⟩] at hs
    obtain ⟨rfl, rfl⟩ := Prod.mk.inj hs
    clear hs
    go_wp2_with fail
    refine (T6.out.go (fun K' hK => ja hK pi HPi.out true HOk2.out)).mono ?_; rintro e w7 ⟨rfl, T7, _⟩
    have HT7 := aa T7
    clear T7
    go_wp2
    go_ret
    exact ⟨rfl, HT7.out⟩
 ·have hs := HS.out
  rw [if_neg hd] at hs
  obtain ⟨rfl, rfl⟩ := Prod.mk.inj hs
  clear hs
  go_wp2_with fail
  go_ret
  exact ⟨rfl, T4.out⟩
end
end Go.Proofs.YtgcikpgcoemfnaaGreat.Pr
