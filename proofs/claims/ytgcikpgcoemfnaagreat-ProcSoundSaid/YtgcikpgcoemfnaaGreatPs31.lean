import Derived.Test.YtgcikpgcoemfnaaGreatPs30
import Derived.Test.YtgcikpgcoemfnaaGreatPs4
set_option maxRecDepth 100000
set_option maxHeartbeats 8000000
set_option linter.unusedVariables false
set_option linter.unusedSimpArgs false
namespace Go.Proofs.YtgcikpgcoemfnaaGreat.Pr
open Go.RowKit Co
def cF (S : Stt) (f : Int) : Stt × Int :=
 if (S.f f).2 = 1 then
  (if 1 < (S.f f).1.getD 2 0 then (S.setF f [(S.f f).1.getD 0 0, (S.f f).1.getD 1 0, (S.f f).1.getD 2 0 - 1, (S.f f).1.getD 3 0], 0)
  else if (S.f f).1.getD 0 0 = 3 then (S.frF f, 0)
  else ((shutS (S.frF f) ((S.f f).1.getD 0 0) ((S.f f).1.getD 1 0)).1, erB (shutS (S.frF f) ((S.f f).1.getD 0 0) ((S.f f).1.getD 1 0)).2))
 else (S, 105)
theorem Fi_less {a b c d : Int} (h : Fi.okd [a, b, c, d] = true) (h1 : 1 < c) : Fi.okd [a, b, c - 1, d] = true := by
 rw [Fi.okd_doc] at h ⊢
 simp only [Bool.and_eq_true] at h ⊢
 obtain ⟨h0, h2, h3, h4, h5⟩ := h
 have := Fi.bi h4
 exact ⟨h0, h2, h3, decide_eq_true (by omega), h5⟩
theorem Fi_in {a b c d : Int} (h : Fi.okd [a, b, c, d] = true) : (1 ≤ a ∧ a ≤ 3) ∧ (0 ≤ b ∧ b ≤ 7) ∧ (1 ≤ c ∧ c ≤ 64) := by
 rw [Fi.okd_doc] at h
 simp only [Bool.and_eq_true] at h
 obtain ⟨h0, h2, h3, h4, h5⟩ := h
 exact ⟨Fi.bi h0, Fi.bi h2, Fi.bi h4⟩
section
variable {F : List UInt8 → Prop} {n nb : Nat} {src : Src} {bad : List Rf} {xs : List UInt8} {S : Stt}
theorem goodF (h : Sto F n src nb bad xs S) {i : Int} {v : List Int} (hv : S.f i = (v, 1)) : Fi.okd v = true := by
 obtain ⟨_, x, b, _, _, hd⟩ := live (by decide) (h.f i) (by rw [hv]; show (1 : Int) ≠ 2; decide)
 rw [hv] at hd
 exact (Fi.gD hd).2.1
theorem lenF (h : Sto F n src nb bad xs S) {i : Int} {v : List Int} {d : Int} (hv : S.f i = (v, d)) : v.length = 4 :=
 readF_len ((h.f i).trans (by rw [hv]))
end
section
variable {F : List UInt8 → Prop} {n : Nat} {w w' w1 : World} {K : Kn} {C : Cm} {src : Src} {S S' S2 : Stt}
theorem close_is (h : Ks F n w K C src S) (f : Int) (hf : Cd.Wf f) (S' : Stt) (er : Int) (hs : cF S f = (S', er)) :
  Calls Tryz.prog 60 #[.pointer (some ⟨C.p, 0, none⟩), .int .i64 f] w fun e w' => e = .returned (.int .i64 er) ∧ Kt F n w K C src S' w' := by
 obtain ⟨v, d, hv⟩ : ∃ v d, S.f f = (v, d) := ⟨_, _, rfl⟩
 have hl := lenF h.s hv
 obtain ⟨k, pi, rf, fl, rfl⟩ := Fi.gA hl
 have HGood := aa (fun e : d = 1 => goodF h.s (show S.f f = ([k, pi, rf, fl], 1) by rw [hv, e]))
 have HCp := aa (ai hl)
 have HZ := aa (ai (n := 4) (l := Fi.noP) rfl)
 have H := aa h
 have HCall := aa (fun W K' (hk : Ks F n W K' C src S) => sfile_is hk f hf _ d hv)
 have HF := aa hf
 unfold cF at hs
 rw [hv] at hs
 simp only [List.getD_cons_zero, List.getD_cons_succ] at hs
 have HS := aa hs
 have HV := aa hv
 clear h hl hv hs hf
 obtain ⟨cx, hcx⟩ : ∃ cx, ab [k, pi, rf, fl] = cx := ⟨_, rfl⟩
 rw [hcx] at HCp HCall
 have HCx := aa hcx
 clear hcx
 go_enter Tryz.func60, Tryz.ntmps60
 go_wp2_with fail
 have T0 := H.out.still (Keep.refl Nob w)
 refine (T0.go (fun K' hk => ll hk)).mono ?_; rintro e w1 ⟨rfl, T1, kp1⟩
 clear T0 kp1
 go_wp2_with fail
 refine (T1.go (HCall.out _)).mono ?_; rintro e w2 ⟨rfl, T2, kp2⟩
 have HT2 := aa T2
 have hsz := T2.kp.size
 clear T1 T2 kp2
 go_upto_region 3 with (first
  | (refine bn.wpList_al rfl rfl ?_; intro w3 hb3 hk3 hs3; clear hs3)
  | (refine bn.wpList_st rfl rfl rfl rfl HCp.out HZ.out hb3 ?_; intro w4 hb4 hk4 hs4; clear hs4))
 have T4 := aa ((HT2.out.nob hk3).st H.out hb3 (by decide) hsz hk4)
 have HB4 := aa hb4
 generalize w2.heap.size = g5 at *
 clear hk3 hb3 hk4 hb4 HT2
 by_cases hd : d = 1
 ·subst hd
  have hgd := HGood.out rfl
  have hin := Fi_in hgd
  have HGd := aa hgd
  rw [if_pos rfl] at HS
  have hc0 : w4.cell? ⟨g5, 0, none⟩ = some (.int .i64 k) := by rw [HB4.out.cell 0, ← HCx.out]; rfl
  have hc2 : w4.cell? ⟨g5, 2, none⟩ = some (.int .i64 rf) := by rw [HB4.out.cell 2, ← HCx.out]; rfl
  have hf2 := HB4.out.frozen 2
  have HIn := aa hin
  obtain ⟨r1, hr1⟩ : ∃ r1, rf - 1 = r1 := ⟨_, rfl⟩
  have hw1 : wrap64 (rf - 1) = r1 := by rw [← IntWalk.i64_left, IntKind.wrap_i64]; omega
  have hw2 : IntKind.i64.wrap (rf - 1) = r1 := by rw [IntKind.wrap_i64]; omega
  have HR1 := aa hr1
  clear hr1 hgd hin
  go_upto_region 6 with fail
  have T6 := aa (T4.out.st H.out HB4.out (by decide) hsz ((Keep.refl _ w4).setCell ⟨g5, 2, none⟩ (.int .i64 r1) (fun _ => rfl)))
  have hb6 : Blk (w4.setCell ⟨g5, 2, none⟩ (.int .i64 r1)) g5 64 (ab [k, pi, r1, fl]) := by
   rw [show ab [k, pi, r1, fl] = cx.set 2 (.int .i64 r1) by rw [← HCx.out]; rfl]
   exact HB4.out.setCell 2 _
  clear hc0 hc2 hf2 hw1 hw2
  generalize w4.setCell ⟨g5, 2, none⟩ (.int .i64 r1) = w6 at *
  have q0 : w6.cell? ⟨g5, 0, none⟩ = some (.int .i64 k) := hb6.cell 0
  have q2 : w6.cell? ⟨g5, 2, none⟩ = some (.int .i64 r1) := hb6.cell 2
  have HB6 := aa hb6
  have HC6 := aa (ai (n := 4) (l := [k, pi, r1, fl]) rfl)
  clear hb6
  obtain ⟨c6, hc6⟩ : ∃ c6, ab [k, pi, r1, fl] = c6 := ⟨_, rfl⟩
  rw [hc6] at HB6 HC6
  have HC6e := aa hc6
  clear hc6
  by_cases hr : 0 < r1
  ·have hs := HS.out
   rw [if_pos (by have := HR1.out; omega), HR1.out] at hs
   obtain ⟨rfl, rfl⟩ := Prod.mk.inj hs
   clear hs
   have hok : (decide ((S.f f).2 ≠ 2) && Fi.okd [k, pi, r1, fl]) = true := by
    rw [HV.out, ← HR1.out, Fi_less HGd.out (by have := HR1.out; omega)]
    rfl
   have hset := fun K' (hK : Ks F n w6 K' C src S) => jH hK f HF.out [k, pi, r1, fl] rfl true hok
   rw [HC6e.out] at hset
   have HSet := aa hset
   clear hok hset
   go_wp2_with (refine bn.wpList_ld rfl rfl rfl HC6.out HB6.out ?_)
   refine (T6.out.go HSet.out).mono ?_; rintro e w7 ⟨rfl, T7, _⟩
   have HT7 := aa T7
   clear T7
   go_wp2_with fail
   refine (ed _ _).mono ?_; rintro e w8 ⟨rfl, rfl⟩
   go_wp2
   go_ret
   exact ⟨rfl, HT7.out⟩
  ·have HIf := aa (show ¬ 1 < rf by have := HR1.out; omega)
   rw [if_neg HIf.out] at HS
   have HOk2 := aa (show decide ((S.f f).2 ≠ 2) = true by rw [HV.out]; rfl)
   go_wp2_with fail
   refine (T6.out.go (fun K' hK => sfreeFile_is hK f HF.out true HOk2.out)).mono ?_; rintro e w7 ⟨rfl, T7, kp7⟩
   have HT7 := aa (show Kt F n w K C src (S.frF f) w7 from T7)
   have HB7 := aa (kp7.lb H.out HB6.out hsz)
   have q7 : w7.cell? ⟨g5, 0, none⟩ = some (.int .i64 k) := by rw [HB7.out.cell 0, ← HC6e.out]; rfl
   clear T7 kp7 q0 q2
   by_cases hk : k = 3
   ·have hs := HS.out
    rw [if_pos hk] at hs
    obtain ⟨rfl, rfl⟩ := Prod.mk.inj hs
    clear hs
    subst hk
    go_wp2
    go_ret
    exact ⟨rfl, HT7.out⟩
   ·have hs := HS.out
    rw [if_neg hk] at hs
    obtain ⟨S2, ok, hsh⟩ : ∃ S2 ok, shutS (S.frF f) k pi = (S2, ok) := ⟨_, _, rfl⟩
    rw [hsh] at hs
    obtain ⟨rfl, rfl⟩ := Prod.mk.inj hs
    have hcl := fun K' (hK : Ks F n w7 K' C src (S.frF f)) => shut_is hK k pi r1 fl (by have := HIn.out; unfold Cd.Wf; omega) S2 ok hsh
    rw [HC6e.out] at hcl
    have HCl := aa hcl
    clear hs hsh hcl
    go_wp2_with (refine bn.wpList_ld rfl rfl rfl HC6.out HB7.out ?_)
    refine (HT7.out.go HCl.out).mono ?_; rintro e w8 ⟨rfl, T8, _⟩
    have HT8 := aa T8
    clear T8
    go_wp2_with fail
    refine (ed _ _).mono ?_; rintro e w9 ⟨rfl, rfl⟩
    go_wp2
    go_ret
    exact ⟨rfl, HT8.out⟩
 ·have hs := HS.out
  rw [if_neg hd] at hs
  obtain ⟨rfl, rfl⟩ := Prod.mk.inj hs
  clear hs
  go_wp2_with fail
  go_ret
  exact ⟨rfl, T4.out⟩
end
end Go.Proofs.YtgcikpgcoemfnaaGreat.Pr
namespace Go.Proofs.YtgcikpgcoemfnaaGreat.Pr
open Go.RowKit Co
def clS (S : Stt) (fds : List Int) : Stt := fds.foldl (fun s fd => if 0 < fd then (cF s (fd - 1)).1 else s) S
def bare (v : List Int) : List Int := v.take 8 ++ List.replicate 8 0
def aR (S : Stt) (i : Int) : Stt :=
 if (S.p i).2 = 1 then (if Cd.okd (bare (S.p i).1) then (clS S ((S.p i).1.drop 8)).setP i (bare (S.p i).1) else clS S ((S.p i).1.drop 8)) else S
theorem shutS_p (S : Stt) (k i : Int) : (shutS S k i).1.p = S.p := by
 unfold shutS
 split
 ·split <;> rfl
 ·rfl
theorem closeS_p (S : Stt) (f : Int) : (cF S f).1.p = S.p := by
 unfold cF
 split
 ·split
  ·rfl
  ·split
   ·rfl
   ·exact shutS_p _ _ _
 ·rfl
theorem clS_p (fds : List Int) : ∀ S : Stt, (clS S fds).p = S.p := by
 unfold clS
 induction fds with
 | nil => intro S; rfl
 | cons x l ih =>
  intro S
  rw [List.foldl_cons, ih]
  split
  ·exact closeS_p _ _
  ·rfl
theorem clS_succ (S : Stt) {fds : List Int} {k : Nat} {fd : Int} (h : fds[k]? = some fd) : clS S (fds.take (k + 1)) = if 0 < fd then (cF (clS S (fds.take k)) (fd - 1)).1 else clS S (fds.take k) := by
 unfold clS
 rw [List.take_add_one, h, List.foldl_append]
 rfl
theorem jf : cS 35 8 (ab (List.replicate 8 0)) := ⟨⟨_, Tryz.underlying35, rfl⟩, by kernel_rfl, fun W => by go_simp; rfl, rfl⟩
section
variable {F : List UInt8 → Prop} {n nb : Nat} {src : Src} {bad : List Rf} {xs : List UInt8} {S : Stt}
theorem goodP (h : Sto F n src nb bad xs S) {i : Int} {v : List Int} (hv : S.p i = (v, 1)) : Cd.okd v = true := by
 obtain ⟨_, x, b, _, _, hd⟩ := live (by decide) (h.p i) (by rw [hv]; show (1 : Int) ≠ 2; decide)
 rw [hv] at hd
 exact (Cd.gD hd).2.1
end
theorem ix {v : List Int} (h : v.length = 16) : (bare v).length = 16 := by simp [bare, h]
theorem il {v : List Int} (hl : v.length = 16) (h : Cd.okd v = true) : ∀ x ∈ v, Cd.Wf x := by
 have b := Cd.aH h
 obtain ⟨a0, a1, a2, a3, a4, a5, a6, a7, f0, f1, f2, f3, f4, f5, f6, f7, rfl⟩ := Cd.aD hl
 obtain ⟨h0, h1, h2, h3, h4, h5, h6, h7, hf⟩ := b
 simp only [List.getD_cons_zero, List.getD_cons_succ] at h0 h1 h2 h3 h4 h5 h6 h7
 have hf' := fun x hx => hf x (show x ∈ [f0, f1, f2, f3, f4, f5, f6, f7] from hx)
 intro x hx
 simp only [List.mem_cons, List.not_mem_nil, or_false] at hx hf'
 unfold Cd.Wf
 rcases hx with rfl | rfl | rfl | rfl | rfl | rfl | rfl | rfl | hx
 all_goals first | omega | (have := hf' x hx; omega)
theorem wf_bare {v : List Int} (h : ∀ x ∈ v, Cd.Wf x) : ∀ x ∈ bare v, Cd.Wf x := fun x hx => by
 unfold bare at hx
 rcases List.mem_append.1 hx with hx | hx
 ·exact h x (List.mem_of_mem_take hx)
 ·obtain ⟨_, rfl⟩ := List.mem_replicate.1 hx
  unfold Cd.Wf
  decide
section
variable {F : List UInt8 → Prop} {n : Nat} {w w' w1 : World} {K : Kn} {C : Cm} {src : Src} {S S' S2 : Stt}
theorem closeAll_is (h : Ks F n w K C src S) (i : Int) (hi : Cd.Wf i) (S' : Stt) (hs : aR S i = S') :
  Calls Tryz.prog 38 #[.pointer (some ⟨C.p, 0, none⟩), .int .i64 i] w fun e w' => e = .returned (.tuple #[]) ∧ Kt F n w K C src S' w' := by
 obtain ⟨v, d, hv⟩ : ∃ v d, S.p i = (v, d) := ⟨_, _, rfl⟩
 have hl := eu h.s hv
 have HL := aa hl
 have HGood := aa (fun e : d = 1 => goodP h.s (show S.p i = (v, 1) by rw [hv, e]))
 have HC := aa (ai hl)
 have HZ2 := aa (ai (n := 16) (l := Cd.noP) rfl)
 have H := aa h
 have HCall := aa (fun W K' (hk : Ks F n W K' C src S) => lz hk i hi v d hv)
 have HI := aa hi
 unfold aR at hs
 rw [hv] at hs
 dsimp only at hs
 have HS := aa hs
 have HV := aa hv
 clear h hv hl hs hi
 go_enter Tryz.func38, Tryz.ntmps38
 go_wp2_with fail
 have T0 := H.out.still (Keep.refl Nob w)
 refine (T0.go (fun K' hk => ll hk)).mono ?_; rintro e w1 ⟨rfl, T1, kp1⟩
 clear T0 kp1
 go_wp2_with fail
 refine (T1.go (HCall.out _)).mono ?_; rintro e w2 ⟨rfl, T2, kp2⟩
 have HT2 := aa T2
 have hsz := T2.kp.size
 clear T1 T2 kp2
 go_upto_region 2 with (first
  | (refine ar.wpList_al rfl rfl ?_; intro w3 hb3 hk3 hs3; clear hs3)
  | (refine ar.wpList_st rfl rfl rfl rfl HC.out HZ2.out hb3 ?_; intro w4 hb4 hk4 hs4; clear hs4))
 have T4 := aa ((HT2.out.nob hk3).st H.out hb3 (by decide) hsz hk4)
 have HB4 := aa hb4
 generalize w2.heap.size = g5 at *
 clear hk3 hb3 hk4 hb4 HT2
 by_cases hd : d = 1
 ·subst hd
  have HGd := aa (HGood.out rfl)
  have HBd := aa (Cd.aH HGd.out).f
  rw [if_pos rfl] at HS
  obtain ⟨fds, hfds⟩ : ∃ fds, v.drop 8 = fds := ⟨_, rfl⟩
  have hfl : fds.length = 8 := by rw [← hfds, List.length_drop, HL.out]
  have HFl := aa hfl
  rw [hfds] at HS HBd
  have HFds := aa hfds
  have hrng := du HB4.out 8 8
  rw [show ((ab v).drop 8).take 8 = ab fds by rw [← hfds]; unfold ab; rw [List.map_drop, List.take_of_length_le]; simp [HL.out]] at hrng
  have HRg := aa hrng
  have HIl := aa (show (ab fds).length = 8 by simp [ab, hfl])
  clear hfds hrng hfl
  go_upto_region 4 with (refine wpList_load_mid rfl 35 _ rfl g5 8 rfl (ab fds) _ HRg.out Tryz.underlying35 rfl (by rw [HIl.out]; exact jf.i) ?_)
  go_loopw [20] (fun s20 wx => ∃ k : Nat, k ≤ 8 ∧ s20 = .int .i64 k ∧ Hid (Kt F n w K C src (clS S (fds.take k)) wx) ∧ Hid (Blk wx g5 37 (ab v))) (fun s20 _ => 8 - (intOf s20).toNat)
  case atStart => exact ⟨0, Nat.zero_le _, rfl, T4, HB4⟩
  case round =>
   obtain ⟨k, hk, rfl, HT, HB⟩ := hrel
   by_cases hlt : (k : Int) < 8
   ·have hix := fun W => Cd.jt fds HFl.out k (by omega) W
    obtain ⟨fd, hfd⟩ : ∃ fd, fds.getD k 0 = fd := ⟨_, rfl⟩
    have hgk : fds[k]? = some fd := by
     rw [← hfd, List.getD_eq_getElem?_getD, List.getElem?_eq_getElem (by rw [HFl.out]; omega)]
     rfl
    have hbd := HBd.out fd (List.mem_of_getElem? hgk)
    have HSuc := aa (clS_succ S hgk)
    rw [hfd] at hix
    clear hfd hgk
    by_cases hz : 0 < fd
    ·have hw1 : wrap64 (fd - 1) = fd - 1 := by rw [← IntWalk.i64_left, IntKind.wrap_i64]; omega
     have hwf : Cd.Wf (fd - 1) := by unfold Cd.Wf; omega
     rw [if_pos hz] at HSuc
     obtain ⟨S5, er5, h5⟩ : ∃ S5 er5, cF (clS S (fds.take k)) (fd - 1) = (S5, er5) := ⟨_, _, rfl⟩
     have HCl := aa (fun K' (hK : Ks F n wr K' C src (clS S (fds.take k))) => close_is hK (fd - 1) hwf S5 er5 h5)
     rw [h5] at HSuc
     clear h5
     clear hwf
     go_wp2_with fail
     refine (HT.out.go HCl.out).mono ?_; rintro e w5 ⟨rfl, T5, kp5⟩
     have HT5 := aa (show Kt F n w K C src (clS S (fds.take (k + 1))) w5 by rw [HSuc.out]; exact T5)
     have HB5 := aa (kp5.lb H.out HB.out hsz)
     clear T5 kp5 hix hw1 hz hbd
     go_wp2_with fail
     go_roundw
     case rel => exact ⟨k + 1, by omega, by go_num, HT5, HB5⟩
     case measure => simp [intOf]; omega
    ·rw [if_neg hz] at HSuc
     have HT5 := aa (show Kt F n w K C src (clS S (fds.take (k + 1))) wr by rw [HSuc.out]; exact HT.out)
     go_wp2_with fail
     go_roundw
     case rel => exact ⟨k + 1, by omega, by go_num, HT5, HB⟩
     case measure => simp [intOf]; omega
   ·have HT8 := aa (show Kt F n w K C src (clS S fds) wr by
     have := HT.out
     rw [List.take_of_length_le (by rw [HFl.out]; omega)] at this
     exact this)
    have HZ8 := aa (ai (n := 8) (l := List.replicate 8 0) rfl)
    have HCb := aa (ai (ix HL.out))
    go_upto_region 10 with (refine jf.wpList_stm (off := 8) rfl rfl rfl rfl HZ8.out HB.out (by simp [ab, HL.out]) ?_; intro w6 hb6 hk6 hs6; clear hs6)
    have HB6 := aa (show Blk w6 g5 37 (ab (bare v)) by
     have e : ab (bare v) = splice (ab v) 8 (ab (List.replicate 8 0)) := by
      obtain ⟨a0, a1, a2, a3, a4, a5, a6, a7, f0, f1, f2, f3, f4, f5, f6, f7, rfl⟩ := Cd.aD HL.out
      rfl
     rw [e]
     exact hb6)
    have T6 := aa (HT8.out.st H.out HB.out (by decide) hsz hk6)
    clear hb6 hk6
    have HSt := aa (fun K' (hK : Ks F n w6 K' C src (clS S fds)) => bv hK i HI.out (bare v) (ix HL.out) (wf_bare (il HL.out HGd.out)) (Cd.okd (bare v)) (by rw [clS_p, HV.out]; rfl))
    go_wp2_with (refine ar.wpList_ld rfl rfl rfl HCb.out HB6.out ?_)
    refine (T6.out.go HSt.out).mono ?_; rintro e w7 ⟨rfl, T7, _⟩
    rw [HS.out] at T7
    have HT7 := aa T7
    clear T7
    go_wp2
    refine bodyPost_end (results_none rfl _ _ _) rfl ?_
    exact ⟨rfl, HT7.out⟩
 ·have hs := HS.out
  rw [if_neg hd] at hs
  subst hs
  go_wp2_with fail
  refine bodyPost_ret (results_none rfl _ _ _) rfl ?_
  exact ⟨rfl, T4.out⟩
end
end Go.Proofs.YtgcikpgcoemfnaaGreat.Pr
namespace Go.Proofs.YtgcikpgcoemfnaaGreat.Co
open Go.RowKit
structure Sd where
 p : List (List Int × Int)
 f : List (List Int × Int)
 r : List (List Int × Int)
 t : List Int × Int
 g : Int × Int
theorem Sd.same {a b : Sd} : (a.p = b.p ∧ a.f = b.f ∧ a.r = b.r ∧ a.t = b.t ∧ a.g = b.g) ↔ a = b := by
 constructor
 ·obtain ⟨p, f, r, t, g⟩ := a
  obtain ⟨p2, f2, r2, t2, g2⟩ := b
  rintro ⟨h1, h2, h3, h4, h5⟩
  dsimp only at h1 h2 h3 h4 h5
  rw [h1, h2, h3, h4, h5]
 ·rintro rfl
  exact ⟨rfl, rfl, rfl, rfl, rfl⟩
instance decSd : DecidableEq Sd := fun _ _ => decidable_of_iff _ Sd.same
def pL (P : Ri.Pp) : List Int := P.h :: P.c :: P.r :: P.s :: P.d.map (fun b => ((b.toNat : Nat) : Int))
def lP (l : List Int) : Ri.Pp := ⟨l.getD 0 0, l.getD 1 0, l.getD 2 0, l.getD 3 0, (l.drop 4).map (fun x => UInt8.ofNat x.toNat)⟩
theorem lP_pL (P : Ri.Pp) : lP (pL P) = P := by
 obtain ⟨h, c, r, s, d⟩ := P
 have e : d.map ((fun x : Int => UInt8.ofNat x.toNat) ∘ fun b : UInt8 => ((b.toNat : Nat) : Int)) = d := by
  conv => rhs; rw [← List.map_id d]
  refine List.map_congr_left (fun b _ => ?_)
  simp
 show (⟨h, c, r, s, (d.map _).map _⟩ : Ri.Pp) = _
 rw [List.map_map, e]
def row {α : Type} (n : Int) (z : α) (l : List α) (i : Int) : α := if 0 ≤ i ∧ i < n then l.getD i.toNat z else z
def cZ (T : Sd) : Stt :=
 { p := row 8 (Cd.noP, 2) T.p, f := row 12 (Fi.noP, 2) T.f, r := fun i => (lP (row 6 (pL Ri.noP, 2) T.r i).1, (row 6 (pL Ri.noP, 2) T.r i).2), t := (lP T.t.1, T.t.2), g := T.g }
def toT (S : Stt) : Sd := ⟨mk 8 (fun i => S.p i), mk 12 (fun i => S.f i), mk 6 (fun i => (pL (S.r i).1, (S.r i).2)), (pL S.t.1, S.t.2), S.g⟩
theorem row_mk {α : Type} {n : Nat} {z : α} {f : Int → α} (h : ∀ i, ¬ (0 ≤ i ∧ i < (n : Int)) → f i = z) : row n z (mk n (fun i => f i)) = f := by
 funext i
 unfold row
 by_cases hi : 0 ≤ i ∧ i < (n : Int)
 ·rw [if_pos hi]
  obtain ⟨k, rfl⟩ := Int.eq_ofNat_of_zero_le hi.1
  rw [List.getD_eq_getElem?_getD]
  unfold mk
  rw [List.getElem?_map, List.getElem?_range (by omega)]
  rfl
 ·rw [if_neg hi, h i hi]
structure Norm (S : Stt) : Prop where
 p : ∀ i, ¬ (0 ≤ i ∧ i < 8) → S.p i = (Cd.noP, 2)
 f : ∀ i, ¬ (0 ≤ i ∧ i < 12) → S.f i = (Fi.noP, 2)
 r : ∀ i, ¬ (0 ≤ i ∧ i < 6) → S.r i = (Ri.noP, 2)
theorem Norm.eq {S : Stt} (h : Norm S) : cZ (toT S) = S := by
 obtain ⟨p, f, r, t, g⟩ := S
 have e1 : row 8 (Cd.noP, 2) (Go.Proofs.YtgcikpgcoemfnaaGreat.mk 8 (fun i => p i)) = p := row_mk (n := 8) h.p
 have e2 : row 12 (Fi.noP, 2) (Go.Proofs.YtgcikpgcoemfnaaGreat.mk 12 (fun i => f i)) = f := row_mk (n := 12) h.f
 have e3 : row 6 (pL Ri.noP, 2) (Go.Proofs.YtgcikpgcoemfnaaGreat.mk 6 (fun i => (pL (r i).1, (r i).2))) = fun i => (pL (r i).1, (r i).2) := row_mk (n := 6) (f := fun i => (pL (r i).1, (r i).2)) (fun i hi => by
  have := h.r i hi
  dsimp only at this ⊢
  rw [this])
 unfold cZ toT
 dsimp only
 rw [e1, e2, e3]
 dsimp only
 simp only [lP_pL]
theorem nread {α : Type} {dec : List UInt8 → α × Int} {z : α} {xs : List UInt8} {src : Src} {nb : Nat} {bad : List Rf} {r : Rf} {a : α × Int} (hw : aw nb r = none) (h : aC dec z xs src nb bad r = (a, bad)) : a = (z, 2) := by
 by_cases hb : r ∈ bad
 ·rw [bh hb] at h
  exact (Prod.mk.inj h).1.symm
 ·rw [aY hb hw] at h
  exact (Prod.mk.inj h).1.symm
section
variable {F : List UInt8 → Prop} {n : Nat} {src : Src} {bad : List Rf} {xs : List UInt8} {S : Stt}
theorem Sto.norm (h : Sto F n src 2 bad xs S) : Norm S := by
 refine ⟨fun i hi => nread ?_ (h.p i), fun i hi => nread ?_ (h.f i), fun i hi => nread ?_ (h.r i)⟩
 ·unfold aw
  rw [if_pos rfl, if_neg hi]
 ·unfold aw
  dsimp only
  rw [if_neg (by decide), if_pos rfl, if_neg hi]
 ·unfold aw
  dsimp only
  rw [if_neg (by decide), if_neg (by decide), if_pos rfl]
  by_cases h4 : 4 ≤ i
  ·rw [if_pos h4, if_neg (by omega)]
  ·rw [if_neg h4, if_neg (by omega)]
theorem Sto.eq (h : Sto F n src 2 bad xs S) : S = cZ (toT S) := h.norm.eq.symm
end
theorem Kt.eq {F : List UInt8 → Prop} {n : Nat} {w w' : World} {K : Kn} {C : Cm} {src : Src} {S : Stt} (t : Kt F n w K C src S w') (hb : C.brs.length = 2) {T : Sd} (h : toT S = T) : Kt F n w K C src (cZ T) w' := by
 obtain ⟨ys, h1, h2⟩ := t
 have h3 := h1
 rw [hb] at h3
 rw [← h, ← h3.eq]
 exact ⟨ys, h1, h2⟩
end Go.Proofs.YtgcikpgcoemfnaaGreat.Co
namespace Go.Proofs.YtgcikpgcoemfnaaGreat.Pn
open Go.RowKit
open Co (Src Link Cm Kc Ct)
theorem jA {f : Q → Pl} (hf : ∀ q, (f q).on = q.on ∧ (f q).gen = q.gen) (l : List Cp) (hl : l.length ≤ 32) : ∀ k, k ≤ 32 → names ((el l).map f) k = mk (min k l.length) fun i => (i : Int) + 256
 | 0, _ => by simp [names, mk]
 | k + 1, hk => by
  have ih := jA hf l hl k (by omega)
  by_cases h : k < l.length
  ·have hq : ((el l).map f)[k]? = some (f ⟨1, true, l[k]⟩) := by rw [List.getElem?_map, iz (List.getElem?_eq_getElem h)]; rfl
   have h1 := hf ⟨1, true, l[k]⟩
   rw [kD hq h1.1, h1.2, ih, show min k l.length = k by omega, show min (k + 1) l.length = k + 1 by omega, ← dE]
   rfl
  ·have hq : ((el l).map f)[k]? = some (f ⟨1, false, cX⟩) := by rw [List.getElem?_map, fH (by omega) (by omega)]; rfl
   rw [jg hq (hf _).1, ih, show min k l.length = min (k + 1) l.length by omega]
theorem names_pl (l : List Cp) (hl : l.length ≤ 32) : names ((el l).map Q.pl) (el l).length = mk l.length fun i => (i : Int) + 256 := by
 rw [kh hl, jA (fun _ => ⟨rfl, rfl⟩) l hl 32 (Nat.le_refl _), Nat.min_eq_right hl]
def eR (ses : Int) : List Sh → Nat → List Cp
 | [], _ => []
 | s :: l, i => if ses ∈ s.tos then ⟨i, 3, 0, s.n, (0, 0)⟩ :: eR ses l (i + 1) else eR ses l (i + 1)
theorem jK (ses : Int) (s : Sh) : ∀ (l : List Sh) (i : Nat), eR ses (l ++ [s]) i = eR ses l i ++ (if ses ∈ s.tos then [⟨((i + l.length : Nat) : Int), 3, 0, s.n, (0, 0)⟩] else [])
 | [], i => by simp [eR]
 | x :: l, i => by
  have ih := jK ses s l (i + 1)
  rw [List.cons_append]
  unfold eR
  rw [ih, show i + 1 + l.length = i + (x :: l).length by simp; omega]
  split <;> simp
theorem jD {envs : List Int} {sh : List Sh} {e : Nat} (he : e < envs.length) : ∀ j, j ≤ sh.length → bw envs sh j e = eR (envs.getD e 0) (sh.take j) 0
 | 0, _ => by simp [bw, eR]
 | j + 1, hj => by
  have ih := jD (sh := sh) he j (Nat.le_of_succ_le hj)
  obtain ⟨s, hs⟩ : ∃ s, sh[j]? = some s := ⟨_, List.getElem?_eq_getElem (show j < sh.length by omega)⟩
  rw [fF hs, List.take_add_one, hs]
  show dH _ _ _ _ _ _ = eR _ (sh.take j ++ [s]) 0
  have hl : (sh.take j).length = j := by rw [List.length_take]; omega
  rw [jK, ← ih, hl, Nat.zero_add]
  unfold dH
  by_cases m : envs.getD e 0 ∈ s.tos
  ·rw [if_pos ⟨he, m⟩, if_pos m]
  ·rw [if_neg (fun h => m h.2), if_neg m, List.append_nil]
structure Op0 (w W : World) (K : Kn) (C : Cm) (src : Src) : Prop where
 kc : Kc W K C src
 lo : ∀ x, Mine K x → w.heap.size ≤ x
 lb : w.heap.size ≤ C.b
 keep : Keep (bT w.heap.size) w W
section
variable {w W W' : World} {K K' : Kn} {C C' : Cm} {src : Src}
theorem Op0.nob (h : Op0 w W K C src) (k : Keep Nob W W') : Op0 w W' K C src := ⟨h.kc.nob k, h.lo, h.lb, h.keep.nob k⟩
theorem Op0.ct (h : Op0 w W K C src) (t : Ct W K K' C C' src W') (hb : C'.b = C.b) : Op0 w W' K' C' src :=
 ⟨t.is, fun x m => (t.mine x m).elim (h.lo x) (fun e => by have := h.keep.size; omega), by rw [hb]; exact h.lb, h.keep.from_ t.keep (fun b m => m.elim (fun m => h.lo b (.inl m)) (fun e => by rw [e]; exact h.lb))⟩
theorem Op0.bytes {ys : List UInt8} (h : Op0 w W K C src) (t : To W K { K with xs := ys } W') : Op0 w W' { K with xs := ys } C src := h.ct (Ct.of_to h.kc t) rfl
end
end Go.Proofs.YtgcikpgcoemfnaaGreat.Pn
namespace Go.Proofs.YtgcikpgcoemfnaaGreat.Dk
open Go.RowKit
structure Ds where
 s : Nat
 n : Nat
 AN : Option Addr
 cN : Nat
 AC : Option Addr
 cC : Nat
 q : Nat → Nat
 A : Nat → Option Addr
 ca : Nat → Nat
 r : Nat → Nat
 T : St
def nq (x : Q) : Pl := ⟨x.gen, x.on, []⟩
def crow (l : List Q) : List Value := (l.map fun x => x.c.cells).flatten
structure eD (w : World) (S : Ds) : Prop where
 obj : Blk w S.s 288 [.slice S.AN S.n S.cN, .slice S.AC S.n S.cC]
 nrow : Vec w 284 1 S.AN S.n S.cN (mk S.n fun i => .pointer (some ⟨S.q i, 0, none⟩))
 cr : Vec w 362 1 S.AC S.n S.cC (mk S.n fun i => .slice (some ⟨S.r i, 0, none⟩) 32 32)
 nm : ∀ i, i < S.n → Ref.IsNames w (S.q i) (S.A i) (S.ca i) ((S.T i).map nq)
 cp : ∀ i, i < S.n → Blk w (S.r i) 255 (crow (S.T i))
 ainj : ∀ i j, i < S.n → j < S.n → i ≠ j → ∀ x, Own (S.A i) x → ¬ Own (S.A j) x
 rinj : ∀ i j, i < S.n → j < S.n → S.r i = S.r j → i = j
 t32 : ∀ i, i < S.n → (S.T i).length = 32
 n40 : S.n ≤ 40
def Ds.Mine (S : Ds) : Nat → Prop := fun b => b = S.s ∨ Own S.AN b ∨ Own S.AC b ∨ ∃ i, i < S.n ∧ (b = S.q i ∨ Own (S.A i) b ∨ b = S.r i)
section
variable {w w' : World} {S : Ds} {M : Nat → Prop}
theorem eD.keep (h : eD w S) (k : Keep M w w') (hd : ∀ b, S.Mine b → ¬ M b) : eD w' S :=
 ⟨h.obj.keep k (hd _ (.inl rfl)), h.nrow.keep k (fun g hg => hd _ (.inr (.inl hg))), h.cr.keep k (fun g hg => hd _ (.inr (.inr (.inl hg)))),
  fun i hi => (h.nm i hi).keep k (hd _ (.inr (.inr (.inr ⟨i, hi, .inl rfl⟩)))) (fun g hg => hd _ (.inr (.inr (.inr ⟨i, hi, .inr (.inl hg)⟩)))), fun i hi => (h.cp i hi).keep k (hd _ (.inr (.inr (.inr ⟨i, hi, .inr (.inr rfl)⟩)))), h.ainj, h.rinj, h.t32, h.n40⟩
theorem eD.nob (h : eD w S) (k : Keep Nob w w') : eD w' S := h.keep k (fun _ _ f => f)
theorem eD.lt (h : eD w S) : ∀ b, S.Mine b → b < w.heap.size := by
 rintro b (rfl | hb | hb | ⟨i, hi, rfl | hb | rfl⟩)
 ·exact h.obj.lt
 ·exact h.nrow.lt b hb
 ·exact h.cr.lt b hb
 ·exact (h.nm i hi).obj.lt
 ·exact (h.nm i hi).row.lt b hb
 ·exact (h.cp i hi).lt
theorem crow_get {l : List Q} {i j : Nat} {x : Q} (hx : l[i]? = some x) (hj : j < 6) : (crow l)[i * 6 + j]? = x.c.cells[j]? := by
 unfold crow
 rw [aE (W := 6) _ (by intro c hc; obtain ⟨x, _, rfl⟩ := List.mem_map.1 hc; rfl) i j hj, List.getElem?_map, hx]
 rfl
theorem crow_set {l : List Q} {i : Nat} {x : Q} (hx : l[i]? = some x) (y : Q) : ((((((crow l).set (i * 6) (.int .i64 y.c.obj)).set (i * 6 + 1) (.int .i64 y.c.rights)).set (i * 6 + 2) (.int .i64 y.c.lo)).set (i * 6 + 3) (.int .i64 y.c.n)).set (i * 6 + 4) (.int .i64 y.c.root.1)).set (i * 6 + 5) (.int .i64 y.c.root.2) = crow (l.set i y) := by
 have hW : ∀ c ∈ (l.map fun x => x.c.cells), c.length = 6 := by intro c hc; obtain ⟨x, _, rfl⟩ := List.mem_map.1 hc; rfl
 have e0 : (l.map fun x => x.c.cells)[i]? = some x.c.cells := by rw [List.getElem?_map, hx]; rfl
 unfold crow
 obtain ⟨e1, r1, g1⟩ := dA hW e0 0 (by decide) (.int .i64 y.c.obj)
 obtain ⟨e2, r2, g2⟩ := dA r1 g1 1 (by decide) (.int .i64 y.c.rights)
 obtain ⟨e3, r3, g3⟩ := dA r2 g2 2 (by decide) (.int .i64 y.c.lo)
 obtain ⟨e4, r4, g4⟩ := dA r3 g3 3 (by decide) (.int .i64 y.c.n)
 obtain ⟨e5, r5, g5⟩ := dA r4 g4 4 (by decide) (.int .i64 y.c.root.1)
 obtain ⟨e6, r6, g6⟩ := dA r5 g5 5 (by decide) (.int .i64 y.c.root.2)
 rw [show i * 6 = i * 6 + 0 from rfl, e1]
 simp only [Nat.add_zero]
 rw [e2, e3, e4, e5, e6, List.set_set, List.set_set, List.set_set, List.set_set, List.set_set, List.map_set]
 rfl
theorem gY {w : World} {e n cap : Nat} {A : Option Addr} {f : Nat → Value} (h : Vec w e 1 A n cap (mk n f)) {i : Nat} (hi : i < n) : ∃ g, A = some ⟨g, 0, none⟩ ∧ w.cell? ⟨g, i, none⟩ = some (f i) := by
 obtain ⟨g, cur, hA, hb, _, hc, ht⟩ := h.at_ (by omega)
 refine ⟨g, hA, ?_⟩
 rw [hb.cell]
 have e1 : (cur.take (n * 1))[i]? = (mk n f)[i]? := by rw [ht]
 rw [List.getElem?_take, if_pos (by omega), dn hi] at e1
 exact e1
theorem env_is (h : eD w S) (e : Int) (v : Bool) (hv : (decide (0 ≤ e) && decide (e < S.n)) = v) : Calls Tryz.prog 188 #[.pointer (some ⟨S.s, 0, none⟩), .int .i64 e] w fun e' w' => e' = .returned (.bool v) ∧ w = w' := by
 have hc : w.cell? ⟨S.s, 0, none⟩ = some (.slice S.AN S.n S.cN) := h.obj.cell 0
 by_cases h0 : 0 ≤ e
 ·obtain rfl : v = decide (e < S.n) := by rw [← hv]; simp [h0]
  clear hv
  go_enter Tryz.func188, Tryz.ntmps188
  go_wp2
  go_ret
  exact ⟨rfl, rfl⟩
 ·obtain rfl : v = false := by rw [← hv]; simp [h0]
  clear hv
  go_enter Tryz.func188, Tryz.ntmps188
  go_wp2
  go_ret
  exact ⟨rfl, rfl⟩
def AddM (S : Ds) (e : Nat) : Nat → Prop := fun b => Own (S.A e) b ∨ b = S.r e
theorem add_mine {e : Nat} (he : e < S.n) : ∀ b, AddM S e b → S.Mine b := fun b hb => .inr (.inr (.inr ⟨e, he, hb.elim (fun h => .inr (.inl h)) (fun h => .inr (.inr h))⟩))
theorem up_len {T : St} {e i : Nat} {x : Q} (j : Nat) : (up T e i x j).length = (T j).length := by
 unfold up
 split
 ·rename_i h; rw [List.length_set, h]
 ·rfl
theorem add_is (h : eD w S) (e : Nat) (he : e < S.n) (c : Cp) (i : Nat) (x : Q) (hx : (S.T e)[i]? = some x) (hf : (nq x).free = true) (hb : ∀ (j : Nat) (y : Q), j < i → (S.T e)[j]? = some y → (nq y).free = false) :
  Calls Tryz.prog 190 #[.pointer (some ⟨S.s, 0, none⟩), .int .i64 e, dG c] w fun e' w' => e' = .returned (.tuple #[.int .i64 (i + 256 * (x.gen : Int)), .int .i64 0]) ∧ eD w' { S with T := up S.T e i ⟨x.gen, true, c⟩ } ∧ Keep (AddM S e) w w' := by
 have hN := h.nm e he
 have hx' : ((S.T e).map nq)[i]? = some (nq x) := by rw [List.getElem?_map, hx]; rfl
 have hi : i < 32 := by have := aP hx; rw [h.t32 e he] at this; exact this
 have hcall := fun W (k : Keep Nob w W) => Ref.add_yes (hN.nob k) hx' hf (fun j y hj hy => by
  rw [List.getElem?_map] at hy
  obtain ⟨z, hz, rfl⟩ := Option.map_eq_some_iff.1 hy
  exact hb j z hj hz)
 have hge : (x.gen : Int) ≤ 1000000 := by
  have := (free_off hf).2
  simp [nq] at this
  omega
 have hmod : ((i : Int) + 256 * (x.gen : Int)) % 256 = i := by omega
 have hgen0 : 0 ≤ (x.gen : Int) := by omega
 have k1 := (Keep.refl Nob w).alloc (.cells #[.int .i64 c.obj, .int .i64 c.rights, .int .i64 c.lo, .int .i64 c.n, .int .i64 c.root.1, .int .i64 c.root.2] 255)
 have b1 := Blk.new w 255 [.int .i64 c.obj, .int .i64 c.rights, .int .i64 c.lo, .int .i64 c.n, .int .i64 c.root.1, .int .i64 c.root.2]
 have h1 := h.nob k1
 obtain ⟨g, hg, pg⟩ := gY h1.nrow he
 have c0 : (w.alloc (.cells #[.int .i64 c.obj, .int .i64 c.rights, .int .i64 c.lo, .int .i64 c.n, .int .i64 c.root.1, .int .i64 c.root.2] 255)).cell? ⟨S.s, 0, none⟩ = some (.slice S.AN S.n S.cN) := h1.obj.cell 0
 rw [hg] at c0
 have hcl := hcall _ k1
 have hn40 := h.n40
 have HH := aa (And.intro h (And.intro h1 (And.intro hx hN)))
 have HB := aa b1
 have HK := aa k1
 clear hcall hb hf hx' hg h h1 b1 k1 hN hx
 have e1 : (nq x).gen = x.gen := rfl
 rw [e1] at hcl
 unfold dG
 go_enter Tryz.func190, Tryz.ntmps190
 go_wp2_with fail
 refine hcl.mono ?_; rintro e' w1 ⟨rfl, hN1, k2, hs2⟩
 have hm2 : ∀ b, Own (S.A e) b → ¬ (b = w.heap.size) := fun b hb e2 => by have := (HH.out.2.2.2).row.lt b hb; omega
 have hB2 := HB.out.keep k2 (fun m => hm2 _ m rfl)
 have hrow := HH.out.2.1.nm e he
 have off : ∀ {b : Nat} {t : TypeId} {cs : List Value}, Blk (w.alloc (.cells #[.int .i64 c.obj, .int .i64 c.rights, .int .i64 c.lo, .int .i64 c.n, .int .i64 c.root.1, .int .i64 c.root.2] 255)) b t cs → t ≠ 378 → ¬ Own (S.A e) b := fun hb ht ho => by
  obtain ⟨cur, hc⟩ := hrow.row.blk ho
  exact hb.ne_ hc ht rfl
 have offV : ∀ {t sz n cap : Nat} {A : Option Addr} {xs : List Value}, Vec (w.alloc (.cells #[.int .i64 c.obj, .int .i64 c.rights, .int .i64 c.lo, .int .i64 c.n, .int .i64 c.root.1, .int .i64 c.root.2] 255)) t sz A n cap xs → t ≠ 378 → ∀ b, Own A b → ¬ Own (S.A e) b := fun hv ht b hb => by
  obtain ⟨cur, hc⟩ := hv.blk hb
  exact off hc ht
 have o2 := HH.out.2.1.obj.keep k2 (off HH.out.2.1.obj (by decide))
 have n2 := HH.out.2.1.nrow.keep k2 (offV HH.out.2.1.nrow (by decide))
 have cr2 := HH.out.2.1.cr.keep k2 (offV HH.out.2.1.cr (by decide))
 have cp2 := fun j (hj : j < S.n) => (HH.out.2.1.cp j hj).keep k2 (off (HH.out.2.1.cp j hj) (by decide))
 have nm2 := fun j (hj : j < S.n) (hje : j ≠ e) => (HH.out.2.1.nm j hj).keep k2 (off (HH.out.2.1.nm j hj).obj (by decide)) (fun b hb hb2 => HH.out.2.1.ainj j e hj he hje b hb hb2)
 obtain ⟨gc, hgc, pgc⟩ := gY cr2 he
 have d1 : w1.cell? ⟨S.s, 1, none⟩ = some (.slice S.AC S.n S.cC) := o2.cell 1
 rw [hgc] at d1
 have x0 := hB2.cell 0
 have x1 := hB2.cell 1
 have x2 := hB2.cell 2
 have x3 := hB2.cell 3
 have x4 := hB2.cell 4
 have x5 := hB2.cell 5
 simp only [List.getElem?_cons_zero, List.getElem?_cons_succ] at x0 x1 x2 x3 x4 x5
 have hbe := cp2 e he
 have rc : ∀ j, j < 6 → w1.cell? ⟨S.r e, i * 6 + j, none⟩ = x.c.cells[j]? := fun j hj => by rw [hbe.cell, crow_get HH.out.2.2.1 hj]
 have y0 := rc 0 (by decide)
 have y1 := rc 1 (by decide)
 have y2 := rc 2 (by decide)
 have y3 := rc 3 (by decide)
 have y4 := rc 4 (by decide)
 have y5 := rc 5 (by decide)
 simp only [Cp.cells, Nat.add_zero, List.getElem?_cons_zero, List.getElem?_cons_succ] at y0 y1 y2 y3 y4 y5
 have f0 := hbe.frozen (i * 6)
 have f1 := hbe.frozen (i * 6 + 1)
 have f2 := hbe.frozen (i * 6 + 2)
 have f3 := hbe.frozen (i * 6 + 3)
 have f4 := hbe.frozen (i * 6 + 4)
 have f5 := hbe.frozen (i * 6 + 5)
 have HF := aa (And.intro o2 (And.intro n2 (And.intro cr2 (And.intro cp2 (And.intro nm2 (And.intro hN1 (And.intro k2 hs2)))))))
 clear o2 n2 cr2 cp2 nm2 hN1 k2 hs2 hrow off offV hm2 hB2 hbe rc hcl pg c0 hgc
 go_wp2_with fail
 go_region
 clear x0 x1 x2 x3 x4 x5 y0 y1 y2 y3 y4 y5 f0 f1 f2 f3 f4 f5 d1 pgc
 obtain ⟨o2, n2, cr2, cp2, nm2, hN1, k2, hs2⟩ := HF.out
 have hbe := cp2 e he
 have hlt := HH.out.1
 obtain ⟨hS, _, hx, _⟩ := HH.out
 have k3 : Keep (· = S.r e) w1 ((((((w1.setCell ⟨S.r e, i * 6, none⟩ (.int .i64 c.obj)).setCell ⟨S.r e, i * 6 + 1, none⟩ (.int .i64 c.rights)).setCell ⟨S.r e, i * 6 + 2, none⟩ (.int .i64 c.lo)).setCell ⟨S.r e, i * 6 + 3, none⟩ (.int .i64 c.n)).setCell ⟨S.r e, i * 6 + 4, none⟩ (.int .i64 c.root.1)).setCell ⟨S.r e, i * 6 + 5, none⟩ (.int .i64 c.root.2)).drew :=
  (((((((Keep.refl (· = S.r e) w1).setCell _ _ (fun _ => rfl)).setCell _ _ (fun _ => rfl)).setCell _ _ (fun _ => rfl)).setCell _ _ (fun _ => rfl)).setCell _ _ (fun _ => rfl)).setCell _ _ (fun _ => rfl)).drew
 have hb6 := ((((((hbe.setCell (i * 6) (.int .i64 c.obj)).setCell (i * 6 + 1) (.int .i64 c.rights)).setCell (i * 6 + 2) (.int .i64 c.lo)).setCell (i * 6 + 3) (.int .i64 c.n)).setCell (i * 6 + 4) (.int .i64 c.root.1)).setCell (i * 6 + 5) (.int .i64 c.root.2)).drew
 rw [crow_set hx ⟨x.gen, true, c⟩] at hb6
 generalize ((((((w1.setCell ⟨S.r e, i * 6, none⟩ (.int .i64 c.obj)).setCell ⟨S.r e, i * 6 + 1, none⟩ (.int .i64 c.rights)).setCell ⟨S.r e, i * 6 + 2, none⟩ (.int .i64 c.lo)).setCell ⟨S.r e, i * 6 + 3, none⟩ (.int .i64 c.n)).setCell ⟨S.r e, i * 6 + 4, none⟩ (.int .i64 c.root.1)).setCell ⟨S.r e, i * 6 + 5, none⟩ (.int .i64 c.root.2)).drew = V at *
 have vb : ∀ {b : Nat} {t : TypeId} {cs : List Value}, Blk w1 b t cs → t ≠ 255 → Blk V b t cs := fun hb ht => hb.keep k3 (hb.ne_ hbe ht)
 have vv : ∀ {t sz n cap : Nat} {A : Option Addr} {xs : List Value}, Vec w1 t sz A n cap xs → t ≠ 255 → Vec V t sz A n cap xs := fun hv ht => hv.keep k3 (fun b hb e2 => by
  obtain ⟨cur, hc⟩ := hv.blk hb
  exact hc.ne_ hbe ht e2)
 have fin : eD V { S with T := up S.T e i ⟨x.gen, true, c⟩ } := by
  refine ⟨vb o2 (by decide), vv n2 (by decide), vv cr2 (by decide), fun j hj => ?_, fun j hj => ?_, hS.ainj, hS.rinj, fun j hj => by rw [up_len]; exact hS.t32 j hj, hS.n40⟩
  ·by_cases hje : j = e
   ·subst hje
    have e3 : List.map nq (up S.T j i ⟨x.gen, true, c⟩ j) = ((List.map nq (S.T j)).set i ⟨x.gen, true, []⟩) := by
     unfold up
     rw [if_pos rfl, List.map_set]
     rfl
    dsimp only
    rw [e3]
    exact ⟨vb hN1.obj (by decide), vv hN1.row (by decide), hN1.pl⟩
   ·have e3 : up S.T e i ⟨x.gen, true, c⟩ j = S.T j := by unfold up; rw [if_neg hje]
    dsimp only
    rw [e3]
    have := nm2 j hj hje
    exact ⟨vb this.obj (by decide), vv this.row (by decide), this.pl⟩
  ·by_cases hje : j = e
   ·subst hje
    have e3 : up S.T j i ⟨x.gen, true, c⟩ j = (S.T j).set i ⟨x.gen, true, c⟩ := by unfold up; rw [if_pos rfl]
    dsimp only
    rw [e3]
    exact hb6
   ·have e3 : up S.T e i ⟨x.gen, true, c⟩ j = S.T j := by unfold up; rw [if_neg hje]
    dsimp only
    rw [e3]
    exact (cp2 j hj).keep k3 (fun e2 => hje (hS.rinj j e hj he e2))
 have kk : Keep (AddM S e) w V := ((HK.out.mono (fun _ _ f => f.elim)).trans k2 (fun _ _ m => Or.inl m)).trans k3 (fun _ _ m => Or.inr m)
 have FF := aa (And.intro fin kk)
 clear fin kk k3 hb6 vb vv o2 n2 cr2 cp2 nm2 hN1 k2 hs2 hbe hlt hS hx
 go_wp2
 go_ret2
 exact ⟨rfl, FF.out.1, FF.out.2⟩
theorem put_is (h : eD w S) (e : Nat) (he : e < S.n) (c : Cp) (h1 : 0 ≤ c.rights ∧ c.rights ≤ 7) (h2 : 0 ≤ c.lo ∧ c.lo ≤ 65536) (h3 : 0 ≤ c.n ∧ c.n ≤ 65536) (i : Nat) (x : Q) (hx : (S.T e)[i]? = some x) (hf : (nq x).free = true) (hb : ∀ (j : Nat) (y : Q), j < i → (S.T e)[j]? = some y → (nq y).free = false) :
  Calls Tryz.prog 167 #[.pointer (some ⟨S.s, 0, none⟩), .int .i64 e, dG c] w fun e' w' => e' = .returned (.tuple #[.int .i64 (i + 256 * (x.gen : Int)), .int .i64 0]) ∧ eD w' { S with T := up S.T e i ⟨x.gen, true, ⟨c.obj, c.rights, c.lo, c.n, (0, 0)⟩⟩ } ∧ Keep (AddM S e) w w' := by
 have hadd := fun W (k : Keep Nob w W) => add_is (h.nob k) e he ⟨c.obj, c.rights, c.lo, c.n, (0, 0)⟩ i x hx hf hb
 have henv := fun W (k : Keep Nob w W) => env_is (h.nob k) e true (by simp [he])
 obtain ⟨a1, a2⟩ := h1
 obtain ⟨a3, a4⟩ := h2
 obtain ⟨a5, a6⟩ := h3
 unfold dG at hadd ⊢
 clear h hx hf hb
 dsimp only at hadd
 generalize c.obj = co at *
 generalize c.rights = cr at *
 generalize c.lo = cl at *
 generalize c.n = cn at *
 generalize c.root.1 = c4 at *
 generalize c.root.2 = c5 at *
 go_enter Tryz.func167, Tryz.ntmps167
 go_wp2_with fail
 refine (henv _ ((Keep.refl Nob w).alloc _)).mono ?_; rintro e' w1 ⟨rfl, rfl⟩
 go_wp2_with fail
 refine (hadd _ ((Keep.refl Nob w).alloc _)).mono ?_; rintro e' w2 ⟨rfl, h2, k2⟩
 have kk : Keep (AddM S e) w w2 := (((Keep.refl Nob w).alloc _).mono (fun _ _ f => f.elim)).trans k2 (fun _ _ m => m)
 clear hadd henv k2
 go_wp2
 go_ret2
 exact ⟨rfl, h2, kk⟩
theorem alC (W : World) : (Instr.alloc 255 true (.tuple #[])).run Tryz.prog W = .ok (.pointer (some ⟨W.heap.size, 0, none⟩)) (W.alloc (.cells cX.cells.toArray 255)) := by
 go_simp
 rfl
theorem infoC_ : (Tryz.prog.info? 255).map (·.size) = some 6 := by kernel_rfl
theorem eb : Co.cS 255 6 cX.cells := ⟨⟨_, Tryz.underlying255, rfl⟩, infoC_, alC, rfl⟩
theorem dC (c : Cp) : Co.cE 6 c.cells := ⟨rfl, by intro v hv; simp [Cp.cells] at hv; rcases hv with rfl | rfl | rfl | rfl | rfl | rfl <;> rfl⟩
theorem get_yes (h : eD w S) {a b : Int} (c : Cp) (hc : Has S.T S.n (a, b) c) :
  Calls Tryz.prog 187 #[.pointer (some ⟨S.s, 0, none⟩), .int .i64 a, .int .i64 b] w fun e' w' => e' = .returned (.tuple #[dG c, .int .i64 0]) ∧ Keep Nob w w' := by
 obtain ⟨e, i, x, hab, he, hx, hon, rfl⟩ := hc
 simp only [Prod.mk.injEq] at hab
 obtain ⟨rfl, hb⟩ := hab
 have hi : i < 32 := by have := aP hx; rw [h.t32 e he] at this; exact this
 have hx' : ((S.T e).map nq)[i]? = some (nq x) := by rw [List.getElem?_map, hx]; rfl
 have hgen := (h.nm e he).pl.gen (nq x) (bE hx')
 have hgen : x.gen ≤ 1000001 := hgen
 have henv := fun W (k : Keep Nob w W) => env_is (h.nob k) e true (by simp [he])
 have hhas := fun W (k : Keep Nob w W) => Ref.has_yes (a := b) ((h.nm e he).nob k) hx' hon hb
 have hmod : b % 256 = i := by omega
 have hn40 := h.n40
 have H := aa h
 have sf := aa (fun W (k : Keep Nob w W) => And.intro ((h.nob k).obj.cell 0) (And.intro ((h.nob k).obj.cell 1) (And.intro (gY (h.nob k).nrow he) (And.intro (gY (h.nob k).cr he) (fun j (hj : j < 6) => (show W.cell? ⟨S.r e, i * 6 + j, none⟩ = x.c.cells[j]? from by rw [((h.nob k).cp e he).cell, crow_get hx hj]))))))
 clear h hx hx' hgen hon hb
 go_enter Tryz.func187, Tryz.ntmps187
 go_wp2_with (refine eb.wpList_al rfl rfl ?_; intro w1 hb1 hk1 hs1; clear hs1)
 refine (henv _ hk1).mono ?_; rintro e' w2 ⟨rfl, rfl⟩
 obtain ⟨c0, c1, ⟨gn, hgn, pn⟩, ⟨gc, hgc, pc⟩, rc⟩ := sf.out _ hk1
 simp only [List.getElem?_cons_zero, List.getElem?_cons_succ] at c0 c1
 rw [hgn] at c0
 rw [hgc] at c1
 have y0 := rc 0 (by decide)
 have y1 := rc 1 (by decide)
 have y2 := rc 2 (by decide)
 have y3 := rc 3 (by decide)
 have y4 := rc 4 (by decide)
 have y5 := rc 5 (by decide)
 simp only [Cp.cells, Nat.add_zero, List.getElem?_cons_zero, List.getElem?_cons_succ] at y0 y1 y2 y3 y4 y5
 clear rc henv hgn hgc
 go_wp2_with fail
 refine (hhas _ hk1).mono ?_; rintro e' w2 ⟨rfl, rfl⟩
 clear hhas
 go_wp2_with (refine eb.wpList_st rfl rfl rfl rfl (dC x.c) (dC cX) hb1 ?_; intro w3 hb3 hk3 hs3; clear hs3)
 refine bodyPost_ret (v := .tuple #[.agg x.c.cells.toArray, .int .i64 0]) (eb.results_pair rfl _ (dC x.c) rfl hb3 _ rfl) rfl ?_
 exact ⟨rfl, hk1.trans hk3 (fun b hb e2 => by have e2 : b = w.heap.size := e2; omega)⟩
theorem get_no (h : eD w S) {a b : Int} (hno : ∀ c, ¬ Has S.T S.n (a, b) c) :
  Calls Tryz.prog 187 #[.pointer (some ⟨S.s, 0, none⟩), .int .i64 a, .int .i64 b] w fun e' w' => e' = .returned (.tuple #[dG cX, .int .i64 2]) ∧ Keep Nob w w' := by
 by_cases hin : 0 ≤ a ∧ a < S.n
 ·obtain ⟨e, he0⟩ := Int.eq_ofNat_of_zero_le hin.1
  subst he0
  have he : e < S.n := by omega
  have henv := fun W (k : Keep Nob w W) => env_is (h.nob k) e true (by simp [he])
  have hhas := fun W (k : Keep Nob w W) => Ref.has_no (a := b) ((h.nm e he).nob k) (fun i q hq hon hb => by
   rw [List.getElem?_map] at hq
   obtain ⟨x, hx, rfl⟩ := Option.map_eq_some_iff.1 hq
   exact hno x.c ⟨e, i, x, by rw [hb]; rfl, he, hx, hon, rfl⟩)
  have hn40 := h.n40
  have sf := aa (fun W (k : Keep Nob w W) => And.intro ((h.nob k).obj.cell 0) (gY (h.nob k).nrow he))
  clear h hno hin
  go_enter Tryz.func187, Tryz.ntmps187
  go_wp2_with (refine eb.wpList_al rfl rfl ?_; intro w1 hb1 hk1 hs1; clear hs1)
  refine (henv _ hk1).mono ?_; rintro e' w2 ⟨rfl, rfl⟩
  obtain ⟨c0, gn, hgn, pn⟩ := sf.out _ hk1
  simp only [List.getElem?_cons_zero, List.getElem?_cons_succ] at c0
  rw [hgn] at c0
  clear henv hgn
  go_wp2_with fail
  refine (hhas _ hk1).mono ?_; rintro e' w2 ⟨rfl, rfl⟩
  clear hhas
  go_wp2_with (refine eb.wpList_st rfl rfl rfl rfl (dC cX) (dC cX) hb1 ?_; intro w3 hb3 hk3 hs3; clear hs3)
  refine bodyPost_ret (v := .tuple #[.agg cX.cells.toArray, .int .i64 2]) (eb.results_pair rfl _ (dC cX) rfl hb3 _ rfl) rfl ?_
  exact ⟨rfl, hk1.trans hk3 (fun b hb e2 => by have e2 : b = w.heap.size := e2; omega)⟩
 ·have henv := fun W (k : Keep Nob w W) => env_is (h.nob k) a false (by
   rw [Bool.eq_false_iff]
   intro hh
   simp at hh
   exact hin hh)
  clear h hno hin
  go_enter Tryz.func187, Tryz.ntmps187
  go_wp2_with (refine eb.wpList_al rfl rfl ?_; intro w1 hb1 hk1 hs1; clear hs1)
  refine (henv _ hk1).mono ?_; rintro e' w2 ⟨rfl, rfl⟩
  go_wp2_with (refine eb.wpList_st rfl rfl rfl rfl (dC cX) (dC cX) hb1 ?_; intro w3 hb3 hk3 hs3; clear hs3)
  refine bodyPost_ret (v := .tuple #[.agg cX.cells.toArray, .int .i64 2]) (eb.results_pair rfl _ (dC cX) rfl hb3 _ rfl) rfl ?_
  exact ⟨rfl, hk1.trans hk3 (fun b hb e2 => by have e2 : b = w.heap.size := e2; omega)⟩
end
end Go.Proofs.YtgcikpgcoemfnaaGreat.Dk
namespace Go.Proofs.YtgcikpgcoemfnaaGreat.Pn
open Go.RowKit
theorem names_nq (l : List Cp) (hl : l.length ≤ 32) : names ((el l).map Dk.nq) (el l).length = mk l.length fun i => (i : Int) + 256 := by
 rw [kh hl, jA (fun _ => ⟨rfl, rfl⟩) l hl 32 (Nat.le_refl _), Nat.min_eq_right hl]
end Go.Proofs.YtgcikpgcoemfnaaGreat.Pn
namespace Go.Proofs.YtgcikpgcoemfnaaGreat.Dk
open Go.RowKit
theorem infopN : (Tryz.prog.info? 284).map (fun i => (i.zero, i.size, i.bytes)) = some (some (.pointer none), 1, 8) := by kernel_rfl
theorem infosC : (Tryz.prog.info? 362).map (fun i => (i.zero, i.size, i.bytes)) = some (some (.slice none 0 0), 1, 24) := by kernel_rfl
theorem infoCap : (Tryz.prog.info? 255).map (fun i => (i.zero, i.size, i.bytes)) = some (some (.agg cX.cells.toArray), 6, 48) := by kernel_rfl
def upn {α : Type} (f : Nat → α) (k : Nat) (x : α) : Nat → α := fun i => if i = k then x else f i
theorem cV {α : Type} {f : Nat → α} {k : Nat} {x : α} {i : Nat} (h : i < k) : upn f k x i = f i := by unfold upn; rw [if_neg (by omega)]
theorem bF {α : Type} {f : Nat → α} {k : Nat} {x : α} : upn f k x k = x := by unfold upn; rw [if_pos rfl]
theorem mk_upn {f g : Nat → Value} {k : Nat} (h : ∀ i, i < k → g i = f i) (x : Value) (hx : g k = x) : mk k f ++ [x] = mk (k + 1) g := by
 rw [← dE, hx, gu h]
structure fc (w wx : World) (s : Nat) (AN : Option Addr) (cN : Nat) (AC : Option Addr) (cC : Nat) (q : Nat → Nat) (A : Nat → Option Addr) (ca r : Nat → Nat) (a b : Nat) : Prop where
 obj : Blk wx s 288 [.slice AN a cN, .slice AC b cC]
 nrow : Vec wx 284 1 AN a cN (mk a fun i => .pointer (some ⟨q i, 0, none⟩))
 cr : Vec wx 362 1 AC b cC (mk b fun i => .slice (some ⟨r i, 0, none⟩) 32 32)
 nm : ∀ i, i < a → Ref.IsNames wx (q i) (A i) (ca i) (List.replicate 32 ⟨1, false, []⟩)
 cp : ∀ i, i < b → Blk wx (r i) 255 (crow (dU i))
 ainj : ∀ i j, i < a → j < a → i ≠ j → ∀ x, Own (A i) x → ¬ Own (A j) x
 rinj : ∀ i j, i < b → j < b → r i = r j → i = j
 ls : w.heap.size ≤ s
 ln : ∀ x, Own AN x → w.heap.size ≤ x
 lc : ∀ x, Own AC x → w.heap.size ≤ x
 lq : ∀ i, i < a → w.heap.size ≤ q i ∧ ∀ x, Own (A i) x → w.heap.size ≤ x
 lr : ∀ i, i < b → w.heap.size ≤ r i
 keep : Keep Nob w wx
section
variable {w wx W w2 : World} {s : Nat} {AN : Option Addr} {cN : Nat} {AC : Option Addr} {cC : Nat} {q : Nat → Nat} {A : Nat → Option Addr} {ca r : Nat → Nat} {a b : Nat}
theorem fc.nob (h : fc w wx s AN cN AC cC q A ca r a b) (k : Keep Nob wx W) : fc w W s AN cN AC cC q A ca r a b :=
 ⟨h.obj.nob k, h.nrow.nob k, h.cr.nob k, fun i hi => (h.nm i hi).nob k, fun i hi => (h.cp i hi).nob k, h.ainj, h.rinj, h.ls, h.ln, h.lc, h.lq, h.lr, h.keep.nobt k⟩
theorem fc.name (h : fc w wx s AN cN AC cC q A ca r a b) (k : Keep Nob wx W) {q' : Nat} {A' : Option Addr} {ca' : Nat} (hn : Ref.IsNames W q' A' ca' (List.replicate 32 ⟨1, false, []⟩)) (hq : wx.heap.size ≤ q') (hA : ∀ x, Own A' x → wx.heap.size ≤ x)
  {A2 : Option Addr} {c2 : Nat} (hv : Vec w2 284 1 A2 (a + 1) c2 (YtgcikpgcoemfnaaGreat.mk a (fun i => .pointer (some ⟨q i, 0, none⟩)) ++ [.pointer (some ⟨q', 0, none⟩)])) (hk : Keep (Own AN) W w2) (ho : ∀ x, Own A2 x → Own AN x ∨ x = W.heap.size) :
  fc w (w2.setCell ⟨s, 0, none⟩ (.slice A2 (a + 1) c2)) s A2 c2 AC cC (upn q a q') (upn A a A') (upn ca a ca') r (a + 1) b := by
 have hW := h.nob k
 have offN : ∀ {x : Nat} {t : TypeId} {cs : List Value}, Blk W x t cs → t ≠ 284 → ¬ Own AN x := fun hb ht ho => by
  obtain ⟨cur, hc⟩ := hW.nrow.blk ho
  exact hb.ne_ hc ht rfl
 have o2 := hW.obj.keep hk (offN hW.obj (by decide))
 have k3 : Keep (· = s) w2 (w2.setCell ⟨s, 0, none⟩ (.slice A2 (a + 1) c2)) := (Keep.refl _ _).setCell _ _ (fun _ => rfl)
 have vb : ∀ {x : Nat} {t : TypeId} {cs : List Value}, Blk W x t cs → t ≠ 284 → t ≠ 288 → Blk (w2.setCell ⟨s, 0, none⟩ (.slice A2 (a + 1) c2)) x t cs := fun hb h1 h2 => by
  have b2 := hb.keep hk (offN hb h1)
  exact b2.keep k3 (b2.ne_ o2 h2)
 have vv : ∀ {t sz n cap : Nat} {B : Option Addr} {xs : List Value}, Vec W t sz B n cap xs → t ≠ 284 → t ≠ 288 → Vec (w2.setCell ⟨s, 0, none⟩ (.slice A2 (a + 1) c2)) t sz B n cap xs := fun hv h1 h2 => by
  have v2 := hv.keep hk (fun x hx => by obtain ⟨cur, hc⟩ := hv.blk hx; exact offN hc h1)
  exact v2.keep k3 (fun x hx e => by obtain ⟨cur, hc⟩ := v2.blk hx; exact hc.ne_ o2 h2 e)
 have hs := h.keep.size
 have kw := k.size
 refine ⟨?_, ?_, vv hW.cr (by decide) (by decide), fun i hi => ?_, fun i hi => vb (hW.cp i hi) (by decide) (by decide), fun i j hi hj hij x hx hy => ?_, h.rinj, h.ls, fun x hx => ?_, h.lc, fun i hi => ?_, h.lr, ?_⟩
 ·exact o2.setCell 0 _
 ·rw [mk_upn (g := fun i => .pointer (some ⟨upn q a q' i, 0, none⟩)) (fun i hi => by rw [cV hi]) _ (by rw [bF])] at hv
  exact hv.keep k3 (fun x hx e => by obtain ⟨cur, hc⟩ := hv.blk hx; exact hc.ne_ o2 (by decide) e)
 ·by_cases e : i = a
  ·subst e
   rw [bF, bF, bF]
   exact ⟨vb hn.obj (by decide) (by decide), vv hn.row (by decide) (by decide), hn.pl⟩
  ·rw [cV (by omega), cV (by omega), cV (by omega)]
   have := hW.nm i (by omega)
   exact ⟨vb this.obj (by decide) (by decide), vv this.row (by decide) (by decide), this.pl⟩
 ·by_cases e1 : i = a <;> by_cases e2 : j = a
  ·omega
  ·subst e1
   rw [bF] at hx
   rw [cV (by omega)] at hy
   have := (h.nm j (by omega)).row.lt x hy
   have := hA x hx
   omega
  ·subst e2
   rw [bF] at hy
   rw [cV (by omega)] at hx
   have := (h.nm i (by omega)).row.lt x hx
   have := hA x hy
   omega
  ·rw [cV (by omega)] at hx hy
   exact h.ainj i j (by omega) (by omega) hij x hx hy
 ·rcases ho x hx with hx | hx
  ·exact h.ln x hx
  ·omega
 ·by_cases e : i = a
  ·subst e
   rw [bF, bF]
   exact ⟨by omega, fun x hx => by have := hA x hx; omega⟩
  ·rw [cV (by omega), cV (by omega)]
   exact h.lq i (by omega)
 ·exact (hW.keep.trans hk (fun x hx m => by have := h.ln x m; omega)).trans k3 (fun x hx e => by have e : x = s := e; have := h.ls; omega)
theorem fc.caps (h : fc w wx s AN cN AC cC q A ca r a b) (k : Keep Nob wx W) {r' : Nat} (hn : Blk W r' 255 (crow (dU b))) (hq : wx.heap.size ≤ r')
  {A2 : Option Addr} {c2 : Nat} (hv : Vec w2 362 1 A2 (b + 1) c2 (YtgcikpgcoemfnaaGreat.mk b (fun i => .slice (some ⟨r i, 0, none⟩) 32 32) ++ [.slice (some ⟨r', 0, none⟩) 32 32])) (hk : Keep (Own AC) W w2) (ho : ∀ x, Own A2 x → Own AC x ∨ x = W.heap.size) :
  fc w (w2.setCell ⟨s, 1, none⟩ (.slice A2 (b + 1) c2)) s AN cN A2 c2 q A ca (upn r b r') a (b + 1) := by
 have hW := h.nob k
 have offN : ∀ {x : Nat} {t : TypeId} {cs : List Value}, Blk W x t cs → t ≠ 362 → ¬ Own AC x := fun hb ht ho => by
  obtain ⟨cur, hc⟩ := hW.cr.blk ho
  exact hb.ne_ hc ht rfl
 have o2 := hW.obj.keep hk (offN hW.obj (by decide))
 have k3 : Keep (· = s) w2 (w2.setCell ⟨s, 1, none⟩ (.slice A2 (b + 1) c2)) := (Keep.refl _ _).setCell _ _ (fun _ => rfl)
 have vb : ∀ {x : Nat} {t : TypeId} {cs : List Value}, Blk W x t cs → t ≠ 362 → t ≠ 288 → Blk (w2.setCell ⟨s, 1, none⟩ (.slice A2 (b + 1) c2)) x t cs := fun hb h1 h2 => by
  have b2 := hb.keep hk (offN hb h1)
  exact b2.keep k3 (b2.ne_ o2 h2)
 have vv : ∀ {t sz n cap : Nat} {B : Option Addr} {xs : List Value}, Vec W t sz B n cap xs → t ≠ 362 → t ≠ 288 → Vec (w2.setCell ⟨s, 1, none⟩ (.slice A2 (b + 1) c2)) t sz B n cap xs := fun hv h1 h2 => by
  have v2 := hv.keep hk (fun x hx => by obtain ⟨cur, hc⟩ := hv.blk hx; exact offN hc h1)
  exact v2.keep k3 (fun x hx e => by obtain ⟨cur, hc⟩ := v2.blk hx; exact hc.ne_ o2 h2 e)
 have hs := h.keep.size
 have kw := k.size
 refine ⟨?_, vv hW.nrow (by decide) (by decide), ?_, fun i hi => ⟨vb (hW.nm i hi).obj (by decide) (by decide), vv (hW.nm i hi).row (by decide) (by decide), (hW.nm i hi).pl⟩, fun i hi => ?_, h.ainj, fun i j hi hj e => ?_, h.ls, h.ln, fun x hx => ?_, h.lq, fun i hi => ?_, ?_⟩
 ·exact o2.setCell 1 _
 ·rw [mk_upn (g := fun i => .slice (some ⟨upn r b r' i, 0, none⟩) 32 32) (fun i hi => by rw [cV hi]) _ (by rw [bF])] at hv
  exact hv.keep k3 (fun x hx e => by obtain ⟨cur, hc⟩ := hv.blk hx; exact hc.ne_ o2 (by decide) e)
 ·by_cases e : i = b
  ·subst e
   rw [bF]
   exact vb hn (by decide) (by decide)
  ·rw [cV (by omega)]
   exact vb (hW.cp i (by omega)) (by decide) (by decide)
 ·by_cases e1 : i = b <;> by_cases e2 : j = b
  ·omega
  ·subst e1
   rw [bF, cV (by omega)] at e
   have := (h.cp j (by omega)).lt
   omega
  ·subst e2
   rw [bF, cV (by omega)] at e
   have := (h.cp i (by omega)).lt
   omega
  ·rw [cV (by omega), cV (by omega)] at e
   exact h.rinj i j (by omega) (by omega) e
 ·rcases ho x hx with hx | hx
  ·exact h.lc x hx
  ·omega
 ·by_cases e : i = b
  ·subst e
   rw [bF]
   omega
  ·rw [cV (by omega)]
   exact h.lr i (by omega)
 ·exact (hW.keep.trans hk (fun x hx m => by have := h.lc x m; omega)).trans k3 (fun x hx e => by have e : x = s := e; have := h.ls; omega)
theorem fc.done {n : Nat} (h : fc w wx s AN cN AC cC q A ca r n n) (hn : n ≤ 40) : eD wx ⟨s, n, AN, cN, AC, cC, q, A, ca, r, dU⟩ :=
 ⟨h.obj, h.nrow, h.cr, fun i hi => by
  have := h.nm i hi
  have e : (dU i).map nq = List.replicate 32 ⟨1, false, []⟩ := by simp [dU, nq]
  dsimp only
  rw [e]
  exact this, h.cp, h.ainj, h.rinj, fun i _ => by simp [dU], hn⟩
end
def MadeS (n : Nat) (w : World) (e : Ending) (w' : World) : Prop := ∃ S, e = .returned (.pointer (some ⟨S.s, 0, none⟩)) ∧ eD w' S ∧ S.n = n ∧ S.T = dU ∧ (∀ b, S.Mine b → w.heap.size ≤ b) ∧ Keep Nob w w'
theorem init_cells : ∃ Z : Array Value, Z.toList = crow (dU 0) ∧ ∀ W : World, (Instr.makeSlice 362 (.int .i64 32) (.int .i64 32)).run Tryz.prog W = .ok (.slice (some ⟨W.heap.size, 0, none⟩) 32 32) (W.alloc (.cells Z 255)) := by
 obtain ⟨i, hi, hzz⟩ := Option.map_eq_some_iff.1 infoCap
 simp only [Prod.mk.injEq] at hzz
 obtain ⟨hz, hs, hby⟩ := hzz
 refine ⟨madeCells (Value.agg cX.cells.toArray).cells (32 * 6), ?_, fun W => ?_⟩
 ·have := gx (Value.agg cX.cells.toArray).cells 32
  have e : (Value.agg cX.cells.toArray).cells.size = 6 := by simp [Value.cells, cX, Cp.cells]
  rw [e] at this
  rw [this]
  simp [crow, dU, Value.cells, cX, Cp.cells]
 ·have hrun := run_make (P := Tryz.prog) W 362 255 i _ Tryz.underlying362 hi hz .i64 .i64 32 32 (by omega) (by omega) (by rw [hby]; omega) (by omega)
  rw [hs] at hrun
  exact hrun
theorem iQ (n : Nat) (hn : n ≤ 40) (w : World) : Calls Tryz.prog 163 #[.int .i64 n] w (MadeS n w) := by
 obtain ⟨Z, hZ, hmk⟩ := init_cells
 have hnn := fun W => Ref.new_is 32 32 (by decide) W
 have hst : fc w (w.alloc (.cells #[.slice none 0 0, .slice none 0 0] 288)) w.heap.size none 0 none 0 (fun _ => 0) (fun _ => none) (fun _ => 0) (fun _ => 0) 0 0 :=
  ⟨Blk.new w 288 [.slice none 0 0, .slice none 0 0], Vec.nil _ _ _, Vec.nil _ _ _, fun i hi => by omega, fun i hi => by omega, fun i j hi => by omega, fun i j hi => by omega, Nat.le_refl _, fun x ⟨ad, e, _⟩ => (by cases e), fun x ⟨ad, e, _⟩ => (by cases e), fun i hi => by omega, fun i hi => by omega, (Keep.refl Nob w).alloc _⟩
 have HS := aa hst
 clear hst
 go_enter Tryz.func163, Tryz.ntmps163
 go_wp2_with fail
 go_loopw [4] (fun s4 wx => ∃ (k : Nat) (AN : Option Addr) (cN : Nat) (AC : Option Addr) (cC : Nat) (q : Nat → Nat) (A : Nat → Option Addr) (ca r : Nat → Nat), k ≤ n ∧ s4 = .int .i64 k ∧ fc w wx w.heap.size AN cN AC cC q A ca r k k) (fun s4 _ => n - (intOf s4).toNat)
 case atStart => exact ⟨0, _, _, _, _, _, _, _, _, Nat.zero_le _, rfl, HS.out⟩
 case round =>
  obtain ⟨k, AN, cN, AC, cC, q, A, ca, r, hk, rfl, hP⟩ := hrel
  by_cases hlt : k < n
  ·have hk40 : (k : Int) < 40 := by omega
   have c0 := hP.obj.cell 0
   simp only [List.getElem?_cons_zero, List.getElem?_cons_succ] at c0
   have kd := (Keep.refl Nob wr).drew
   have q0 : wr.drew.cell? ⟨w.heap.size, 0, none⟩ = some (.slice AN k cN) := c0
   have HP := aa hP
   have sf := aa (fun W (kk : Keep Nob wr W) => (show W.cell? ⟨w.heap.size, 0, none⟩ = some (.slice AN k cN) from (hP.nob kk).obj.cell 0))
   clear hP
   go_wp2_with fail
   go_region_law (first
    | (go_simp; go_at_call 266; refine (hnn _).mono ?_; rintro e wa ⟨q', A', ca', rfl, hN, hq', hA', kN⟩; have ka := kd.trans kN (fun _ _ f => f); have q1 := sf.out _ ka; have kx := ka.alloc (.cells #[.pointer (some ⟨q', 0, none⟩)] 284); have q2 := sf.out _ kx; have hv1 := (HP.out.nob kx).nrow; have hr1 := aj (n := 1) (Blk.new wa 284 [.pointer (some ⟨q', 0, none⟩)]) rfl)
    | (refine Qu.fo (by rfl) _ _ 285 (by rfl) 284 1 8 (.pointer none) Tryz.underlying285 infopN (by rfl) (by decide) AN k cN _ (by rfl) hv1 (some ⟨wa.heap.size, 0, none⟩) 1 1 [.pointer (some ⟨q', 0, none⟩)] (by rfl) 1 (by rfl) hr1 (by simp [Value.oneCell']) (by unfold maxLen; omega) (by omega) ?_; intro A2 c2 w2 hv2 hk2 ho2; have o2 := ((HP.out.nob kx).obj).keep hk2 (fun ho => by obtain ⟨cur, hc⟩ := (HP.out.nob kx).nrow.blk ho; exact (HP.out.nob kx).obj.ne_ hc (by decide) rfl); have z0 := o2.cell 0; have f0 := o2.frozen 0; simp only [List.getElem?_cons_zero, List.getElem?_cons_succ] at z0))
   all_goals
    have P5 := HP.out.name kx (hN.nob ((Keep.refl Nob wa).alloc _)) hq' hA' hv2 hk2 ho2
    clear hv2 hk2 ho2 o2 z0 f0 hv1 hr1 q1 q2 q0 ka kx kN hN hq' hA' HP sf kd c0
    generalize w2.setCell ⟨w.heap.size, 0, none⟩ (.slice A2 (k + 1) c2) = W5 at *
    have kd := (Keep.refl Nob W5).drew
    have HP := aa P5
    have sf := aa (fun W (kk : Keep Nob W5 W) => (show W.cell? ⟨w.heap.size, 1, none⟩ = some (.slice AC k cC) from (P5.nob kk).obj.cell 1))
    have q0 := sf.out _ (Keep.refl Nob W5)
    have q1 := sf.out _ ((Keep.refl Nob W5).alloc (.cells Z 255))
    have q2 := sf.out _ (((Keep.refl Nob W5).alloc (.cells Z 255)).alloc (.cells #[.slice (some ⟨W5.heap.size, 0, none⟩) 32 32] 362))
    have kx : Keep Nob W5 ((W5.drew.alloc (.cells Z 255)).alloc (.cells #[.slice (some ⟨W5.heap.size, 0, none⟩) 32 32] 362)) := (kd.alloc _).alloc _
    have hv1 := (P5.nob kx).cr
    have hr1 : ae ((W5.drew.alloc (.cells Z 255)).alloc (.cells #[.slice (some ⟨W5.heap.size, 0, none⟩) 32 32] 362)) (some ⟨W5.heap.size + 1, 0, none⟩) 1 [.slice (some ⟨W5.heap.size, 0, none⟩) 32 32] := by
     have := aj (n := 1) (Blk.new (W5.drew.alloc (.cells Z 255)) 362 [.slice (some ⟨W5.heap.size, 0, none⟩) 32 32]) rfl
     simpa using this
    have hZb : Blk ((W5.drew.alloc (.cells Z 255)).alloc (.cells #[.slice (some ⟨W5.heap.size, 0, none⟩) 32 32] 362)) W5.heap.size 255 (crow (dU k)) := by
     have := (Blk.new W5.drew 255 Z.toList).alloc (.cells #[.slice (some ⟨W5.heap.size, 0, none⟩) 32 32] 362)
     rw [Array.toArray_toList, hZ] at this
     exact this
    have HZ := aa hZb
    clear P5 hZb
    go_wp2_with fail
    go_region_law ((refine Qu.fo (by rfl) _ _ 286 (by rfl) 362 1 24 (.slice none 0 0) Tryz.underlying286 infosC (by rfl) (by decide) AC k cC _ (by rfl) hv1 (some ⟨W5.heap.size + 1, 0, none⟩) 1 1 [.slice (some ⟨W5.heap.size, 0, none⟩) 32 32] (by rfl) 1 (by rfl) hr1 (by simp [Value.oneCell']) (by unfold maxLen; omega) (by omega) ?_; intro A3 c3 w3 hv3 hk3 ho3; have o3 := ((HP.out.nob kx).obj).keep hk3 (fun ho => by obtain ⟨cur, hc⟩ := (HP.out.nob kx).cr.blk ho; exact (HP.out.nob kx).obj.ne_ hc (by decide) rfl); have z1 := o3.cell 1; have f1 := o3.frozen 1; simp only [List.getElem?_cons_zero, List.getElem?_cons_succ] at z1))
    all_goals
     have P6 := aa (HP.out.caps kx HZ.out (Nat.le_refl _) hv3 hk3 ho3)
     clear hv3 hk3 ho3 o3 z1 f1 hv1 hr1 q0 q1 q2 kx HP sf kd HZ
     go_wp2
     go_roundw
     case rel => exact ⟨k + 1, _, _, _, _, _, _, _, _, by omega, by go_num, P6.out⟩
     case measure => simp [intOf]; omega
  ·have e : k = n := by omega
   have hD := hP.done (by omega)
   have HD := aa (show MadeS n w (.returned (.pointer (some ⟨w.heap.size, 0, none⟩))) wr from ⟨_, rfl, hD, e, rfl, (by
    rintro b (rfl | hb | hb | ⟨i, hi, rfl | hb | rfl⟩)
    ·exact hP.ls
    ·exact hP.ln b hb
    ·exact hP.lc b hb
    ·exact (hP.lq i hi).1
    ·exact (hP.lq i hi).2 b hb
    ·exact hP.lr i hi), hP.keep⟩)
   clear hP hD
   go_wp2
   go_ret
   exact HD.out
end Go.Proofs.YtgcikpgcoemfnaaGreat.Dk
namespace Go.Proofs.YtgcikpgcoemfnaaGreat.Dk
open Go.RowKit
structure Dr where
 r : Nat
 m : Nat
 xs : List UInt8
 Al : Option Addr
 cl : Nat
 An : Option Addr
 cn : Nat
 L : List Rf
 S : Ds
structure bL (w : World) (R : Dr) : Prop where
 obj : Blk w R.r 179 [.slice (some ⟨R.m, 0, none⟩) R.xs.length R.xs.length, .slice R.Al R.L.length R.cl, .slice R.An R.L.length R.cn, .pointer (some ⟨R.S.s, 0, none⟩)]
 mem : Blk w R.m 5 (bytes R.xs)
 lo : Vec w 3 1 R.Al R.L.length R.cl (ab (R.L.map (·.1)))
 nn : Vec w 3 1 R.An R.L.length R.cn (ab (R.L.map (·.2)))
 sp : eD w R.S
 inv : Inv R.S.T R.S.n
 ok : ∀ x ∈ R.L, 0 ≤ x.1 ∧ 0 ≤ x.2 ∧ x.1 + x.2 ≤ R.xs.length
 len : R.xs.length ≤ 16384
 few : R.L.length ≤ 32
 dis : ∀ x, Own R.Al x → ¬ Own R.An x
def Dr.Mine (R : Dr) : Nat → Prop := fun b => b = R.r ∨ b = R.m ∨ Own R.Al b ∨ Own R.An b ∨ R.S.Mine b
section
variable {w w' : World} {R : Dr} {M : Nat → Prop}
theorem bL.keep (h : bL w R) (k : Keep M w w') (hd : ∀ b, R.Mine b → ¬ M b) : bL w' R :=
 ⟨h.obj.keep k (hd _ (.inl rfl)), h.mem.keep k (hd _ (.inr (.inl rfl))), h.lo.keep k (fun g hg => hd _ (.inr (.inr (.inl hg)))), h.nn.keep k (fun g hg => hd _ (.inr (.inr (.inr (.inl hg))))), h.sp.keep k (fun b hb => hd _ (.inr (.inr (.inr (.inr hb))))), h.inv, h.ok, h.len, h.few, h.dis⟩
theorem bL.nob (h : bL w R) (k : Keep Nob w w') : bL w' R := h.keep k (fun _ _ f => f)
theorem bL.lt (h : bL w R) : ∀ b, R.Mine b → b < w.heap.size := by
 rintro b (rfl | rfl | hb | hb | hb)
 ·exact h.obj.lt
 ·exact h.mem.lt
 ·exact h.lo.lt b hb
 ·exact h.nn.lt b hb
 ·exact h.sp.lt b hb
theorem wq {w : World} {n : Nat} (v : Bool) (a k z : Int) (h0 : 0 ≤ z) (h1 : z ≤ 1000000) (hv : decide (0 ≤ a ∧ 0 ≤ k ∧ a + k ≤ z) = v) : Calls Tryz.prog 189 #[.int .i64 a, .int .i64 k, .int .i64 z] (w.drewN n) fun e w'' => e = .returned (.bool v) ∧ ∃ m, w'' = w.drewN m :=
 (Cd.jy v a k z _ h0 h1 hv).mono fun _ _ ⟨he, hm⟩ => ⟨he, n, hm.symm⟩
theorem wq2 {w : World} {n q : Nat} (v : Bool) (a k z : Int) (h0 : 0 ≤ z) (h1 : z ≤ 1000000) (hv : decide (0 ≤ a ∧ 0 ≤ k ∧ a + k ≤ z) = v) : Calls Tryz.prog 189 #[.int .i64 a, .int .i64 k, .int .i64 z] (w.drewN (n + q)) fun e w'' => e = .returned (.bool v) ∧ ∃ m, w'' = w.drewN (n + m) :=
 (Cd.jy v a k z _ h0 h1 hv).mono fun _ _ ⟨he, hm⟩ => ⟨he, q, hm.symm⟩
theorem lo_at {w : World} {A : Option Addr} {n c : Nat} {l : List Int} (h : Vec w 3 1 A n c (ab l)) {i : Nat} (hi : i < n) (v : Int) (hv : l[i]? = some v) : ∃ g, A = some ⟨g, 0, none⟩ ∧ w.cell? ⟨g, i, none⟩ = some (.int .i64 v) := by
 obtain ⟨g, cur, hA, hb, _, hc, ht⟩ := h.at_ (by omega)
 refine ⟨g, hA, ?_⟩
 rw [hb.cell]
 have e1 : (cur.take (n * 1))[i]? = (ab l)[i]? := by rw [ht]
 rw [List.getElem?_take, if_pos (by omega), bg, hv] at e1
 exact e1
theorem place_nocap (h : bL w R) {env name right at_ k : Int} (hn : ∀ c, ¬ Has R.S.T R.S.n (env, name) c) :
  Calls Tryz.prog 186 #[.pointer (some ⟨R.r, 0, none⟩), .int .i64 env, .int .i64 name, .int .i64 right, .int .i64 at_, .int .i64 k] w fun e w' => e = .returned (.tuple #[.int .i64 0, .int .i64 2]) ∧ Keep Nob w w' := by
 have ho : w.cell? ⟨R.r, 3, none⟩ = some (.pointer (some ⟨R.S.s, 0, none⟩)) := h.obj.cell 3
 go_enter Tryz.func186, Tryz.ntmps186
 go_wp2_with fail
 refine (get_no h.sp hn).mono ?_; rintro e w1 ⟨rfl, k1⟩
 unfold dG cX
 go_wp2
 go_ret2
 exact ⟨rfl, k1.alloc _⟩
theorem lG (h : bL w R) {env name right at_ k : Int} (c : Cp) (hc : Has R.S.T R.S.n (env, name) c) (hb : (bits .and .i64 c.rights right == 0) = true) :
  Calls Tryz.prog 186 #[.pointer (some ⟨R.r, 0, none⟩), .int .i64 env, .int .i64 name, .int .i64 right, .int .i64 at_, .int .i64 k] w fun e w' => e = .returned (.tuple #[.int .i64 0, .int .i64 3]) ∧ Keep Nob w w' := by
 have ho : w.cell? ⟨R.r, 3, none⟩ = some (.pointer (some ⟨R.S.s, 0, none⟩)) := h.obj.cell 3
 go_enter Tryz.func186, Tryz.ntmps186
 go_wp2_with fail
 refine (get_yes h.sp c hc).mono ?_; rintro e w1 ⟨rfl, k1⟩
 unfold dG
 go_wp2
 go_ret2
 exact ⟨rfl, k1.alloc _⟩
end
end Go.Proofs.YtgcikpgcoemfnaaGreat.Dk
namespace Go.Proofs.YtgcikpgcoemfnaaGreat.Dk
open Go.RowKit
section
variable {w w' : World} {R : Dr}
theorem place_far (h : bL w R) {env name right at_ k : Int} (c : Cp) (hc : Has R.S.T R.S.n (env, name) c) (hb : (bits .and .i64 c.rights right == 0) = false) (hpart : ¬ (0 ≤ at_ ∧ 0 ≤ k ∧ at_ + k ≤ c.n)) :
  Calls Tryz.prog 186 #[.pointer (some ⟨R.r, 0, none⟩), .int .i64 env, .int .i64 name, .int .i64 right, .int .i64 at_, .int .i64 k] w fun e w' => e = .returned (.tuple #[.int .i64 0, .int .i64 1]) ∧ Keep Nob w w' := by
 have ho : w.cell? ⟨R.r, 3, none⟩ = some (.pointer (some ⟨R.S.s, 0, none⟩)) := h.obj.cell 3
 have hcc := h.inv.cap _ _ hc
 go_enter Tryz.func186, Tryz.ntmps186
 go_wp2_with fail
 refine (get_yes h.sp c hc).mono ?_; rintro e w1 ⟨rfl, k1⟩
 unfold dG
 have kA := k1.alloc (.cells #[.int .i64 c.obj, .int .i64 c.rights, .int .i64 c.lo, .int .i64 c.n, .int .i64 c.root.1, .int .i64 c.root.2] 255)
 have hA := h.nob kA
 have d1 : (w1.alloc (.cells #[.int .i64 c.obj, .int .i64 c.rights, .int .i64 c.lo, .int .i64 c.n, .int .i64 c.root.1, .int .i64 c.root.2] 255)).cell? ⟨R.r, 1, none⟩ = some (.slice R.Al R.L.length R.cl) := hA.obj.cell 1
 have d2 : (w1.alloc (.cells #[.int .i64 c.obj, .int .i64 c.rights, .int .i64 c.lo, .int .i64 c.n, .int .i64 c.root.1, .int .i64 c.root.2] 255)).cell? ⟨R.r, 2, none⟩ = some (.slice R.An R.L.length R.cn) := hA.obj.cell 2
 have hfew := h.few
 have hcn : 0 ≤ c.n ∧ c.n ≤ 131072 := by omega
 have hv0 : decide (0 ≤ at_ ∧ 0 ≤ k ∧ at_ + k ≤ c.n) = false := decide_eq_false hpart
 have HV0 := aa hv0
 have HKA := aa kA
 have hbC := Blk.new w1 255 [.int .i64 c.obj, .int .i64 c.rights, .int .i64 c.lo, .int .i64 c.n, .int .i64 c.root.1, .int .i64 c.root.2]
 have b3 := hbC.cell 3
 simp only [List.getElem?_cons_zero, List.getElem?_cons_succ] at b3
 clear hbC hpart hv0 hcc hc kA hA h k1 d2 d1
 generalize c.lo = clo at *
 generalize c.n = cn at *
 generalize c.rights = cr at *
 generalize c.root.1 = c4 at *
 generalize c.root.2 = c5 at *
 generalize c.obj = co at *
 go_wp2_with fail
 generalize hW : w1.alloc (.cells #[.int .i64 co, .int .i64 cr, .int .i64 clo, .int .i64 cn, .int .i64 c4, .int .i64 c5] 255) = W at *
 clear hW
 go_quiet (first | (go_at_call 189; exact wq false _ _ _ (by omega) (by omega) HV0.out))
 go_wp2
 go_ret2
 exact ⟨rfl, HKA.out.drewN _⟩
end
end Go.Proofs.YtgcikpgcoemfnaaGreat.Dk
namespace Go.Proofs.YtgcikpgcoemfnaaGreat.Dk
open Go.RowKit
section
variable {w w' : World} {R : Dr}
theorem place_obj (h : bL w R) {env name right at_ k : Int} (c : Cp) (hc : Has R.S.T R.S.n (env, name) c) (hb : (bits .and .i64 c.rights right == 0) = false) (hpart : 0 ≤ at_ ∧ 0 ≤ k ∧ at_ + k ≤ c.n) (hobj : ¬ (0 ≤ c.obj ∧ c.obj < R.L.length)) :
  Calls Tryz.prog 186 #[.pointer (some ⟨R.r, 0, none⟩), .int .i64 env, .int .i64 name, .int .i64 right, .int .i64 at_, .int .i64 k] w fun e w' => e = .returned (.tuple #[.int .i64 0, .int .i64 1]) ∧ Keep Nob w w' := by
 have ho : w.cell? ⟨R.r, 3, none⟩ = some (.pointer (some ⟨R.S.s, 0, none⟩)) := h.obj.cell 3
 have hcc := h.inv.cap _ _ hc
 go_enter Tryz.func186, Tryz.ntmps186
 go_wp2_with fail
 refine (get_yes h.sp c hc).mono ?_; rintro e w1 ⟨rfl, k1⟩
 unfold dG
 have kA := k1.alloc (.cells #[.int .i64 c.obj, .int .i64 c.rights, .int .i64 c.lo, .int .i64 c.n, .int .i64 c.root.1, .int .i64 c.root.2] 255)
 have hA := h.nob kA
 have d1 : (w1.alloc (.cells #[.int .i64 c.obj, .int .i64 c.rights, .int .i64 c.lo, .int .i64 c.n, .int .i64 c.root.1, .int .i64 c.root.2] 255)).cell? ⟨R.r, 1, none⟩ = some (.slice R.Al R.L.length R.cl) := hA.obj.cell 1
 have d2 : (w1.alloc (.cells #[.int .i64 c.obj, .int .i64 c.rights, .int .i64 c.lo, .int .i64 c.n, .int .i64 c.root.1, .int .i64 c.root.2] 255)).cell? ⟨R.r, 2, none⟩ = some (.slice R.An R.L.length R.cn) := hA.obj.cell 2
 have hfew := h.few
 have hobj' : c.obj < 0 ∨ (0 ≤ c.obj ∧ (R.L.length : Int) ≤ c.obj) := by omega
 obtain ⟨q1, q2, q3⟩ := hpart
 have hcn : 0 ≤ c.n ∧ c.n ≤ 131072 := by omega
 have HKA := aa kA
 have hbC := Blk.new w1 255 [.int .i64 c.obj, .int .i64 c.rights, .int .i64 c.lo, .int .i64 c.n, .int .i64 c.root.1, .int .i64 c.root.2]
 have b0 := hbC.cell 0
 have b3 := hbC.cell 3
 simp only [List.getElem?_cons_zero, List.getElem?_cons_succ] at b0 b3
 clear hbC hobj hcc hc kA hA h k1 d2
 generalize c.lo = clo at *
 generalize c.n = cn at *
 generalize c.rights = cr at *
 generalize c.root.1 = c4 at *
 generalize c.root.2 = c5 at *
 generalize c.obj = co at *
 go_wp2_with fail
 generalize hW : w1.alloc (.cells #[.int .i64 co, .int .i64 cr, .int .i64 clo, .int .i64 cn, .int .i64 c4, .int .i64 c5] 255) = W at *
 clear hW
 rcases hobj' with hlo | ⟨hlo, hhi⟩
 all_goals
  go_quiet (first | (go_at_call 189; exact wq true _ _ _ (by omega) (by omega) (by simp; omega)))
  go_wp2
  go_ret2
  exact ⟨rfl, HKA.out.drewN _⟩
end
end Go.Proofs.YtgcikpgcoemfnaaGreat.Dk
namespace Go.Proofs.YtgcikpgcoemfnaaGreat.Dk
open Go.RowKit
section
variable {w w' : World} {R : Dr}
theorem place_lo (h : bL w R) {env name right at_ k : Int} (c : Cp) (hc : Has R.S.T R.S.n (env, name) c) (hb : (bits .and .i64 c.rights right == 0) = false) (hpart : 0 ≤ at_ ∧ 0 ≤ k ∧ at_ + k ≤ c.n) (hobj : 0 ≤ c.obj ∧ c.obj < R.L.length) (x : Rf) (hx : R.L[c.obj.toNat]? = some x) (hv1 : decide (0 ≤ c.lo ∧ 0 ≤ at_ ∧ c.lo + at_ ≤ x.2) = false) :
  Calls Tryz.prog 186 #[.pointer (some ⟨R.r, 0, none⟩), .int .i64 env, .int .i64 name, .int .i64 right, .int .i64 at_, .int .i64 k] w fun e w' => e = .returned (.tuple #[.int .i64 0, .int .i64 1]) ∧ Keep Nob w w' := by
 have ho : w.cell? ⟨R.r, 3, none⟩ = some (.pointer (some ⟨R.S.s, 0, none⟩)) := h.obj.cell 3
 have hcc := h.inv.cap _ _ hc
 go_enter Tryz.func186, Tryz.ntmps186
 go_wp2_with fail
 refine (get_yes h.sp c hc).mono ?_; rintro e w1 ⟨rfl, k1⟩
 unfold dG
 have kA := k1.alloc (.cells #[.int .i64 c.obj, .int .i64 c.rights, .int .i64 c.lo, .int .i64 c.n, .int .i64 c.root.1, .int .i64 c.root.2] 255)
 have hA := h.nob kA
 have d1 : (w1.alloc (.cells #[.int .i64 c.obj, .int .i64 c.rights, .int .i64 c.lo, .int .i64 c.n, .int .i64 c.root.1, .int .i64 c.root.2] 255)).cell? ⟨R.r, 1, none⟩ = some (.slice R.Al R.L.length R.cl) := hA.obj.cell 1
 have d2 : (w1.alloc (.cells #[.int .i64 c.obj, .int .i64 c.rights, .int .i64 c.lo, .int .i64 c.n, .int .i64 c.root.1, .int .i64 c.root.2] 255)).cell? ⟨R.r, 2, none⟩ = some (.slice R.An R.L.length R.cn) := hA.obj.cell 2
 have hfew := h.few
 obtain ⟨i, hi⟩ := Int.eq_ofNat_of_zero_le hobj.1
 have hil : i < R.L.length := by omega
 rw [hi, Int.toNat_natCast] at hx
 have hok := h.ok x (List.mem_of_getElem? hx)
 have hml := h.len
 obtain ⟨g, hg, e1⟩ := lo_at hA.nn hil x.2 (by rw [List.getElem?_map, hx]; rfl)
 rw [hg] at d2
 have HX := aa hok
 have HKA := aa kA
 obtain ⟨q1, q2, q3⟩ := hpart
 have hx2 : 0 ≤ x.2 ∧ x.2 ≤ 16384 := by omega
 have HC := aa hcc
 clear hok hc hobj hg kA hA h hx k1
 have hcn : 0 ≤ c.n ∧ c.n ≤ 131072 := by omega
 have hclo : 0 ≤ c.lo ∧ c.lo ≤ 131072 := by omega
 have hat : at_ ≤ 131072 := by omega
 clear hcc
 generalize c.lo = clo at *
 generalize c.n = cn at *
 generalize c.rights = cr at *
 generalize c.root.1 = c4 at *
 generalize c.root.2 = c5 at *
 generalize c.obj = co at *
 generalize x.2 = x2 at *
 subst hi
 have HV1 := aa hv1
 have hbC := Blk.new w1 255 [.int .i64 i, .int .i64 cr, .int .i64 clo, .int .i64 cn, .int .i64 c4, .int .i64 c5]
 have b0 := hbC.cell 0
 have b2 := hbC.cell 2
 have b3 := hbC.cell 3
 simp only [List.getElem?_cons_zero, List.getElem?_cons_succ] at b0 b2 b3
 clear hbC hv1
 go_wp2_with fail
 generalize hW : w1.alloc (.cells #[.int .i64 i, .int .i64 cr, .int .i64 clo, .int .i64 cn, .int .i64 c4, .int .i64 c5] 255) = W at *
 clear hW
 have hobj0 : (0 : Int) ≤ (i : Int) := by omega
 have hil' : (i : Int) < (R.L.length : Int) := by omega
 go_quiet (first | (go_at_call 189; exact wq true _ _ _ (by omega) (by omega) (by simp; omega)))
 go_wp2_with fail
 go_quiet (first | (go_at_call 189; exact wq2 false _ _ _ (by omega) (by omega) HV1.out))
 go_wp2
 go_ret2
 exact ⟨rfl, (HKA.out.drewN _).drewN _⟩
end
end Go.Proofs.YtgcikpgcoemfnaaGreat.Dk
namespace Go.Proofs.YtgcikpgcoemfnaaGreat.Dk
open Go.RowKit
section
variable {w w' : World} {R : Dr}
theorem place_hi (h : bL w R) {env name right at_ k : Int} (c : Cp) (hc : Has R.S.T R.S.n (env, name) c) (hb : (bits .and .i64 c.rights right == 0) = false) (hpart : 0 ≤ at_ ∧ 0 ≤ k ∧ at_ + k ≤ c.n) (hobj : 0 ≤ c.obj ∧ c.obj < R.L.length) (x : Rf) (hx : R.L[c.obj.toNat]? = some x) (hv1 : decide (0 ≤ c.lo ∧ 0 ≤ at_ ∧ c.lo + at_ ≤ x.2) = true) (hv2 : decide (0 ≤ c.lo + at_ ∧ 0 ≤ k ∧ c.lo + at_ + k ≤ x.2) = false) :
  Calls Tryz.prog 186 #[.pointer (some ⟨R.r, 0, none⟩), .int .i64 env, .int .i64 name, .int .i64 right, .int .i64 at_, .int .i64 k] w fun e w' => e = .returned (.tuple #[.int .i64 0, .int .i64 1]) ∧ Keep Nob w w' := by
 have ho : w.cell? ⟨R.r, 3, none⟩ = some (.pointer (some ⟨R.S.s, 0, none⟩)) := h.obj.cell 3
 have hcc := h.inv.cap _ _ hc
 go_enter Tryz.func186, Tryz.ntmps186
 go_wp2_with fail
 refine (get_yes h.sp c hc).mono ?_; rintro e w1 ⟨rfl, k1⟩
 unfold dG
 have kA := k1.alloc (.cells #[.int .i64 c.obj, .int .i64 c.rights, .int .i64 c.lo, .int .i64 c.n, .int .i64 c.root.1, .int .i64 c.root.2] 255)
 have hA := h.nob kA
 have d1 : (w1.alloc (.cells #[.int .i64 c.obj, .int .i64 c.rights, .int .i64 c.lo, .int .i64 c.n, .int .i64 c.root.1, .int .i64 c.root.2] 255)).cell? ⟨R.r, 1, none⟩ = some (.slice R.Al R.L.length R.cl) := hA.obj.cell 1
 have d2 : (w1.alloc (.cells #[.int .i64 c.obj, .int .i64 c.rights, .int .i64 c.lo, .int .i64 c.n, .int .i64 c.root.1, .int .i64 c.root.2] 255)).cell? ⟨R.r, 2, none⟩ = some (.slice R.An R.L.length R.cn) := hA.obj.cell 2
 have hfew := h.few
 obtain ⟨i, hi⟩ := Int.eq_ofNat_of_zero_le hobj.1
 have hil : i < R.L.length := by omega
 rw [hi, Int.toNat_natCast] at hx
 have hok := h.ok x (List.mem_of_getElem? hx)
 have hml := h.len
 obtain ⟨g, hg, e1⟩ := lo_at hA.nn hil x.2 (by rw [List.getElem?_map, hx]; rfl)
 rw [hg] at d2
 have HX := aa hok
 have HKA := aa kA
 obtain ⟨q1, q2, q3⟩ := hpart
 have hx2 : 0 ≤ x.2 ∧ x.2 ≤ 16384 := by omega
 have HC := aa hcc
 clear hok hc hobj hg kA hA h hx k1
 have hcn : 0 ≤ c.n ∧ c.n ≤ 131072 := by omega
 have hclo : 0 ≤ c.lo ∧ c.lo ≤ 131072 := by omega
 have hat : at_ ≤ 131072 := by omega
 clear hcc
 generalize c.lo = clo at *
 generalize c.n = cn at *
 generalize c.rights = cr at *
 generalize c.root.1 = c4 at *
 generalize c.root.2 = c5 at *
 generalize c.obj = co at *
 generalize x.2 = x2 at *
 subst hi
 have HV1 := aa hv1
 have HV2 := aa hv2
 have hbC := Blk.new w1 255 [.int .i64 i, .int .i64 cr, .int .i64 clo, .int .i64 cn, .int .i64 c4, .int .i64 c5]
 have b0 := hbC.cell 0
 have b2 := hbC.cell 2
 have b3 := hbC.cell 3
 simp only [List.getElem?_cons_zero, List.getElem?_cons_succ] at b0 b2 b3
 clear hbC hv1 hv2
 go_wp2_with fail
 generalize hW : w1.alloc (.cells #[.int .i64 i, .int .i64 cr, .int .i64 clo, .int .i64 cn, .int .i64 c4, .int .i64 c5] 255) = W at *
 clear hW
 have hobj0 : (0 : Int) ≤ (i : Int) := by omega
 have hil' : (i : Int) < (R.L.length : Int) := by omega
 go_quiet (first | (go_at_call 189; exact wq true _ _ _ (by omega) (by omega) (by simp; omega)))
 go_wp2_with fail
 have hz0 : (0 : Int) ≤ x2 := by omega
 have hz1 : x2 ≤ 1000000 := by omega
 have w1c := fun n q => wq2 (w := W) (n := n) (q := q) true clo at_ x2 hz0 hz1 HV1.out
 have w2c := fun n q => wq2 (w := W) (n := n) (q := q) false (clo + at_) k x2 hz0 hz1 HV2.out
 have W1 := aa w1c
 have W2 := aa w2c
 clear w1c w2c
 go_quiet (first | (go_at_call 189; (with_reducible_and_instances exact W1.out _ _)) | (go_at_call 189; (with_reducible_and_instances exact W2.out _ _)))
 go_wp2
 go_ret2
 exact ⟨rfl, (HKA.out.drewN _).drewN _⟩
end
end Go.Proofs.YtgcikpgcoemfnaaGreat.Dk
namespace Go.Proofs.YtgcikpgcoemfnaaGreat.Dk
open Go.RowKit
section
variable {w w' : World} {R : Dr}
theorem place_yes (h : bL w R) {env name right at_ k v : Int} (c : Cp) (x : Rf) (hc : Has R.S.T R.S.n (env, name) c) (hb : (bits .and .i64 c.rights right == 0) = false) (hf : Fits R.L c at_ k x) (hve : v = x.1 + c.lo + at_) :
  Calls Tryz.prog 186 #[.pointer (some ⟨R.r, 0, none⟩), .int .i64 env, .int .i64 name, .int .i64 right, .int .i64 at_, .int .i64 k] w fun e w' => e = .returned (.tuple #[.int .i64 v, .int .i64 0]) ∧ Keep Nob w w' := by
 have ho : w.cell? ⟨R.r, 3, none⟩ = some (.pointer (some ⟨R.S.s, 0, none⟩)) := h.obj.cell 3
 have hcc := h.inv.cap _ _ hc
 obtain ⟨q1, q2, q3, q4, q5, q6⟩ := hf
 obtain ⟨i, hi⟩ := Int.eq_ofNat_of_zero_le q4
 rw [hi, Int.toNat_natCast] at q5
 have hil := aP q5
 have hok := h.ok x (List.mem_of_getElem? q5)
 have hml := h.len
 have hfew := h.few
 go_enter Tryz.func186, Tryz.ntmps186
 go_wp2_with fail
 refine (get_yes h.sp c hc).mono ?_; rintro e w1 ⟨rfl, k1⟩
 unfold dG
 have kA := k1.alloc (.cells #[.int .i64 c.obj, .int .i64 c.rights, .int .i64 c.lo, .int .i64 c.n, .int .i64 c.root.1, .int .i64 c.root.2] 255)
 have hA := h.nob kA
 have d1 : (w1.alloc (.cells #[.int .i64 c.obj, .int .i64 c.rights, .int .i64 c.lo, .int .i64 c.n, .int .i64 c.root.1, .int .i64 c.root.2] 255)).cell? ⟨R.r, 1, none⟩ = some (.slice R.Al R.L.length R.cl) := hA.obj.cell 1
 have d2 : (w1.alloc (.cells #[.int .i64 c.obj, .int .i64 c.rights, .int .i64 c.lo, .int .i64 c.n, .int .i64 c.root.1, .int .i64 c.root.2] 255)).cell? ⟨R.r, 2, none⟩ = some (.slice R.An R.L.length R.cn) := hA.obj.cell 2
 obtain ⟨g, hg, e1⟩ := lo_at hA.nn hil x.2 (by rw [List.getElem?_map, q5]; rfl)
 obtain ⟨gl, hgl, e2⟩ := lo_at hA.lo hil x.1 (by rw [List.getElem?_map, q5]; rfl)
 rw [hg] at d2
 rw [hgl] at d1
 have HKA := aa kA
 have HVE := aa hve
 have hcn : 0 ≤ c.n ∧ c.n ≤ 131072 := by omega
 have hclo : 0 ≤ c.lo ∧ c.lo ≤ 131072 := by omega
 have hx2 : 0 ≤ x.2 ∧ x.2 ≤ 16384 := by omega
 have hx1 : 0 ≤ x.1 ∧ x.1 ≤ 16384 := by omega
 have hat : at_ ≤ 131072 := by omega
 have hbC := Blk.new w1 255 [.int .i64 c.obj, .int .i64 c.rights, .int .i64 c.lo, .int .i64 c.n, .int .i64 c.root.1, .int .i64 c.root.2]
 have b0 := hbC.cell 0
 have b2 := hbC.cell 2
 have b3 := hbC.cell 3
 simp only [List.getElem?_cons_zero, List.getElem?_cons_succ] at b0 b2 b3
 clear hbC hcc hok hc kA hA h k1 hve hg hgl q5
 generalize c.lo = clo at *
 generalize c.n = cn at *
 generalize c.rights = cr at *
 generalize c.root.1 = c4 at *
 generalize c.root.2 = c5 at *
 generalize c.obj = co at *
 generalize x.2 = x2 at *
 generalize x.1 = x1 at *
 subst hi
 go_wp2_with fail
 generalize hW : w1.alloc (.cells #[.int .i64 i, .int .i64 cr, .int .i64 clo, .int .i64 cn, .int .i64 c4, .int .i64 c5] 255) = W at *
 clear hW
 have hobj0 : (0 : Int) ≤ (i : Int) := by omega
 have hil' : (i : Int) < (R.L.length : Int) := by omega
 go_quiet (first | (go_at_call 189; exact wq true _ _ _ (by omega) (by omega) (by simp; omega)))
 go_wp2_with fail
 have hz0 : (0 : Int) ≤ x2 := by omega
 have hz1 : x2 ≤ 1000000 := by omega
 have w1c := fun n q => wq2 (w := W) (n := n) (q := q) true clo at_ x2 hz0 hz1 (by simp; omega)
 have w2c := fun n q => wq2 (w := W) (n := n) (q := q) true (clo + at_) k x2 hz0 hz1 (by simp; omega)
 have W1 := aa w1c
 have W2 := aa w2c
 clear w1c w2c
 go_quiet (first | (go_at_call 189; (with_reducible_and_instances exact W1.out _ _)) | (go_at_call 189; (with_reducible_and_instances exact W2.out _ _)))
 go_wp2_with fail
 go_quiet (fail)
 go_wp2
 go_ret2
 have hv1 := HVE.out
 subst hv1
 exact ⟨rfl, ((HKA.out.drewN _).drewN _).drewN _⟩
end
end Go.Proofs.YtgcikpgcoemfnaaGreat.Dk
namespace Go.Proofs.YtgcikpgcoemfnaaGreat.Dk
open Go.RowKit
section
variable {w w' : World} {R : Dr}
theorem place_is (h : bL w R) {env name right at_ k v er : Int} (hv : bo R.S.T R.S.n R.L env name right at_ k v er) :
  Calls Tryz.prog 186 #[.pointer (some ⟨R.r, 0, none⟩), .int .i64 env, .int .i64 name, .int .i64 right, .int .i64 at_, .int .i64 k] w fun e w' => e = .returned (.tuple #[.int .i64 v, .int .i64 er]) ∧ Keep Nob w w' := by
 cases hv with
 | nocap hn => exact place_nocap h hn
 | noright c hc hb => exact lG h c hc hb
 | noarg c hc hb hno =>
  by_cases hpart : 0 ≤ at_ ∧ 0 ≤ k ∧ at_ + k ≤ c.n
  ·by_cases hobj : 0 ≤ c.obj ∧ c.obj < R.L.length
   ·have hlt : c.obj.toNat < R.L.length := by omega
    obtain ⟨x, hx⟩ : ∃ x, R.L[c.obj.toNat]? = some x := ⟨_, List.getElem?_eq_getElem hlt⟩
    cases hv1 : decide (0 ≤ c.lo ∧ 0 ≤ at_ ∧ c.lo + at_ ≤ x.2) with
    | false => exact place_lo h c hc hb hpart hobj x hx hv1
    | true =>
     refine place_hi h c hc hb hpart hobj x hx hv1 (decide_eq_false fun hh => hno x ⟨hpart.1, hpart.2.1, hpart.2.2, hobj.1, hx, hh.2.2⟩)
   ·exact place_obj h c hc hb hpart hobj
  ·exact place_far h c hc hb hpart
 | yes c x _ hc hb hf hve => exact place_yes h c x hc hb hf hve
theorem range (h : bL w R) {env name right at_ k v : Int} (hv : bo R.S.T R.S.n R.L env name right at_ k v 0) : 0 ≤ v ∧ 0 ≤ k ∧ v + k ≤ R.xs.length := by
 generalize he : (0 : Int) = er at hv
 cases hv with
 | nocap _ => cases he
 | noright _ _ _ => cases he
 | noarg _ _ _ _ => cases he
 | yes c x _ h1 _ h3 h4 =>
  obtain ⟨a1, a2, a3, a4, a5, a6⟩ := h3
  have hx := h.ok x (List.mem_of_getElem? a5)
  have hc := h.inv.cap _ _ h1
  omega
theorem sizeU : (Tryz.prog.info? 5).map (·.size) = some 1 := by kernel_rfl
theorem bL.bytes (h : bL w R) {ys : List UInt8} (hl : ys.length = R.xs.length) (hb : Blk w' R.m 5 (bytes ys)) (k : Keep (· = R.m) w w') : bL w' { R with xs := ys } := by
 have ob : ∀ {b : Nat} {t : TypeId} {cs : List Value}, Blk w b t cs → t ≠ 5 → ¬ (b = R.m) := fun hb2 ht e => hb2.ne_ h.mem ht e
 have ov : ∀ {e sz n cap : Nat} {A : Option Addr} {xs : List Value}, Vec w e sz A n cap xs → e ≠ 5 → ∀ g, Own A g → ¬ (g = R.m) := fun hv ht g hg => by
  obtain ⟨cur, hc⟩ := hv.blk hg
  exact ob hc ht
 refine ⟨?_, hb, h.lo.keep k (ov h.lo (by decide)), h.nn.keep k (ov h.nn (by decide)), h.sp.keep k (fun b hb2 => ?_), h.inv, by dsimp only; rw [hl]; exact h.ok, by dsimp only; rw [hl]; exact h.len, h.few, h.dis⟩
 ·dsimp only
  rw [hl]
  exact h.obj.keep k (ob h.obj (by decide))
 ·rcases hb2 with rfl | hb2 | hb2 | ⟨i, hi, rfl | hb2 | rfl⟩
  ·exact ob h.sp.obj (by decide)
  ·exact ov h.sp.nrow (by decide) b hb2
  ·exact ov h.sp.cr (by decide) b hb2
  ·exact ob (h.sp.nm i hi).obj (by decide)
  ·exact ov (h.sp.nm i hi).row (by decide) b hb2
  ·exact ob (h.sp.cp i hi) (by decide)
theorem gV (h : bL w R) {env name at_ : Int} {a : Nat} (bs : List UInt8) (hv : bo R.S.T R.S.n R.L env name 2 at_ bs.length a 0) (ys : List UInt8) (hy : splice R.xs a bs = ys) :
  Calls Tryz.prog 91 #[.pointer (some ⟨R.r, 0, none⟩), .int .i64 env, .int .i64 name, .int .i64 at_, .string (str bs)] w fun e w' => e = .returned (.int .i64 0) ∧ bL w' { R with xs := ys } ∧ Keep (· = R.m) w w' := by
 have hr := range h hv
 have hp := place_is h hv
 have hak : a + bs.length ≤ R.xs.length := by omega
 have hml := h.len
 have hsz := gy bs
 have hyl : ys.length = R.xs.length := by rw [← hy]; exact length_splice _ _ _ hak
 have HC := aa (fun W (kk : Keep Nob w W) => And.intro ((h.nob kk).obj.cell 0) (h.nob kk).mem)
 have HF := aa (fun W (kk : Keep Nob w W) V (hb : Blk V R.m 5 (bytes ys)) (k2 : Keep (· = R.m) W V) => (h.nob kk).bytes hyl hb k2)
 have HY := aa (show splice (bytes R.xs) a (bytes bs) = bytes ys by rw [ev, hy])
 have hlx : (bytes R.xs).length = R.xs.length := am _
 have HLX := aa hlx
 have HSZ := aa hsz
 clear hy h hr hv hyl hlx hsz
 generalize hn : R.xs.length = n at *
 have HN := aa hn
 clear hn
 have hna : a ≤ n := by omega
 have hbn : bs.length ≤ n - a := by omega
 have hsz := HSZ.out
 go_enter Tryz.func91, Tryz.ntmps91
 go_wp2_with fail
 (try rw [hsz])
 refine hp.mono ?_; rintro e w1 ⟨rfl, k1⟩
 obtain ⟨c0, hm⟩ := HC.out _ k1
 simp only [List.getElem?_cons_zero, List.getElem?_cons_succ] at c0
 clear hp hsz
 go_wp2_with (first
  | (refine gf rfl 28 _ _ rfl 5 1 Tryz.underlying28 sizeU _ _ _ a .i64 rfl rfl hna ?_; intro A' hA'; have hA2 : 0 < n - a → A' = some ⟨R.m, a, none⟩ := fun h0 => (by rw [hA' (by omega)]; simp [cR]))
  | (refine wpList_cps rfl _ _ 28 9 rfl 5 Tryz.underlying28 sizeU A' (n - a) (n - a) bs rfl rfl R.m a _ 5 hm hA2 (by rw [HLX.out]; omega) hbn ?_; intro w2 hb2 hk2 hs2; clear hs2))
 rw [HY.out] at hb2
 go_ret
 exact ⟨rfl, HF.out _ k1 _ hb2 hk2, (k1.mono (fun _ _ f => f.elim)).trans hk2 (fun _ _ e => e)⟩
end
end Go.Proofs.YtgcikpgcoemfnaaGreat.Dk
namespace Go.Proofs.YtgcikpgcoemfnaaGreat.Dk
open Go.RowKit
theorem in_is {w : World} (A : Option Addr) (n c : Nat) (l : List Int) (x : Int) (hr : ae w A n (ab l)) (hn : n ≤ 1000) (v : Bool) (hv : decide (x ∈ l) = v) :
  Calls Tryz.prog 166 #[.slice A n c, .int .i64 x] w fun e w' => e = .returned (.bool v) ∧ w = w' := by
 have hl : l.length = n := by have := hr.1; simpa [ab] using this
 have HL := aa hl
 have HR := aa hr
 have HV := aa hv
 clear hl hr hv
 go_enter Tryz.func166, Tryz.ntmps166
 go_wp2_with fail
 go_loop [5] (fun s5 => ∃ k : Nat, k ≤ n ∧ s5 = .int .i64 k ∧ ∀ j, j < k → l[j]? ≠ some x) (fun s5 => n - (intOf s5).toNat)
 case atStart => exact ⟨0, Nat.zero_le _, rfl, fun j hj => by omega⟩
 case round =>
  obtain ⟨k, hk, rfl, hno⟩ := hrel
  have HNo := aa hno
  clear hno
  by_cases hlt : k < n
  ·obtain ⟨y, hy⟩ : ∃ y, l[k]? = some y := ⟨_, List.getElem?_eq_getElem (by rw [HL.out]; exact hlt)⟩
   obtain ⟨b, off, hA, hc⟩ := HR.out.lit (by omega)
   have d := hc k _ (by rw [bg, hy]; rfl)
   have HY := aa hy
   subst hA
   clear hc hy
   by_cases he : y = x
   ·subst he
    have hvt : v = true := by rw [← HV.out]; exact decide_eq_true (List.mem_of_getElem? HY.out)
    subst hvt
    go_wp2
    go_ret
    exact ⟨rfl, rfl⟩
   ·have he' : (y == x) = false := by simpa using he
    go_wp2
    go_round
    case rel => exact ⟨k + 1, by omega, by go_num, fun j hj e => by
     by_cases hjk : j = k
     ·subst hjk
      rw [HY.out] at e
      exact he (Option.some.inj e)
     ·exact HNo.out j (by omega) e⟩
    case measure => simp [intOf]; omega
  ·have hvf : v = false := by
    rw [← HV.out]
    refine decide_eq_false fun hm => ?_
    obtain ⟨j, hj⟩ := List.getElem?_of_mem hm
    have := aP hj
    exact HNo.out j (by have := HL.out; omega) hj
   subst hvf
   go_wp2
   go_ret
   exact ⟨rfl, rfl⟩
theorem sect_is (n : Int) (w : World) : Calls Tryz.prog 164 #[.int .i64 n] w fun e w' => ∃ p, e = .returned (.pointer (some ⟨p, 0, none⟩)) ∧ w.heap.size ≤ p ∧ Keep Nob w w' := by
 rcases (show n < 1 ∨ (1 ≤ n ∧ 1000 < n) ∨ (1 ≤ n ∧ n ≤ 1000) by omega) with h | ⟨h0, h⟩ | ⟨h0, h⟩
 all_goals
  go_enter Tryz.func164, Tryz.ntmps164
  go_wp2
  go_ret
  exact ⟨_, rfl, Nat.le_refl _, (Keep.refl Nob w).alloc _⟩
theorem infoint' : (Tryz.prog.info? 3).map (fun i => (i.zero, i.size, i.bytes)) = some (some (.int .i64 0), 1, 8) := by kernel_rfl
section
variable {w w' : World} {R : Dr}
structure Added1 (w : World) (R : Dr) (lo n : Int) (Al' : Option Addr) (cl' : Nat) (An' : Option Addr) (cn' : Nat) (w' : World) : Prop where
 is : bL w' { R with L := R.L ++ [(lo, n)], Al := Al', cl := cl', An := An', cn := cn' }
 keep : Keep (fun b => b = R.r ∨ Own R.Al b ∨ Own R.An b) w w'
 al : ∀ x, Own Al' x → Own R.Al x ∨ w.heap.size ≤ x
 an : ∀ x, Own An' x → Own R.An x ∨ w.heap.size ≤ x
theorem bL.add (h : bL w R) {lo n : Int} (hin : 0 ≤ lo ∧ 0 ≤ n ∧ lo + n ≤ R.xs.length) (hf : R.L.length < 32) {W wa W' wb : World} (k : Keep Nob w W) {Al2 : Option Addr} {cl2 : Nat}
  (hva : Vec wa 3 1 Al2 (R.L.length + 1) cl2 (ab (R.L.map (·.1)) ++ [.int .i64 lo])) (hka : Keep (Own R.Al) W wa) (hoa : ∀ x, Own Al2 x → Own R.Al x ∨ x = W.heap.size) (k2 : Keep Nob wa W') {An2 : Option Addr} {cn2 : Nat}
  (hvb : Vec wb 3 1 An2 (R.L.length + 1) cn2 (ab (R.L.map (·.2)) ++ [.int .i64 n])) (hkb : Keep (Own R.An) W' wb) (hob : ∀ x, Own An2 x → Own R.An x ∨ x = W'.heap.size) :
  Blk wb R.r 179 [.slice (some ⟨R.m, 0, none⟩) R.xs.length R.xs.length, .slice R.Al R.L.length R.cl, .slice R.An R.L.length R.cn, .pointer (some ⟨R.S.s, 0, none⟩)] ∧
  Added1 w R lo n Al2 cl2 An2 cn2 ((wb.setCell ⟨R.r, 1, none⟩ (.slice Al2 (R.L.length + 1) cl2)).setCell ⟨R.r, 2, none⟩ (.slice An2 (R.L.length + 1) cn2)) := by
 have hW := h.nob k
 have ty : ∀ {A : Option Addr} {m c : Nat} {xs : List Value} {X : World}, Vec X 3 1 A m c xs → ∀ {b : Nat} {t : TypeId} {cs : List Value}, Blk X b t cs → t ≠ 3 → ¬ Own A b := fun {A} {m} {c} {xs} {X} hv {b} {t} {cs} hb ht ho => by
  obtain ⟨cur, hc⟩ := hv.blk ho
  exact hb.ne_ hc ht rfl
 have hne : ∀ x, Own R.An x → ¬ Own R.Al x := fun x h1 h2 => h.dis x h2 h1
 have b1 : ∀ {b : Nat} {t : TypeId} {cs : List Value}, Blk W b t cs → t ≠ 3 → Blk wb b t cs := fun hb ht => by
  have ha := (hb.keep hka (ty hW.lo hb ht)).nob k2
  have hnn := ((hW.nn.keep hka (fun x hx => hne x hx)).nob k2)
  exact ha.keep hkb (ty hnn ha ht)
 have ob := b1 hW.obj (by decide)
 have k3 : Keep (· = R.r) wb ((wb.setCell ⟨R.r, 1, none⟩ (.slice Al2 (R.L.length + 1) cl2)).setCell ⟨R.r, 2, none⟩ (.slice An2 (R.L.length + 1) cn2)) := ((Keep.refl (· = R.r) wb).setCell _ _ (fun _ => rfl)).setCell _ _ (fun _ => rfl)
 have hva' := (hva.nob k2).keep hkb (fun x hx hn => by
  rcases hoa x hx with h1 | h1
  ·exact hne x hn h1
  ·have := h.nn.lt x hn; have := k.size; omega)
 have vi : ∀ {A : Option Addr} {m c : Nat} {xs : List Value}, Vec wb 3 1 A m c xs → Vec ((wb.setCell ⟨R.r, 1, none⟩ (.slice Al2 (R.L.length + 1) cl2)).setCell ⟨R.r, 2, none⟩ (.slice An2 (R.L.length + 1) cn2)) 3 1 A m c xs := fun hv => hv.keep k3 (fun x hx e => ty hv ob (by decide) (e ▸ hx))
 have b3 : ∀ {b : Nat} {t : TypeId} {cs : List Value}, Blk W b t cs → t ≠ 3 → b ≠ R.r → Blk ((wb.setCell ⟨R.r, 1, none⟩ (.slice Al2 (R.L.length + 1) cl2)).setCell ⟨R.r, 2, none⟩ (.slice An2 (R.L.length + 1) cn2)) b t cs := fun hb ht hr => (b1 hb ht).keep k3 hr
 have v3 : ∀ {e sz m c : Nat} {A : Option Addr} {xs : List Value}, Vec W e sz A m c xs → e ≠ 3 → e ≠ 179 → Vec ((wb.setCell ⟨R.r, 1, none⟩ (.slice Al2 (R.L.length + 1) cl2)).setCell ⟨R.r, 2, none⟩ (.slice An2 (R.L.length + 1) cn2)) e sz A m c xs := fun hv h1 h2 => by
  have va := (hv.keep hka (fun x hx => by obtain ⟨cur, hc⟩ := hv.blk hx; exact ty hW.lo hc h1)).nob k2
  have hnn := ((hW.nn.keep hka (fun x hx => hne x hx)).nob k2)
  have vb := va.keep hkb (fun x hx => by obtain ⟨cur, hc⟩ := va.blk hx; exact ty hnn hc h1)
  exact vb.keep k3 (fun x hx e => by obtain ⟨cur, hc⟩ := vb.blk hx; exact hc.ne_ ob h2 e)
 have sz1 := k.size
 have sz2 := hka.size
 have sz3 := k2.size
 refine ⟨ob, ⟨⟨?_, b3 hW.mem (by decide) (hW.mem.ne_ hW.obj (by decide)), ?_, ?_, ?_, h.inv, ?_, h.len, ?_, fun x h1 h2 => ?_⟩, ?_, fun x hx => ?_, fun x hx => ?_⟩⟩
 ·have := (ob.setCell 1 (.slice Al2 (R.L.length + 1) cl2)).setCell 2 (.slice An2 (R.L.length + 1) cn2)
  dsimp only
  rw [List.length_append]
  exact this
 ·dsimp only
  rw [List.length_append, List.map_append, fh]
  exact vi hva'
 ·dsimp only
  rw [List.length_append, List.map_append, fh]
  exact vi hvb
 ·have hS := hW.sp
  refine ⟨b3 hS.obj (by decide) (hS.obj.ne_ hW.obj (by decide)), v3 hS.nrow (by decide) (by decide), v3 hS.cr (by decide) (by decide), fun i hi => ⟨b3 (hS.nm i hi).obj (by decide) ((hS.nm i hi).obj.ne_ hW.obj (by decide)), v3 (hS.nm i hi).row (by decide) (by decide), (hS.nm i hi).pl⟩, fun i hi => b3 (hS.cp i hi) (by decide) ((hS.cp i hi).ne_ hW.obj (by decide)), hS.ainj, hS.rinj, hS.t32, hS.n40⟩
 ·intro x hx
  rcases List.mem_append.1 hx with hx | hx
  ·exact h.ok x hx
  ·obtain rfl := List.mem_singleton.1 hx
   exact hin
 ·dsimp only
  rw [List.length_append]
  simp
  omega
 ·have hlt := hva.lt x h1
  rcases hoa x h1 with h1 | h1 <;> rcases hob x h2 with h2 | h2
  ·exact h.dis x h1 h2
  ·omega
  ·have := h.nn.lt x h2; omega
  ·omega
 ·exact ((((k.mono (fun _ _ f => f.elim)).trans hka (fun _ _ m => .inr (.inl m))).trans k2 (fun _ _ f => f.elim)).trans hkb (fun _ _ m => .inr (.inr m))).trans k3 (fun _ _ m => .inl m)
 ·exact (hoa x hx).imp id (fun e => by omega)
 ·exact (hob x hx).imp id (fun e => by omega)
theorem rd0 {X : World} {v : Value} {q : Nat} (e : X.heap.size = q) : ae (X.alloc (.cells #[v] 3)) (some ⟨q, 0, none⟩) 1 [v] := by
 subst e
 exact aj (n := 1) (Blk.new X 3 [v]) rfl
theorem rdA {W : World} {A : Option Addr} {n : Nat} {l : List Value} (h : ae W A n l) (o : Obj) : ae (W.alloc o) A n l := h.nob ((Keep.refl Nob _).alloc _)
theorem rdD {W : World} {A : Option Addr} {n : Nat} {l : List Value} (h : ae W A n l) : ae W.drew A n l := h.nob ((Keep.refl Nob _).drew)
theorem radd_is (h : bL w R) (lo n : Int) (hin : 0 ≤ lo ∧ 0 ≤ n ∧ lo + n ≤ R.xs.length) (hf : R.L.length < 32) :
  Calls Tryz.prog 165 #[.pointer (some ⟨R.r, 0, none⟩), .int .i64 lo, .int .i64 n] w fun e w' => ∃ Al' cl' An' cn', e = .returned (.tuple #[.int .i64 R.L.length, .int .i64 0]) ∧ Added1 w R lo n Al' cl' An' cn' w' := by
 have hlen := h.len
 have hwi := fun W => Cd.jy true lo n R.xs.length W (by omega) (by omega) (by simp; omega)
 have c0 := h.obj.cell 0
 have c1 := h.obj.cell 1
 have c2 := h.obj.cell 2
 simp only [List.getElem?_cons_zero, List.getElem?_cons_succ] at c0 c1 c2
 have HV := aa (fun W (kk : Keep Nob w W) => (h.nob kk).lo)
 have HO := aa (fun W (kk : Keep Nob w W) wa (ka : Keep (Own R.Al) W wa) => (h.nob kk).obj.keep ka (fun ho => by obtain ⟨cur, hc⟩ := (h.nob kk).lo.blk ho; exact (h.nob kk).obj.ne_ hc (by decide) rfl))
 have HN := aa (fun W (kk : Keep Nob w W) wa (ka : Keep (Own R.Al) W wa) => (h.nob kk).nn.keep ka (fun x h1 h2 => h.dis x h2 h1))
 have nq : ∀ (x : Nat), w.heap.size ≤ x → ∀ (ad : Addr), (some ⟨x, 0, none⟩ : Option Addr) = some ad → ¬ Own R.Al ad.block := fun x hx ad e ho => by
  cases e
  have := h.lo.lt x ho
  omega
 have NQ := aa nq
 clear nq
 have FIN := aa (fun W (k : Keep Nob w W) Al2 cl2 wa hva hka hoa W' (k2 : Keep Nob wa W') An2 cn2 wb hvb hkb hob => h.add hin hf (W := W) (wa := wa) (W' := W') (wb := wb) k (Al2 := Al2) (cl2 := cl2) hva hka hoa k2 (An2 := An2) (cn2 := cn2) hvb hkb hob)
 have hf' : ¬ (32 ≤ (R.L.length : Int)) := by omega
 obtain ⟨q, hq⟩ : ∃ q, w.heap.size = q := ⟨_, rfl⟩
 have ka := (Keep.refl Nob w).alloc (.cells #[.int .i64 lo] 3)
 have kb := (Keep.refl Nob w).alloc (.cells #[.int .i64 n] 3)
 have kab := ((Keep.refl Nob w).alloc (.cells #[.int .i64 lo] 3)).alloc (.cells #[.int .i64 n] 3)
 have kba := ((Keep.refl Nob w).alloc (.cells #[.int .i64 n] 3)).alloc (.cells #[.int .i64 lo] 3)
 have d1 := (h.nob kb).obj.cell 1
 have d6 := (h.nob ka).obj.cell 1
 have d7 := (h.nob kab).obj.cell 1
 have d8 := (h.nob kba).obj.cell 1
 have d2 := (h.nob ka).obj.cell 2
 have d3 := (h.nob kb).obj.cell 2
 have d4 := (h.nob kab).obj.cell 2
 have d5 := (h.nob kba).obj.cell 2
 simp only [List.getElem?_cons_zero, List.getElem?_cons_succ] at d1 d2 d3 d4 d5 d6 d7 d8
 clear ka kb kab kba
 have kof : ∀ {W wa : World} {P : Nat → Prop}, Keep P W wa → Keep Nob w W → Keep Nob w W := fun _ k => k
 rw [hq] at NQ
 clear h hin hlen
 go_enter Tryz.func165, Tryz.ntmps165
 go_wp2_with fail
 refine (hwi _).mono ?_; rintro e w2 ⟨rfl, rfl⟩
 clear hwi c0
 go_wp2_with fail
 go_region_law (first
  | (refine Qu.fo (by rfl) _ _ 42 (by rfl) 3 1 8 (.int .i64 0) Tryz.underlying42 infoint' (by rfl) (by decide) R.Al R.L.length R.cl (ab (R.L.map (·.1))) (by rfl) (HV.out _ (by (repeat (first | exact Keep.refl _ _ | apply Keep.alloc | apply Keep.drew)))) _ 1 1 [.int .i64 lo] (by rfl) 1 (by rfl) (by (repeat (first | (with_reducible refine rd0 ?_; simp [hq]; done) | with_reducible refine rdA ?_ _ | with_reducible refine rdD ?_ | (with_reducible refine ae.keep ?_ hka (NQ.out _ ?_); all_goals (try omega))))) (by simp [Value.oneCell']) (by unfold maxLen; omega) (by omega) ?_; intro Al2 cl2 wa hva hka hoa; have kW := kof hka (by (repeat (first | exact Keep.refl _ _ | apply Keep.alloc | apply Keep.drew))); have oa := HO.out _ kW wa hka; have za := oa.cell 2; simp only [List.getElem?_cons_zero, List.getElem?_cons_succ] at za; have zb := (oa.nob ((Keep.refl Nob wa).alloc (.cells #[.int .i64 n] 3))).cell 2; simp only [List.getElem?_cons_zero, List.getElem?_cons_succ] at zb)
  | (refine Qu.fo (by rfl) _ _ 42 (by rfl) 3 1 8 (.int .i64 0) Tryz.underlying42 infoint' (by rfl) (by decide) R.An R.L.length R.cn (ab (R.L.map (·.2))) (by rfl) ((HN.out _ kW wa hka).nob (by (repeat (first | exact Keep.refl _ _ | apply Keep.alloc | apply Keep.drew)))) _ 1 1 [.int .i64 n] (by rfl) 1 (by rfl) (by (repeat (first | (with_reducible refine rd0 ?_; simp [hq]; done) | with_reducible refine rdA ?_ _ | with_reducible refine rdD ?_ | (with_reducible refine ae.keep ?_ hka (NQ.out _ ?_); all_goals (try omega))))) (by simp [Value.oneCell']) (by unfold maxLen; omega) (by omega) ?_; intro An2 cn2 wb hvb hkb hob; obtain ⟨ob, HFin⟩ := FIN.out _ kW _ _ _ hva hka hoa _ (by (repeat (first | exact Keep.refl _ _ | apply Keep.alloc | apply Keep.drew))) _ _ _ hvb hkb hob; have y1 := ob.cell 1; have y2 := ob.cell 2; have f1 := ob.frozen 1; have f2 := ob.frozen 2; simp only [List.getElem?_cons_zero, List.getElem?_cons_succ] at y1 y2))
 all_goals
  clear d1 d2 d3 d4 d5 d6 d7 d8 HV HO HN FIN NQ kof
  have e1 := HFin.is.obj.cell 1
  simp only [List.getElem?_cons_zero, List.getElem?_cons_succ, List.length_append, List.length_singleton] at e1
  go_wp2
  go_ret2
  exact ⟨_, _, _, _, rfl, HFin⟩
end
end Go.Proofs.YtgcikpgcoemfnaaGreat.Dk
