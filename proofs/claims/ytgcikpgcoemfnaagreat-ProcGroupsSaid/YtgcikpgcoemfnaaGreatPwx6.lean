/- Texts Prc2, Prc3, PrcE, PrcD, packed. -/
import Derived.Test.YtgcikpgcoemfnaaGreatPu0
import Derived.Test.YtgcikpgcoemfnaaGreatPwx0
import Derived.Test.YtgcikpgcoemfnaaGreatPwx1
import Derived.Test.YtgcikpgcoemfnaaGreatPu4
import Derived.Test.YtgcikpgcoemfnaaGreatPu18
import Derived.Test.YtgcikpgcoemfnaaGreatPu19
import Derived.Test.YtgcikpgcoemfnaaGreatPu1
import Derived.Test.YtgcikpgcoemfnaaGreatPu7
import Derived.Test.YtgcikpgcoemfnaaGreatPu11
import Derived.Test.YtgcikpgcoemfnaaGreatPu21
import Derived.Test.YtgcikpgcoemfnaaGreatPu22
import Derived.Test.YtgcikpgcoemfnaaGreatPu12
import Derived.Test.YtgcikpgcoemfnaaGreatPwx5
import Derived.Test.YtgcikpgcoemfnaaGreatPu14
import Derived.Test.YtgcikpgcoemfnaaGreatPu13
import Derived.Test.YtgcikpgcoemfnaaGreatPu15
import Derived.Test.YtgcikpgcoemfnaaGreatPu16
import Derived.Test.YtgcikpgcoemfnaaGreatPu24
import Derived.Test.YtgcikpgcoemfnaaGreatPu23
import Derived.Test.YtgcikpgcoemfnaaGreatPu5
import Derived.Test.YtgcikpgcoemfnaaGreatPu8
import Derived.Test.YtgcikpgcoemfnaaGreatPu20
import Derived.Test.YtgcikpgcoemfnaaGreatPu2
import Derived.Test.YtgcikpgcoemfnaaGreatPu9
import Derived.Test.YtgcikpgcoemfnaaGreatPu25
import Derived.Test.YtgcikpgcoemfnaaGreatPu10
import Derived.Test.YtgcikpgcoemfnaaGreatPu27
import Derived.Test.YtgcikpgcoemfnaaGreatPu30
import Derived.Test.YtgcikpgcoemfnaaGreatPu3
namespace Go.Proofs.YtgcikpgcoemfnaaGreat.Pr
open Go.RowKit Co
set_option linter.unusedVariables false
set_option linter.unusedSimpArgs false
def actS (x : List Int) : Bool := x.getD 1 0 == 1 && x.getD 2 0 != 2
def memberS (g : Int) (x : List Int) : Bool := actS x && x.getD 4 0 == g
section
variable {w : World}
set_option maxRecDepth 100000 in
theorem members1_is {q : Nat} (g : Int) (hc : w.cell? ⟨q, 0, none⟩ = some (.int .i64 g)) (x : List Int) (hl : x.length = 18) :
  Calls Tryz.prog 139 #[.agg (ints x).toArray, .pointer (some ⟨q, 0, none⟩)] w fun e w' => e = .returned (.bool (memberS g x)) ∧ Keep Nob w w' := by
 obtain ⟨i, d, v, rfl, hv⟩ := split18 hl
 have h4 : (ints (i :: d :: v))[4]? = some (.int .i64 (v.getD 2 0)) := by
  obtain ⟨a0, a1, a2, a3, a4, a5, a6, a7, f0, f1, f2, f3, f4, f5, f6, f7, rfl⟩ := Cd.split16 hv
  rfl
 have HC := Lib.hid (cellsI hl)
 have HCall := Lib.hid (fun W => acts_is i d v hv _ rfl W)
 have e : memberS g (i :: d :: v) = (actB v d && v.getD 2 0 == g) := rfl
 rw [e]
 generalize actB v d = r at *
 generalize v.getD 2 0 = s at *
 generalize ints (i :: d :: v) = cs at *
 clear hl hv e
 go_enter Tryz.func139, Tryz.ntmps139
 go_wp2_with (first
  | (refine wpList_box rfl 94 _ rfl cs.toArray rfl ?_; intro w1 hb k1 hs; clear hs; have c1 := k1.cell_nob hc; have c4 : w1.cell? ⟨w.heap.size, 4, none⟩ = some (.int .i64 s) := (hb.cell 4).trans h4; have K1 := Lib.hid k1; clear k1)
  | (refine flatS.wpList_ld rfl rfl rfl HC.out hb ?_))
 refine (HCall.out _).mono ?_; rintro e w2 ⟨rfl, k2⟩
 have c12 := k2.cell_nob c1
 have c42 := k2.cell_nob c4
 have K2 := Lib.hid (K1.out.nobt k2)
 clear k2 c1 c4 hb
 cases r with
 | true =>
  go_wp2
  go_ret
  exact ⟨by simp, K2.out⟩
 | false =>
  go_wp2
  go_ret
  exact ⟨rfl, K2.out⟩
end
end Go.Proofs.YtgcikpgcoemfnaaGreat.Pr
namespace Go.Proofs.YtgcikpgcoemfnaaGreat.Pr
open Go.RowKit Co
set_option linter.unusedVariables false
set_option linter.unusedSimpArgs false
section
variable {F : List UInt8 → Prop} {n : Nat} {w w' w1 : World} {K : Kn} {C : Cm} {src : Src} {S S' S2 : Stt}
theorem Made.pre {l : List (List Int)} {A : Option Addr} {cap : Nat} (hs : w.heap.size ≤ w1.heap.size) (m : Made w1 w' l A cap) : Made w w' l A cap := ⟨m.1, fun x hx => Nat.le_trans hs (m.2 x hx)⟩
theorem enter_members1 : ∀ args w, (callFunc 139 args).run Tryz.prog w = .ok (.enter 139 args) w := fun args w => by kernel_rfl
set_option maxRecDepth 100000 in
theorem members_is (h : Ks F n w K C src S) (g : Int) :
  Calls Tryz.prog 70 #[.pointer (some ⟨C.p, 0, none⟩), .int .i64 g] w fun e w' => (∃ A cap, e = .returned (.slice A (pk S (memberS g) 8).length cap) ∧ Made w w' (pk S (memberS g) 8) A cap) ∧ Kt F n w K C src S w' := by
 have H := Lib.hid h
 clear h
 go_enter Tryz.func70, Tryz.ntmps70
 go_wp2_with fail
 have hb1 := Blk.new w 3 [.int .i64 g]
 have k1 := (Keep.refl Nob w).alloc (.cells #[.int .i64 g] 3)
 generalize w.alloc (.cells #[.int .i64 g] 3) = w1 at *
 have T1 := H.out.still k1
 have hc := T1.goK (fun K' hK kk => pick_is hK 139 #[.pointer (some ⟨w.heap.size, 0, none⟩)] (memberS g) enter_members1 (fun W x hx kp => members1_is g (((kk W kp).lb H.out hb1 (Nat.le_refl _)).cell 0) x hx))
 clear hb1 T1
 have K1 := Lib.hid k1
 clear k1
 refine hc.mono ?_; rintro e w2 ⟨⟨A, cap, rfl, hm⟩, T2, _⟩
 have HM := Lib.hid (And.intro hm T2)
 clear hm T2 hc
 go_wp2
 go_ret
 exact ⟨⟨A, cap, rfl, HM.out.1.pre K1.out.size⟩, HM.out.2⟩
end
end Go.Proofs.YtgcikpgcoemfnaaGreat.Pr
namespace Go.Proofs.YtgcikpgcoemfnaaGreat.Pr
open Go.RowKit Co
set_option linter.unusedVariables false
set_option linter.unusedSimpArgs false
/-- A process, or a child of it, put into a group. -/
def groupS (S : Stt) (i t g : Int) : Stt × Int :=
 if (selfR (S.p i).1 (S.p i).2).2 = 0 then
  (if t < 0 ∨ 7 < t ∨ g < 0 ∨ 7 < g then (S, 122)
  else if t ≠ i ∧ (S.p t).2 = 2 then (S, 105)
  else if t ≠ i ∧ ¬ (chB (S.p t).1 (S.p t).2 i = true ∧ actB (S.p t).1 (S.p t).2 = true) then (S, 103)
  else if g ≠ t ∧ (pk S (memberS g) 8).length = 0 then (S, 101)
  else (if decide ((S.p t).2 ≠ 2) && Cd.okd ((S.p t).1.set 2 g) then S.setP t ((S.p t).1.set 2 g) else S, erB (decide ((S.p t).2 ≠ 2) && Cd.okd ((S.p t).1.set 2 g))))
 else (S, 105)
section
variable {F : List UInt8 → Prop} {n : Nat} {w w' w1 : World} {K : Kn} {C : Cm} {src : Src} {S S' S2 : Stt}
set_option maxRecDepth 100000 in
set_option maxHeartbeats 4000000 in
theorem group_is (h : Ks F n w K C src S) (i : Int) (hi : -9223372036854775808 ≤ i ∧ i + 1 ≤ 9223372036854775807) (t g : Int) (S' : Stt) (E : Int) (hs : groupS S i t g = (S', E)) :
  Calls Tryz.prog 24 #[.pointer (some ⟨C.p, 0, none⟩), .int .i64 i, .int .i64 t, .int .i64 g] w fun e w' => e = .returned (.agg (rv 0 E false).toArray) ∧ Kt F n w K C src S' w' := by
 obtain ⟨v, d, hv⟩ : ∃ v d, S.p i = (v, d) := ⟨_, _, rfl⟩
 obtain ⟨R, er, hr⟩ : ∃ R er, selfR v d = (R, er) := ⟨_, _, rfl⟩
 have hvl := len16 h.s hv
 have hrl : R.length = 16 := by
  rcases selfR_er v d with ⟨_, _, e⟩ | e
  ·rw [e] at hr; obtain ⟨rfl, _⟩ := Prod.mk.inj hr; exact hvl
  ·rw [e] at hr; obtain ⟨rfl, _⟩ := Prod.mk.inj hr; rfl
 have her : (er = 0 ∧ d = 1) ∨ er = 105 := by
  rcases selfR_er v d with ⟨_, hd, e⟩ | e
  ·rw [e] at hr; exact .inl ⟨(Prod.mk.inj hr).2.symm, hd⟩
  ·rw [e] at hr; exact .inr (Prod.mk.inj hr).2.symm
 have hwi : Cd.Wf i := by unfold Cd.Wf; omega
 have HSelf := Lib.hid (fun W K' (hK : Ks F n W K' C src S) => self_is hK i hwi v d hv R er hr)
 have H := Lib.hid h
 have HI := Lib.hid (show -9223372036854775808 ≤ i + 1 ∧ i + 1 ≤ 9223372036854775807 by omega)
 unfold groupS at hs
 rw [hv] at hs
 dsimp only at hs
 rw [hr] at hs
 dsimp only at hs
 obtain ⟨u, q, hq⟩ : ∃ u q, S.p t = (u, q) := ⟨_, _, rfl⟩
 rw [hq] at hs
 dsimp only at hs
 have HS := Lib.hid hs
 have HCR := Lib.hid (cellsI hrl)
 have HZ2 := Lib.hid (cellsI (n := 16) (l := Cd.noP) rfl)
 have HV0 := Lib.hid (cellsV 0 0 false)
 have HQ := Lib.hid hq
 have HVd := Lib.hid hv
 have hul := len16 h.s hq
 have HUl := Lib.hid hul
 have HG := Lib.hid (show q = 1 → Cd.okd u = true from fun e => goodP h.s (show S.p t = (u, 1) by rw [hq, e]))
 clear h hi hs hr hrl hwi hvl
 go_enter Tryz.func24, Tryz.ntmps24
 go_wp2_with (refine flatV.wpList_al rfl rfl ?_; intro w1 hb1 hk1 hs1; clear hs1)
 have T1 := H.out.still hk1
 refine (T1.go (HSelf.out _)).mono ?_; rintro e w2 ⟨rfl, T2, kp2⟩
 have HB2 := Lib.hid (kp2.lb H.out hb1 (Nat.le_refl _))
 have HT2 := Lib.hid T2
 have hsz := T2.kp.size
 clear T1 T2 kp2 hb1 hk1
 go_upto_region 2 with (first
  | (refine flatP.wpList_al rfl rfl ?_; intro w3 hb3 hk3 hs3; clear hs3)
  | (refine flatP.wpList_st rfl rfl rfl rfl HCR.out HZ2.out hb3 ?_; intro w4 hb4 hk4 hs4; clear hs4))
 have T4 := Lib.hid ((HT2.out.nob hk3).st H.out hb3 (by decide) hsz hk4)
 have HB4 := Lib.hid ((HB2.out.nob hk3).keep hk4 (by have := HB2.out.lt; omega))
 clear hb3 hk3 hb4 hk4 HT2 HB2
 rcases her with ⟨rfl, rfl⟩ | rfl
 ·rw [if_pos rfl] at HS
  by_cases hb : t < 0 ∨ 7 < t ∨ g < 0 ∨ 7 < g
  ·rw [if_pos hb] at HS
   obtain ⟨rfl, rfl⟩ : S = S' ∧ 122 = E := by simpa using HS.out
   rcases (show t < 0 ∨ (¬ t < 0 ∧ 7 < t) ∨ (¬ t < 0 ∧ ¬ 7 < t ∧ g < 0) ∨ (¬ t < 0 ∧ ¬ 7 < t ∧ ¬ g < 0 ∧ 7 < g) by omega) with e1 | ⟨e1, e2⟩ | ⟨e1, e2, e3⟩ | ⟨e1, e2, e3, e4⟩
   all_goals
    clear hb
    go_wp2_with (refine flatV.wpList_st rfl rfl rfl rfl (cellsV 0 122 false) HV0.out HB4.out ?_; intro w5 hb5 hk5 hs5; clear hs5)
    refine bodyPost_ret (v := .agg (rv 0 122 false).toArray) (flatV.results_one rfl _ (cellsV 0 122 false) rfl hb5) rfl ?_
    exact ⟨rfl, T4.out.st H.out HB4.out (by decide) (Nat.le_refl _) hk5⟩
  ·rw [if_neg hb] at HS
   have hb2 : 0 ≤ t ∧ t ≤ 7 ∧ 0 ≤ g ∧ g ≤ 7 := by omega
   have HB := Lib.hid hb2
   have e1 : ¬ t < 0 := by omega
   have e2 : ¬ 7 < t := by omega
   have e3 : ¬ g < 0 := by omega
   have e4 : ¬ 7 < g := by omega
   have HAt := Lib.hid (fun W K' (hK : Ks F n W K' C src S) => at_is hK t (by unfold Cd.Wf; omega) u q HQ.out)
   obtain ⟨x, hx⟩ : ∃ x, t :: q :: u = x := ⟨_, rfl⟩
   have c1 : (ints x)[1]? = some (.int .i64 q) := by rw [← hx]; rfl
   have hxl : x.length = 18 := by rw [← hx]; simp [hul]
   have HCx := Lib.hid (cellsI hxl)
   have HZ := Lib.hid (cellsI (n := 18) (l := List.replicate 18 0) rfl)
   obtain ⟨ch, hch⟩ : ∃ ch, chB u q i = ch := ⟨_, rfl⟩
   obtain ⟨ac, hac⟩ : ∃ ac, actB u q = ac := ⟨_, rfl⟩
   have HAq := Lib.hid (show ac = true → q = 1 from fun e => by
    rw [← hac] at e
    unfold actB at e
    simp only [Bool.and_eq_true, beq_iff_eq] at e
    exact e.1)
   have HCh := Lib.hid (fun W => child_is t q i HI.out u hul ch hch W)
   have HAc := Lib.hid (fun W => acts_is t q u hul ac hac W)
   rw [hch, hac] at HS
   have hs4 : (ints x).set 4 (.int .i64 g) = ints (t :: q :: u.set 2 g) := by rw [← hx]; obtain ⟨a0, a1, a2, a3, a4, a5, a6, a7, f0, f1, f2, f3, f4, f5, f6, f7, rfl⟩ := Cd.split16 hul; rfl
   have c4 : ∃ y, (ints x)[4]? = some y := ⟨_, List.getElem?_eq_getElem (by simp [ints, hxl])⟩
   obtain ⟨y4, c4⟩ := c4
   rw [hx] at HAt HCh HAc
   have HS4 := Lib.hid hs4
   have HC4 := Lib.hid c4
   clear hb hb2 hx hxl hch hac hs4 c4 hul hq
   go_wp2_with fail
   refine (T4.out.go (HAt.out _)).mono ?_; rintro e w5 ⟨rfl, T5, kp5⟩
   have HB5 := Lib.hid (kp5.lb H.out HB4.out (Nat.le_refl _))
   have HT5 := Lib.hid T5
   have hsz5 := T5.kp.size
   clear T5 kp5 HB4
   go_upto_region 7 with (first
    | (refine flatS.wpList_al rfl rfl ?_; intro w6 hb6 hk6 hs6; clear hs6)
    | (refine flatS.wpList_st rfl rfl rfl rfl HCx.out HZ.out hb6 ?_; intro w7 hb7 hk7 hs7; clear hs7))
   have HT7 := Lib.hid ((HT5.out.nob hk6).st H.out hb6 (by decide) hsz5 hk7)
   have HB7 := Lib.hid ((HB5.out.nob hk6).keep hk7 (by have := HB5.out.lt; omega))
   have HX7 := Lib.hid hb7
   have hg5 : w.heap.size < w5.heap.size := HB5.out.lt
   have q1 := (hb7.cell 1).trans c1
   generalize w5.heap.size = g5 at *
   clear hb6 hk6 hb7 hk7 HB5 HT5
   by_cases hti : t = i
   ·rw [if_neg (by simp [hti]), if_neg (by simp [hti])] at HS
    have hte : (t != i) = false := by simp [hti]
    have HTi := Lib.hid hti
    clear hti
    have HWu := Lib.hid (show ∀ y ∈ u.set 2 g, Cd.Wf y from wf_set (wf_okd HUl.out (HG.out (by
     have h1 := HVd.out
     rw [← HTi.out, HQ.out] at h1
     exact (Prod.mk.inj h1).2))) 2 (by have := HB.out; unfold Cd.Wf; omega))
    by_cases hg : g = t
    ·rw [if_neg (by simp [hg])] at HS
     have hgt : (g != t) = false := by simp [hg]
     clear hg
     obtain ⟨ok, hok⟩ : ∃ ok, (decide ((S.p t).2 ≠ 2) && Cd.okd (u.set 2 g)) = ok := ⟨_, rfl⟩
     have hset : (decide (q ≠ 2) && Cd.okd (u.set 2 g)) = ok := by rw [← hok, HQ.out]
     rw [hset] at HS
     have HSe := Lib.hid (show (if ok then S.setP t (u.set 2 g) else S) = S' ∧ erB ok = E by simpa using HS.out)
     have HEr := Lib.hid (fun W => errno_is ok W)
     rw [HSe.out.2] at HEr
     have HVr := Lib.hid (cellsV 0 E false)
     have hul2 : (u.set 2 g).length = 16 := by rw [List.length_set]; exact HUl.out
     have HSet := Lib.hid (fun W K' (hK : Ks F n W K' C src S) => ssetProc_is hK t (by have := HB.out; unfold Cd.Wf; omega) (u.set 2 g) hul2 HWu.out ok hok)
     have HCu := Lib.hid (cellsI hul2)
     have q4 := (HX7.out.cell 4).trans HC4.out
     have f4 := HX7.out.frozen 4
     clear hok hset hul2
     go_upto_region 14 with fail
     have ks : Keep (fun x => x = g5) w7 (w7.setCell ⟨g5, 4, none⟩ (.int .i64 g)) := (Keep.refl (fun x => x = g5) w7).setCell ⟨g5, 4, none⟩ (.int .i64 g) (fun _ => rfl)
     have hx20 : Blk (w7.setCell ⟨g5, 4, none⟩ (.int .i64 g)) g5 94 (ints (t :: q :: u.set 2 g)) := by
      rw [← HS4.out]
      exact HX7.out.setCell 4 _
     have HT20 := Lib.hid (HT7.out.st H.out HX7.out (by decide) hsz5 ks)
     have HB20 := Lib.hid (HB7.out.keep ks (by omega))
     have hrng := blk_range hx20 2 16
     rw [show ((ints (t :: q :: u.set 2 g)).drop 2).take 16 = ints (u.set 2 g) by
      have := HCu.out.len
      show (ints (u.set 2 g)).take 16 = _
      rw [List.take_of_length_le (by omega)]] at hrng
     have HRg := Lib.hid hrng
     clear hrng hx20 ks q4 f4
     generalize w7.setCell ⟨g5, 4, none⟩ (.int .i64 g) = w20 at *
     generalize u.set 2 g = u2 at *
     go_wp2_with (refine wpList_load_mid rfl 37 _ rfl g5 2 rfl (ints u2) _ HRg.out Tryz.underlying37 rfl (by rw [HCu.out.len]; exact flatP.i) ?_)
     refine (HT20.out.go (HSet.out _)).mono ?_; rintro e w21 ⟨rfl, T21, kp21⟩
     rw [HSe.out.1] at T21
     have HB21 := Lib.hid (kp21.lb H.out HB20.out (Nat.le_refl _))
     have HT21 := Lib.hid T21
     clear T21 kp21
     go_wp2_with fail
     refine (HEr.out _).mono ?_; rintro e w22 ⟨rfl, rfl⟩
     go_wp2_with (refine flatV.wpList_st rfl rfl rfl rfl HVr.out HV0.out HB21.out ?_; intro w23 hb23 hk23 hs23; clear hs23)
     refine bodyPost_ret (v := .agg (rv 0 E false).toArray) (flatV.results_one rfl _ HVr.out rfl hb23) rfl ?_
     exact ⟨rfl, HT21.out.st H.out HB21.out (by decide) (Nat.le_refl _) hk23⟩
    ·have hgt : (g != t) = true := bne_iff_ne.2 hg
     obtain ⟨l, hl⟩ : ∃ l, pk S (memberS g) 8 = l := ⟨_, rfl⟩
     obtain ⟨ln, hln⟩ : ∃ ln, l.length = ln := ⟨_, rfl⟩
     have hc := HT7.out.go (fun K' hK => members_is hK g)
     rw [hl, hln] at hc
     rw [hl, hln] at HS
     clear hl hln
     go_wp2_with fail
     refine hc.mono ?_; rintro e w10 ⟨⟨A, cap, rfl, _⟩, T10, kp10⟩
     have HT10 := Lib.hid T10
     have HB10 := Lib.hid (kp10.lb H.out HB7.out (Nat.le_refl _))
     have HX10 := Lib.hid (kp10.lb H.out HX7.out hsz5)
     clear T10 kp10 hc
     by_cases h0 : ln = 0
     ·rw [if_pos ⟨hg, h0⟩] at HS
      obtain ⟨rfl, rfl⟩ : S = S' ∧ 101 = E := by simpa using HS.out
      subst h0
      go_wp2_with (refine flatV.wpList_st rfl rfl rfl rfl (cellsV 0 101 false) HV0.out HB10.out ?_; intro w11 hb11 hk11 hs11; clear hs11)
      refine bodyPost_ret (v := .agg (rv 0 101 false).toArray) (flatV.results_one rfl _ (cellsV 0 101 false) rfl hb11) rfl ?_
      exact ⟨rfl, HT10.out.st H.out HB10.out (by decide) (Nat.le_refl _) hk11⟩
     ·rw [if_neg (by intro h; exact h0 h.2)] at HS
      have hl0 : ((ln : Int) == 0) = false := by simp; omega
      obtain ⟨ok, hok⟩ : ∃ ok, (decide ((S.p t).2 ≠ 2) && Cd.okd (u.set 2 g)) = ok := ⟨_, rfl⟩
      have hset : (decide (q ≠ 2) && Cd.okd (u.set 2 g)) = ok := by rw [← hok, HQ.out]
      rw [hset] at HS
      have HSe := Lib.hid (show (if ok then S.setP t (u.set 2 g) else S) = S' ∧ erB ok = E by simpa using HS.out)
      have HEr := Lib.hid (fun W => errno_is ok W)
      rw [HSe.out.2] at HEr
      have HVr := Lib.hid (cellsV 0 E false)
      have hul2 : (u.set 2 g).length = 16 := by rw [List.length_set]; exact HUl.out
      have HSet := Lib.hid (fun W K' (hK : Ks F n W K' C src S) => ssetProc_is hK t (by have := HB.out; unfold Cd.Wf; omega) (u.set 2 g) hul2 HWu.out ok hok)
      have HCu := Lib.hid (cellsI hul2)
      have q4 := (HX10.out.cell 4).trans HC4.out
      have f4 := HX10.out.frozen 4
      clear hok hset hul2
      go_upto_region 14 with fail
      have ks : Keep (fun x => x = g5) w10 (w10.setCell ⟨g5, 4, none⟩ (.int .i64 g)) := (Keep.refl (fun x => x = g5) w10).setCell ⟨g5, 4, none⟩ (.int .i64 g) (fun _ => rfl)
      have hx20 : Blk (w10.setCell ⟨g5, 4, none⟩ (.int .i64 g)) g5 94 (ints (t :: q :: u.set 2 g)) := by
       rw [← HS4.out]
       exact HX10.out.setCell 4 _
      have HT20 := Lib.hid (HT10.out.st H.out HX10.out (by decide) hsz5 ks)
      have HB20 := Lib.hid (HB10.out.keep ks (by omega))
      have hrng := blk_range hx20 2 16
      rw [show ((ints (t :: q :: u.set 2 g)).drop 2).take 16 = ints (u.set 2 g) by
       have := HCu.out.len
       show (ints (u.set 2 g)).take 16 = _
       rw [List.take_of_length_le (by omega)]] at hrng
      have HRg := Lib.hid hrng
      clear hrng hx20 ks q4 f4
      generalize w10.setCell ⟨g5, 4, none⟩ (.int .i64 g) = w20 at *
      generalize u.set 2 g = u2 at *
      go_wp2_with (refine wpList_load_mid rfl 37 _ rfl g5 2 rfl (ints u2) _ HRg.out Tryz.underlying37 rfl (by rw [HCu.out.len]; exact flatP.i) ?_)
      refine (HT20.out.go (HSet.out _)).mono ?_; rintro e w21 ⟨rfl, T21, kp21⟩
      rw [HSe.out.1] at T21
      have HB21 := Lib.hid (kp21.lb H.out HB20.out (Nat.le_refl _))
      have HT21 := Lib.hid T21
      clear T21 kp21
      go_wp2_with fail
      refine (HEr.out _).mono ?_; rintro e w22 ⟨rfl, rfl⟩
      go_wp2_with (refine flatV.wpList_st rfl rfl rfl rfl HVr.out HV0.out HB21.out ?_; intro w23 hb23 hk23 hs23; clear hs23)
      refine bodyPost_ret (v := .agg (rv 0 E false).toArray) (flatV.results_one rfl _ HVr.out rfl hb23) rfl ?_
      exact ⟨rfl, HT21.out.st H.out HB21.out (by decide) (Nat.le_refl _) hk23⟩
   ·have hte : (t != i) = true := bne_iff_ne.2 hti
    by_cases hq2 : q = 2
    ·rw [if_pos ⟨hti, hq2⟩] at HS
     obtain ⟨rfl, rfl⟩ : S = S' ∧ 105 = E := by simpa using HS.out
     subst hq2
     go_wp2_with (refine flatV.wpList_st rfl rfl rfl rfl (cellsV 0 105 false) HV0.out HB7.out ?_; intro w8 hb8 hk8 hs8; clear hs8)
     refine bodyPost_ret (v := .agg (rv 0 105 false).toArray) (flatV.results_one rfl _ (cellsV 0 105 false) rfl hb8) rfl ?_
     exact ⟨rfl, HT7.out.st H.out HB7.out (by decide) (Nat.le_refl _) hk8⟩
    ·rw [if_neg (by intro h; exact hq2 h.2)] at HS
     have HQ2 := Lib.hid hq2
     go_wp2_with (refine flatS.wpList_ldG (by rfl) rfl rfl HCx.out HX7.out ?_)
     refine (HCh.out _).mono ?_; rintro e w8 ⟨rfl, k8⟩
     have HT8 := Lib.hid (HT7.out.nob k8)
     have HB8 := Lib.hid (HB7.out.nob k8)
     have HX8 := Lib.hid (HX7.out.nob k8)
     clear k8
     cases ch with
     | false =>
      rw [if_pos ⟨hti, by simp⟩] at HS
      obtain ⟨rfl, rfl⟩ : S = S' ∧ 103 = E := by simpa using HS.out
      go_wp2_with (refine flatV.wpList_st rfl rfl rfl rfl (cellsV 0 103 false) HV0.out HB8.out ?_; intro w9 hb9 hk9 hs9; clear hs9)
      refine bodyPost_ret (v := .agg (rv 0 103 false).toArray) (flatV.results_one rfl _ (cellsV 0 103 false) rfl hb9) rfl ?_
      exact ⟨rfl, HT8.out.st H.out HB8.out (by decide) (Nat.le_refl _) hk9⟩
     | true =>
      go_wp2_with (refine flatS.wpList_ldG (by rfl) rfl rfl HCx.out HX8.out ?_)
      refine (HAc.out _).mono ?_; rintro e w9 ⟨rfl, k9⟩
      have HT9 := Lib.hid (HT8.out.nob k9)
      have HB9 := Lib.hid (HB8.out.nob k9)
      have HX9 := Lib.hid (HX8.out.nob k9)
      clear k9
      cases ac with
      | false =>
       rw [if_pos ⟨hti, by simp⟩] at HS
       obtain ⟨rfl, rfl⟩ : S = S' ∧ 103 = E := by simpa using HS.out
       go_wp2_with (refine flatV.wpList_st rfl rfl rfl rfl (cellsV 0 103 false) HV0.out HB9.out ?_; intro w10 hb10 hk10 hs10; clear hs10)
       refine bodyPost_ret (v := .agg (rv 0 103 false).toArray) (flatV.results_one rfl _ (cellsV 0 103 false) rfl hb10) rfl ?_
       exact ⟨rfl, HT9.out.st H.out HB9.out (by decide) (Nat.le_refl _) hk10⟩
      | true =>
       rw [if_neg (by simp)] at HS
       have HWu := Lib.hid (show ∀ y ∈ u.set 2 g, Cd.Wf y from wf_set (wf_okd HUl.out (HG.out (by
        have h1 := HAq.out rfl
        exact h1))) 2 (by have := HB.out; unfold Cd.Wf; omega))
       by_cases hg : g = t
       ·rw [if_neg (by simp [hg])] at HS
        have hgt : (g != t) = false := by simp [hg]
        clear hg
        obtain ⟨ok, hok⟩ : ∃ ok, (decide ((S.p t).2 ≠ 2) && Cd.okd (u.set 2 g)) = ok := ⟨_, rfl⟩
        have hset : (decide (q ≠ 2) && Cd.okd (u.set 2 g)) = ok := by rw [← hok, HQ.out]
        rw [hset] at HS
        have HSe := Lib.hid (show (if ok then S.setP t (u.set 2 g) else S) = S' ∧ erB ok = E by simpa using HS.out)
        have HEr := Lib.hid (fun W => errno_is ok W)
        rw [HSe.out.2] at HEr
        have HVr := Lib.hid (cellsV 0 E false)
        have hul2 : (u.set 2 g).length = 16 := by rw [List.length_set]; exact HUl.out
        have HSet := Lib.hid (fun W K' (hK : Ks F n W K' C src S) => ssetProc_is hK t (by have := HB.out; unfold Cd.Wf; omega) (u.set 2 g) hul2 HWu.out ok hok)
        have HCu := Lib.hid (cellsI hul2)
        have q4 := (HX9.out.cell 4).trans HC4.out
        have f4 := HX9.out.frozen 4
        clear hok hset hul2
        go_upto_region 14 with fail
        have ks : Keep (fun x => x = g5) w9 (w9.setCell ⟨g5, 4, none⟩ (.int .i64 g)) := (Keep.refl (fun x => x = g5) w9).setCell ⟨g5, 4, none⟩ (.int .i64 g) (fun _ => rfl)
        have hx20 : Blk (w9.setCell ⟨g5, 4, none⟩ (.int .i64 g)) g5 94 (ints (t :: q :: u.set 2 g)) := by
         rw [← HS4.out]
         exact HX9.out.setCell 4 _
        have HT20 := Lib.hid (HT9.out.st H.out HX9.out (by decide) hsz5 ks)
        have HB20 := Lib.hid (HB9.out.keep ks (by omega))
        have hrng := blk_range hx20 2 16
        rw [show ((ints (t :: q :: u.set 2 g)).drop 2).take 16 = ints (u.set 2 g) by
         have := HCu.out.len
         show (ints (u.set 2 g)).take 16 = _
         rw [List.take_of_length_le (by omega)]] at hrng
        have HRg := Lib.hid hrng
        clear hrng hx20 ks q4 f4
        generalize w9.setCell ⟨g5, 4, none⟩ (.int .i64 g) = w20 at *
        generalize u.set 2 g = u2 at *
        go_wp2_with (refine wpList_load_mid rfl 37 _ rfl g5 2 rfl (ints u2) _ HRg.out Tryz.underlying37 rfl (by rw [HCu.out.len]; exact flatP.i) ?_)
        refine (HT20.out.go (HSet.out _)).mono ?_; rintro e w21 ⟨rfl, T21, kp21⟩
        rw [HSe.out.1] at T21
        have HB21 := Lib.hid (kp21.lb H.out HB20.out (Nat.le_refl _))
        have HT21 := Lib.hid T21
        clear T21 kp21
        go_wp2_with fail
        refine (HEr.out _).mono ?_; rintro e w22 ⟨rfl, rfl⟩
        go_wp2_with (refine flatV.wpList_st rfl rfl rfl rfl HVr.out HV0.out HB21.out ?_; intro w23 hb23 hk23 hs23; clear hs23)
        refine bodyPost_ret (v := .agg (rv 0 E false).toArray) (flatV.results_one rfl _ HVr.out rfl hb23) rfl ?_
        exact ⟨rfl, HT21.out.st H.out HB21.out (by decide) (Nat.le_refl _) hk23⟩
       ·have hgt : (g != t) = true := bne_iff_ne.2 hg
        obtain ⟨l, hl⟩ : ∃ l, pk S (memberS g) 8 = l := ⟨_, rfl⟩
        obtain ⟨ln, hln⟩ : ∃ ln, l.length = ln := ⟨_, rfl⟩
        have hc := HT9.out.go (fun K' hK => members_is hK g)
        rw [hl, hln] at hc
        rw [hl, hln] at HS
        clear hl hln
        go_wp2_with fail
        refine hc.mono ?_; rintro e w10 ⟨⟨A, cap, rfl, _⟩, T10, kp10⟩
        have HT10 := Lib.hid T10
        have HB10 := Lib.hid (kp10.lb H.out HB9.out (Nat.le_refl _))
        have HX10 := Lib.hid (kp10.lb H.out HX9.out hsz5)
        clear T10 kp10 hc
        by_cases h0 : ln = 0
        ·rw [if_pos ⟨hg, h0⟩] at HS
         obtain ⟨rfl, rfl⟩ : S = S' ∧ 101 = E := by simpa using HS.out
         subst h0
         go_wp2_with (refine flatV.wpList_st rfl rfl rfl rfl (cellsV 0 101 false) HV0.out HB10.out ?_; intro w11 hb11 hk11 hs11; clear hs11)
         refine bodyPost_ret (v := .agg (rv 0 101 false).toArray) (flatV.results_one rfl _ (cellsV 0 101 false) rfl hb11) rfl ?_
         exact ⟨rfl, HT10.out.st H.out HB10.out (by decide) (Nat.le_refl _) hk11⟩
        ·rw [if_neg (by intro h; exact h0 h.2)] at HS
         have hl0 : ((ln : Int) == 0) = false := by simp; omega
         obtain ⟨ok, hok⟩ : ∃ ok, (decide ((S.p t).2 ≠ 2) && Cd.okd (u.set 2 g)) = ok := ⟨_, rfl⟩
         have hset : (decide (q ≠ 2) && Cd.okd (u.set 2 g)) = ok := by rw [← hok, HQ.out]
         rw [hset] at HS
         have HSe := Lib.hid (show (if ok then S.setP t (u.set 2 g) else S) = S' ∧ erB ok = E by simpa using HS.out)
         have HEr := Lib.hid (fun W => errno_is ok W)
         rw [HSe.out.2] at HEr
         have HVr := Lib.hid (cellsV 0 E false)
         have hul2 : (u.set 2 g).length = 16 := by rw [List.length_set]; exact HUl.out
         have HSet := Lib.hid (fun W K' (hK : Ks F n W K' C src S) => ssetProc_is hK t (by have := HB.out; unfold Cd.Wf; omega) (u.set 2 g) hul2 HWu.out ok hok)
         have HCu := Lib.hid (cellsI hul2)
         have q4 := (HX10.out.cell 4).trans HC4.out
         have f4 := HX10.out.frozen 4
         clear hok hset hul2
         go_upto_region 14 with fail
         have ks : Keep (fun x => x = g5) w10 (w10.setCell ⟨g5, 4, none⟩ (.int .i64 g)) := (Keep.refl (fun x => x = g5) w10).setCell ⟨g5, 4, none⟩ (.int .i64 g) (fun _ => rfl)
         have hx20 : Blk (w10.setCell ⟨g5, 4, none⟩ (.int .i64 g)) g5 94 (ints (t :: q :: u.set 2 g)) := by
          rw [← HS4.out]
          exact HX10.out.setCell 4 _
         have HT20 := Lib.hid (HT10.out.st H.out HX10.out (by decide) hsz5 ks)
         have HB20 := Lib.hid (HB10.out.keep ks (by omega))
         have hrng := blk_range hx20 2 16
         rw [show ((ints (t :: q :: u.set 2 g)).drop 2).take 16 = ints (u.set 2 g) by
          have := HCu.out.len
          show (ints (u.set 2 g)).take 16 = _
          rw [List.take_of_length_le (by omega)]] at hrng
         have HRg := Lib.hid hrng
         clear hrng hx20 ks q4 f4
         generalize w10.setCell ⟨g5, 4, none⟩ (.int .i64 g) = w20 at *
         generalize u.set 2 g = u2 at *
         go_wp2_with (refine wpList_load_mid rfl 37 _ rfl g5 2 rfl (ints u2) _ HRg.out Tryz.underlying37 rfl (by rw [HCu.out.len]; exact flatP.i) ?_)
         refine (HT20.out.go (HSet.out _)).mono ?_; rintro e w21 ⟨rfl, T21, kp21⟩
         rw [HSe.out.1] at T21
         have HB21 := Lib.hid (kp21.lb H.out HB20.out (Nat.le_refl _))
         have HT21 := Lib.hid T21
         clear T21 kp21
         go_wp2_with fail
         refine (HEr.out _).mono ?_; rintro e w22 ⟨rfl, rfl⟩
         go_wp2_with (refine flatV.wpList_st rfl rfl rfl rfl HVr.out HV0.out HB21.out ?_; intro w23 hb23 hk23 hs23; clear hs23)
         refine bodyPost_ret (v := .agg (rv 0 E false).toArray) (flatV.results_one rfl _ HVr.out rfl hb23) rfl ?_
         exact ⟨rfl, HT21.out.st H.out HB21.out (by decide) (Nat.le_refl _) hk23⟩
 ·rw [if_neg (by decide)] at HS
  obtain ⟨rfl, rfl⟩ : S = S' ∧ 105 = E := by simpa using HS.out
  go_wp2_with (refine flatV.wpList_st rfl rfl rfl rfl (cellsV 0 105 false) HV0.out HB4.out ?_; intro w5 hb5 hk5 hs5; clear hs5)
  refine bodyPost_ret (v := .agg (rv 0 105 false).toArray) (flatV.results_one rfl _ (cellsV 0 105 false) rfl hb5) rfl ?_
  exact ⟨rfl, T4.out.st H.out HB4.out (by decide) (Nat.le_refl _) hk5⟩
end
end Go.Proofs.YtgcikpgcoemfnaaGreat.Pr
namespace Go.Proofs.YtgcikpgcoemfnaaGreat.Pr
open Go.RowKit Co
set_option linter.unusedVariables false
set_option linter.unusedSimpArgs false
/-- Whom a signal is for, or why there is nobody. -/
def targS (S : Stt) (t : Int) : List (List Int) × Int :=
 if 7 < t then (if (pk S (memberS (t - 8)) 8).length = 0 then ([], 103) else (pk S (memberS (t - 8)) 8, 0))
 else if (S.p t).2 = 2 then ([], 105) else if (S.p t).2 = 0 then ([], 103) else ([slS S t], 0)
section
variable {F : List UInt8 → Prop} {n : Nat} {w w' w1 : World} {K : Kn} {C : Cm} {src : Src} {S S' S2 : Stt}
theorem made_nil (w w' : World) : Made w w' [] none 0 := ⟨Vec.nil _ _ _, fun x ⟨a, e, _⟩ => by cases e⟩
set_option maxRecDepth 100000 in
set_option maxHeartbeats 4000000 in
theorem targets_is (h : Ks F n w K C src S) (t : Int) (ht : -9223372036854775800 ≤ t ∧ t ≤ 9223372036854775807) (l : List (List Int)) (er : Int) (hs : targS S t = (l, er)) :
  Calls Tryz.prog 68 #[.pointer (some ⟨C.p, 0, none⟩), .int .i64 t] w fun e w' => (∃ A cap, e = .returned (.tuple #[.slice A l.length cap, .int .i64 er]) ∧ Made w w' l A cap) ∧ Kt F n w K C src S w' := by
 have H := Lib.hid h
 unfold targS at hs
 by_cases h7 : 7 < t
 ·rw [if_pos h7] at hs
  have hw1 : wrap64 (t - 8) = t - 8 := by rw [← IntWalk.i64_left, IntKind.wrap_i64]; omega
  have HM := Lib.hid (fun W K' (hK : Ks F n W K' C src S) => members_is hK (t - 8))
  obtain ⟨l0, hl0⟩ : ∃ l0, pk S (memberS (t - 8)) 8 = l0 := ⟨_, rfl⟩
  rw [hl0] at hs HM
  obtain ⟨ln, hln⟩ : ∃ ln, l0.length = ln := ⟨_, rfl⟩
  have HLn := Lib.hid hln
  have HS := Lib.hid hs
  clear h ht hs hl0 hln
  go_enter Tryz.func68, Tryz.ntmps68
  go_wp2_with fail
  have T0 := H.out.still (Keep.refl Nob w)
  have hc := T0.go (HM.out _)
  rw [HLn.out] at hc
  refine hc.mono ?_; rintro e w2 ⟨⟨A, cap, rfl, hm⟩, T2, _⟩
  have HMd := Lib.hid hm
  have HT2 := Lib.hid T2
  clear hm T2 T0 hc
  by_cases h0 : ln = 0
  ·have hs := HS.out
   rw [if_pos (by rw [HLn.out]; exact h0)] at hs
   obtain ⟨rfl, rfl⟩ : [] = l ∧ 103 = er := by simpa using hs
   subst h0
   clear hs
   go_wp2
   go_ret2
   exact ⟨⟨none, 0, rfl, made_nil _ _⟩, HT2.out⟩
  ·have hs := HS.out
   rw [if_neg (by rw [HLn.out]; exact h0)] at hs
   obtain ⟨rfl, hz0⟩ : l0 = l ∧ 0 = er := by simpa using hs
   have HE0 := Lib.hid hz0
   have h1 : ((ln : Int) == 0) = false := by simp; omega
   clear hs hz0
   go_wp2
   go_ret2
   exact ⟨⟨A, cap, by rw [HLn.out, ← HE0.out]; rfl, HMd.out⟩, HT2.out⟩
 ·rw [if_neg h7] at hs
  obtain ⟨v, d, hv⟩ : ∃ v d, S.p t = (v, d) := ⟨_, _, rfl⟩
  have hvl := len16 h.s hv
  have HAt := Lib.hid (fun W K' (hK : Ks F n W K' C src S) => at_is hK t (by unfold Cd.Wf; omega) v d hv)
  have hsl : slS S t = t :: d :: v := by unfold slS; rw [hv]
  rw [hsl, hv] at hs
  dsimp only at hs
  obtain ⟨x, hx⟩ : ∃ x, t :: d :: v = x := ⟨_, rfl⟩
  have c1 : (ints x)[1]? = some (.int .i64 d) := by rw [← hx]; rfl
  have hxl : x.length = 18 := by rw [← hx]; simp [hvl]
  rw [hx] at HAt hs
  have HS := Lib.hid hs
  have HXl := Lib.hid hxl
  have HCx := Lib.hid (cellsI hxl)
  have HZ := Lib.hid (cellsI (n := 18) (l := List.replicate 18 0) rfl)
  clear h ht hs hv hvl hsl hx hxl
  go_enter Tryz.func68, Tryz.ntmps68
  go_wp2_with fail
  have T0 := H.out.still (Keep.refl Nob w)
  refine (T0.go (HAt.out _)).mono ?_; rintro e w2 ⟨rfl, T2, _⟩
  have HT2 := Lib.hid T2
  have hsz := T2.kp.size
  clear T0 T2
  go_upto_region 7 with (first
   | (refine flatS.wpList_al rfl rfl ?_; intro w3 hb3 hk3 hs3; clear hs3)
   | (refine flatS.wpList_st rfl rfl rfl rfl HCx.out HZ.out hb3 ?_; intro w4 hb4 hk4 hs4; clear hs4))
  have HT4 := Lib.hid ((HT2.out.nob hk3).st H.out hb3 (by decide) hsz hk4)
  have q1 := (hb4.cell 1).trans c1
  have HB4 := Lib.hid hb4
  generalize w2.heap.size = g5 at *
  clear hb3 hk3 hb4 hk4
  by_cases h2 : d = 2
  ·obtain ⟨rfl, rfl⟩ : [] = l ∧ 105 = er := by
    have := HS.out
    rw [if_pos h2] at this
    simpa using this
   subst h2
   go_wp2
   go_ret2
   exact ⟨⟨none, 0, rfl, made_nil _ _⟩, HT4.out⟩
  ·rw [if_neg h2] at HS
   by_cases h0 : d = 0
   ·obtain ⟨rfl, rfl⟩ : [] = l ∧ 103 = er := by
     have := HS.out
     rw [if_pos h0] at this
     simpa using this
    subst h0
    go_wp2
    go_ret2
    exact ⟨⟨none, 0, rfl, made_nil _ _⟩, HT4.out⟩
   ·obtain ⟨rfl, rfl⟩ : [x] = l ∧ 0 = er := by
     have := HS.out
     rw [if_neg h0] at this
     simpa using this
    obtain ⟨cs, hcs⟩ : ∃ cs, ints x = cs := ⟨_, rfl⟩
    have hbs := fun W => bs_slot cs (by rw [← hcs]; exact HCx.out.len) W
    rw [hcs] at HCx HB4
    have HCS := Lib.hid hcs
    have HBS := Lib.hid hbs
    clear hcs hbs c1
    go_wp2_with (first
     | (refine flatS.wpList_ld rfl rfl rfl HCx.out HB4.out ?_)
     | (refine wpList_bs1 rfl _ 94 _ rfl cs rfl (HBS.out w4) ?_; intro w5 hb5 hk5 hs5; clear hs5))
    have HMd := Lib.hid (show Made w w5 [x] (some ⟨w4.heap.size, 0, none⟩) 1 by
     refine ⟨Vec.of_blk (n := 1) (by rw [show rows [x] = cs by rw [← HCS.out]; simp [rows]]; exact hb5) ?_ (by decide), fun y ⟨a, e, h⟩ => ?_⟩
     ·rw [show rows [x] = cs by rw [← HCS.out]; simp [rows], HCx.out.len]
     ·cases e
      cases h
      exact HT4.out.kp.size)
    have HT5 := Lib.hid (HT4.out.nob hk5)
    clear hb5 hk5
    go_ret2
    exact ⟨⟨_, 1, rfl, HMd.out⟩, HT5.out⟩
end
end Go.Proofs.YtgcikpgcoemfnaaGreat.Pr
