/- Texts PrcF, PrT, packed. -/
import Derived.Test.YtgcikpgcoemfnaaGreatPu0
import Derived.Test.YtgcikpgcoemfnaaGreatPwx0
import Derived.Test.YtgcikpgcoemfnaaGreatPwx1
import Derived.Test.YtgcikpgcoemfnaaGreatPu4
import Derived.Test.YtgcikpgcoemfnaaGreatPu18
import Derived.Test.YtgcikpgcoemfnaaGreatPu19
import Derived.Test.YtgcikpgcoemfnaaGreatPu1
import Derived.Test.YtgcikpgcoemfnaaGreatPu7
import Derived.Test.YtgcikpgcoemfnaaGreatPu11
import Derived.Test.YtgcikpgcoemfnaaGreatPu21
import Derived.Test.YtgcikpgcoemfnaaGreatPu22
import Derived.Test.YtgcikpgcoemfnaaGreatPu12
import Derived.Test.YtgcikpgcoemfnaaGreatPwx5
import Derived.Test.YtgcikpgcoemfnaaGreatPu14
import Derived.Test.YtgcikpgcoemfnaaGreatPu13
import Derived.Test.YtgcikpgcoemfnaaGreatPu15
import Derived.Test.YtgcikpgcoemfnaaGreatPu16
import Derived.Test.YtgcikpgcoemfnaaGreatPu24
import Derived.Test.YtgcikpgcoemfnaaGreatPu23
import Derived.Test.YtgcikpgcoemfnaaGreatPu5
import Derived.Test.YtgcikpgcoemfnaaGreatPu8
import Derived.Test.YtgcikpgcoemfnaaGreatPu20
import Derived.Test.YtgcikpgcoemfnaaGreatPu2
import Derived.Test.YtgcikpgcoemfnaaGreatPu9
import Derived.Test.YtgcikpgcoemfnaaGreatPu25
import Derived.Test.YtgcikpgcoemfnaaGreatPu10
import Derived.Test.YtgcikpgcoemfnaaGreatPu27
import Derived.Test.YtgcikpgcoemfnaaGreatPu30
import Derived.Test.YtgcikpgcoemfnaaGreatPwx6
import Derived.Test.YtgcikpgcoemfnaaGreatPu3
import Derived.Test.YtgcikpgcoemfnaaGreatPwx2
import Derived.Test.YtgcikpgcoemfnaaGreatPwx3
import Derived.Test.YtgcikpgcoemfnaaGreatPwx4
import Derived.Test.YtgcikpgcoemfnaaGreatPu32
namespace Go.Proofs.YtgcikpgcoemfnaaGreat.Pr
open Go.RowKit Co
set_option linter.unusedVariables false
set_option linter.unusedSimpArgs false
/-- The signal raised in each of these, or EIO at the first one that can't be set. -/
def killL (n : Int) : Stt → List (List Int) → Stt × Int
 | S, [] => (S, 0)
 | S, x :: l => if (Sg.raise (Sg.ofL (x.drop 2)) n).2 then
   (if decide ((S.p (x.getD 0 0)).2 ≠ 2) && Cd.okd (Sg.ls (Sg.raise (Sg.ofL (x.drop 2)) n).1) then killL n (S.setP (x.getD 0 0) (Sg.ls (Sg.raise (Sg.ofL (x.drop 2)) n).1)) l else (S, 105)) else killL n S l
def killS (S : Stt) (i t n : Int) : Stt × Int :=
 if (selfR (S.p i).1 (S.p i).2).2 = 0 then
  (if t < 0 ∨ 15 < t ∨ n < 0 ∨ 15 < n then (S, 122)
  else if (targS S t).2 = 0 then killL n S (targS S t).1 else (S, (targS S t).2))
 else (S, 105)
theorem killL_cons (n : Int) (S : Stt) (j d : Int) (v : List Int) (l : List (List Int)) : killL n S ((j :: d :: v) :: l) = if (Sg.raise (Sg.ofL v) n).2 then
      (if decide ((S.p j).2 ≠ 2) && Cd.okd (Sg.ls (Sg.raise (Sg.ofL v) n).1) then killL n (S.setP j (Sg.ls (Sg.raise (Sg.ofL v) n).1)) l else (S, 105)) else killL n S l := rfl
theorem wf_bv (x : BitVec 64) : Cd.Wf x.toInt := by
 have h1 := BitVec.toInt_lt (x := x)
 have h2 := BitVec.le_toInt (x := x)
 unfold Cd.Wf
 constructor
 ·exact h2
 ·have : (2 : Int) ^ (64 - 1) = 9223372036854775808 := by decide
  omega
theorem wf_wi (s n : Int) : Cd.Wf (Sg.wi s n) := by unfold Sg.wi; rw [Sg.or_i64]; exact wf_bv _
theorem wf_wo (s n : Int) : Cd.Wf (Sg.wo s n) := by unfold Sg.wo; rw [Sg.off_i64]; exact wf_bv _
theorem wf_raise {v : List Int} (hl : v.length = 16) (hw : ∀ x ∈ v, Cd.Wf x) (n : Int) : ∀ x ∈ Sg.ls (Sg.raise (Sg.ofL v) n).1, Cd.Wf x := by
 have h1 : Cd.Wf 1 := by unfold Cd.Wf; decide
 have hr : Cd.Wf (Sg.rpe (Sg.ofL v) n) := by
  unfold Sg.rpe
  split
  ·obtain ⟨a0, a1, a2, a3, a4, a5, a6, a7, f0, f1, f2, f3, f4, f5, f6, f7, rfl⟩ := Cd.split16 hl
   exact hw _ (by simp [Sg.ofL])
  ·exact wf_wi _ _
 have h0 : ∀ x ∈ Sg.ls (Sg.ofL v), Cd.Wf x := by rw [Sg.ls_ofL hl]; exact hw
 have key : ∀ (s pe : Int), Cd.Wf s → Cd.Wf pe → ∀ x ∈ Sg.ls { Sg.ofL v with s := s, pe := pe }, Cd.Wf x := by
  intro s pe hs hp x hx
  have e : Sg.ls { Sg.ofL v with s := s, pe := pe } = ((Sg.ls (Sg.ofL v)).set 0 s).set 4 pe := rfl
  rw [e] at hx
  exact wf_set (wf_set h0 0 hs) 4 hp x hx
 have hs : Cd.Wf (Sg.ofL v).s := h0 _ (by simp [Sg.ls])
 unfold Sg.raise
 split
 ·split
  ·exact key _ _ hs (wf_wo _ _)
  ·split
   ·exact key _ _ h1 (wf_wo _ _)
   ·split
    ·exact key _ _ h1 hr
    ·exact key _ _ hs hr
 ·exact h0
/-- Whom a signal is for is there. -/
theorem targ_good {F : List UInt8 → Prop} {n nb : Nat} {src : Src} {bad : List Rf} {xs : List UInt8} {S : Stt} (h : Sto F n src nb bad xs S) {t : Int} (ht : 0 ≤ t ∧ t ≤ 15) {l : List (List Int)} (hs : targS S t = (l, 0)) :
  (∀ x ∈ l, ∃ (j : Int) (v : List Int), x = j :: 1 :: v ∧ v.length = 16 ∧ Cd.Wf j ∧ ∀ y ∈ v, Cd.Wf y) ∧ l.length ≤ 8 := by
 have one : ∀ j : Int, Cd.Wf j → (S.p j).2 = 1 → ∃ (i : Int) (v : List Int), slS S j = i :: 1 :: v ∧ v.length = 16 ∧ Cd.Wf i ∧ ∀ y ∈ v, Cd.Wf y := fun j hj hd => by
  have hp : S.p j = ((S.p j).1, 1) := by rw [← hd]
  have hl := len16 h hp
  exact ⟨j, (S.p j).1, by unfold slS; rw [hd], hl, hj, wf_okd hl (goodP h hp)⟩
 unfold targS at hs
 split at hs
 ·split at hs
  ·simp at hs
  ·obtain ⟨rfl, _⟩ := Prod.mk.inj hs
   refine ⟨fun x hx => ?_, pk_len S _ 8⟩
   obtain ⟨k, hk, rfl, hp⟩ := mem_pk hx
   have hd : (S.p k).2 = 1 := by
    have : ((slS S k).getD 1 0 == 1) = true := by
     unfold memberS actS at hp
     simp only [Bool.and_eq_true] at hp
     exact hp.1.1
    simpa [slS] using this
   exact one k (by unfold Cd.Wf; omega) hd
 ·split at hs
  ·simp at hs
  ·split at hs
   ·simp at hs
   ·rename_i h2 h0
    obtain ⟨rfl, _⟩ := Prod.mk.inj hs
    refine ⟨fun x hx => ?_, by simp⟩
    obtain rfl : x = slS S t := by simpa using hx
    refine one t (by unfold Cd.Wf; omega) ?_
    obtain ⟨_, y, b, _, _, hd⟩ := live (by decide) (h.p t) h2
    have : (Cd.dcd (got xs src y)).2 = (S.p t).2 := by rw [hd]
    unfold Cd.dcd at this
    split at this
    ·split at this
     ·exact absurd this.symm h0
     ·split at this
      ·exact this.symm
      ·exact absurd this.symm h2
    ·exact absurd this.symm h2
section
variable {F : List UInt8 → Prop} {n : Nat} {w w' w1 : World} {K : Kn} {C : Cm} {src : Src} {S S' S2 : Stt}
set_option maxRecDepth 100000 in
set_option maxHeartbeats 4000000 in
theorem kill_is (h : Ks F n w K C src S) (i : Int) (hi : -9223372036854775808 ≤ i ∧ i + 1 ≤ 9223372036854775807) (t g : Int) (S' : Stt) (E : Int) (hs : killS S i t g = (S', E)) :
  Calls Tryz.prog 23 #[.pointer (some ⟨C.p, 0, none⟩), .int .i64 i, .int .i64 t, .int .i64 g] w fun e w' => e = .returned (.agg (rv 0 E false).toArray) ∧ Kt F n w K C src S' w' := by
 obtain ⟨v, d, hv⟩ : ∃ v d, S.p i = (v, d) := ⟨_, _, rfl⟩
 obtain ⟨R, er, hr⟩ : ∃ R er, selfR v d = (R, er) := ⟨_, _, rfl⟩
 have hvl := len16 h.s hv
 have hrl : R.length = 16 := by
  rcases selfR_er v d with ⟨_, _, e⟩ | e
  ·rw [e] at hr; obtain ⟨rfl, _⟩ := Prod.mk.inj hr; exact hvl
  ·rw [e] at hr; obtain ⟨rfl, _⟩ := Prod.mk.inj hr; rfl
 have her : er = 0 ∨ er = 105 := by
  rcases selfR_er v d with ⟨_, hd, e⟩ | e
  ·rw [e] at hr; exact .inl (Prod.mk.inj hr).2.symm
  ·rw [e] at hr; exact .inr (Prod.mk.inj hr).2.symm
 have hwi : Cd.Wf i := by unfold Cd.Wf; omega
 have HSelf := Lib.hid (fun W K' (hK : Ks F n W K' C src S) => self_is hK i hwi v d hv R er hr)
 have H := Lib.hid h
 unfold killS at hs
 rw [hv] at hs
 dsimp only at hs
 rw [hr] at hs
 dsimp only at hs
 have HS := Lib.hid hs
 have HCR := Lib.hid (cellsI hrl)
 have HZ2 := Lib.hid (cellsI (n := 16) (l := Cd.noP) rfl)
 have HV0 := Lib.hid (cellsV 0 0 false)
 clear h hi hs hr hrl hwi hvl hv
 go_enter Tryz.func23, Tryz.ntmps23
 go_wp2_with (refine flatV.wpList_al rfl rfl ?_; intro w1 hb1 hk1 hs1; clear hs1)
 have T1 := H.out.still hk1
 refine (T1.go (HSelf.out _)).mono ?_; rintro e w2 ⟨rfl, T2, kp2⟩
 have HB2 := Lib.hid (kp2.lb H.out hb1 (Nat.le_refl _))
 have HT2 := Lib.hid T2
 have hsz := T2.kp.size
 clear T1 T2 kp2 hb1 hk1
 go_upto_region 2 with (first
  | (refine flatP.wpList_al rfl rfl ?_; intro w3 hb3 hk3 hs3; clear hs3)
  | (refine flatP.wpList_st rfl rfl rfl rfl HCR.out HZ2.out hb3 ?_; intro w4 hb4 hk4 hs4; clear hs4))
 have T4 := Lib.hid ((HT2.out.nob hk3).st H.out hb3 (by decide) hsz hk4)
 have HB4 := Lib.hid ((HB2.out.nob hk3).keep hk4 (by have := HB2.out.lt; omega))
 clear hb3 hk3 hb4 hk4 HT2 HB2
 rcases her with rfl | rfl
 ·rw [if_pos rfl] at HS
  by_cases hb : t < 0 ∨ 15 < t ∨ g < 0 ∨ 15 < g
  ·rw [if_pos hb] at HS
   obtain ⟨rfl, rfl⟩ : S = S' ∧ 122 = E := by simpa using HS.out
   rcases (show t < 0 ∨ (¬ t < 0 ∧ 15 < t) ∨ (¬ t < 0 ∧ ¬ 15 < t ∧ g < 0) ∨ (¬ t < 0 ∧ ¬ 15 < t ∧ ¬ g < 0 ∧ 15 < g) by omega) with e1 | ⟨e1, e2⟩ | ⟨e1, e2, e3⟩ | ⟨e1, e2, e3, e4⟩
   all_goals
    clear hb
    go_wp2_with (refine flatV.wpList_st rfl rfl rfl rfl (cellsV 0 122 false) HV0.out HB4.out ?_; intro w5 hb5 hk5 hs5; clear hs5)
    refine bodyPost_ret (v := .agg (rv 0 122 false).toArray) (flatV.results_one rfl _ (cellsV 0 122 false) rfl hb5) rfl ?_
    exact ⟨rfl, T4.out.st H.out HB4.out (by decide) (Nat.le_refl _) hk5⟩
  ·rw [if_neg hb] at HS
   have HB := Lib.hid (show 0 ≤ t ∧ t ≤ 15 ∧ 0 ≤ g ∧ g ≤ 15 by omega)
   have e1 : ¬ t < 0 := by omega
   have e2 : ¬ 15 < t := by omega
   have e3 : ¬ g < 0 := by omega
   have e4 : ¬ 15 < g := by omega
   clear hb
   obtain ⟨l, e0, hl⟩ : ∃ l e0, targS S t = (l, e0) := ⟨_, _, rfl⟩
   have HTa := Lib.hid (fun W K' (hK : Ks F n W K' C src S) => targets_is hK t (by have := HB.out; omega) l e0 hl)
   rw [hl] at HS
   dsimp only at HS
   have HLg := Lib.hid (show e0 = 0 → _ from fun e => targ_good H.out.s (t := t) (by have := HB.out; omega) (by rw [hl, e] : targS S t = (l, 0)))
   obtain ⟨ln, hln⟩ : ∃ ln, l.length = ln := ⟨_, rfl⟩
   rw [hln] at HTa
   have HLn := Lib.hid hln
   clear hl hln
   go_wp2_with fail
   refine (T4.out.go (HTa.out _)).mono ?_; rintro e w5 ⟨⟨A, cap, rfl, hm⟩, T5, kp5⟩
   have hV5 := hm.1
   rw [HLn.out] at hV5
   have HV5 := Lib.hid hV5
   have HO := Lib.hid (show ∀ x, Own A x → w.heap.size ≤ x from fun x m => Nat.le_trans T4.out.kp.size (hm.2 x m))
   have HT5 := Lib.hid T5
   have HB5 := Lib.hid (kp5.lb H.out HB4.out (Nat.le_refl _))
   clear hm T5 kp5 hV5 HTa
   by_cases h0 : e0 = 0
   ·rw [if_pos h0] at HS
    have HLG := Lib.hid (HLg.out h0)
    subst h0
    have HW18 := Lib.hid (show ∀ x ∈ l, x.length = 18 from fun x hx => by
     obtain ⟨j, v, rfl, hv, _⟩ := HLG.out.1 x hx
     simp [hv])
    have hl8 : ln ≤ 8 := by rw [← HLn.out]; exact HLG.out.2
    clear HLg
    go_wp2_with fail
    go_loopw [54] (fun s54 wx => ∃ (k : Nat) (Sk : Stt), k ≤ ln ∧ s54 = .int .i64 k ∧ Hid (killL g Sk (l.drop k) = (S', E)) ∧ Hid (Kt F n w K C src Sk wx) ∧ Hid (Blk wx w.heap.size 32 (rv 0 0 false)) ∧ Hid (Vec wx 94 18 A ln cap (rows l))) (fun s54 _ => ln - (intOf s54).toNat)
    case atStart => exact ⟨0, S, Nat.zero_le _, rfl, HS, HT5, HB5, HV5⟩
    case round =>
     obtain ⟨k, Sk, hk, rfl, HR, HT, HBr, HV⟩ := hrel
     by_cases hlt : k < ln
     ·obtain ⟨x, hx⟩ : ∃ x, l[k]? = some x := ⟨_, List.getElem?_eq_getElem (by rw [HLn.out]; exact hlt)⟩
      obtain ⟨b, off, hA, hm⟩ := rows_mid HW18.out (by decide) HV.out.reads hx hlt
      obtain ⟨j, u, hxe, hul, hj, huw⟩ := HLG.out.1 x (List.mem_of_getElem? hx)
      have hno := HR.out
      rw [show l.drop k = x :: l.drop (k + 1) from by
       have h3 := (List.getElem?_eq_some_iff.1 hx)
       obtain ⟨h4, h5⟩ := h3
       rw [List.drop_eq_getElem_cons h4, h5]] at hno
      rw [hxe, killL_cons] at hno
      obtain ⟨P', ok, hP⟩ : ∃ P' ok, Sg.raise (Sg.ofL u) g = (P', ok) := ⟨_, _, rfl⟩
      have hPl : P'.f.length = 8 := by
       have := Sg.raise_len (p := Sg.ofL u) (Sg.ofL_len hul) g
       rw [hP] at this
       exact this
      have hPw : ∀ x ∈ Sg.ls P', Cd.Wf x := by
       have := wf_raise hul huw g
       rw [hP] at this
       exact this
      rw [hP] at hno
      dsimp only at hno
      have hra := fun W => Sg.raise_is (Sg.ofL u) (Sg.ofL_len hul) g W P' ok hP
      unfold Sg.pv Sg.pc at hra
      rw [Sg.ls_ofL hul] at hra
      obtain ⟨u2, hu2⟩ : ∃ u2, Sg.ls P' = u2 := ⟨_, rfl⟩
      have hu2l : u2.length = 16 := by rw [← hu2]; simp [Sg.ls, hPl]
      rw [hu2] at hra hno hPw
      have HRa := Lib.hid hra
      have HNx := Lib.hid hno
      have HM := Lib.hid hm
      have hxl : x.length = 18 := by rw [hxe]; simp [hul]
      have HIl := Lib.hid (show (ints x).length = 18 by simp [ints, hxl])
      have HCx := Lib.hid (cellsI hxl)
      have HZ := Lib.hid (cellsI (n := 18) (l := List.replicate 18 0) rfl)
      have HJ := Lib.hid hj
      have HPw := Lib.hid hPw
      have HU2 := Lib.hid hu2l
      have HCu := Lib.hid (cellsI hul)
      have HC2 := Lib.hid (cellsI hu2l)
      have c0 : (ints x)[0]? = some (.int .i64 j) := by rw [hxe]; rfl
      have e2 : ((ints x).drop 2).take 16 = ints u := by
       rw [hxe]
       show (ints u).take 16 = _
       rw [List.take_of_length_le (by simp [ints, hul])]
      obtain ⟨cs, hcs⟩ : ∃ cs, ints x = cs := ⟨_, rfl⟩
      rw [hcs] at HM HIl HCx c0 e2
      have HE2 := Lib.hid e2
      have hsz5 := HT.out.kp.size
      subst hA
      clear hx hm hj huw hul hxe hxl hcs hno hra hP hPl hPw hu2 hu2l e2
      go_upto_region 12 with (first
       | (refine wpList_load_mid rfl 94 _ rfl b (off + k * 18) rfl cs _ HM.out Tryz.underlying94 rfl (by rw [HIl.out]; exact infoS_) ?_)
       | (refine flatS.wpList_al rfl rfl ?_; intro w6 hb6 hk6 hs6; clear hs6)
       | (refine flatS.wpList_st rfl rfl rfl rfl HCx.out HZ.out hb6 ?_; intro w7 hb7 hk7 hs7; clear hs7))
      have HT7 := Lib.hid ((HT.out.nob hk6).st H.out hb6 (by decide) hsz5 hk7)
      have HBx := Lib.hid hb7
      have HB7 := Lib.hid ((HBr.out.nob hk6).keep hk7 (by have := HBr.out.lt; omega))
      have HV7 := Lib.hid ((HV.out.nob hk6).keep hk7 (fun y hy e => by
       have := HV.out.lt y hy
       omega))
      generalize wr.heap.size = g5 at *
      have HRg := Lib.hid (show w7.rangeAt g5 2 (ints u) from by
       have := blk_range hb7 2 16
       rw [HE2.out] at this
       exact this)
      have q0 := (hb7.cell 0).trans c0
      have HQ0 := Lib.hid q0
      clear hk6 hb6 hk7 hb7 c0 q0
      go_wp2_with (refine wpList_load_mid rfl 37 _ rfl g5 2 rfl (ints u) _ HRg.out Tryz.underlying37 rfl (by rw [HCu.out.len]; exact flatP.i) ?_)
      refine (HRa.out _).mono ?_; rintro e w8 ⟨rfl, k8⟩
      have HT8 := Lib.hid (HT7.out.nob k8)
      have HB8 := Lib.hid (HB7.out.nob k8)
      have HV8 := Lib.hid (HV7.out.nob k8)
      have HX8 := Lib.hid (HBx.out.nob k8)
      have hsz8 := HT8.out.kp.size
      have r0 := (HX8.out.cell 0).trans ((HBx.out.cell 0).symm.trans HQ0.out)
      clear k8
      go_upto_region 13 with (first
       | (refine flatP.wpList_al rfl rfl ?_; intro w9 hb9 hk9 hs9; clear hs9)
       | (refine flatP.wpList_st rfl rfl rfl rfl HC2.out HZ2.out hb9 ?_; intro wa hba hka hsa; clear hsa))
      have HTa := Lib.hid ((HT8.out.nob hk9).st H.out hb9 (by decide) hsz8 hka)
      have HBa := Lib.hid ((HB8.out.nob hk9).keep hka (by have := HB8.out.lt; omega))
      have HVa := Lib.hid ((HV8.out.nob hk9).keep hka (fun y hy e => by
       have := HV8.out.lt y hy
       omega))
      have ra : wa.cell? ⟨g5, 0, none⟩ = some (.int .i64 j) := (((HX8.out.nob hk9).keep hka (by have := HX8.out.lt; omega)).cell 0).trans ((HX8.out.cell 0).symm.trans r0)
      have HPa := Lib.hid hba
      generalize w8.heap.size = g9 at *
      clear hk9 hb9 hka hba r0
      cases ok with
      | false =>
       have hN := Lib.hid (show killL g Sk (l.drop (k + 1)) = (S', E) by simpa using HNx.out)
       go_wp2_with fail
       go_roundw
       case rel => exact ⟨k + 1, Sk, by omega, by go_num, hN, HTa, HBa, HVa⟩
       case measure => simp [intOf]; omega
      | true =>
       obtain ⟨o2, ho2⟩ : ∃ o2, (decide ((Sk.p j).2 ≠ 2) && Cd.okd u2) = o2 := ⟨_, rfl⟩
       have hno := HNx.out
       rw [if_pos rfl, ho2] at hno
       have HNo := Lib.hid hno
       have HSet := Lib.hid (fun W K' (hK : Ks F n W K' C src Sk) => ssetProc_is hK j HJ.out u2 HU2.out HPw.out o2 ho2)
       clear hno ho2 HNx
       cases o2 with
       | true =>
        have hN := Lib.hid (show killL g (Sk.setP j u2) (l.drop (k + 1)) = (S', E) from HNo.out)
        go_wp2_with (first
         | (refine flatP.wpList_ldG (by rfl) rfl rfl HC2.out HPa.out ?_)
         | (go_at_call 37; refine (HTa.out.go (HSet.out _)).mono ?_; rintro e wb ⟨rfl, Tb, kpb⟩; have HTb := Lib.hid Tb; have HBb := Lib.hid (kpb.lb H.out HBa.out (Nat.le_refl _)); have HVb := Lib.hid (kpb.vec H.out HVa.out HO.out); clear Tb kpb))
        go_roundw
        case rel => exact ⟨k + 1, Sk.setP j u2, by omega, by go_num, hN, HTb, HBb, HVb⟩
        case measure => simp [intOf]; omega
       | false =>
        obtain ⟨rfl, rfl⟩ : Sk = S' ∧ 105 = E := by simpa using HNo.out
        go_wp2_with (first
         | (refine flatP.wpList_ldG (by rfl) rfl rfl HC2.out HPa.out ?_)
         | (go_at_call 37; refine (HTa.out.go (HSet.out _)).mono ?_; rintro e wb ⟨rfl, Tb, kpb⟩; have HTb := Lib.hid Tb; have HBb := Lib.hid (kpb.lb H.out HBa.out (Nat.le_refl _)); have HVb := Lib.hid (kpb.vec H.out HVa.out HO.out); clear Tb kpb)
         | (refine flatV.wpList_st rfl rfl rfl rfl (cellsV 0 105 false) HV0.out HBb.out ?_; intro wc hbc hkc hsc; clear hsc))
        refine bodyPost_ret (v := .agg (rv 0 105 false).toArray) (flatV.results_one rfl _ (cellsV 0 105 false) rfl hbc) rfl ?_
        exact ⟨rfl, HTb.out.st H.out HBb.out (by decide) (Nat.le_refl _) hkc⟩
     ·obtain ⟨rfl, rfl⟩ : Sk = S' ∧ 0 = E := by
       have := HR.out
       rw [List.drop_eq_nil_of_le (by rw [HLn.out]; omega)] at this
       unfold killL at this
       simpa using this
      go_wp2_with (refine flatV.wpList_st rfl rfl rfl rfl (cellsV 0 0 false) HV0.out HBr.out ?_; intro w6 hb6 hk6 hs6; clear hs6)
      refine bodyPost_ret (v := .agg (rv 0 0 false).toArray) (flatV.results_one rfl _ (cellsV 0 0 false) rfl hb6) rfl ?_
      exact ⟨rfl, HT.out.st H.out HBr.out (by decide) (Nat.le_refl _) hk6⟩
   ·rw [if_neg h0] at HS
    obtain ⟨rfl, rfl⟩ : S = S' ∧ e0 = E := by simpa using HS.out
    have HVe := Lib.hid (cellsV 0 e0 false)
    go_wp2_with (refine flatV.wpList_st rfl rfl rfl rfl HVe.out HV0.out HB5.out ?_; intro w6 hb6 hk6 hs6; clear hs6)
    refine bodyPost_ret (v := .agg (rv 0 e0 false).toArray) (flatV.results_one rfl _ HVe.out rfl hb6) rfl ?_
    exact ⟨rfl, HT5.out.st H.out HB5.out (by decide) (Nat.le_refl _) hk6⟩
 ·rw [if_neg (by decide)] at HS
  obtain ⟨rfl, rfl⟩ : S = S' ∧ 105 = E := by simpa using HS.out
  go_wp2_with (refine flatV.wpList_st rfl rfl rfl rfl (cellsV 0 105 false) HV0.out HB4.out ?_; intro w5 hb5 hk5 hs5; clear hs5)
  refine bodyPost_ret (v := .agg (rv 0 105 false).toArray) (flatV.results_one rfl _ (cellsV 0 105 false) rfl hb5) rfl ?_
  exact ⟨rfl, T4.out.st H.out HB4.out (by decide) (Nat.le_refl _) hk5⟩
end
end Go.Proofs.YtgcikpgcoemfnaaGreat.Pr
namespace Go.Proofs.YtgcikpgcoemfnaaGreat.Pr
open Go.RowKit Co
set_option linter.unusedVariables false
set_option linter.unusedSimpArgs false
def groupT (T : Sd) (i t g : Int) : Sd × Int := (toT (groupS (stOf T) i t g).1, (groupS (stOf T) i t g).2)
section
variable {F : List UInt8 → Prop} {n : Nat} {w w1 : World} {K : Kn} {C : Cm} {src : Src} {T T' : Sd}
theorem tgroup_is (t : Kt F n w K C src (stOf T) w1) (hb : C.brs.length = 2) (i : Int) (hi : -9223372036854775808 ≤ i ∧ i + 1 ≤ 9223372036854775807) (a g E : Int) (h : groupT T i a g = (T', E)) :
  Calls Tryz.prog 24 #[.pointer (some ⟨C.p, 0, none⟩), .int .i64 i, .int .i64 a, .int .i64 g] w1 fun e w' => e = .returned (.agg (rv 0 E false).toArray) ∧ Kt F n w K C src (stOf T') w' ∧ Kp K C w1 w' := by
 unfold groupT at h
 obtain ⟨h1, h2⟩ := Prod.mk.inj h
 refine (t.go (fun K' hK => group_is hK i hi a g _ E (Prod.ext rfl h2))).mono ?_
 rintro e w' ⟨rfl, t2, kp⟩
 exact ⟨rfl, t2.eq hb h1, kp⟩
end
end Go.Proofs.YtgcikpgcoemfnaaGreat.Pr
