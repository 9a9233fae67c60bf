import Derived.Test.YtgcikpgcoemfnaaGreatPs7
import Derived.Test.YtgcikpgcoemfnaaGreatPs36
set_option maxRecDepth 100000
set_option maxHeartbeats 8000000
set_option linter.unusedVariables false
set_option linter.unusedSimpArgs false
namespace Go.Proofs.YtgcikpgcoemfnaaGreat.Pr
open Go.RowKit Co
def gg (n : Int) : Stt→List (List Int)→Stt × Int
 | S,[]=>(S,0)
 | S,x :: l=>if (Sg.cJ (Sg.ofL (x.drop 2)) n).2 then
   (if decide ((S.p (x.getD 0 0)).2 ≠ 2) && Cd.okd (Sg.ls (Sg.cJ (Sg.ofL (x.drop 2)) n).1) then gg n (S.setP (x.getD 0 0) (Sg.ls (Sg.cJ (Sg.ofL (x.drop 2)) n).1)) l else (S,105)) else gg n S l
def killS (S : Stt) (i t n : Int) : Stt × Int :=
 if (cH (S.p i).1 (S.p i).2).2 = 0 then
  (if t < 0 ∨ 15 < t ∨ n < 0 ∨ 15 < n then (S,122)
  else if (ia S t).2 = 0 then gg n S (ia S t).1 else (S,(ia S t).2))
 else (S,105)
theorem ie (n : Int) (S : Stt) (j d : Int) (v : List Int) (l : List (List Int)) : gg n S ((j :: d :: v) :: l) = if (Sg.cJ (Sg.ofL v) n).2 then
      (if decide ((S.p j).2 ≠ 2) && Cd.okd (Sg.ls (Sg.cJ (Sg.ofL v) n).1) then gg n (S.setP j (Sg.ls (Sg.cJ (Sg.ofL v) n).1)) l else (S,105)) else gg n S l:=rfl
theorem wf_bv (x : BitVec 64) : Cd.Wf x.toInt:=by
 have h1:=BitVec.toInt_lt (x:=x)
 have h2:=BitVec.le_toInt (x:=x)
 unfold Cd.Wf
 constructor
 ·exact h2
 ·have : (2 : Int) ^ (64 - 1) = 9223372036854775808:=by decide
  omega
theorem wf_wi (s n : Int) : Cd.Wf (Sg.wi s n):=by unfold Sg.wi; rw [Sg.or_i64]; exact wf_bv _
theorem wf_wo (s n : Int) : Cd.Wf (Sg.wo s n):=by unfold Sg.wo; rw [Sg.ey]; exact wf_bv _
theorem wf_raise {v : List Int} (hl : v.length = 16) (hw : ∀ x ∈ v,Cd.Wf x) (n : Int) : ∀ x ∈ Sg.ls (Sg.cJ (Sg.ofL v) n).1,Cd.Wf x:=by
 have h1 : Cd.Wf 1:=by unfold Cd.Wf; decide
 have hr : Cd.Wf (Sg.rpe (Sg.ofL v) n):=by
  unfold Sg.rpe
  split
  ·obtain ⟨a0,a1,a2,a3,a4,a5,a6,a7,f0,f1,f2,f3,f4,f5,f6,f7,rfl⟩:=Cd.aD hl
   exact hw _ (by simp [Sg.ofL])
  ·exact wf_wi _ _
 have h0 : ∀ x ∈ Sg.ls (Sg.ofL v),Cd.Wf x:=by rw [Sg.ls_ofL hl]; exact hw
 have key : ∀ (s pe : Int),Cd.Wf s→Cd.Wf pe→∀ x ∈ Sg.ls { Sg.ofL v with s:=s,pe:=pe },Cd.Wf x:=by
  intro s pe hs hp x hx
  have e : Sg.ls { Sg.ofL v with s:=s,pe:=pe } = ((Sg.ls (Sg.ofL v)).set 0 s).set 4 pe:=rfl
  rw [e] at hx
  exact fp (fp h0 0 hs) 4 hp x hx
 have hs : Cd.Wf (Sg.ofL v).s:=h0 _ (by simp [Sg.ls])
 unfold Sg.cJ
 split
 ·split
  ·exact key _ _ hs (wf_wo _ _)
  ·split
   ·exact key _ _ h1 (wf_wo _ _)
   ·split
    ·exact key _ _ h1 hr
    ·exact key _ _ hs hr
 ·exact h0
theorem targ_good {F : List UInt8→Prop} {n nb : Nat} {src : Src} {bad : List Rf} {xs : List UInt8} {S : Stt} (h : Sto F n src nb bad xs S) {t : Int} (ht : 0≤t∧t≤15) {l : List (List Int)} (hs : ia S t = (l,0)) :
  (∀ x ∈ l,∃ (j : Int) (v : List Int),x = j :: 1 :: v∧v.length = 16∧Cd.Wf j∧∀ y ∈ v,Cd.Wf y)∧l.length≤8:=by
 have one : ∀ j : Int,Cd.Wf j→(S.p j).2 = 1→∃ (i : Int) (v : List Int),slS S j = i :: 1 :: v∧v.length = 16∧Cd.Wf i∧∀ y ∈ v,Cd.Wf y:=fun j hj hd=>by
  have hp : S.p j = ((S.p j).1,1):=by rw [← hd]
  have hl:=eu h hp
  exact ⟨j,(S.p j).1,by unfold slS; rw [hd],hl,hj,il hl (goodP h hp)⟩
 unfold ia at hs
 split at hs
 ·split at hs
  ·simp at hs
  ·obtain ⟨rfl,_⟩:=Prod.mk.inj hs
   refine ⟨fun x hx=>?_,pk_len S _ 8⟩
   obtain ⟨k,hk,rfl,hp⟩:=ir hx
   have hd : (S.p k).2 = 1:=by
    have : ((slS S k).getD 1 0 == 1) = true:=by
     unfold cy actS at hp
     simp only [Bool.and_eq_true] at hp
     exact hp.1.1
    simpa [slS] using this
   exact one k (by unfold Cd.Wf; omega) hd
 ·split at hs
  ·simp at hs
  ·split at hs
   ·simp at hs
   ·rename_i h2 h0
    obtain ⟨rfl,_⟩:=Prod.mk.inj hs
    refine ⟨fun x hx=>?_,by simp⟩
    obtain rfl : x = slS S t:=by simpa using hx
    refine one t (by unfold Cd.Wf; omega) ?_
    obtain ⟨_,y,b,_,_,hd⟩:=live (by decide) (h.p t) h2
    have : (Cd.dcd (got xs src y)).2 = (S.p t).2:=by rw [hd]
    unfold Cd.dcd at this
    split at this
    ·split at this
     ·exact absurd this.symm h0
     ·split at this
      ·exact this.symm
      ·exact absurd this.symm h2
    ·exact absurd this.symm h2
section
variable {F : List UInt8→Prop} {n : Nat} {w w' w1 : World} {K : Kn} {C : Cm} {src : Src} {S S' S2 : Stt}
theorem kill_all (h : Ks F n w K C src S) (i : Int) (hi : Cd.Wf i) (t g : Int) (S' : Stt) (E : Int) (hs : killS S i t g = (S',E)) :
  Calls Tryz.prog 23 #[.pointer (some ⟨C.p,0,none⟩),.int .i64 i,.int .i64 t,.int .i64 g] w fun e w'=>e = .returned (.agg (rv 0 E false).toArray)∧Kt F n w K C src S' w':=by
 obtain ⟨v,d,hv⟩ : ∃ v d,S.p i = (v,d):=⟨_,_,rfl⟩
 obtain ⟨R,er,hr⟩ : ∃ R er,cH v d = (R,er):=⟨_,_,rfl⟩
 have hvl:=eu h.s hv
 have hrl : R.length = 16:=by
  rcases cG v d with ⟨_,_,e⟩ | e
  ·rw [e] at hr; obtain ⟨rfl,_⟩:=Prod.mk.inj hr; exact hvl
  ·rw [e] at hr; obtain ⟨rfl,_⟩:=Prod.mk.inj hr; rfl
 have her : er = 0 ∨ er = 105:=by
  rcases cG v d with ⟨_,hd,e⟩ | e
  ·rw [e] at hr; exact .inl (Prod.mk.inj hr).2.symm
  ·rw [e] at hr; exact .inr (Prod.mk.inj hr).2.symm
 have hwi:=hi
 have HSelf:=aa (fun W K' (hK : Ks F n W K' C src S)=>gM hK i hwi v d hv R er hr)
 have H:=aa h
 unfold killS at hs
 rw [hv] at hs
 dsimp only at hs
 rw [hr] at hs
 dsimp only at hs
 have HS:=aa hs
 have HCR:=aa (ai hrl)
 have HZ2:=aa (ai (n:=16) (l:=Cd.noP) rfl)
 have HV0:=aa (ak 0 0 false)
 clear h hi hs hr hrl hwi hvl hv
 go_enter Tryz.func23,Tryz.ntmps23
 go_wp2_with (refine aq.wpList_al rfl rfl ?_; intro w1 hb1 hk1 hs1; clear hs1)
 have T1:=H.out.still hk1
 refine (T1.go (HSelf.out _)).mono ?_; rintro e w2 ⟨rfl,T2,kp2⟩
 have HB2:=aa (kp2.lb H.out hb1 (Nat.le_refl _))
 have HT2:=aa T2
 have hsz:=T2.kp.size
 clear T1 T2 kp2 hb1 hk1
 go_upto_region 2 with (first
  | (refine ar.wpList_al rfl rfl ?_; intro w3 hb3 hk3 hs3; clear hs3)
  | (refine ar.wpList_st rfl rfl rfl rfl HCR.out HZ2.out hb3 ?_; intro w4 hb4 hk4 hs4; clear hs4))
 have T4:=aa ((HT2.out.nob hk3).st H.out hb3 (by decide) hsz hk4)
 have HB4:=aa ((HB2.out.nob hk3).keep hk4 (by have:=HB2.out.lt; omega))
 clear hb3 hk3 hb4 hk4 HT2 HB2
 rcases her with rfl | rfl
 ·rw [if_pos rfl] at HS
  by_cases hb : t < 0 ∨ 15 < t ∨ g < 0 ∨ 15 < g
  ·rw [if_pos hb] at HS
   obtain ⟨rfl,rfl⟩ : S = S'∧122 = E:=by simpa using HS.out
   rcases (show t < 0 ∨ (¬ t < 0∧15 < t) ∨ (¬ t < 0∧¬ 15 < t∧g < 0) ∨ (¬ t < 0∧¬ 15 < t∧¬ g < 0∧15 < g) by omega) with e1 | ⟨e1,e2⟩ | ⟨e1,e2,e3⟩ | ⟨e1,e2,e3,e4⟩
   all_goals
    clear hb
    go_wp2_with (refine aq.wpList_st rfl rfl rfl rfl (ak 0 122 false) HV0.out HB4.out ?_; intro w5 hb5 hk5 hs5; clear hs5)
    refine bodyPost_ret (v:=.agg (rv 0 122 false).toArray) (aq.results_one rfl _ (ak 0 122 false) rfl hb5) rfl ?_
    exact ⟨rfl,T4.out.st H.out HB4.out (by decide) (Nat.le_refl _) hk5⟩
  ·rw [if_neg hb] at HS
   have HB:=aa (show 0≤t∧t≤15∧0≤g∧g≤15 by omega)
   have e1 : ¬ t < 0:=by omega
   have e2 : ¬ 15 < t:=by omega
   have e3 : ¬ g < 0:=by omega
   have e4 : ¬ 15 < g:=by omega
   clear hb
   obtain ⟨l,e0,hl⟩ : ∃ l e0,ia S t = (l,e0):=⟨_,_,rfl⟩
   have HTa:=aa (fun W K' (hK : Ks F n W K' C src S)=>targets_is hK t (by have:=HB.out; omega) l e0 hl)
   rw [hl] at HS
   dsimp only at HS
   have HLg:=aa (show e0 = 0→_ from fun e=>targ_good H.out.s (t:=t) (by have:=HB.out; omega) (by rw [hl,e] : ia S t = (l,0)))
   obtain ⟨ln,hln⟩ : ∃ ln,l.length = ln:=⟨_,rfl⟩
   rw [hln] at HTa
   have HLn:=aa hln
   clear hl hln
   go_wp2_with fail
   refine (T4.out.go (HTa.out _)).mono ?_; rintro e w5 ⟨⟨A,cap,rfl,hm⟩,T5,kp5⟩
   have hV5:=hm.1
   rw [HLn.out] at hV5
   have HV5:=aa hV5
   have HO:=aa (show ∀ x,Own A x→w.heap.size≤x from fun x m=>Nat.le_trans T4.out.kp.size (hm.2 x m))
   have HT5:=aa T5
   have HB5:=aa (kp5.lb H.out HB4.out (Nat.le_refl _))
   clear hm T5 kp5 hV5 HTa
   by_cases h0 : e0 = 0
   ·rw [if_pos h0] at HS
    have HLG:=aa (HLg.out h0)
    subst h0
    have HW18:=aa (show ∀ x ∈ l,x.length = 18 from fun x hx=>by
     obtain ⟨j,v,rfl,hv,_⟩:=HLG.out.1 x hx
     simp [hv])
    have hl8 : ln≤8:=by rw [← HLn.out]; exact HLG.out.2
    clear HLg
    go_wp2_with fail
    go_loopw [54] (fun s54 wx=>∃ (k : Nat) (Sk : Stt),k≤ln∧s54 = .int .i64 k∧Hid (gg g Sk (l.drop k) = (S',E))∧Hid (Kt F n w K C src Sk wx)∧Hid (Blk wx w.heap.size 32 (rv 0 0 false))∧Hid (Vec wx 94 18 A ln cap (rows l))) (fun s54 _=>ln - (intOf s54).toNat)
    case atStart=>exact ⟨0,S,Nat.zero_le _,rfl,HS,HT5,HB5,HV5⟩
    case round =>
     obtain ⟨k,Sk,hk,rfl,HR,HT,HBr,HV⟩:=hrel
     by_cases hlt : k < ln
     ·obtain ⟨x,hx⟩ : ∃ x,l[k]? = some x:=⟨_,List.getElem?_eq_getElem (by rw [HLn.out]; exact hlt)⟩
      obtain ⟨b,off,hA,hm⟩:=aZ HW18.out (by decide) HV.out.reads hx hlt
      obtain ⟨j,u,hxe,hul,hj,huw⟩:=HLG.out.1 x (List.mem_of_getElem? hx)
      have hno:=HR.out
      rw [show l.drop k = x :: l.drop (k + 1) from by
       have h3:=(List.getElem?_eq_some_iff.1 hx)
       obtain ⟨h4,h5⟩:=h3
       rw [List.drop_eq_getElem_cons h4,h5]] at hno
      rw [hxe,ie] at hno
      obtain ⟨P',ok,hP⟩ : ∃ P' ok,Sg.cJ (Sg.ofL u) g = (P',ok):=⟨_,_,rfl⟩
      have hPl : P'.f.length = 8:=by
       have:=Sg.raise_len (p:=Sg.ofL u) (Sg.ofL_len hul) g
       rw [hP] at this
       exact this
      have hPw : ∀ x ∈ Sg.ls P',Cd.Wf x:=by
       have:=wf_raise hul huw g
       rw [hP] at this
       exact this
      rw [hP] at hno
      dsimp only at hno
      have hra:=fun W=>Sg.raise_is (Sg.ofL u) (Sg.ofL_len hul) g W P' ok hP
      unfold Sg.pv Sg.pc at hra
      rw [Sg.ls_ofL hul] at hra
      obtain ⟨u2,hu2⟩ : ∃ u2,Sg.ls P' = u2:=⟨_,rfl⟩
      have hu2l : u2.length = 16:=by rw [← hu2]; simp [Sg.ls,hPl]
      rw [hu2] at hra hno hPw
      have HRa:=aa hra
      have HNx:=aa hno
      have HM:=aa hm
      have hxl : x.length = 18:=by rw [hxe]; simp [hul]
      have HIl:=aa (show (ab x).length = 18 by simp [ab,hxl])
      have HCx:=aa (ai hxl)
      have HZ:=aa (ai (n:=18) (l:=List.replicate 18 0) rfl)
      have HJ:=aa hj
      have HPw:=aa hPw
      have HU2:=aa hu2l
      have HCu:=aa (ai hul)
      have HC2:=aa (ai hu2l)
      have c0 : (ab x)[0]? = some (.int .i64 j):=by rw [hxe]; rfl
      have e2 : ((ab x).drop 2).take 16 = ab u:=by
       rw [hxe]
       show (ab u).take 16 = _
       rw [List.take_of_length_le (by simp [ab,hul])]
      obtain ⟨cs,hcs⟩ : ∃ cs,ab x = cs:=⟨_,rfl⟩
      rw [hcs] at HM HIl HCx c0 e2
      have HE2:=aa e2
      have hsz5:=HT.out.kp.size
      subst hA
      clear hx hm hj huw hul hxe hxl hcs hno hra hP hPl hPw hu2 hu2l e2
      go_upto_region 12 with (first
       | (refine wpList_load_mid rfl 94 _ rfl b (off + k * 18) rfl cs _ HM.out Tryz.underlying94 rfl (by rw [HIl.out]; exact ik) ?_)
       | (refine cI.wpList_al rfl rfl ?_; intro w6 hb6 hk6 hs6; clear hs6)
       | (refine cI.wpList_st rfl rfl rfl rfl HCx.out HZ.out hb6 ?_; intro w7 hb7 hk7 hs7; clear hs7))
      have HT7:=aa ((HT.out.nob hk6).st H.out hb6 (by decide) hsz5 hk7)
      have HBx:=aa hb7
      have HB7:=aa ((HBr.out.nob hk6).keep hk7 (by have:=HBr.out.lt; omega))
      have HV7:=aa ((HV.out.nob hk6).keep hk7 (fun y hy e=>by
       have:=HV.out.lt y hy
       omega))
      generalize wr.heap.size = g5 at *
      have HRg:=aa (show w7.rangeAt g5 2 (ab u) from by
       have:=du hb7 2 16
       rw [HE2.out] at this
       exact this)
      have q0:=(hb7.cell 0).trans c0
      have HQ0:=aa q0
      clear hk6 hb6 hk7 hb7 c0 q0
      go_wp2_with (refine wpList_load_mid rfl 37 _ rfl g5 2 rfl (ab u) _ HRg.out Tryz.underlying37 rfl (by rw [HCu.out.len]; exact ar.i) ?_)
      refine (HRa.out _).mono ?_; rintro e w8 ⟨rfl,k8⟩
      have HT8:=aa (HT7.out.nob k8)
      have HB8:=aa (HB7.out.nob k8)
      have HV8:=aa (HV7.out.nob k8)
      have HX8:=aa (HBx.out.nob k8)
      have hsz8:=HT8.out.kp.size
      have r0:=(HX8.out.cell 0).trans ((HBx.out.cell 0).symm.trans HQ0.out)
      clear k8
      go_upto_region 13 with (first
       | (refine ar.wpList_al rfl rfl ?_; intro w9 hb9 hk9 hs9; clear hs9)
       | (refine ar.wpList_st rfl rfl rfl rfl HC2.out HZ2.out hb9 ?_; intro wa hba hka hsa; clear hsa))
      have HTa:=aa ((HT8.out.nob hk9).st H.out hb9 (by decide) hsz8 hka)
      have HBa:=aa ((HB8.out.nob hk9).keep hka (by have:=HB8.out.lt; omega))
      have HVa:=aa ((HV8.out.nob hk9).keep hka (fun y hy e=>by
       have:=HV8.out.lt y hy
       omega))
      have ra : wa.cell? ⟨g5,0,none⟩ = some (.int .i64 j):=(((HX8.out.nob hk9).keep hka (by have:=HX8.out.lt; omega)).cell 0).trans ((HX8.out.cell 0).symm.trans r0)
      have HPa:=aa hba
      generalize w8.heap.size = g9 at *
      clear hk9 hb9 hka hba r0
      cases ok with
      | false =>
       have hN:=aa (show gg g Sk (l.drop (k + 1)) = (S',E) by simpa using HNx.out)
       go_wp2_with fail
       go_roundw
       case rel=>exact ⟨k + 1,Sk,by omega,by go_num,hN,HTa,HBa,HVa⟩
       case measure=>simp [intOf]; omega
      | true =>
       obtain ⟨o2,ho2⟩ : ∃ o2,(decide ((Sk.p j).2 ≠ 2) && Cd.okd u2) = o2:=⟨_,rfl⟩
       have hno:=HNx.out
       rw [if_pos rfl,ho2] at hno
       have HNo:=aa hno
       have HSet:=aa (fun W K' (hK : Ks F n W K' C src Sk)=>bv hK j HJ.out u2 HU2.out HPw.out o2 ho2)
       clear hno ho2 HNx
       cases o2 with
       | true =>
        have hN:=aa (show gg g (Sk.setP j u2) (l.drop (k + 1)) = (S',E) from HNo.out)
        go_wp2_with (first
         | (refine ar.wpList_ldG (by rfl) rfl rfl HC2.out HPa.out ?_)
         | (go_at_call 37; refine (HTa.out.go (HSet.out _)).mono ?_; rintro e wb ⟨rfl,Tb,kpb⟩; have HTb:=aa Tb; have HBb:=aa (kpb.lb H.out HBa.out (Nat.le_refl _)); have HVb:=aa (kpb.vec H.out HVa.out HO.out); clear Tb kpb))
        go_roundw
        case rel=>exact ⟨k + 1,Sk.setP j u2,by omega,by go_num,hN,HTb,HBb,HVb⟩
        case measure=>simp [intOf]; omega
       | false =>
        obtain ⟨rfl,rfl⟩ : Sk = S'∧105 = E:=by simpa using HNo.out
        go_wp2_with (first
         | (refine ar.wpList_ldG (by rfl) rfl rfl HC2.out HPa.out ?_)
         | (go_at_call 37; refine (HTa.out.go (HSet.out _)).mono ?_; rintro e wb ⟨rfl,Tb,kpb⟩; have HTb:=aa Tb; have HBb:=aa (kpb.lb H.out HBa.out (Nat.le_refl _)); have HVb:=aa (kpb.vec H.out HVa.out HO.out); clear Tb kpb)
         | (refine aq.wpList_st rfl rfl rfl rfl (ak 0 105 false) HV0.out HBb.out ?_; intro wc hbc hkc hsc; clear hsc))
        refine bodyPost_ret (v:=.agg (rv 0 105 false).toArray) (aq.results_one rfl _ (ak 0 105 false) rfl hbc) rfl ?_
        exact ⟨rfl,HTb.out.st H.out HBb.out (by decide) (Nat.le_refl _) hkc⟩
     ·obtain ⟨rfl,rfl⟩ : Sk = S'∧0 = E:=by
       have:=HR.out
       rw [List.drop_eq_nil_of_le (by rw [HLn.out]; omega)] at this
       unfold gg at this
       simpa using this
      go_wp2_with (refine aq.wpList_st rfl rfl rfl rfl (ak 0 0 false) HV0.out HBr.out ?_; intro w6 hb6 hk6 hs6; clear hs6)
      refine bodyPost_ret (v:=.agg (rv 0 0 false).toArray) (aq.results_one rfl _ (ak 0 0 false) rfl hb6) rfl ?_
      exact ⟨rfl,HT.out.st H.out HBr.out (by decide) (Nat.le_refl _) hk6⟩
   ·rw [if_neg h0] at HS
    obtain ⟨rfl,rfl⟩ : S = S'∧e0 = E:=by simpa using HS.out
    have HVe:=aa (ak 0 e0 false)
    go_wp2_with (refine aq.wpList_st rfl rfl rfl rfl HVe.out HV0.out HB5.out ?_; intro w6 hb6 hk6 hs6; clear hs6)
    refine bodyPost_ret (v:=.agg (rv 0 e0 false).toArray) (aq.results_one rfl _ HVe.out rfl hb6) rfl ?_
    exact ⟨rfl,HT5.out.st H.out HB5.out (by decide) (Nat.le_refl _) hk6⟩
 ·rw [if_neg (by decide)] at HS
  obtain ⟨rfl,rfl⟩ : S = S'∧105 = E:=by simpa using HS.out
  go_wp2_with (refine aq.wpList_st rfl rfl rfl rfl (ak 0 105 false) HV0.out HB4.out ?_; intro w5 hb5 hk5 hs5; clear hs5)
  refine bodyPost_ret (v:=.agg (rv 0 105 false).toArray) (aq.results_one rfl _ (ak 0 105 false) rfl hb5) rfl ?_
  exact ⟨rfl,T4.out.st H.out HB4.out (by decide) (Nat.le_refl _) hk5⟩
end
end Go.Proofs.YtgcikpgcoemfnaaGreat.Pr
namespace Go.Proofs.YtgcikpgcoemfnaaGreat.Pr
open Go.RowKit Co
def forkT (T : Sd) (i : Int) : Sd × Int × Int:=(toT (iM (cZ T) i).1,(iM (cZ T) i).2)
def waitT (T : Sd) (i : Int) : Sd × Int × Int × Bool:=(toT (waitS (cZ T) i).1,(waitS (cZ T) i).2)
section
variable {F : List UInt8→Prop} {n : Nat} {w w1 : World} {K : Kn} {C : Cm} {src : Src} {T T' : Sd}
theorem tfork_is (t : Kt F n w K C src (cZ T) w1) (hb : C.brs.length = 2) (i : Int) (hi : -9223372036854775808≤i∧i + 1≤9223372036854775807) (N E : Int) (h : forkT T i = (T',N,E)) :
  Calls Tryz.prog 11 #[.pointer (some ⟨C.p,0,none⟩),.int .i64 i] w1 fun e w'=>e = .returned (.agg (rv N E false).toArray)∧Kt F n w K C src (cZ T') w'∧Kp K C w1 w':=by
 unfold forkT at h
 obtain ⟨h1,h2⟩:=Prod.mk.inj h
 refine (t.go (fun K' hK=>fork_is hK i hi _ N E (Prod.ext rfl h2))).mono ?_
 rintro e w' ⟨rfl,t2,kp⟩
 exact ⟨rfl,t2.eq hb h1,kp⟩
theorem twait_is (t : Kt F n w K C src (cZ T) w1) (hb : C.brs.length = 2) (i : Int) (hi : -9223372036854775808≤i∧i + 1≤9223372036854775807) (N E : Int) (bl : Bool) (h : waitT T i = (T',N,E,bl)) :
  Calls Tryz.prog 14 #[.pointer (some ⟨C.p,0,none⟩),.int .i64 i] w1 fun e w'=>e = .returned (.agg (rv N E bl).toArray)∧Kt F n w K C src (cZ T') w'∧Kp K C w1 w':=by
 unfold waitT at h
 obtain ⟨h1,h2⟩:=Prod.mk.inj h
 refine (t.go (fun K' hK=>wait_is hK i hi _ N E bl (Prod.ext rfl h2))).mono ?_
 rintro e w' ⟨rfl,t2,kp⟩
 exact ⟨rfl,t2.eq hb h1,kp⟩
theorem tself_is (t : Kt F n w K C src (cZ T) w1) (i : Int) (hi : Cd.Wf i) (R : List Int) (er : Int) (hr : cH ((cZ T).p i).1 ((cZ T).p i).2 = (R,er)) :
  Calls Tryz.prog 20 #[.pointer (some ⟨C.p,0,none⟩),.int .i64 i] w1 fun e w'=>e = .returned (.tuple #[.agg (ab R).toArray,.int .i64 er])∧Kt F n w K C src (cZ T) w'∧Kp K C w1 w' :=
 t.go (fun K' hK=>gM hK i hi _ _ rfl R er hr)
end
end Go.Proofs.YtgcikpgcoemfnaaGreat.Pr
