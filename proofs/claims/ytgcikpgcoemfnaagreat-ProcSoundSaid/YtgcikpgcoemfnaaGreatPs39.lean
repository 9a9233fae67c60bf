import Derived.Test.YtgcikpgcoemfnaaGreatPs38
import Derived.Test.YtgcikpgcoemfnaaGreatPs37
set_option maxRecDepth 100000
set_option maxHeartbeats 8000000
set_option linter.unusedVariables false
set_option linter.unusedSimpArgs false
namespace Go.Proofs.YtgcikpgcoemfnaaGreat.Pr
open Go.RowKit Co Pn
def kid (p : Int) : List Int:=[1,p,0,0,0,0,0,0,1,0,0,0,0,0,0,0]
def SdP (ps : List (List Int × Int)) (cU : Int) : Sd:=⟨ps ++ List.replicate (8 - ps.length) (Cd.noP,0),([3,0,cU,0],1) :: List.replicate 11 (Fi.noP,0),T0.r,T0.t,T0.g⟩
def A1 : Sd:=SdP [(gB,1),(kid 1,1)] 2
theorem aw0 : waitT T0 0 = (T0,0,110,false):=by decide +kernel
theorem aw1 : forkT T0 0 = (A1,1,0):=by decide +kernel
theorem aw2 : waitT A1 0 = (A1,0,0,true):=by decide +kernel
theorem aw3 : cH ((cZ A1).p 1).1 ((cZ A1).p 1).2 = (kid 1,0):=by decide +kernel
end Go.Proofs.YtgcikpgcoemfnaaGreat.Pr
namespace Go.Proofs.YtgcikpgcoemfnaaGreat.Pr
open Go.RowKit Co Pn
def gpq (p g pe : Int) : List Int:=[1,p,g,0,pe,0,0,0,1,0,0,0,0,0,0,0]
end Go.Proofs.YtgcikpgcoemfnaaGreat.Pr
namespace Go.Proofs.YtgcikpgcoemfnaaGreat.Pr
open Go.RowKit Co Pn
def zmV (p g c : Int) : List Int:=[2,p,g,c,0,0,0,0,0,0,0,0,0,0,0,0]
def brV (p g e : Int) : List Int:=[1,p,g,0,e,0,0,0,0,0,0,0,0,0,0,0]
def Bd (p g : Int) : Prop:=(0≤p∧p≤8)∧0≤g∧g≤7
theorem okd_l {p g e : Int} (h : Bd p g) (he : Cd.sig e = true) : Cd.okd (gpq p g e) = true∧Cd.okd (brV p g e) = true:=by
 have h1 : Cd.inn p 0 8 = true:=decide_eq_true h.1
 have h2 : Cd.inn g 0 7 = true:=decide_eq_true h.2
 have h3 : Cd.eK e 0 0 0 = true:=by unfold Cd.eK; rw [he]; decide
 constructor
 ·show (Cd.inn 1 1 3 && Cd.inn p 0 8 && Cd.inn g 0 7 && Cd.inn 0 0 255 && Cd.eK e 0 0 0 && Cd.fA [1,0,0,0,0,0,0,0] && (if ((1 : Int) == 2) = true then _ else (0 : Int) == 0)) = true
  rw [h1,h2,h3]; rfl
 ·show (Cd.inn 1 1 3 && Cd.inn p 0 8 && Cd.inn g 0 7 && Cd.inn 0 0 255 && Cd.eK e 0 0 0 && Cd.fA [0,0,0,0,0,0,0,0] && (if ((1 : Int) == 2) = true then _ else (0 : Int) == 0)) = true
  rw [h1,h2,h3]; rfl
theorem okd_z {p g c : Int} (h : Bd p g) (h0 : 0≤c) (h1 : c≤255) : Cd.okd (zmV p g c) = true:=by
 have e1 : Cd.inn p 0 8 = true:=decide_eq_true h.1
 have e2 : Cd.inn g 0 7 = true:=decide_eq_true h.2
 have e3 : Cd.inn c 0 255 = true:=decide_eq_true ⟨h0,h1⟩
 show (Cd.inn 2 1 3 && Cd.inn p 0 8 && Cd.inn g 0 7 && Cd.inn c 0 255 && Cd.eK 0 0 0 0 && Cd.fA [0,0,0,0,0,0,0,0] && (if ((2 : Int) == 2) = true then (Cd.fm [0,0,0,0,0,0,0,0] && (0 : Int) == 0) else _)) = true
 rw [e1,e2,e3]; rfl
inductive InP : List Int × Int→Prop
 | no : InP (Cd.noP,0)
 | lv (p g e : Int) (h : Bd p g) (he : Cd.sig e = true) : InP (gpq p g e,1)
 | zm (p g c : Int) (h : Bd p g) (h0 : 0≤c) (h1 : c≤255) : InP (zmV p g c,1)
def lvS (S : Stt) (i : Int) : Bool:=actB (S.p i).1 (S.p i).2
def dS (S : Stt) (i : Int) : Int:=(S.p i).1.getD 1 0
def b2 (b : Bool) : Nat:=if b then 1 else 0
def cnt (S : Stt) : Nat:=b2 (lvS S 0) + b2 (lvS S 1) + b2 (lvS S 2) + b2 (lvS S 3) + b2 (lvS S 4) + b2 (lvS S 5) + b2 (lvS S 6) + b2 (lvS S 7)
theorem b2_le (b : Bool) : b2 b≤1:=by cases b <;> decide
theorem cnt_le (S : Stt) : cnt S≤8:=by
 unfold cnt
 have h0:=b2_le (lvS S 0); have h1:=b2_le (lvS S 1); have h2:=b2_le (lvS S 2); have h3:=b2_le (lvS S 3)
 have h4:=b2_le (lvS S 4); have h5:=b2_le (lvS S 5); have h6:=b2_le (lvS S 6); have h7:=b2_le (lvS S 7)
 omega
theorem in8 {k : Nat} (h : k < 8) : k = 0 ∨ k = 1 ∨ k = 2 ∨ k = 3 ∨ k = 4 ∨ k = 5 ∨ k = 6 ∨ k = 7:=by omega
theorem cnt_same {S T : Stt} (h : ∀ j : Nat,j < 8→lvS T j = lvS S j) : cnt T = cnt S:=by
 have h0:=h 0 (by decide); have h1:=h 1 (by decide); have h2:=h 2 (by decide); have h3:=h 3 (by decide)
 have h4:=h 4 (by decide); have h5:=h 5 (by decide); have h6:=h 6 (by decide); have h7:=h 7 (by decide)
 unfold cnt
 simp only [Int.cast_ofNat_Int] at h0 h1 h2 h3 h4 h5 h6 h7
 rw [h0,h1,h2,h3,h4,h5,h6,h7]
theorem cnt_add {S T : Stt} {k : Nat} (hk : k < 8) (h1 : lvS S k = false) (h2 : lvS T k = true) (h : ∀ j : Nat,j < 8→j ≠ k→lvS T j = lvS S j) : cnt T = cnt S + 1:=by
 have g:=fun (j : Nat) (hj : j < 8)=>h j hj
 unfold cnt
 rcases in8 hk with rfl | rfl | rfl | rfl | rfl | rfl | rfl | rfl
 all_goals
  (try have g0:=h 0 (by decide) (by decide)); (try have g1:=h 1 (by decide) (by decide)); (try have g2:=h 2 (by decide) (by decide)); (try have g3:=h 3 (by decide) (by decide))
  (try have g4:=h 4 (by decide) (by decide)); (try have g5:=h 5 (by decide) (by decide)); (try have g6:=h 6 (by decide) (by decide)); (try have g7:=h 7 (by decide) (by decide))
  simp only [Int.cast_ofNat_Int] at *
  simp only [*]
  simp only [b2,if_true,Bool.false_eq_true,if_false]
  try omega
theorem cnt_pos {S : Stt} {k : Nat} (hk : k < 8) (h1 : lvS S k = true) : 1≤cnt S:=by
 unfold cnt
 rcases in8 hk with rfl | rfl | rfl | rfl | rfl | rfl | rfl | rfl
 all_goals
  simp only [Int.cast_ofNat_Int] at h1
  rw [h1]
  simp only [b2,if_true]
  omega
structure Inv (S : Stt) : Prop where
 p : ∀ i : Nat,i < 8→InP (S.p i)
 pa : ∀ i : Nat,i < 8→(S.p i).2 = 1→dS S i ≠ 0→∃ j : Nat,j < 8∧j ≠ i∧dS S i = (j : Int) + 1∧lvS S j = true
 f0 : S.f 0 = if cnt S = 0 then (Fi.noP,0) else ([3,0,(cnt S : Int),0],1)
 f : ∀ i : Nat,1≤i→i < 12→S.f i = (Fi.noP,0)
 r : ∀ i : Nat,i < 4→(S.r i).2 = 0
 t : S.t.2 = 1
 g : S.g.2 = 1
 out : ∀ i : Int,¬ (0≤i∧i < 8)→S.p i = (Cd.noP,2)
theorem Inv.self {S : Stt} (I : Inv S) (i : Int) : (∃ k : Nat,k < 8∧i = k∧∃ p g e,S.p i = (gpq p g e,1)∧Bd p g∧Cd.sig e = true∧lvS S i = true∧(cH (S.p i).1 (S.p i).2).2 = 0) ∨ ¬ (cH (S.p i).1 (S.p i).2).2 = 0:=by
 by_cases hi : 0≤i∧i < 8
 ·obtain ⟨k,rfl⟩:=Int.eq_ofNat_of_zero_le hi.1
  have hk : k < 8:=by omega
  have h:=I.p k hk
  generalize ha : S.p (k : Int) = a at *
  cases h with
  | no=>exact .inr (by decide)
  | lv p g e h he=>exact .inl ⟨k,hk,rfl,p,g,e,rfl,h,he,by unfold lvS; rw [ha]; rfl,rfl⟩
  | zm p g c h h0 h1=>exact .inr (by intro h; cases h)
 ·rw [I.out i hi]
  exact .inr (by decide)
theorem Inv.live {S : Stt} (I : Inv S) {k : Nat} (hk : k < 8) (h : lvS S k = true) : ∃ p g e,S.p k = (gpq p g e,1)∧Bd p g∧Cd.sig e = true:=by
 have hp:=I.p k hk
 unfold lvS at h
 generalize ha : S.p (k : Int) = a at *
 cases hp with
 | no=>cases h
 | lv p g e hb he=>exact ⟨p,g,e,rfl,hb,he⟩
 | zm p g c h0 h1 h2=>cases h
theorem Inv.file {S : Stt} (I : Inv S) {k : Nat} (hk : k < 8) (h : lvS S k = true) : S.f 0 = ([3,0,(cnt S : Int),0],1):=by
 have:=cnt_pos hk h
 rw [I.f0,if_neg (by omega)]
def fd1 : List Int:=[1,0,0,0,0,0,0,0]
def cn1 : List Int:=[1,0,0,0,0,0,0,0,0,0,0,0]
theorem cnt_fd1 : fz fd1 = cn1:=by decide
theorem shS_one (S : Stt) : shS S cn1 12 = S.setF 0 (newF S cn1 0):=by kernel_rfl
theorem share_one {S : Stt} {n : Nat} (h : S.f 0 = ([3,0,(n : Int),0],1)) (hn : n≤8) : ep S fd1 = (S.setF 0 [3,0,(n : Int) + 1,0],0):=by
 have hz : ∀ cn,scan S cn [0,0,0,0,0,0,0] = 0:=fun cn=>rfl
 have hs : scan S cn1 fd1 = 0:=by
  unfold fd1
  rw [scan_cons,if_neg (by decide),show (1 : Int) - 1 = 0 from rfl,h]
  dsimp only
  rw [if_neg (by decide),if_neg (by show ¬ (64 : Int) < (n : Int) + 1; omega)]
  exact hz _
 unfold ep
 rw [cnt_fd1,hs,if_pos rfl,shS_one]
 have : newF S cn1 0 = [3,0,(n : Int) + 1,0]:=by
  unfold newF
  rw [show (((0 : Nat) : Int)) = 0 from rfl,h]
  rfl
 rw [this]
theorem inv_fork {S : Stt} (I : Inv S) (i : Int) : Inv (iM S i).1:=by
 rcases I.self i with ⟨ki,hki,rfl,p,g,e,hp,hb,he,hl,hs⟩ | hs
 ·unfold iM
  rw [if_pos hs]
  cases hq : pk S iC 8 with
  | nil=>exact I
  | cons x l =>
   obtain ⟨k,hk,rfl,hfr⟩:=ir (show x ∈ pk S iC 8 by rw [hq]; simp)
   have hd : (S.p (k : Int)).2 = 0:=by
    have : ((S.p (k : Int)).2 == 0) = true:=hfr
    simpa using this
   have hf:=I.file hki hl
   have hsh : ep S ((S.p (ki : Int)).1.drop 8) = (S.setF 0 [3,0,(cnt S : Int) + 1,0],0):=by rw [hp]; exact share_one hf (cnt_le S)
   have hx0 : (slS S (k : Int)).getD 0 0 = (k : Int):=rfl
   have hc : fw (S.p (ki : Int)).1 (ki : Int) = gpq ((ki : Int) + 1) g 0:=by rw [hp]; rfl
   have hb2 : Bd ((ki : Int) + 1) g:=⟨by omega,hb.2⟩
   have hok:=(okd_l hb2 (show Cd.sig 0 = true by decide)).1
   have hne : ki ≠ k:=fun e=>by
    subst e
    rw [hp] at hd
    cases hd
   dsimp only
   rw [hsh,hx0,hc,hok]
   dsimp only
   rw [if_pos rfl,show ((S.setF 0 [3,0,(cnt S : Int) + 1,0]).p (k : Int)) = S.p (k : Int) from rfl,hd,if_pos (by decide)]
   dsimp only
   have hat : ∀ j : Int,((S.setF 0 [3,0,(cnt S : Int) + 1,0]).setP (k : Int) (gpq ((ki : Int) + 1) g 0)).p j = if j = (k : Int) then (gpq ((ki : Int) + 1) g 0,1) else S.p j:=fun j=>rfl
   generalize hT : (S.setF 0 [3,0,(cnt S : Int) + 1,0]).setP (k : Int) (gpq ((ki : Int) + 1) g 0) = T at *
   have hfar : ∀ j : Nat,j ≠ k→T.p (j : Int) = S.p (j : Int):=fun j hj=>by rw [hat,if_neg (by omega)]
   have hnear : T.p (k : Int) = (gpq ((ki : Int) + 1) g 0,1):=by rw [hat,if_pos rfl]
   have hlf : ∀ j : Nat,j ≠ k→lvS T j = lvS S j:=fun j hj=>by unfold lvS; rw [hfar j hj]
   have hlk : lvS S (k : Int) = false:=by unfold lvS actB; rw [hd]; rfl
   have hcn : cnt T = cnt S + 1:=cnt_add hk hlk (by unfold lvS; rw [hnear]; rfl) (fun j _ hj=>hlf j hj)
   refine ⟨fun j hj=>?_,fun j hj h1 h2=>?_,?_,fun j h1 h2=>?_,fun j hj=>?_,?_,?_,fun j hj=>?_⟩
   ·by_cases e : j = k
    ·subst e; rw [hnear]; exact .lv _ _ _ hb2 (by decide)
    ·rw [hfar j e]; exact I.p j hj
   ·by_cases e : j = k
    ·subst e
     refine ⟨ki,hki,hne,by unfold dS; rw [hnear]; rfl,by rw [hlf ki hne]; exact hl⟩
    ·unfold dS at h2 ⊢
     rw [hfar j e] at h1 h2 ⊢
     obtain ⟨q,hq8,hqj,hqp,hql⟩:=I.pa j hj h1 h2
     have : q ≠ k:=fun e=>by subst e; rw [hlk] at hql; cases hql
     exact ⟨q,hq8,hqj,hqp,by rw [hlf q this]; exact hql⟩
   ·rw [hcn,if_neg (by omega),← hT]
    show ([3,0,(cnt S : Int) + 1,0],(1 : Int)) = _
    rw [show (((cnt S + 1 : Nat)) : Int) = (cnt S : Int) + 1 by omega]
   ·rw [← hT]
    show upd S.f 0 _ (j : Int) = _
    rw [cO (by omega)]
    exact I.f j h1 h2
   ·rw [← hT]; exact I.r j hj
   ·rw [← hT]; exact I.t
   ·rw [← hT]; exact I.g
   ·rw [hat,if_neg (by omega)]; exact I.out j hj
 ·unfold iM
  rw [if_neg hs]
  exact I
end Go.Proofs.YtgcikpgcoemfnaaGreat.Pr
namespace Go.Proofs.YtgcikpgcoemfnaaGreat.Pr
open Go.RowKit Co Pn
theorem fold_own {f : Stt→List Int→Stt} {W : List Int→List Int × Int} (p : List Int→Bool) (S : Stt) (hf : ∀ (s : Stt) (k : Nat),k < 8→p (slS S (k : Int)) = true→s.p (k : Int) = S.p (k : Int)→f s (slS S (k : Int)) = { s with p:=upd s.p (k : Int) (W (slS S (k : Int))) }) :
  ∀ k : Nat,k≤8→(pk S p k).foldl f S = { S with p:=fun j=>if 0≤j∧j < (k : Int)∧p (slS S j) = true then W (slS S j) else S.p j }
 | 0,_=>by
  have e : (fun j : Int=>if 0≤j∧j < ((0 : Nat) : Int)∧p (slS S j) = true then W (slS S j) else S.p j) = S.p:=by
   funext j
   rw [if_neg (by omega)]
  rw [e]
  rfl
 | k + 1,hk=>by
  have ih:=fold_own p S hf k (by omega)
  rw [pk_succ,List.foldl_append,ih]
  by_cases hp : p (slS S (k : Int)) = true
  ·rw [if_pos hp]
   show f _ (slS S (k : Int)) = _
   rw [hf _ k (by omega) hp (by dsimp only; rw [if_neg (by omega)])]
   dsimp only
   congr 1
   funext j
   by_cases e : j = (k : Int)
   ·subst e
    rw [cL,if_pos ⟨by omega,by omega,hp⟩]
   ·rw [cO e]
    by_cases hh : 0≤j∧j < (k : Int)∧p (slS S j) = true
    ·rw [if_pos hh,if_pos ⟨hh.1,by omega,hh.2.2⟩]
    ·rw [if_neg hh,if_neg (fun h=>hh ⟨h.1,by omega,h.2.2⟩)]
  ·rw [if_neg hp]
   show ({ S with p:=_ } : Stt) = _
   congr 1
   funext j
   by_cases hh : 0≤j∧j < (k : Int)∧p (slS S j) = true
   ·rw [if_pos hh,if_pos ⟨hh.1,by omega,hh.2.2⟩]
   ·rw [if_neg hh,if_neg (fun h=>hh ⟨h.1,by
     by_cases e : j = (k : Int)
     ·subst e; exact absurd h.2.2 hp
     ·omega,h.2.2⟩)]
theorem jE {S : Stt} {n : Nat} (h : S.f 0 = ([3,0,(n : Int),0],1)) (hn : 1≤n) : (cF S 0).1 = if n = 1 then S.frF 0 else S.setF 0 [3,0,(n : Int) - 1,0]:=by
 unfold cF
 rw [h]
 dsimp only
 rw [if_pos rfl]
 by_cases h1 : n = 1
 ·subst h1
  rw [if_neg (show ¬ (1 : Int) < [3,0,((1 : Nat) : Int),0].getD 2 0 by decide),if_pos (show [3,0,((1 : Nat) : Int),0].getD 0 0 = 3 from rfl),if_pos rfl]
 ·rw [if_pos (show (1 : Int) < [3,0,(n : Int),0].getD 2 0 from (by show (1 : Int) < (n : Int); omega)),if_neg h1]
  rfl
theorem clS_one (S : Stt) : clS S fd1 = (cF S 0).1:=by kernel_rfl
def orW (x : List Int) : List Int × Int:=if x.getD 2 0 = 2 then (Cd.noP,0) else ((x.drop 2).set 1 0,1)
theorem inv_exit {S : Stt} (I : Inv S) (i code : Int) : Inv (exitS S i code).1:=by
 rcases I.self i with ⟨ki,hki,rfl,p,g,e,hp,hb,he,hl,hs⟩ | hs
 ·have hf:=I.file hki hl
  have h1c:=cnt_pos hki hl
  obtain ⟨_,hc0,hc1⟩:=code8_in code
  obtain ⟨c,hc⟩ : ∃ c,hJ code = c:=⟨_,rfl⟩
  rw [hc] at hc0 hc1
  have h1 : aR S (ki : Int) = ((cF S 0).1).setP (ki : Int) (brV p g e):=by
   unfold aR
   rw [hp]
   dsimp only
   rw [if_pos rfl,show bare (gpq p g e) = brV p g e from rfl,(okd_l hb he).2,if_pos rfl,show (gpq p g e).drop 8 = fd1 from rfl,clS_one]
  have hcp:=closeS_p S 0
  generalize hS1 : aR S (ki : Int) = S1 at *
  have h1at : ∀ j : Int,S1.p j = if j = (ki : Int) then (brV p g e,1) else S.p j:=fun j=>by
   rw [h1]
   show upd ((cF S 0).1.p) (ki : Int) (brV p g e,1) j = _
   rw [hcp]
   rfl
  have h1f : S1.f = (cF S 0).1.f:=by rw [h1]; rfl
  have hrtg : (cF S 0).1.r = S.r∧(cF S 0).1.t = S.t∧(cF S 0).1.g = S.g:=by
   rw [jE hf h1c]
   split <;> exact ⟨rfl,rfl,rfl⟩
  have h1r : S1.r = S.r∧S1.t = S.t∧S1.g = S.g:=by rw [h1]; exact hrtg
  have hoth : ∀ j : Nat,j < 8→da (ki : Int) (slS S1 (j : Int)) = true→j ≠ ki∧(S.p (j : Int)).2 = 1∧dS S (j : Int) = (ki : Int) + 1:=fun j hj h=>by
   unfold da dr at h
   simp only [Bool.and_eq_true,bne_iff_ne,beq_iff_eq] at h
   have hjk : j ≠ ki:=fun e=>h.1 (by subst e; rfl)
   have e1 : S1.p (j : Int) = S.p (j : Int):=by rw [h1at,if_neg (by omega)]
   have e2 : (slS S1 (j : Int)).getD 1 0 = (S.p (j : Int)).2:=by unfold slS; rw [e1]; rfl
   have e3 : (slS S1 (j : Int)).getD 3 0 = dS S (j : Int):=by unfold slS dS; rw [e1]; rfl
   rw [e2,e3] at h
   exact ⟨hjk,h.2.1,h.2.2⟩
  have hoth2 : ∀ j : Nat,j < 8→j ≠ ki→(S.p (j : Int)).2 = 1→dS S (j : Int) = (ki : Int) + 1→da (ki : Int) (slS S1 (j : Int)) = true:=fun j hj hjk hd hpa=>by
   have e1 : S1.p (j : Int) = S.p (j : Int):=by rw [h1at,if_neg (by omega)]
   unfold da dr
   simp only [Bool.and_eq_true,bne_iff_ne,beq_iff_eq]
   refine ⟨?_,?_,?_⟩
   ·show (j : Int) ≠ (ki : Int); omega
   ·show (S1.p (j : Int)).2 = 1; rw [e1]; exact hd
   ·have : (slS S1 (j : Int)).getD 3 0 = dS S (j : Int):=by unfold slS dS; rw [e1]; rfl
    rw [this]; exact hpa
  have h2 : et S1 (ki : Int) = { S1 with p:=fun j=>if 0≤j∧j < ((8 : Nat) : Int)∧da (ki : Int) (slS S1 j) = true then orW (slS S1 j) else S1.p j }:=by
   unfold et
   refine fold_own (f:=fx) (W:=orW) (da (ki : Int)) S1 (fun s k hk hpk hsk=>?_) 8 (Nat.le_refl _)
   obtain ⟨hne,hd,_⟩:=hoth k hk hpk
   have e1 : S1.p (k : Int) = S.p (k : Int):=by rw [h1at,if_neg (by omega)]
   have hin:=I.p k hk
   rw [e1] at hsk
   have hsl : slS S1 (k : Int) = slS S (k : Int):=by unfold slS; rw [e1]
   rw [hsl]
   unfold slS at *
   generalize ha : S.p (k : Int) = a at *
   cases hin with
   | no=>cases hd
   | lv p' g' e' hb' he' =>
    rw [kJ _ _ _ rfl]
    dsimp only
    rw [if_neg (show ¬ (gpq p' g' e').getD 0 0 = 2 from by show ¬ (1 : Int) = 2; decide),hsk]
    dsimp only
    have hok : Cd.okd ((gpq p' g' e').set 1 0) = true:=(okd_l (p:=0) ⟨by omega,hb'.2⟩ he').1
    rw [hok,decide_eq_true (show (1 : Int) ≠ 2 by decide)]
    rfl
   | zm p' g' c' hb' _ _ =>
    rw [kJ _ _ _ rfl,if_pos (by rfl),hsk]
    rfl
  generalize hS2 : et S1 (ki : Int) = S2 at *
  have h2at : ∀ j : Int,S2.p j = if 0≤j∧j < ((8 : Nat) : Int)∧da (ki : Int) (slS S1 j) = true then orW (slS S1 j) else S1.p j:=fun j=>by rw [h2]
  have h2f : S2.f = (cF S 0).1.f∧S2.r = S.r∧S2.t = S.t∧S2.g = S.g:=by rw [h2]; exact ⟨h1f,h1r⟩
  have h2i : S2.p (ki : Int) = (brV p g e,1):=by
   rw [h2at,if_neg (fun h=>(hoth ki hki h.2.2).1 rfl),h1at,if_pos rfl]
  have hj : ∀ j : Nat,j < 8→j ≠ ki→(S2.p (j : Int) = S.p (j : Int)∧¬ ((S.p (j : Int)).2 = 1∧dS S (j : Int) = (ki : Int) + 1)) ∨ ((S2.p (j : Int) = (Cd.noP,0)∧lvS S (j : Int) = false) ∨ ∃ g' e',S2.p (j : Int) = (gpq 0 g' e',1)∧Bd 0 g'∧Cd.sig e' = true∧lvS S (j : Int) = true):=fun j hj hne=>by
   have e1 : S1.p (j : Int) = S.p (j : Int):=by rw [h1at,if_neg (by omega)]
   by_cases ho : da (ki : Int) (slS S1 (j : Int)) = true
   ·have hin:=I.p j hj
    obtain ⟨_,hd,_⟩:=hoth j hj ho
    have ew : S2.p (j : Int) = orW (slS S1 (j : Int)):=by rw [h2at,if_pos ⟨by omega,by omega,ho⟩]
    have hsl : slS S1 (j : Int) = slS S (j : Int):=by unfold slS; rw [e1]
    rw [hsl] at ew
    refine .inr ?_
    unfold slS at ew
    unfold lvS
    rw [ew]
    generalize ha : S.p (j : Int) = a at *
    cases hin with
    | no=>cases hd
    | lv p' g' e' hb' he'=>exact .inr ⟨g',e',rfl,⟨by omega,hb'.2⟩,he',rfl⟩
    | zm p' g' c' hb' _ _=>exact .inl ⟨rfl,rfl⟩
   ·refine .inl ⟨by rw [h2at,if_neg (fun h=>ho h.2.2),e1],fun h=>ho (hoth2 j hj hne h.1 h.2)⟩
  have hout : ∀ j : Int,¬ (0≤j∧j < 8)→S2.p j = (Cd.noP,2):=fun j hj=>by
   rw [h2at,if_neg (by omega),h1at,if_neg (by omega)]
   exact I.out j hj
  have fin : ∀ T : Stt,(∀ j : Int,j ≠ (ki : Int)→T.p j = S2.p j)→T.f = S2.f∧T.r = S2.r∧T.t = S2.t∧T.g = S2.g→(T.p (ki : Int) = (Cd.noP,0) ∨ (T.p (ki : Int) = (zmV p g c,1)∧∃ q : Nat,q < 8∧q ≠ ki∧p = (q : Int) + 1∧lvS S2 (q : Int) = true))→Inv T:=fun T hfar hfr hnear=>by
   have hlj : ∀ j : Nat,j < 8→j ≠ ki→lvS T (j : Int) = lvS S (j : Int):=fun j hj8 hne=>by
    unfold lvS
    rw [hfar _ (by omega)]
    rcases hj j hj8 hne with ⟨e1,_⟩ | ⟨e1,e2⟩ | ⟨g',e',e1,_,_,e2⟩
    ·rw [e1]
    ·rw [e1]
     unfold lvS at e2
     rw [e2]; rfl
    ·rw [e1]
     unfold lvS at e2
     rw [e2]; rfl
   have hlk : lvS T (ki : Int) = false:=by
    unfold lvS
    rcases hnear with h | ⟨h,_⟩ <;> rw [h] <;> rfl
   have hcn : cnt S = cnt T + 1:=cnt_add hki hlk hl (fun j hj8 hne=>(hlj j hj8 hne).symm)
   refine ⟨fun j hj8=>?_,fun j hj8 hd hpa=>?_,?_,fun j h1 h2=>?_,fun j hj4=>?_,?_,?_,fun j hjo=>?_⟩
   ·by_cases e : j = ki
    ·subst e
     rcases hnear with h | ⟨h,_⟩
     ·rw [h]; exact .no
     ·rw [h]; exact .zm _ _ _ hb hc0 hc1
    ·rw [hfar _ (by omega)]
     rcases hj j hj8 e with ⟨e1,_⟩ | ⟨e1,_⟩ | ⟨g',e',e1,hb',he',_⟩
     ·rw [e1]; exact I.p j hj8
     ·rw [e1]; exact .no
     ·rw [e1]; exact .lv _ _ _ hb' he'
   ·by_cases e : j = ki
    ·subst e
     rcases hnear with h | ⟨h,q,hq8,hqk,hqp,hql⟩
     ·rw [h] at hd; cases hd
     ·refine ⟨q,hq8,hqk,by unfold dS; rw [h]; exact hqp,?_⟩
      unfold lvS at hql ⊢
      rw [hfar _ (by omega)]
      exact hql
    ·have hpj:=hfar (j : Int) (by omega)
     rcases hj j hj8 e with ⟨e1,e2⟩ | ⟨e1,_⟩ | ⟨g',e',e1,_,_,_⟩
     ·unfold dS at hpa ⊢
      rw [hpj,e1] at hd hpa ⊢
      obtain ⟨q,hq8,hqj,hqp,hql⟩:=I.pa j hj8 hd hpa
      have hqk : q ≠ ki:=fun h=>by subst h; exact e2 ⟨hd,hqp⟩
      exact ⟨q,hq8,hqj,hqp,by rw [hlj q hq8 hqk]; exact hql⟩
     ·rw [hpj,e1] at hd; cases hd
     ·unfold dS at hpa
      rw [hpj,e1] at hpa
      exact absurd rfl hpa
   ·rw [hfr.1,h2f.1,jE hf h1c]
    by_cases h1 : cnt S = 1
    ·rw [if_pos h1,if_pos (by omega)]
     show upd S.f 0 (Fi.noP,0) 0 = _
     exact cL _ _ _
    ·rw [if_neg h1,if_neg (by omega),show (cnt S : Int) - 1 = (cnt T : Int) by omega]
     show upd S.f 0 ([3,0,(cnt T : Int),0],1) 0 = _
     exact cL _ _ _
   ·rw [hfr.1,h2f.1,jE hf h1c]
    split
    ·show upd S.f 0 _ (j : Int) = _
     rw [cO (by omega)]; exact I.f j h1 h2
    ·show upd S.f 0 _ (j : Int) = _
     rw [cO (by omega)]; exact I.f j h1 h2
   ·rw [hfr.2.1,h2f.2.1]; exact I.r j hj4
   ·rw [hfr.2.2.1,h2f.2.2.1]; exact I.t
   ·rw [hfr.2.2.2,h2f.2.2.2]; exact I.g
   ·rw [hfar _ (by omega)]; exact hout j hjo
  unfold exitS
  rw [if_pos hs,hS1,hS2,hp]
  dsimp only
  rw [hc,show zomb (gpq p g e) c = zmV p g c from rfl,okd_z hb hc0 hc1,h2i]
  dsimp only
  rw [decide_eq_true (show (1 : Int) ≠ 2 by decide)]
  show Inv (if actB (S2.p ((gpq p g e).getD 1 0 - 1)).1 (S2.p ((gpq p g e).getD 1 0 - 1)).2 = true then (S2.setP (ki : Int) (zmV p g c),erB true) else (S2.frP (ki : Int),erB true)).1
  rw [show (gpq p g e).getD 1 0 = p from rfl]
  by_cases ha : actB (S2.p (p - 1)).1 (S2.p (p - 1)).2 = true
  ·rw [if_pos ha]
   have hp1 : 1≤p:=by
    by_cases h : 1≤p
    ·exact h
    ·rw [hout (p - 1) (by omega)] at ha
     cases ha
   obtain ⟨q,hq⟩ : ∃ q : Nat,p = (q : Int) + 1:=⟨(p - 1).toNat,by omega⟩
   have hq8 : q < 8:=by have:=hb.1.2; omega
   refine fin _ (fun j hjn=>cO hjn) ⟨rfl,rfl,rfl,rfl⟩ (.inr ⟨cL _ _ _,q,hq8,?_,hq,?_⟩)
   ·obtain ⟨j,hj8,hjk,hjp,_⟩:=I.pa ki hki (by rw [hp]) (by unfold dS; rw [hp]; show p ≠ 0; omega)
    have : dS S (ki : Int) = p:=by unfold dS; rw [hp]; rfl
    omega
   ·unfold lvS
    rw [show (q : Int) = p - 1 by omega]
    exact ha
  ·rw [if_neg ha]
   exact fin _ (fun j hjn=>cO hjn) ⟨rfl,rfl,rfl,rfl⟩ (.inl (cL _ _ _))
 ·unfold exitS
  rw [if_neg hs]
  exact I
theorem inv_wait {S : Stt} (I : Inv S) (i : Int) : Inv (waitS S i).1:=by
 unfold waitS
 split
 ·split
  ·exact I
  ·cases hq : (pk S (dr i) 8).find? dk with
   | none=>exact I
   | some z =>
    have hz:=List.mem_of_find?_eq_some hq
    have he:=List.find?_some hq
    obtain ⟨k,hk,rfl,hch⟩:=ir hz
    have hd : (S.p (k : Int)).2 = 1:=by
     unfold dr at hch
     simp only [Bool.and_eq_true,beq_iff_eq] at hch
     exact hch.1
    have h2 : (S.p (k : Int)).1.getD 0 0 = 2:=by
     have : ((S.p (k : Int)).1.getD 0 0 == 2) = true:=he
     simpa using this
    have hlk : lvS S (k : Int) = false:=by unfold lvS actB; rw [hd,h2]; rfl
    show Inv (S.frP (k : Int))
    have hfar : ∀ j : Int,j ≠ (k : Int)→(S.frP (k : Int)).p j = S.p j:=fun j hj=>cO hj
    have hnear : (S.frP (k : Int)).p (k : Int) = (Cd.noP,0):=cL _ _ _
    generalize hT : S.frP (k : Int) = T at *
    have hl : ∀ j : Nat,lvS T (j : Int) = lvS S (j : Int):=fun j=>by
     by_cases e : j = k
     ·subst e; rw [hlk]; unfold lvS; rw [hnear]; rfl
     ·unfold lvS; rw [hfar _ (by omega)]
    have hc : cnt T = cnt S:=cnt_same (fun j _=>hl j)
    refine ⟨fun j hj=>?_,fun j hj h1 h3=>?_,?_,fun j h1 h3=>?_,fun j hj=>?_,?_,?_,fun j hj=>?_⟩
    ·by_cases e : j = k
     ·subst e; rw [hnear]; exact .no
     ·rw [hfar _ (by omega)]; exact I.p j hj
    ·by_cases e : j = k
     ·subst e; rw [hnear] at h1; cases h1
     ·unfold dS at h3 ⊢
      rw [hfar _ (by omega)] at h1 h3 ⊢
      obtain ⟨q,a,b,c,d⟩:=I.pa j hj h1 h3
      exact ⟨q,a,b,c,by rw [hl]; exact d⟩
    ·rw [hc,← hT]; exact I.f0
    ·rw [← hT]; exact I.f j h1 h3
    ·rw [← hT]; exact I.r j hj
    ·rw [← hT]; exact I.t
    ·rw [← hT]; exact I.g
    ·rw [hfar _ (by omega)]; exact I.out j hj
 ·exact I
theorem inv_set {S : Stt} (I : Inv S) {k : Nat} (hk : k < 8) {p g e g' e' : Int} (h : S.p (k : Int) = (gpq p g e,1)) (hb : Bd p g') (he : Cd.sig e' = true) : Inv (S.setP (k : Int) (gpq p g' e')):=by
 have hfar : ∀ j : Int,j ≠ (k : Int)→(S.setP (k : Int) (gpq p g' e')).p j = S.p j:=fun j hj=>cO hj
 have hnear : (S.setP (k : Int) (gpq p g' e')).p (k : Int) = (gpq p g' e',1):=cL _ _ _
 generalize hT : S.setP (k : Int) (gpq p g' e') = T at *
 have hl : ∀ j : Nat,lvS T (j : Int) = lvS S (j : Int):=fun j=>by
  by_cases e : j = k
  ·subst e; unfold lvS; rw [hnear,h]; rfl
  ·unfold lvS; rw [hfar _ (by omega)]
 have hpar : ∀ j : Nat,dS T (j : Int) = dS S (j : Int)∧(T.p (j : Int)).2 = (S.p (j : Int)).2:=fun j=>by
  by_cases e : j = k
  ·subst e; unfold dS; rw [hnear,h]; exact ⟨rfl,rfl⟩
  ·unfold dS; rw [hfar _ (by omega)]; exact ⟨rfl,rfl⟩
 have hc : cnt T = cnt S:=cnt_same (fun j _=>hl j)
 refine ⟨fun j hj=>?_,fun j hj h1 h3=>?_,?_,fun j h1 h3=>?_,fun j hj=>?_,?_,?_,fun j hj=>?_⟩
 ·by_cases e : j = k
  ·subst e; rw [hnear]; exact .lv _ _ _ hb he
  ·rw [hfar _ (by omega)]; exact I.p j hj
 ·rw [(hpar j).2] at h1
  rw [(hpar j).1] at h3 ⊢
  obtain ⟨q,a,b,c,d⟩:=I.pa j hj h1 h3
  exact ⟨q,a,b,c,by rw [hl]; exact d⟩
 ·rw [hc,← hT]; exact I.f0
 ·rw [← hT]; exact I.f j h1 h3
 ·rw [← hT]; exact I.r j hj
 ·rw [← hT]; exact I.t
 ·rw [← hT]; exact I.g
 ·rw [hfar _ (by omega)]; exact I.out j hj
end Go.Proofs.YtgcikpgcoemfnaaGreat.Pr
namespace Go.Proofs.YtgcikpgcoemfnaaGreat.Pr
open Go.RowKit Co Pn
theorem sig_pw {n : Int} (h1 : 1≤n) (h15 : n≤15) : Cd.sig (Sg.pw n) = true∧Cd.Wf (Sg.pw n):=by
 rcases (show n = 1 ∨ n = 2 ∨ n = 3 ∨ n = 4 ∨ n = 5 ∨ n = 6 ∨ n = 7 ∨ n = 8 ∨ n = 9 ∨ n = 10 ∨ n = 11 ∨ n = 12 ∨ n = 13 ∨ n = 14 ∨ n = 15 by omega) with rfl | rfl | rfl | rfl | rfl | rfl | rfl | rfl | rfl | rfl | rfl | rfl | rfl | rfl | rfl <;> exact ⟨by decide +kernel,by unfold Cd.Wf; decide +kernel⟩
theorem sig_wf {e : Int} (h : Cd.sig e = true) : Cd.Wf e:=by
 have:=Cd.eX h
 unfold Cd.Wf
 omega
theorem sig_wi {e n : Int} (he : Cd.sig e = true) (h1 : 1≤n) (h15 : n≤15) : Cd.sig (Sg.wi e n) = true:=by
 obtain ⟨a,b⟩:=sig_pw h1 h15
 unfold Sg.wi
 rw [Cd.sig_or (sig_wf he) b,he,a]
 rfl
theorem sig_wo {e n : Int} (he : Cd.sig e = true) : Cd.sig (Sg.wo e n) = true:=by
 have h1:=(Cd.gL (sig_wf he)).trans he
 rw [beq_iff_eq,Sg.ey] at h1
 have h2 : (BitVec.ofInt 64 e &&& ~~~BitVec.ofInt 64 65534) = 0#64:=by
  apply BitVec.eq_of_toInt_eq
  rw [h1]; rfl
 unfold Sg.wo
 rw [← Cd.gL (Cd.fN _ _ _),beq_iff_eq,Sg.ey,Sg.ey,BitVec.ofInt_toInt]
 have h3 : (BitVec.ofInt 64 e &&& ~~~BitVec.ofInt 64 (Sg.pw n) &&& ~~~BitVec.ofInt 64 65534) = 0#64:=by
  rw [BitVec.and_assoc,BitVec.and_comm (~~~BitVec.ofInt 64 (Sg.pw n)),← BitVec.and_assoc,h2,BitVec.zero_and]
 rw [h3]; rfl
theorem rz0 (p g e : Int) : ∀ n : Int,Sg.sign n = false→(Sg.cJ (Sg.ofL (gpq p g e)) n).2 = false:=fun n h=>by
 unfold Sg.cJ
 rw [h]
 rfl
theorem raise_z (p g c n : Int) : (Sg.cJ (Sg.ofL (zmV p g c)) n).2 = false:=by
 unfold Sg.cJ
 rw [show Sg.cW (Sg.ofL (zmV p g c)) = false from rfl,Bool.and_false]
 rfl
theorem raise_sd (p g : Int) {e : Int} (he : Cd.sig e = true) (n : Int) : (Sg.cJ (Sg.ofL (gpq p g e)) n).2 = false ∨ ((Sg.cJ (Sg.ofL (gpq p g e)) n).2 = true∧∃ e2,Sg.ls (Sg.cJ (Sg.ofL (gpq p g e)) n).1 = gpq p g e2∧Cd.sig e2 = true):=by
 cases hs : Sg.sign n with
 | false=>exact .inl (rz0 p g e n hs)
 | true =>
  have hn:=Sg.sign_in hs
  refine .inr ?_
  by_cases h14 : n = 14
  ·subst h14
   exact ⟨by kernel_rfl,Sg.wo (Sg.wi e 14) 15,by kernel_rfl,sig_wo (sig_wi he (by decide) (by decide))⟩
  ·by_cases h15 : n = 15
   ·subst h15
    exact ⟨by kernel_rfl,Sg.wo (Sg.wi e 15) 14,by kernel_rfl,sig_wo (sig_wi he (by decide) (by decide))⟩
   ·have hw:=sig_wi he hn.1 hn.2
    rcases (show n = 1 ∨ n = 2 ∨ n = 3 ∨ n = 4 ∨ n = 5 ∨ n = 6 ∨ n = 7 ∨ n = 8 ∨ n = 9 ∨ n = 10 ∨ n = 11 ∨ n = 12 ∨ n = 13 by omega) with rfl | rfl | rfl | rfl | rfl | rfl | rfl | rfl | rfl | rfl | rfl | rfl | rfl <;> exact ⟨by kernel_rfl,_,by kernel_rfl,hw⟩
theorem gpq_inj {p g e p' g' e' : Int} (h : gpq p g e = gpq p' g' e') : p = p'∧g = g'∧e = e':=by
 unfold gpq at h
 simp only [List.cons.injEq,and_true,true_and] at h
 exact ⟨h.1,h.2.1,h.2.2⟩
def Row (S : Stt) (x : List Int) : Prop:=∃ k : Nat,k < 8∧((∃ p g e e',x = (k : Int) :: 1 :: gpq p g e∧S.p (k : Int) = (gpq p g e',1)∧Bd p g∧Cd.sig e = true) ∨ ∃ p g c,x = (k : Int) :: 1 :: zmV p g c)
theorem gN (n : Int) : ∀ (l : List (List Int)) (S : Stt),Inv S→(∀ x ∈ l,Row S x)→Inv (gg n S l).1
 | [],S,I,_=>I
 | x :: l,S,I,h=>by
  have hl : ∀ y ∈ l,Row S y:=fun y hy=>h y (by simp [hy])
  obtain ⟨k,hk,⟨p,g,e,e',rfl,hp,hb,he⟩ | ⟨p,g,c,rfl⟩⟩:=h x (by simp)
  ·rw [ie]
   rcases raise_sd p g he n with hr | ⟨hr,e2,hls,he2⟩
   ·rw [hr]
    exact gN n l S I hl
   ·rw [if_pos hr,hls,hp,(okd_l hb he2).1]
    show Inv (if (decide ((1 : Int) ≠ 2) && true) = true then gg n (S.setP (k : Int) (gpq p g e2)) l else (S,105)).1
    rw [if_pos (by decide)]
    refine gN n l _ (inv_set I hk hp hb he2) (fun y hy=>?_)
    obtain ⟨k2,hk2,⟨p2,g2,a,a',rfl,hp2,hb2,ha⟩ | ⟨p2,g2,c2,rfl⟩⟩:=hl y hy
    ·refine ⟨k2,hk2,.inl ?_⟩
     by_cases e3 : k2 = k
     ·subst e3
      rw [hp] at hp2
      obtain ⟨rfl,rfl,_⟩:=gpq_inj (Prod.mk.inj hp2).1
      exact ⟨p,g,a,e2,rfl,cL _ _ _,hb,ha⟩
     ·exact ⟨p2,g2,a,a',rfl,(cO (by omega)).trans hp2,hb2,ha⟩
    ·exact ⟨k2,hk2,.inr ⟨p2,g2,c2,rfl⟩⟩
  ·rw [ie,raise_z]
   exact gN n l S I hl
theorem Inv.row {S : Stt} (I : Inv S) {k : Nat} (hk : k < 8) (hd : (S.p (k : Int)).2 = 1) : Row S (slS S (k : Int)):=by
 have h:=I.p k hk
 refine ⟨k,hk,?_⟩
 unfold slS
 generalize ha : S.p (k : Int) = a at *
 cases h with
 | no=>cases hd
 | lv p g e hb he=>exact .inl ⟨p,g,e,e,rfl,rfl,hb,he⟩
 | zm p g c hb h0 h1=>exact .inr ⟨p,g,c,rfl⟩
theorem inv_kill {S : Stt} (I : Inv S) (i t n : Int) : Inv (killS S i t n).1:=by
 unfold killS
 split
 ·split
  ·exact I
  ·rename_i hb
   split
   ·rename_i h0
    refine gN n _ S I (fun x hx=>?_)
    unfold ia at h0 hx
    by_cases h7 : 7 < t
    ·rw [if_pos h7] at h0 hx
     by_cases hz : (pk S (cy (t - 8)) 8).length = 0
     ·rw [if_pos hz] at h0
      exact absurd h0 (by decide)
     ·rw [if_neg hz] at hx
      obtain ⟨k,hk,rfl,hp⟩:=ir hx
      refine I.row hk ?_
      unfold cy actS at hp
      simp only [Bool.and_eq_true,beq_iff_eq] at hp
      exact hp.1.1
    ·rw [if_neg h7] at h0 hx
     obtain ⟨k,rfl⟩:=Int.eq_ofNat_of_zero_le (show 0≤t by omega)
     by_cases h2 : (S.p (k : Int)).2 = 2
     ·rw [if_pos h2] at h0
      exact absurd h0 (by decide)
     ·rw [if_neg h2] at h0 hx
      by_cases h3 : (S.p (k : Int)).2 = 0
      ·rw [if_pos h3] at h0
       exact absurd h0 (by decide)
      ·rw [if_neg h3] at hx
       obtain rfl : x = slS S (k : Int):=by simpa using hx
       have hk : k < 8:=by omega
       refine I.row hk ?_
       have hin:=I.p k hk
       generalize ha : S.p (k : Int) = a at *
       cases hin with
       | no=>exact absurd rfl h3
       | lv p g e hb he=>rfl
       | zm p g c hb h0 h1=>rfl
   ·exact I
 ·exact I
theorem inv_group {S : Stt} (I : Inv S) (i t g : Int) : Inv (groupS S i t g).1:=by
 unfold groupS
 rcases I.self i with ⟨ki,hki,rfl,p0,g0,e0,hp0,hb0,he0,hl0,hs⟩ | hs
 ·rw [if_pos hs]
  split
  ·exact I
  ·rename_i hb
   obtain ⟨k,rfl⟩:=Int.eq_ofNat_of_zero_le (show 0≤t by omega)
   have hk : k < 8:=by omega
   split
   ·exact I
   ·split
    ·exact I
    ·rename_i h1 h2
     split
     ·exact I
     ·have hlk : lvS S (k : Int) = true:=by
       by_cases e : k = ki
       ·subst e; exact hl0
       ·have h3 : chB (S.p (k : Int)).1 (S.p (k : Int)).2 (ki : Int) = true∧actB (S.p (k : Int)).1 (S.p (k : Int)).2 = true:=by
         by_cases h4 : chB (S.p (k : Int)).1 (S.p (k : Int)).2 (ki : Int) = true∧actB (S.p (k : Int)).1 (S.p (k : Int)).2 = true
         ·exact h4
         ·exact absurd ⟨by omega,h4⟩ h2
        exact h3.2
      obtain ⟨p,g',e,hp,hbp,he⟩:=I.live hk hlk
      rw [hp,show (gpq p g' e).set 2 g = gpq p g e from rfl,(okd_l (p:=p) (g:=g) ⟨hbp.1,by omega⟩ he).1]
      show Inv (if (decide ((1 : Int) ≠ 2) && true) = true then S.setP (k : Int) (gpq p g e) else S)
      rw [if_pos (by decide)]
      exact inv_set I hk hp ⟨hbp.1,by omega⟩ he
 ·rw [if_neg hs]
  exact I
theorem inv0 : Inv (cZ T0):=by
 have h : ∀ i : Nat,1≤i→i < 8→(cZ T0).p (i : Int) = (Cd.noP,0):=fun i h1 h8=>by
  rcases (show i = 1 ∨ i = 2 ∨ i = 3 ∨ i = 4 ∨ i = 5 ∨ i = 6 ∨ i = 7 by omega) with rfl | rfl | rfl | rfl | rfl | rfl | rfl <;> rfl
 have h0 : (cZ T0).p ((0 : Nat) : Int) = (gpq 0 0 0,1):=rfl
 refine ⟨fun i hi=>?_,fun i hi h1 h2=>?_,by kernel_rfl,fun i h1 h2=>?_,fun i hi=>?_,rfl,rfl,fun i hi=>jY hi⟩
 ·by_cases e : i = 0
  ·subst e; rw [h0]; exact .lv _ _ _ ⟨by omega,by omega⟩ (by decide)
  ·rw [h i (by omega) hi]; exact .no
 ·by_cases e : i = 0
  ·subst e
   exact absurd rfl h2
  ·rw [h i (by omega) hi] at h1; cases h1
 ·rcases (show i = 1 ∨ i = 2 ∨ i = 3 ∨ i = 4 ∨ i = 5 ∨ i = 6 ∨ i = 7 ∨ i = 8 ∨ i = 9 ∨ i = 10 ∨ i = 11 by omega) with rfl | rfl | rfl | rfl | rfl | rfl | rfl | rfl | rfl | rfl | rfl <;> rfl
 ·rcases (show i = 0 ∨ i = 1 ∨ i = 2 ∨ i = 3 by omega) with rfl | rfl | rfl | rfl <;> rfl
end Go.Proofs.YtgcikpgcoemfnaaGreat.Pr
namespace Go.Proofs.YtgcikpgcoemfnaaGreat.Pr
open Go.RowKit Co Pn
theorem InP.flag {a : List Int × Int} (h : InP a) : a.2 ≠ 2:=by cases h <;> exact fun e=>by cases e
theorem InP.fd {a : List Int × Int} (h : InP a) : (if a.2 = 1 then ((a.1.drop 8).filter (· == (0 : Int) + 1)).length else 0) = b2 (actB a.1 a.2):=by
 cases h <;> rfl
theorem dv {α : Type} (g : Nat→α × Int) (f : Nat × α→Nat) (k : Nat) : ((Au.there g (k + 1)).map f).sum = ((Au.there g k).map f).sum + (if (g k).2 = 1 then f (k,(g k).1) else 0):=by
 show ((if (g k).2 = 1 then Au.there g k ++ [(k,(g k).1)] else Au.there g k).map f).sum = _
 by_cases h : (g k).2 = 1
 ·rw [if_pos h,if_pos h,List.map_append,List.sum_append]; rfl
 ·rw [if_neg h,if_neg h]; rfl
theorem cut_in (xs : List UInt8) {a n : Nat} (h : a + n≤492) : ((xs.take 492).drop a).take n = (xs.drop a).take n:=by
 rw [List.drop_take,List.take_take,Nat.min_eq_left (by omega)]
section
variable {F : List UInt8→Prop} {bad : List Rf} {xs : List UInt8} {S : Stt}
structure jx (b : List UInt8) (S : Stt) : Prop where
 p : ∀ i : Nat,i < 8→Au.pAt b i = S.p i
 f : ∀ i : Nat,i < 12→Au.fAt b i = S.f i
 r : ∀ i : Nat,i < 4→Au.rAt b i = S.r i
 t : Au.tAt b = S.t
 g : Au.gAt b = S.g
theorem reads5 (h : Sto F 2560 (cP 0) 2 bad xs S) (G : AllG S) : jx (xs.take 492) S:=by
 refine ⟨fun i hi=>?_,fun i hi=>?_,fun i hi=>?_,?_,?_⟩
 ·have hw : aw 2 (1,(i : Int)) = some (0,24 * i,24):=by simp [aw]; omega
  unfold Au.pAt
  rw [cut_in xs (by omega)]
  exact rec_of (by decide) (h.p i) (G.p i hi) hw
 ·have hw : aw 2 (2,(i : Int)) = some (0,192 + 8 * i,8):=by simp [aw]; omega
  unfold Au.fAt
  rw [cut_in xs (by omega)]
  exact rec_of (by decide) (h.f i) (G.f i hi) hw
 ·have hw : aw 2 (3,(i : Int)) = some (0,288 + 40 * i,40):=by simp [aw]; omega
  unfold Au.rAt
  rw [cut_in xs (by omega)]
  exact rec_of (by decide) (h.r i) (G.r i hi) hw
 ·unfold Au.tAt
  rw [cut_in xs (by omega)]
  exact rec_of (by decide) h.t G.t rfl
 ·unfold Au.gAt
  rw [cut_in xs (by omega)]
  exact rec_of (by decide) h.g G.g rfl
theorem Inv.allG (I : Inv S) : AllG S:=by
 refine ⟨fun i hi=>(I.p i hi).flag,fun i hi=>?_,fun i hi=>by rw [I.r i hi]; decide,by rw [I.t]; decide,by rw [I.g]; decide⟩
 by_cases h : i = 0
 ·subst h
  rw [show ((0 : Nat) : Int) = 0 from rfl,I.f0]
  split
  ·decide
  ·show (1 : Int) ≠ 2; decide
 ·rw [I.f i (by omega) hi]; decide
theorem cnt_fds {b : List UInt8} (I : Inv S) (R : jx b S) : Au.cntP (Au.PP b) 0 = cnt S:=by
 have one : ∀ k : Nat,k < 8→(if (Au.pAt b k).2 = 1 then (fun y : Nat × List Int=>((y.2.drop 8).filter (· == (0 : Int) + 1)).length) (k,(Au.pAt b k).1) else 0) = b2 (lvS S k):=fun k hk=>by
  rw [R.p k hk]
  exact (I.p k hk).fd
 unfold Au.cntP Au.PP
 rw [dv,dv,dv,dv,dv,dv,dv,dv,one 0 (by decide),one 1 (by decide),one 2 (by decide),one 3 (by decide),one 4 (by decide),one 5 (by decide),one 6 (by decide),one 7 (by decide)]
 unfold cnt
 show 0 + _ + _ + _ + _ + _ + _ + _ + _ = _
 rw [Nat.zero_add]
 rfl
theorem bads_none {b : List UInt8} (G : AllG S) (R : jx b S) : Au.fv b = []:=by
 unfold Au.fv
 rw [List.filter_eq_nil_iff]
 intro r hr
 rcases Au.mem_all0 hr with ⟨i,hi,rfl⟩ | ⟨i,hi,rfl⟩ | ⟨i,hi,rfl⟩ | rfl | rfl
 ·have:=G.p i hi; simp [Au.dx,R.p i hi,this]
 ·have:=G.f i hi; simp [Au.dx,R.f i hi,this]
 ·have:=G.r i hi; simp [Au.dx,R.r i hi,this]
 ·have:=G.t; simp [Au.dx,R.t,this]
 ·have:=G.g; simp [Au.dx,R.g,this]
theorem inP_par {a : List Int × Int} (h : InP a) : 0≤a.1.getD 1 0:=by
 cases h with
 | no=>decide
 | lv p g e h he=>exact h.1.1
 | zm p g c h h0 h1=>exact h.1.1
theorem lv_there {b : List UInt8} (R : jx b S) {j : Nat} (hj : j < 8) (h : lvS S j = true) : (j,(S.p j).1) ∈ Au.PP b:=by
 refine Au.bZ.2 ⟨hj,?_,?_⟩
 ·rw [R.p j hj]
  unfold lvS actB at h
  simp only [Bool.and_eq_true,decide_eq_true_eq,beq_iff_eq] at h
  exact h.1
 ·rw [R.p j hj]
theorem file0 {b : List UInt8} (I : Inv S) (R : jx b S) {x : Nat × List Int} (h : x ∈ Au.FF b) : x = (0,[3,0,(cnt S : Int),0]):=by
 obtain ⟨h1,h2,h3⟩:=Au.bZ.1 h
 rw [R.f x.1 h1] at h2 h3
 by_cases h0 : x.1 = 0
 ·rw [h0,show ((0 : Nat) : Int) = 0 from rfl,I.f0] at h2 h3
  by_cases hc : cnt S = 0
  ·rw [if_pos hc] at h2; cases h2
  ·rw [if_neg hc] at h3
   exact Prod.ext h0 h3.symm
 ·rw [I.f x.1 (by omega) h1] at h2; cases h2
theorem file_in {b : List UInt8} (R : jx b S) (h : S.f 0 = ([3,0,(cnt S : Int),0],1)) : (0,[3,0,(cnt S : Int),0]) ∈ Au.FF b:=by
 have hr:=R.f 0 (by decide)
 rw [show ((0 : Nat) : Int) = 0 from rfl,h] at hr
 exact Au.bZ.2 ⟨show 0 < 12 by decide,by rw [hr],by rw [hr]⟩
theorem inv_sound (I : Inv S) (h : Sto F 2560 (cP 0) 2 bad xs S) : Au.bX (xs.take 492) = []:=by
 have R:=reads5 h I.allG
 have hl : (xs.take 492).length = 492:=by rw [List.length_take,h.len]; rfl
 generalize xs.take 492 = b at *
 have v0 : (Au.PP b).any (Au.lpB (Au.PP b)) = false:=by
  rw [List.any_eq_false]
  intro x hx
  obtain ⟨h1,h2,h3⟩:=Au.bZ.1 hx
  rw [R.p x.1 h1] at h2 h3
  have hp : dS S x.1 = x.2.getD 1 0:=by unfold dS; rw [h3]
  have hn:=inP_par (I.p x.1 h1)
  rw [h3] at hn
  unfold Au.lpB
  rw [← hp] at hn ⊢
  by_cases hz : dS S x.1 = 0
  ·rw [hz]; simp
  ·obtain ⟨j,hj,hjx,hjp,hjl⟩:=I.pa x.1 h1 h2 hz
   have hany : ((Au.PP b).any fun y=>(y.1 : Int) == dS S x.1 - 1) = true:=List.any_eq_true.2 ⟨_,lv_there R hj hjl,by rw [hjp]; simp⟩
   rw [hany]
   have : ¬ (dS S x.1 - 1 = (x.1 : Int)):=by omega
   simp [this]
 have v1 : (Au.PP b).any (Au.lfB (Au.FF b)) = false:=by
  rw [List.any_eq_false]
  intro x hx
  obtain ⟨h1,h2,h3⟩:=Au.bZ.1 hx
  rw [R.p x.1 h1] at h2 h3
  have hi:=I.p x.1 h1
  have hf : lvS S x.1 = true→(Au.FF b).any (fun y=>(y.1 : Int) == (1 : Int) - 1) = true:=fun hl=>List.any_eq_true.2 ⟨_,file_in R (I.file h1 hl),by simp⟩
  unfold lvS at hf
  unfold Au.lfB
  rw [← h3]
  generalize S.p x.1 = a at *
  cases hi with
  | no=>cases h2
  | lv p g e hb he =>
   have:=hf rfl
   show ¬ (([1,0,0,0,0,0,0,0] : List Int).any (Au.lf1B (Au.FF b))) = true
   have e1 : Au.lf1B (Au.FF b) 1 = false:=by unfold Au.lf1B; rw [this]; rfl
   have e0 : Au.lf1B (Au.FF b) 0 = false:=rfl
   simp [e1,e0]
  | zm p g c hb h0 h1 =>
   show ¬ (([0,0,0,0,0,0,0,0] : List Int).any (Au.lf1B (Au.FF b))) = true
   simp [Au.lf1B]
 have v2 : (Au.FF b).any (Au.wrB (Au.PP b)) = false:=by
  rw [List.any_eq_false]
  intro x hx
  rw [file0 I R hx]
  unfold Au.wrB
  rw [show (((0 : Nat),[3,0,(cnt S : Int),0]) : Nat × List Int).1 = 0 from rfl,show ((0 : Nat) : Int) = 0 from rfl,cnt_fds I R]
  simp
 have v3 : (Au.FF b).any (Au.lqB (Au.RR b)) = false:=by
  rw [List.any_eq_false]
  intro x hx
  rw [file0 I R hx]
  unfold Au.lqB
  simp
 have v4 : (Au.RR b).any (Au.weB (Au.FF b)) = false:=by
  rw [List.any_eq_false]
  intro x hx
  obtain ⟨h1,h2,h3⟩:=Au.bZ.1 hx
  rw [R.r x.1 h1,I.r x.1 h1] at h2
  cases h2
 unfold Au.bX
 rw [if_pos ⟨hl,bads_none I.allG R⟩]
 unfold Au.asked
 rw [v0,v1,v2,v3,v4]
 rfl
end
end Go.Proofs.YtgcikpgcoemfnaaGreat.Pr
namespace Go.Proofs.YtgcikpgcoemfnaaGreat.Pr
open Go.RowKit Co Pn
theorem fieldR0 (a b c d : Value) (W : World) : (Instr.field 32 (.agg #[a,b,c,d]) 0).run Tryz.prog W = .ok a W:=by kernel_rfl
theorem fieldR1 (a b c d : Value) (W : World) : (Instr.field 32 (.agg #[a,b,c,d]) 1).run Tryz.prog W = .ok b W:=by kernel_rfl
theorem fY {w w1 W : World} (k1 : Keep (bT w.heap.size) w w1) (k : Keep (bT w1.heap.size) w1 W) : Keep (bT w.heap.size) w W :=
 k1.trans k (fun x _ m=>Nat.le_trans k1.size m)
section
variable {w W W' : World} {N1 : Nat} {K : Kn} {C : Cm} {b : Bt} {k2 pq : Nat} {R : Dk.Dr} {Ag : Option Addr} {ng cg g : Nat} {B : Option Addr} {c : Nat} {Y : List UInt8} {F : List UInt8→Prop} {n : Nat} {S : Stt}
theorem _root_.Go.Proofs.YtgcikpgcoemfnaaGreat.Pn.Fl.ks (h : Fl w W N1 K C b k2 pq R Ag ng cg g B c (dh dQ) Y) : Ks (fun _=>True) 2560 W K C (cP 0) (cZ T0):=by
 refine ⟨h.op.kc,?_⟩
 have e : C.brs.length = 2:=by rw [h.brs]; rfl
 rw [e,h.bad,h.xs]
 exact sto_first
theorem _root_.Go.Proofs.YtgcikpgcoemfnaaGreat.Pn.Fl.fin {X : List UInt8} (h : Fl w W N1 K C b k2 pq R Ag ng cg g B c X Y) (t : Kt F n W K C (cP 0) S W') : Keep (bT w.heap.size) w W':=by
 obtain ⟨ys,_,ct⟩:=t
 exact (h.op.ct ct rfl).keep
end
end Go.Proofs.YtgcikpgcoemfnaaGreat.Pr
namespace Go.Proofs.YtgcikpgcoemfnaaGreat.Pr
open Go.RowKit Co Pn
theorem awake_is (w : World) : Calls Tryz.prog 15 #[] w fun e w'=>e = .returned (.bool true)∧Keep (bT w.heap.size) w w':=by
 have HV0:=aa (ak 0 0 false)
 have HZ2:=aa (ai (n:=16) (l:=Cd.noP) rfl)
 have hf0:=fieldR0
 have hf1:=fieldR1
 have HKid:=aa (ai (n:=16) (l:=kid 1) rfl)
 go_enter Tryz.func15,Tryz.ntmps15
 go_wp2_with fail
 refine (gv w).mono ?_; rintro e w1 ⟨g0,c0,rfl,hc0,hg0,k1⟩
 go_wp2_with fail
 refine (fill_is _ c0 dQ ju hc0.reads).mono ?_; rintro e W0 ⟨w2,N1,K,C,bt,k2,pq,R,Ag,ng,cg,g2,B,c2,rfl,kk2,hF⟩
 have HBr:=aa (show C.brs.length = 2 by rw [hF.brs]; rfl)
 have H:=aa hF.ks
 have HT:=aa (hF.ks.still (Keep.refl Nob W0))
 have HFin:=aa (fun W S (t : Kt (fun _=>True) 2560 W0 K C (cP 0) S W)=>fY k1 (jn kk2 (hF.fin t)))
 have hsz0:=Nat.le_refl W0.heap.size
 clear hF hc0 k1 kk2 hg0
 go_wp2_with fail
 have hc:=twait_is HT.out HBr.out 0 (by decide) 0 110 false aw0
 unfold rv at hc
 refine hc.mono ?_; rintro e w3 ⟨rfl,t3,kp3⟩
 clear hc
 have HT3:=aa t3
 have hsz3:=t3.kp.size
 clear t3 kp3
 go_wp2_with (first
  | (refine aq.wpList_al rfl rfl ?_; intro wa4 ha4 ka4 sa4; clear sa4)
  | (refine aq.wpList_st rfl rfl rfl rfl (ak 0 110 false) HV0.out ha4 ?_; intro wb4 hb4 kb4 sb4; clear sb4))
 have HT4:=aa ((HT3.out.nob ka4).st H.out ha4 (by decide) hsz3 kb4)
 have HB4:=aa hb4
 have hge4:=hsz3
 generalize w3.heap.size = g4 at *
 clear ha4 ka4 hb4 kb4  HT3
 have hc:=tfork_is HT4.out HBr.out 0 (by decide) 1 0 aw1
 unfold rv at hc
 refine hc.mono ?_; rintro e w5 ⟨rfl,t5,kp5⟩
 clear hc
 have HB6:=aa (kp5.lb H.out HB4.out hge4)
 have HT5:=aa t5
 have hsz5:=t5.kp.size
 clear t5 kp5 HB4 HT4
 go_wp2_with (first
  | (refine aq.wpList_al rfl rfl ?_; intro wa7 ha7 ka7 sa7; clear sa7)
  | (refine aq.wpList_st rfl rfl rfl rfl (ak 1 0 false) HV0.out ha7 ?_; intro wb7 hb7 kb7 sb7; clear sb7))
 have HB8:=aa ((HB6.out.nob ka7).keep kb7 (by have:=HB6.out.lt; omega))
 have HT7:=aa ((HT5.out.nob ka7).st H.out ha7 (by decide) hsz5 kb7)
 have HB7:=aa hb7
 have hge7:=hsz5
 generalize w5.heap.size = g7 at *
 clear ha7 ka7 hb7 kb7 HB6 HT5
 have hc:=twait_is HT7.out HBr.out 0 (by decide) 0 0 true aw2
 unfold rv at hc
 refine hc.mono ?_; rintro e w9 ⟨rfl,t9,kp9⟩
 clear hc
 have HB10:=aa (kp9.lb H.out HB8.out hge4)
 have HB11:=aa (kp9.lb H.out HB7.out hge7)
 have HT9:=aa t9
 have hsz9:=t9.kp.size
 clear t9 kp9 HB8 HB7 HT7
 go_wp2_with (first
  | (refine aq.wpList_al rfl rfl ?_; intro wa12 ha12 ka12 sa12; clear sa12)
  | (refine aq.wpList_st rfl rfl rfl rfl (ak 0 0 true) HV0.out ha12 ?_; intro wb12 hb12 kb12 sb12; clear sb12))
 have HB13:=aa ((HB10.out.nob ka12).keep kb12 (by have:=HB10.out.lt; omega))
 have HB14:=aa ((HB11.out.nob ka12).keep kb12 (by have:=HB11.out.lt; omega))
 have HT12:=aa ((HT9.out.nob ka12).st H.out ha12 (by decide) hsz9 kb12)
 have HB12:=aa hb12
 have hge12:=hsz9
 generalize w9.heap.size = g12 at *
 clear ha12 ka12 hb12 kb12 HB10 HB11 HT9
 have hc:=tself_is HT12.out 1 (by unfold Cd.Wf; decide) (kid 1) 0 aw3
 refine hc.mono ?_; rintro e w15 ⟨rfl,t15,kp15⟩
 clear hc
 have HB16:=aa (kp15.lb H.out HB13.out hge4)
 have HB17:=aa (kp15.lb H.out HB14.out hge7)
 have HB18:=aa (kp15.lb H.out HB12.out hge12)
 have HT15:=aa t15
 have hsz15:=t15.kp.size
 clear t15 kp15 HB13 HB14 HB12 HT12
 go_upto_region 8 with (first
  | (refine ar.wpList_al rfl rfl ?_; intro wa19 ha19 ka19 sa19; clear sa19)
  | (refine ar.wpList_st rfl rfl rfl rfl HKid.out HZ2.out ha19 ?_; intro wb19 hb19 kb19 sb19; clear sb19))
 have HB20:=aa ((HB16.out.nob ka19).keep kb19 (by have:=HB16.out.lt; omega))
 have HB21:=aa ((HB17.out.nob ka19).keep kb19 (by have:=HB17.out.lt; omega))
 have HB22:=aa ((HB18.out.nob ka19).keep kb19 (by have:=HB18.out.lt; omega))
 have HT19:=aa ((HT15.out.nob ka19).st H.out ha19 (by decide) hsz15 kb19)
 have HB19:=aa hb19
 have hge19:=hsz15
 generalize w15.heap.size = g19 at *
 clear ha19 ka19 hb19 kb19 HB16 HB17 HB18 HT15
 have c23 : wb19.cell? ⟨g4,1,none⟩ = some (.int .i64 110):=HB20.out.cell 1
 have c24 : wb19.cell? ⟨g7,1,none⟩ = some (.int .i64 0):=HB21.out.cell 1
 have c25 : wb19.cell? ⟨g7,0,none⟩ = some (.int .i64 1):=HB21.out.cell 0
 have c26 : wb19.cell? ⟨g12,3,none⟩ = some (.bool true):=HB22.out.cell 3
 have c27 : wb19.cell? ⟨g19,1,none⟩ = some (.int .i64 1):=HB19.out.cell 1
 have c28 : wb19.cell? ⟨g19,8,none⟩ = some (.int .i64 1):=HB19.out.cell 8
 go_wp2
 go_ret
 exact ⟨rfl,HFin.out _ _ HT19.out⟩
end Go.Proofs.YtgcikpgcoemfnaaGreat.Pr
namespace Go.Proofs.YtgcikpgcoemfnaaGreat.Pr
open Go.RowKit Co Pn
def je : Ty:=.pair (.int .i64) (.pair (.int .i64) (.pair (.int .i64) (.pair (.int .i64) .unit)))
theorem op17_at {w : World} {A : Option Addr} {n c : Nat} {xs : Ty.den (.sl 32 je)} (h : Holds w (.sl 32 je) xs [.slice A n c]) {k : Nat} (hk : k < n) :
  ∃ bb off o0 o1 o2 o3,A = some ⟨bb,off,none⟩∧(Lit.int .i64 o1).wf = true∧(∀ w',Keep (bT w.heap.size) w w'→w'.cell? ⟨bb,off + k * 4,none⟩ = some (.int .i64 o0)∧w'.cell? ⟨bb,off + k * 4 + 1,none⟩ = some (.int .i64 o1)∧w'.cell? ⟨bb,off + k * 4 + 2,none⟩ = some (.int .i64 o2)∧w'.cell? ⟨bb,off + k * 4 + 3,none⟩ = some (.int .i64 o3)):=by
 obtain ⟨bb,off,cs',rfl,hcl,hcc,hk',hh⟩:=holds_at (e:=je) h (by decide) hk
 generalize xs.get ⟨k,hk'⟩ = x at hh
 obtain ⟨o0,o1,o2,o3,u⟩:=x
 obtain ⟨c0,r0,e0,⟨h0,f0⟩,⟨c1,r1,e1,⟨h1,f1⟩,⟨c2,r2,e2,⟨h2,f2⟩,⟨c3,r3,e3,⟨h3,f3⟩,t⟩⟩⟩⟩:=hh
 have t : r3 = []:=t
 subst t
 simp only at h0 h1 h2 h3
 rw [h3] at e3
 rw [e3,h2] at e2
 rw [e2,h1] at e1
 rw [e1,h0] at e0
 subst e0
 have g0:=hcc 0 _ rfl
 have g1:=hcc 1 _ rfl
 have g2:=hcc 2 _ rfl
 have g3:=hcc 3 _ rfl
 simp only [show je.size = 4 from rfl,Nat.add_zero] at g0 g1 g2 g3
 exact ⟨bb,off,o0,o1,o2,o3,rfl,f1,fun w' K=>⟨K.cell_from g0,K.cell_from g1,K.cell_from g2,K.cell_from g3⟩⟩
section
variable {F : List UInt8→Prop} {n : Nat} {w w1 : World} {K : Kn} {C : Cm} {src : Src} {S : Stt}
theorem kbad_is (t : Kt F n w K C src S w1) (hb : C.bad = []) :
  Calls Tryz.prog 22 #[.pointer (some ⟨C.p,0,none⟩)] w1 fun e w'=>∃ A cap,e = .returned (.slice A 0 cap)∧Kt F n w K C src S w':=by
 have t0:=t
 obtain ⟨ys,h1,h2⟩:=t
 refine (bad_is h2.is.c).mono ?_
 rintro e w' ⟨A,cap,rfl,_,k⟩
 rw [hb]
 exact ⟨A,cap,rfl,t0.nob k⟩
theorem ksound_is (t : Kt F n w K C src S w1) {g : Nat} {l : List UInt8} (hl : l.length = 492) (hb : Blk w1 g 5 (bytes l)) (hs : Au.bX l = []) :
  Calls Tryz.prog 25 #[.slice (some ⟨g,0,none⟩) 492 492] w1 fun e w'=>e = .returned (.bool true)∧Kt F n w K C src S w':=by
 refine (Au.sound_is (some ⟨g,0,none⟩) 492 492 l (aj hb (by rw [am,hl])) true (decide_eq_true hs)).mono ?_
 rintro e w' ⟨rfl,k⟩
 exact ⟨rfl,t.nob (k.mono (fun b hb f=>by unfold bT at f; omega))⟩
end
end Go.Proofs.YtgcikpgcoemfnaaGreat.Pr
