import Derived.Test.YtgcikpgcoemfnaaGreatPs33
import Derived.Test.YtgcikpgcoemfnaaGreatPs34
set_option maxRecDepth 100000
set_option maxHeartbeats 8000000
set_option linter.unusedVariables false
set_option linter.unusedSimpArgs false
namespace Go.Proofs.YtgcikpgcoemfnaaGreat.Pn
open Go.RowKit Co
def T0 : Sd:=⟨(gB,1) :: List.replicate 7 (Cd.noP,0),(fileF,1) :: List.replicate 11 (Fi.noP,0),List.replicate 4 (pL Ri.noP,0) ++ [(pL bp,1),(pL bp,1)],(pL bp,1),(0,1)⟩
end Go.Proofs.YtgcikpgcoemfnaaGreat.Pn
namespace Go.Proofs.YtgcikpgcoemfnaaGreat.Pn
open Go.RowKit Co
open Au (pAt fAt rAt tAt gAt)
def dh (b : List UInt8) : List UInt8:=splice (splice (splice xs0 0 b) 512 (Ri.enc bp)) 1856 (Ri.enc bp)
theorem eo : (Ri.enc bp).length = 40:=Ri.aJ dN
section
variable {b : List UInt8}
theorem gR (hb : b.length = 492) : (splice xs0 0 b).length = 2560:=by rw [aX _ _ _ (by rw [hb,xs0_len]; decide),xs0_len]
theorem fG (hb : b.length = 492) : (splice (splice xs0 0 b) 512 (Ri.enc bp)).length = 2560:=by rw [aX _ _ _ (by rw [gR hb,eo]; decide),gR hb]
theorem fill_len (hb : b.length = 492) : (dh b).length = 2560:=by
 unfold dh
 rw [aX _ _ _ (by rw [fG hb,eo]; decide),fG hb]
theorem fill_own (hb : b.length = 492) {a n : Nat} (h : a + n≤492) : ((dh b).drop a).take n = (b.drop a).take n:=by
 unfold dh
 rw [js (by rw [fG hb,eo]; decide) (.inl (by omega)),js (by rw [gR hb,eo]; decide) (.inl (by omega))]
 have:=fC (L:=xs0) (cs:=b) (o:=0) (a:=a) (n:=n) (by rw [hb,xs0_len]; decide) (by omega)
 rwa [Nat.zero_add] at this
theorem fill_b1 (hb : b.length = 492) : ((dh b).drop 512).take 40 = Ri.enc bp:=by
 unfold dh
 rw [js (by rw [fG hb,eo]; decide) (.inl (by decide))]
 have:=fC (L:=splice xs0 0 b) (cs:=Ri.enc bp) (o:=512) (a:=0) (n:=40) (by rw [gR hb,eo]; decide) (by rw [eo]; decide)
 rw [Nat.add_zero,List.drop_zero] at this
 rw [this,List.take_of_length_le (by rw [eo]; decide)]
theorem fill_b2 (hb : b.length = 492) : ((dh b).drop 1856).take 40 = Ri.enc bp:=by
 unfold dh
 have:=fC (L:=splice (splice xs0 0 b) 512 (Ri.enc bp)) (cs:=Ri.enc bp) (o:=1856) (a:=0) (n:=40) (by rw [fG hb,eo]; decide) (by rw [eo]; decide)
 rw [Nat.add_zero,List.drop_zero] at this
 rw [this,List.take_of_length_le (by rw [eo]; decide)]
end
theorem im {r : Rf} {x : Nat × Nat × Nat} (hr : Rok r) (h : aw 2 r = some x) : (∃ i : Nat,i < 8∧r = (1,(i : Int))∧x = (0,24 * i,24)) ∨ (∃ i : Nat,i < 12∧r = (2,(i : Int))∧x = (0,192 + 8 * i,8)) ∨
  (∃ i : Nat,i < 4∧r = (3,(i : Int))∧x = (0,288 + 40 * i,40)) ∨ (r = (3,4)∧x = (1,0,40)) ∨ (r = (3,5)∧x = (2,0,40)) ∨ (r = (4,0)∧x = (0,448,40)) ∨ (r = (5,0)∧x = (0,488,4)):=by
 obtain ⟨k,i⟩:=r
 obtain ⟨h1,h2,h3⟩:=hr
 unfold aw at h
 dsimp only at h1 h2 h3 h
 rcases (show k = 1 ∨ k = 2 ∨ k = 3 ∨ k = 4 ∨ k = 5 by omega) with rfl | rfl | rfl | rfl | rfl
 ·rw [if_pos rfl] at h
  split at h
  ·rename_i hi
   obtain ⟨j,rfl⟩:=Int.eq_ofNat_of_zero_le hi.1
   cases h
   exact .inl ⟨j,by omega,rfl,rfl⟩
  ·cases h
 ·rw [if_neg (by decide),if_pos rfl] at h
  split at h
  ·rename_i hi
   obtain ⟨j,rfl⟩:=Int.eq_ofNat_of_zero_le hi.1
   cases h
   exact .inr (.inl ⟨j,by omega,rfl,rfl⟩)
  ·cases h
 ·rw [if_neg (by decide),if_neg (by decide),if_pos rfl] at h
  split at h
  ·split at h
   ·cases h
    rcases (show i = 4 ∨ i = 5 by omega) with rfl | rfl
    ·exact .inr (.inr (.inr (.inl ⟨rfl,rfl⟩)))
    ·exact .inr (.inr (.inr (.inr (.inl ⟨rfl,rfl⟩))))
   ·cases h
  ·split at h
   ·rename_i h4 hi
    obtain ⟨j,rfl⟩:=Int.eq_ofNat_of_zero_le hi
    cases h
    exact .inr (.inr (.inl ⟨j,by omega,rfl,rfl⟩))
   ·cases h
 ·rw [if_neg (by decide),if_neg (by decide),if_neg (by decide),if_pos rfl] at h
  cases h
  obtain rfl:=h3 (.inl rfl)
  exact .inr (.inr (.inr (.inr (.inr (.inl ⟨rfl,rfl⟩)))))
 ·rw [if_neg (by decide),if_neg (by decide),if_neg (by decide),if_neg (by decide)] at h
  cases h
  obtain rfl:=h3 (.inr rfl)
  exact .inr (.inr (.inr (.inr (.inr (.inr ⟨rfl,rfl⟩)))))
theorem lay2 : Lay 2560 (cP 0) 2:=by
 have e0 : ∀ a n b,cP 0 0 a n = some b→b = 0:=fun a n b h=>by cases h; rfl
 have e1 : ∀ a n b,cP 0 1 a n = some b→b = 512:=fun a n b h=>by cases h; rfl
 have e2 : ∀ a n b,cP 0 2 a n = some b→b = 1856:=fun a n b h=>by cases h; rfl
 constructor
 ·intro r x b hr hw hs
  rcases im hr hw with ⟨i,hi,rfl,rfl⟩ | ⟨i,hi,rfl,rfl⟩ | ⟨i,hi,rfl,rfl⟩ | ⟨rfl,rfl⟩ | ⟨rfl,rfl⟩ | ⟨rfl,rfl⟩ | ⟨rfl,rfl⟩
  all_goals
   first
    | have:=e0 _ _ _ hs
    | have:=e1 _ _ _ hs
    | have:=e2 _ _ _ hs
   dsimp only
   omega
 ·intro r r' x x' b b' hr hr' hne hw hw' hs hs'
  rcases im hr hw with ⟨i,hi,rfl,rfl⟩ | ⟨i,hi,rfl,rfl⟩ | ⟨i,hi,rfl,rfl⟩ | ⟨rfl,rfl⟩ | ⟨rfl,rfl⟩ | ⟨rfl,rfl⟩ | ⟨rfl,rfl⟩
  all_goals
   have hb : b = 0 ∨ b = 512 ∨ b = 1856:=by first | exact .inl (e0 _ _ _ hs) | exact .inr (.inl (e1 _ _ _ hs)) | exact .inr (.inr (e2 _ _ _ hs))
   first
    | have hb:=e0 _ _ _ hs
    | have hb:=e1 _ _ _ hs
    | have hb:=e2 _ _ _ hs
   rcases im hr' hw' with ⟨j,hj,rfl,rfl⟩ | ⟨j,hj,rfl,rfl⟩ | ⟨j,hj,rfl,rfl⟩ | ⟨rfl,rfl⟩ | ⟨rfl,rfl⟩ | ⟨rfl,rfl⟩ | ⟨rfl,rfl⟩
   all_goals
    first
     | have hb':=e0 _ _ _ hs'
     | have hb':=e1 _ _ _ hs'
     | have hb':=e2 _ _ _ hs'
    first
     | exact absurd rfl hne
     | (dsimp only; omega)
     | (have hij : i ≠ j:=fun e=>hne (by rw [e]); dsimp only; omega)
def datB (b : List UInt8) : Sd:=⟨mk 8 (fun i=>pAt b i),mk 12 (fun i=>fAt b i),mk 4 (fun i=>(pL (rAt b i).1,(rAt b i).2)) ++ [(pL bp,1),(pL bp,1)],(pL (tAt b).1,(tAt b).2),gAt b⟩
theorem row_in {α : Type} {n k : Nat} {z : α} {l : List α} {a : α} (h : l[k]? = some a) (hk : k < n) : row n z l (k : Int) = a:=by
 unfold row
 rw [if_pos (by omega),List.getD_eq_getElem?_getD,Int.toNat_natCast,h]
 rfl
theorem jY {α : Type} {n : Int} {z : α} {l : List α} {i : Int} (h : ¬ (0≤i∧i < n)) : row n z l i = z:=if_neg h
theorem gY {α : Type} {n k : Nat} (f : Nat→α) (h : k < n) : (mk n f)[k]? = some (f k):=by
 unfold mk
 rw [List.getElem?_map,List.getElem?_range h]
 rfl
section
variable {α : Type} {dec : List UInt8→α × Int} {z : α} {xs : List UInt8} {src : Src} {nb : Nat} {bad : List Rf} {r : Rf} {a : α × Int}
theorem eV {x : Nat × Nat × Nat} (hw : aw nb r = some x) (hd : dec (got xs src x) = a) (h : (r ∈ bad∧a = (z,2)) ∨ (r ∉ bad∧a.2 ≠ 2)) : aC dec z xs src nb bad r = (a,bad):=by
 rcases h with ⟨h1,rfl⟩ | ⟨h1,h2⟩
 ·exact bh h1
 ·refine (aF h1 hw (v:=a.1) (d:=a.2) hd).trans ?_
  rw [if_neg h2]
theorem jw (hw : aw nb r = none) : aC dec z xs src nb bad r = ((z,2),bad):=by
 by_cases h : r ∈ bad
 ·exact bh h
 ·exact aY h hw
end
theorem sto_fill {b : List UInt8} (hb : b.length = 492) (bad : List Rf)
  (h1 : ∀ i : Nat,i < 8→(((1,(i : Int)) : Rf) ∈ bad∧pAt b i = (Cd.noP,2)) ∨ (((1,(i : Int)) : Rf) ∉ bad∧(pAt b i).2 ≠ 2))
  (h2 : ∀ i : Nat,i < 12→(((2,(i : Int)) : Rf) ∈ bad∧fAt b i = (Fi.noP,2)) ∨ (((2,(i : Int)) : Rf) ∉ bad∧(fAt b i).2 ≠ 2))
  (h3 : ∀ i : Nat,i < 4→(((3,(i : Int)) : Rf) ∈ bad∧rAt b i = (Ri.noP,2)) ∨ (((3,(i : Int)) : Rf) ∉ bad∧(rAt b i).2 ≠ 2))
  (h4 : (((4,0) : Rf) ∈ bad∧tAt b = (Ri.noP,2)) ∨ (((4,0) : Rf) ∉ bad∧(tAt b).2 ≠ 2)) (h5 : (((5,0) : Rf) ∈ bad∧gAt b = (0,2)) ∨ (((5,0) : Rf) ∉ bad∧(gAt b).2 ≠ 2))
  (h6 : ((3,4) : Rf) ∉ bad∧((3,5) : Rf) ∉ bad) : Sto (fun _=>True) 2560 (cP 0) 2 bad (dh b) (cZ (datB b)):=by
 have own : ∀ {a n : Nat},a + n≤492→got (dh b) (cP 0) (0,a,n) = (b.drop a).take n:=fun {a n} h=>by
  show (List.drop (0 + a) (dh b)).take n = _
  rw [Nat.zero_add]
  exact fill_own hb h
 have hp : Ri.dcd (Ri.enc bp) = (bp,1):=Ri.gQ dN pipe1_ok
 refine ⟨fill_len hb,lay2,trivial,fun _ _ _ _ _ _ _ _ _ _ _ _=>trivial,fun i=>?_,fun i=>?_,fun i=>?_,?_,?_⟩
 ·by_cases hi : 0≤i∧i < 8
  ·obtain ⟨k,rfl⟩:=Int.eq_ofNat_of_zero_le hi.1
   have e : (cZ (datB b)).p (k : Int) = pAt b k:=row_in (n:=8) (gY _ (by omega)) (by omega)
   rw [e]
   exact eV (x:=(0,24 * k,24)) (by simp [aw]; omega) (by rw [own (by omega)]; rfl) (h1 k (by omega))
  ·rw [show (cZ (datB b)).p i = (Cd.noP,2) from jY hi]
   exact jw (by unfold aw; rw [if_pos rfl,if_neg hi])
 ·by_cases hi : 0≤i∧i < 12
  ·obtain ⟨k,rfl⟩:=Int.eq_ofNat_of_zero_le hi.1
   have e : (cZ (datB b)).f (k : Int) = fAt b k:=row_in (n:=12) (gY _ (by omega)) (by omega)
   rw [e]
   exact eV (x:=(0,192 + 8 * k,8)) (by simp [aw]; omega) (by rw [own (by omega)]; rfl) (h2 k (by omega))
  ·rw [show (cZ (datB b)).f i = (Fi.noP,2) from jY hi]
   exact jw (by unfold aw; dsimp only; rw [if_neg (by decide),if_pos rfl,if_neg hi])
 ·by_cases hi : 0≤i∧i < 6
  ·obtain ⟨k,rfl⟩:=Int.eq_ofNat_of_zero_le hi.1
   by_cases h4 : k < 4
   ·have e : (cZ (datB b)).r (k : Int) = rAt b k:=by
     have hq : row 6 (pL Ri.noP,2) (datB b).r (k : Int) = (pL (rAt b k).1,(rAt b k).2):=row_in (n:=6) (by
      show (mk 4 _ ++ _)[k]? = _
      rw [List.getElem?_append_left (by simp [mk]; exact h4)]
      exact gY (fun i=>(pL (rAt b i).1,(rAt b i).2)) h4) (by omega)
     show ((lP (row 6 (pL Ri.noP,2) (datB b).r (k : Int)).1,(row 6 (pL Ri.noP,2) (datB b).r (k : Int)).2) : Ri.Pp × Int) = _
     rw [hq,lP_pL]
    rw [e]
    exact eV (x:=(0,288 + 40 * k,40)) (by simp [aw]; omega) (by rw [own (by omega)]; rfl) (h3 k h4)
   ·have h45 : k = 4 ∨ k = 5:=by omega
    have e : (cZ (datB b)).r (k : Int) = (bp,1):=by
     have hq : row 6 (pL Ri.noP,2) (datB b).r (k : Int) = (pL bp,1):=row_in (n:=6) (by
      show (mk 4 _ ++ _)[k]? = _
      rw [List.getElem?_append_right (by simp [mk]; omega)]
      rcases h45 with rfl | rfl <;> simp [mk]) (by omega)
     show ((lP (row 6 (pL Ri.noP,2) (datB b).r (k : Int)).1,(row 6 (pL Ri.noP,2) (datB b).r (k : Int)).2) : Ri.Pp × Int) = _
     rw [hq,lP_pL]
    rw [e]
    rcases h45 with rfl | rfl
    ·exact eV (x:=(1,0,40)) rfl (by show Ri.dcd (((dh b).drop (512 + 0)).take 40) = _; rw [Nat.add_zero,fill_b1 hb]; exact hp) (.inr ⟨h6.1,by dsimp only; decide⟩)
    ·exact eV (x:=(2,0,40)) rfl (by show Ri.dcd (((dh b).drop (1856 + 0)).take 40) = _; rw [Nat.add_zero,fill_b2 hb]; exact hp) (.inr ⟨h6.2,by dsimp only; decide⟩)
  ·have e : (cZ (datB b)).r i = (Ri.noP,2):=by
    show ((lP (row 6 (pL Ri.noP,2) (datB b).r i).1,(row 6 (pL Ri.noP,2) (datB b).r i).2) : Ri.Pp × Int) = _
    rw [jY hi,lP_pL]
   rw [e]
   refine jw ?_
   unfold aw
   dsimp only
   rw [if_neg (by decide),if_neg (by decide),if_pos rfl]
   by_cases h4 : 4≤i
   ·rw [if_pos h4,if_neg (by omega)]
   ·rw [if_neg h4,if_neg (by omega)]
 ·have e : (cZ (datB b)).t = tAt b:=by
   show ((lP (pL (tAt b).1),(tAt b).2) : Ri.Pp × Int) = _
   rw [lP_pL]
  rw [e]
  exact eV (x:=(0,448,40)) rfl (by rw [own (by omega)]; rfl) h4
 ·exact eV (x:=(0,488,4)) rfl (by rw [own (by omega)]; rfl) h5
theorem ju : dQ.length = 492:=by
 unfold dQ
 rw [aX _ _ _ (by rw [aX _ _ _ (by rw [dR,Cd.aJ rfl]; decide),dR,Fi.aJ _]; decide),aX _ _ _ (by rw [dR,Cd.aJ rfl]; decide),dR]
theorem first_dat : datB dQ = T0:=by decide +kernel
theorem sto_first : Sto (fun _=>True) 2560 (cP 0) 2 [] (dh dQ) (cZ T0):=by
 rw [← first_dat]
 refine sto_fill ju [] (fun i hi=>.inr ⟨by simp,?_⟩) (fun i hi=>.inr ⟨by simp,?_⟩) (fun i hi=>.inr ⟨by simp,?_⟩) (.inr ⟨by simp,?_⟩) (.inr ⟨by simp,?_⟩) ⟨by simp,by simp⟩
 ·exact (show ∀ i < 8,(pAt dQ i).2 ≠ 2 by decide +kernel) i hi
 ·exact (show ∀ i < 12,(fAt dQ i).2 ≠ 2 by decide +kernel) i hi
 ·exact (show ∀ i < 4,(rAt dQ i).2 ≠ 2 by decide +kernel) i hi
 ·decide +kernel
 ·decide +kernel
end Go.Proofs.YtgcikpgcoemfnaaGreat.Pn
namespace Go.Proofs.YtgcikpgcoemfnaaGreat.Pn
open Go.RowKit Co
theorem rec_of {α : Type} {dec : List UInt8→α × Int} {z : α} {xs : List UInt8} {nb : Nat} {bad : List Rf} {r : Rf} {a : α × Int} {at_ n : Nat} (hd : (dec []).2 = 2) (h : aC dec z xs (cP 0) nb bad r = (a,bad)) (ha : a.2 ≠ 2) (hw : aw nb r = some (0,at_,n)) : dec ((xs.drop at_).take n) = a:=by
 obtain ⟨_,x,b,hx,hs,hg⟩:=live hd h ha
 rw [hw] at hx
 cases hx
 have hs : cP 0 0 at_ n = some b:=hs
 cases hs
 have e : got xs (cP 0) (0,at_,n) = (xs.drop at_).take n:=by
  show (List.drop (0 + at_) xs).take n = _
  rw [Nat.zero_add]
 rw [← e]
 exact hg
structure AllG (S : Stt) : Prop where
 p : ∀ i : Nat,i < 8→(S.p i).2 ≠ 2
 f : ∀ i : Nat,i < 12→(S.f i).2 ≠ 2
 r : ∀ i : Nat,i < 4→(S.r i).2 ≠ 2
 t : S.t.2 ≠ 2
 g : S.g.2 ≠ 2
section
variable {F : List UInt8→Prop} {n : Nat} {bad : List Rf} {xs ys : List UInt8} {S : Stt}
end
section
variable {F : List UInt8→Prop} {w w1 : World} {K : Kn} {C : Cm} {S : Stt}
theorem kraw_is (t : Kt F 2560 w K C (cP 0) S w1) (hs : K.L = spans2) : Calls Tryz.prog 21 #[.pointer (some ⟨K.q,0,none⟩),.int .i64 0] w1 fun e w'=>∃ ys g,e = .returned (.tuple #[.slice (some ⟨g,0,none⟩) 492 492,.int .i64 0])∧Sto F 2560 (cP 0) C.brs.length C.bad ys S∧Blk w' g 5 (bytes (ys.take 492))∧w1.heap.size≤g ∧
  Kt F 2560 w K C (cP 0) S w'∧Kp K C w1 w':=by
 have t0:=t
 obtain ⟨ys,h1,h2⟩:=t
 have hr : Reg w1 K.q K.m K.mr K.s K.B K.envs.length K.p K.r K.A K.cap ys K.T K.L:=h2.is.k.reg
 have hl : (ys.take 492).length = 492:=by rw [List.length_take,h1.len]; rfl
 refine (raw_is hr 0 0 492 (by rw [hs]; rfl) (ys.take 492) rfl).mono ?_
 rintro e w' ⟨g,rfl,hb,hg,k⟩
 rw [hl]
 exact ⟨ys,g,rfl,h1,hb,hg,t0.nob k,k.mono (fun _ _ f=>f.elim)⟩
theorem kregs_is (t : Kt F 2560 w K C (cP 0) S w1) : Calls Tryz.prog 18 #[.pointer (some ⟨K.k,0,none⟩)] w1 fun e w'=>e = .returned (.pointer (some ⟨K.q,0,none⟩))∧w1 = w':=by
 obtain ⟨ys,_,h2⟩:=t
 exact regs_is (K:={ K with xs:=ys }) h2.is.k
end
end Go.Proofs.YtgcikpgcoemfnaaGreat.Pn
namespace Go.Proofs.YtgcikpgcoemfnaaGreat.Pn
open Go.RowKit
open Co (Src Link Cm Kc Ct)
structure Fl (w W : World) (N1 : Nat) (K : Kn) (C : Cm) (b : Bt) (k2 pq : Nat) (R : Dk.Dr) (Ag : Option Addr) (ng cg g : Nat) (B : Option Addr) (c : Nat) (X Y : List UInt8) : Prop where
 op : Op0 w W K C (cP 0)
 g2 : G2 K.T K.envs.length K.L
 xs : K.xs = X
 env : C.env = 0
 name : C.name = 256
 brs : C.brs = [257,258]
 bad : C.bad = []
 kd : Dk.IsKd W b k2 pq R Ag ng cg
 be : b.envs.length = 18
 r2 : G2 R.S.T R.S.n R.L
 rxs : R.xs = Y
 com : Blk W g 259 [.pointer (some ⟨k2,0,none⟩),.int .i64 0,.slice B 3 c,.slice none 0 0]
 row : Vec W 3 1 B 3 c (ab [256,257,258])
 sep : ∀ x,(Mine K x ∨ x = C.p ∨ x = C.b ∨ Own C.A x)→¬ (x = k2 ∨ R.Mine x ∨ x = g ∨ Own B x)
 old : ∀ x,(Mine K x ∨ x = C.p ∨ x = C.b ∨ Own C.A x) ∨ (x = k2 ∨ R.Mine x ∨ x = g ∨ Own B x)→x < N1
 new : ∀ x,R.Mine x→w.heap.size≤x
 le : w.heap.size≤N1∧N1≤W.heap.size
section
variable {w W W' : World} {N1 : Nat} {K : Kn} {C : Cm} {b : Bt} {k2 pq : Nat} {R : Dk.Dr} {Ag : Option Addr} {ng cg g : Nat} {B : Option Addr} {c : Nat} {X Y : List UInt8}
theorem Opened.fl {N0 : Nat} (h : Opened w W N0 K C b k2 pq R Ag ng cg g B c) : Fl w W W.heap.size K C b k2 pq R Ag ng cg g B c xs0 xs0:=by
 obtain ⟨l,hl,_⟩:=h.op.kc.c.map
 have hk:=h.op.lo K.k (.inl (.inl rfl))
 have hk0:=h.k0 K.k (.inl (.inl rfl))
 refine ⟨h.op,h.g2,h.xs,h.env,h.name,h.brs,h.bad,h.kd,h.be,h.r2,h.rxs,h.com,h.row,h.sep,?_,fun x m=>by have:=h.r0 x m; omega,⟨h.op.keep.size,Nat.le_refl _⟩⟩
 rintro x ((m | rfl | rfl | m) | (rfl | m | rfl | m))
 ·exact h.op.kc.k.mine_lt x m
 ·exact h.op.kc.c.lt.1
 ·exact h.op.kc.c.lt.2
 ·obtain ⟨ad,hA,rfl⟩:=m
  exact h.op.kc.a_lt (by rw [h.brs]; decide) ad hA
 ·exact h.kd.obj.lt
 ·exact h.kd.reg.lt x m
 ·exact h.com.lt
 ·exact h.row.lt x m
theorem Fl.nob (h : Fl w W N1 K C b k2 pq R Ag ng cg g B c X Y) (k : Keep Nob W W') : Fl w W' N1 K C b k2 pq R Ag ng cg g B c X Y :=
 { h with op:=h.op.nob k,kd:=h.kd.nob k,com:=h.com.nob k,row:=h.row.nob k,le:=⟨h.le.1,Nat.le_trans h.le.2 k.size⟩ }
theorem Fl.own (h : Fl w W N1 K C b k2 pq R Ag ng cg g B c X Y) {x : Nat} {t : TypeId} {cs : List Value} (hb : Blk W x t cs) (ht : ¬ MyT t) (hf : ¬ Fix t) (hx : N1≤x) (k : Keep (· = x) W W') : Fl w W' N1 K C b k2 pq R Ag ng cg g B c X Y:=by
 have o:=h.old
 have hp:=o C.p (.inl (.inr (.inl rfl)))
 refine { h with op:=⟨h.op.kc.far hb ht hf (by omega) (fun h0 ad e=>?_) k,h.op.lo,h.op.lb,h.op.keep.at_ k (Nat.le_trans h.le.1 hx)⟩,kd:=⟨h.kd.obj.keep k (fun e=>?_),h.kd.reg.keep k (fun y hy e=>?_)⟩,com:=h.com.keep k (fun e=>?_),row:=h.row.keep k (fun y hy e=>?_),le:=⟨h.le.1,Nat.le_trans h.le.2 k.size⟩ }
 ·have:=o ad.block (.inl (.inr (.inr (.inr ⟨ad,e,rfl⟩))))
  omega
 ·have:=o k2 (.inr (.inl rfl))
  omega
 ·have:=o y (.inr (.inr (.inl hy)))
  omega
 ·have:=o g (.inr (.inr (.inr (.inl rfl))))
  omega
 ·have:=o y (.inr (.inr (.inr (.inr hy))))
  omega
theorem Fl.nm (h : Fl w W N1 K C b k2 pq R Ag ng cg g B c X Y) {j : Nat} (hj : j < 3) : C.nm j = (j : Int) + 256:=by
 rcases (show j = 0 ∨ j = 1 ∨ j = 2 by omega) with rfl | rfl | rfl
 ·exact h.name
 ·show C.brs.getD 0 0 = _; rw [h.brs]; rfl
 ·show C.brs.getD 1 0 = _; rw [h.brs]; rfl
theorem fl_do (h : Fl w W N1 K C b k2 pq R Ag ng cg g B c X Y) (j : Nat) (hj : j < 3) (bs : List UInt8) (hl : bs.length≤if j = 0 then 492 else 40) (A : Option Addr) (n cp : Nat) (hn : bs.length = n) (hr : ae W A n (bytes bs)) (cap : Int) (hc : cap = (j : Int) + 256) (X' : List UInt8) (hX : splice X (gh 0 j) bs = X') :
  Calls Tryz.prog 30 #[.pointer (some ⟨K.k,0,none⟩),.int .i64 0,.agg #[.int .i64 2,.int .i64 cap,.int .i64 0,.int .i64 0,.int .i64 0,.int .i64 0,.slice A n cp]] W fun e w'=>∃ er : Int,e = .returned (.agg #[.int .i64 er,.int .i64 0,.slice none 0 0]) ∧
   Fl w w' N1 { K with xs:=X' } C b k2 pq R Ag ng cg g B c X' Y∧Keep (· < N1) W w':=by
 subst hn hc
 have hd:=Co.lD h.op.kc j 0 bs (by rw [h.brs]; exact Nat.lt_succ_iff.1 hj) (by rw [Nat.zero_add]; exact hl) A cp hr true X' (by
  show (true,splice K.xs (gh 0 j + 0) bs) = _
  rw [Nat.add_zero,h.xs,hX]) 0
 rw [h.env,h.nm hj] at hd
 unfold fq at hd
 refine hd.mono ?_
 rintro e w' ⟨er,rfl,_,t⟩
 refine ⟨er,rfl,{ h with op:=h.op.bytes t,xs:=rfl,kd:=⟨h.kd.obj.keep t.keep (fun m=>h.sep _ (.inl (.inl m)) (.inl rfl)),h.kd.reg.keep t.keep (fun x hx m=>h.sep x (.inl (.inl m)) (.inr (.inl hx)))⟩,com:=h.com.keep t.keep (fun m=>h.sep _ (.inl (.inl m)) (.inr (.inr (.inl rfl)))),row:=h.row.keep t.keep (fun x hx m=>h.sep x (.inl (.inl m)) (.inr (.inr (.inr hx)))),le:=⟨h.le.1,Nat.le_trans h.le.2 t.keep.size⟩ },t.keep.mono (fun x _ m=>h.old x (.inl (.inl (.inl m))))⟩
theorem fl_rdo (h : Fl w W N1 K C b k2 pq R Ag ng cg g B c X Y) (j : Nat) (hj : j < 3) (bs : List UInt8) (hl : bs.length≤if j = 0 then 492 else 40) (A : Option Addr) (n cp : Nat) (hn : bs.length = n) (hr : ae W A n (bytes bs)) (hA : 0 < n→∀ ad,A = some ad→ad.block ≠ R.m) (cap : Int) (hc : cap = (j : Int) + 256) (Y' : List UInt8) (hY : splice Y (gh 0 j) bs = Y') :
  Calls Tryz.prog 31 #[.pointer (some ⟨k2,0,none⟩),.int .i64 0,.agg #[.int .i64 2,.int .i64 cap,.int .i64 0,.int .i64 0,.int .i64 0,.int .i64 0,.slice A n cp]] W fun e w'=>e = .returned (.tuple #[.int .i64 0,.int .i64 0,.string (str [])]) ∧
   Fl w w' N1 K C b k2 pq { R with xs:=Y' } Ag ng cg g B c X Y'∧Keep (· < N1) W w':=by
 subst hn hc
 have hw : ∀ W1,Keep Nob W W1→Calls Tryz.prog 91 #[.pointer (some ⟨R.r,0,none⟩),.int .i64 (0 : Nat),.int .i64 ((j : Int) + 256),.int .i64 0,.string (str bs)] W1 fun e w'=>e = .returned (.int .i64 0)∧Dk.bL w' { R with xs:=Y' }∧Keep (· = R.m) W1 w':=fun W1 kk=>by
  have hre : bo R.S.T R.S.n R.L (0 : Nat) ((j : Int) + 256) 2 (0 : Nat) bs.length ((gh (0 / 9) j + 0 : Nat) : Int) 0:=h.r2.reach (e:=0) (j:=j) (by decide) hj (.inr rfl) (at_:=0) (by rw [Nat.zero_add]; exact hl)
  exact Dk.gV (h.kd.reg.nob kk) bs hre _ (by rw [h.rxs,← hY]; rfl)
 have hd:=Dk.kdo_write h.kd 0 (by rw [h.be]; decide) ((j : Int) + 256) 0 0 0 0 A bs.length cp bs hr hA 0 { R with xs:=Y' } rfl hw
 unfold fq at hd
 refine hd.mono ?_
 rintro e w' ⟨rfl,hk,k⟩
 have hm : R.Mine R.m:=.inr (.inl rfl)
 have hs:=fun x hx=>h.sep x hx
 refine ⟨rfl,{ h with op:=⟨apart h.op.kc h.kd.reg.mem (by decide) (fun m=>hs _ (.inl m) (.inr (.inl hm))) (h.op.kc.c.obj.ne_ h.kd.reg.mem (by decide)) (fun h0 ad e m=>hs _ (.inr (.inr (.inr ⟨ad,e,m⟩))) (.inr (.inl hm))) k,h.op.lo,h.op.lb,h.op.keep.at_ k (h.new _ hm)⟩,kd:=hk,rxs:=rfl,com:=h.com.keep k (fun e=>h.com.ne_ h.kd.reg.mem (by decide) e),row:=h.row.keep k (fun x hx e=>by
   obtain ⟨cs,hc⟩:=h.row.blk hx
   exact hc.ne_ h.kd.reg.mem (by decide) e),le:=⟨h.le.1,Nat.le_trans h.le.2 k.size⟩ },k.mono (fun x _ e=>by rw [e]; exact h.old _ (.inr (.inr (.inl hm))))⟩
end
end Go.Proofs.YtgcikpgcoemfnaaGreat.Pn
namespace Go.Proofs.YtgcikpgcoemfnaaGreat.Pn
open Go.RowKit
open Co
theorem reads_lt {w : World} {A : Option Addr} {n : Nat} {l : List UInt8} (h : ae w A n (bytes l)) (h0 : 0 < n) : ∀ ad,A = some ad→ad.block < w.heap.size:=fun ad e=>by
 obtain ⟨ad',e',hc⟩:=h.2 h0
 rw [e] at e'
 cases e'
 have hl : l.length = n:=by simpa using h.1
 exact block_lt_of_cell (hc 0 _ (by rw [aB (show 0 < l.length by omega)]))
def callZ : List Value:=[.int .i64 0,.int .i64 0,.int .i64 0,.int .i64 0,.int .i64 0,.int .i64 0,.slice none 0 0]
def callC (cap : Int) (A : Option Addr) (n c : Nat) : List Value:=[.int .i64 2,.int .i64 cap,.int .i64 0,.int .i64 0,.int .i64 0,.int .i64 0,.slice A n c]
theorem cells7 {a b c d e f g : Value} (h : a.oneCell' = true∧b.oneCell' = true∧c.oneCell' = true∧d.oneCell' = true∧e.oneCell' = true∧f.oneCell' = true∧g.oneCell' = true) : cE 7 [a,b,c,d,e,f,g]:=⟨rfl,fun v hv=>by
 simp only [List.mem_cons,List.not_mem_nil,or_false] at hv
 rcases hv with rfl | rfl | rfl | rfl | rfl | rfl | rfl
 ·exact h.1
 ·exact h.2.1
 ·exact h.2.2.1
 ·exact h.2.2.2.1
 ·exact h.2.2.2.2.1
 ·exact h.2.2.2.2.2.1
 ·exact h.2.2.2.2.2.2⟩
theorem dC (cap : Int) (A : Option Addr) (n c : Nat) : cE 7 (callC cap A n c):=cells7 ⟨rfl,rfl,rfl,rfl,rfl,rfl,rfl⟩
theorem cellsC0 : cE 7 callZ:=cells7 ⟨rfl,rfl,rfl,rfl,rfl,rfl,rfl⟩
theorem eb : cS 79 7 callZ:=⟨⟨_,Tryz.underlying79,rfl⟩,by kernel_rfl,fun W=>by go_simp; rfl,rfl⟩
def dJ (b : List UInt8) : Nat→List UInt8
 | 0=>xs0
 | 1=>splice xs0 0 b
 | 2=>splice (splice xs0 0 b) 512 (Ri.enc bp)
 | _=>dh b
theorem fillI_br (b : List UInt8) {i : Nat} (h : i = 1 ∨ i = 2) : splice (dJ b i) (gh 0 i) (Ri.enc bp) = dJ b (i + 1):=by
 rcases h with rfl | rfl <;> rfl
theorem fill_is {w : World} (A : Option Addr) (c0 : Nat) (b : List UInt8) (hl : b.length = 492) (hb : ae w A 492 (bytes b)) :
  Calls Tryz.prog 9 #[.slice A 492 c0] w fun e w'=>∃ w1 N1 K C bt k2 pq R Ag ng cg g B c,e = .returned (.tuple #[.pointer (some ⟨K.k,0,none⟩),.pointer (some ⟨C.p,0,none⟩),.pointer (some ⟨k2,0,none⟩),.pointer (some ⟨g,0,none⟩)]) ∧
   Keep Nob w w1∧Fl w1 w' N1 K C bt k2 pq R Ag ng cg g B c (dh b) (dh b):=by
 have hpv : Ri.pv bp = .agg #[.int .i64 0,.int .i64 0,.int .i64 1,.int .i64 1,.int .u8 0,.int .u8 0,.int .u8 0,.int .u8 0,.int .u8 0,.int .u8 0,.int .u8 0,.int .u8 0,.int .u8 0,.int .u8 0,.int .u8 0,.int .u8 0,.int .u8 0,.int .u8 0,.int .u8 0,.int .u8 0,.int .u8 0,.int .u8 0,.int .u8 0,.int .u8 0,.int .u8 0,.int .u8 0,.int .u8 0,.int .u8 0,.int .u8 0,.int .u8 0,.int .u8 0,.int .u8 0,.int .u8 0,.int .u8 0,.int .u8 0,.int .u8 0]:=rfl
 have hP:=fun W=>Ri.iA bp dN W
 rw [hpv] at hP
 have HP:=aa hP
 have HAl:=aa (reads_lt hb (by decide))
 have HRd:=aa hb
 have HL:=aa hl
 have HC1:=aa (dC 256 A 492 c0)
 have HC0:=aa cellsC0
 have HPl:=aa eo
 have HI1:=aa (show splice xs0 (gh 0 0) b = dJ b 1 from rfl)
 have HI3:=aa (show dJ b 3 = dh b from rfl)
 have HIb:=aa (fun (i : Nat) (h : i = 1 ∨ i = 2)=>fillI_br b h)
 clear hP hpv hb hl
 generalize Ri.enc bp = pe at *
 go_enter Tryz.func9,Tryz.ntmps9
 go_wp2_with fail
 refine (plan_is w).mono ?_; rintro e w1 ⟨Ab,AB,rfl,hr,k1⟩
 go_wp2_with fail
 refine (open_is Ab AB hr).mono ?_; rintro e w2 ⟨N0,K,C,bt,k2,pq,R,Ag,ng,cg,g,B,c,rfl,hO⟩
 have HF2:=aa hO.fl
 have K1:=aa k1
 have HRW:=aa (fun (W : World) (k : Keep (bT w1.heap.size) w1 W)=>HRd.out.from_ (jn k1 k))
 have HAm:=aa (show ∀ ad,A = some ad→ad.block ≠ R.m from fun ad e=>by
  have h1:=HAl.out ad e
  have h2:=k1.size
  have h3:=hO.fl.new R.m (.inr (.inl rfl))
  omega)
 clear hO hr k1
 generalize w2.heap.size = N1 at *
 go_wp2_with (first
  | (refine eb.wpList_al rfl rfl ?_; intro w3 hb3 hk3 hs3; clear hs3)
  | (refine eb.wpList_st rfl rfl rfl rfl HC1.out HC0.out hb3 ?_; intro w4 hb4 hk4 hs4; clear hs4))
 have hN2 : N1≤w2.heap.size:=HF2.out.le.2
 have HF4:=aa ((HF2.out.nob hk3).own hb3 (by decide) (by decide) hN2 hk4)
 have HB4:=aa hb4
 generalize w2.heap.size = x at *
 clear hk3 hb3 hk4 hb4
 refine (HP.out _).mono ?_; rintro e w5 ⟨rfl,k5⟩
 have HF5:=aa (HF4.out.nob k5)
 have HB5:=aa (HB4.out.nob k5)
 clear k5
 go_wp2_with (refine eb.wpList_ld rfl rfl rfl HC1.out HB5.out ?_)
 refine (fl_do HF5.out 0 (by decide) b (by rw [HL.out]; decide) A 492 c0 HL.out (HRW.out _ HF5.out.op.keep) 256 rfl _ HI1.out).mono ?_; rintro e w6 ⟨er,rfl,F6,kn6⟩
 have HF6:=aa F6
 have HB6:=aa (HB5.out.keep kn6 (by omega))
 clear F6 kn6
 go_wp2_with (refine eb.wpList_ld rfl rfl rfl HC1.out HB6.out ?_)
 refine (fl_rdo HF6.out 0 (by decide) b (by rw [HL.out]; decide) A 492 c0 HL.out (HRW.out _ HF6.out.op.keep) (fun _=>HAm.out) 256 rfl _ HI1.out).mono ?_; rintro e w7 ⟨rfl,F7,kn7⟩
 have HF7:=aa F7
 have HB7:=aa (HB6.out.keep kn7 (by omega))
 clear F7 kn7
 go_wp2_with fail
 go_loopw [12] (fun s12 wx=>∃ (i : Nat),1≤i∧i≤3∧s12 = .int .i64 i∧Hid (Fl w1 wx N1 { K with xs:=dJ b i } C bt k2 pq { R with xs:=dJ b i } Ag ng cg g B c (dJ b i) (dJ b i))∧Hid (∃ cs,cE 7 cs∧Blk wx x 79 cs)) (fun s12 _=>3 - (intOf s12).toNat)
 case atStart=>exact ⟨1,by omega,by omega,rfl,HF7,aa ⟨_,HC1.out,HB7.out⟩⟩
 case round =>
  obtain ⟨i,h1,h3,rfl,HF,HB⟩:=hrel
  by_cases hlt : (i : Int) < 3
  ·have hi12 : i = 1 ∨ i = 2:=by omega
   have HI:=aa (HIb.out i hi12)
   have HJ:=aa (show i < 3∧i ≠ 0 from ⟨by omega,by omega⟩)
   obtain ⟨cs,hcs,hbx⟩:=HB.out
   have hw : wrap64 (256 + (i : Int)) = 256 + (i : Int):=by rw [← IntWalk.i64_left,IntKind.wrap_i64]; omega
   have HCs:=aa hcs
   have HBx:=aa hbx
   clear hi12 hcs hbx HB
   go_wp2_with (first
    | (refine Cr.kg (n:=40) rfl _ rfl pe rfl HPl.out ?_; intro w8 c8 hc8 hk8 hcl8)
    | (refine eb.wpList_st rfl rfl rfl rfl (dC (256 + (i : Int)) (some ⟨wr.heap.size,0,none⟩) 40 c8) HCs.out (HBx.out.nob hk8) ?_; intro w9 hb9 hk9 hs9; clear hs9)
    | (refine eb.wpList_ld rfl rfl rfl (dC (256 + (i : Int)) (some ⟨wr.heap.size,0,none⟩) 40 c8) hb9 ?_))
   have hx8 : x < wr.heap.size:=HBx.out.lt
   have hn8 : N1≤wr.heap.size:=HF.out.le.2
   have HF9:=aa ((HF.out.nob hk8).own (HBx.out.nob hk8) (by decide) (by decide) hN2 hk9)
   have HR9:=aa (hc8.keep (by decide) hk9 (by omega))
   have HB9:=aa hb9
   have HC9:=aa (dC (256 + (i : Int)) (some ⟨wr.heap.size,0,none⟩) 40 c8)
   generalize wr.heap.size = y at *
   clear hk8 hc8 hb9 hk9
   refine (fl_do HF9.out i HJ.out.1 pe (by rw [HPl.out,if_neg HJ.out.2]; decide) _ 40 c8 HPl.out HR9.out.reads (256 + (i : Int)) (by omega) (dJ b (i + 1)) HI.out).mono ?_; rintro e wa ⟨er2,rfl,Fa,kna⟩
   have HFa:=aa (show Fl w1 wa N1 { K with xs:=dJ b (i + 1) } C bt k2 pq { R with xs:=dJ b i } Ag ng cg g B c (dJ b (i + 1)) (dJ b i) from Fa)
   have HBa:=aa (HB9.out.keep kna (by omega))
   have HRa:=aa (HR9.out.keep (by decide) kna (by omega))
   have hRm:=HFa.out.old R.m (.inr (.inr (.inl (.inr (.inl rfl)))))
   clear Fa kna
   go_wp2_with (refine eb.wpList_ld rfl rfl rfl HC9.out HBa.out ?_)
   refine (fl_rdo HFa.out i HJ.out.1 pe (by rw [HPl.out,if_neg HJ.out.2]; decide) _ 40 c8 HPl.out HRa.out.reads (fun _ ad e=>by cases e; show y ≠ R.m; omega) (256 + (i : Int)) (by omega) (dJ b (i + 1)) HI.out).mono ?_; rintro e wb ⟨rfl,Fb,knb⟩
   have HFb:=aa (show Fl w1 wb N1 { K with xs:=dJ b (i + 1) } C bt k2 pq { R with xs:=dJ b (i + 1) } Ag ng cg g B c (dJ b (i + 1)) (dJ b (i + 1)) from Fb)
   have HBb:=aa (HBa.out.keep knb (by omega))
   clear Fb knb hRm
   go_wp2_with fail
   go_roundw
   case rel=>exact ⟨i + 1,by omega,by omega,by go_num,HFb,aa ⟨_,HC9.out,HBb.out⟩⟩
   case measure=>simp [intOf]; omega
  ·obtain rfl : i = 3:=by omega
   have HFin:=aa HF.out
   rw [HI3.out] at HFin
   go_wp2
   (try simp only [Exit.inBlock,Exit.then])
   refine bodyPost_ret (Dk.iR rfl _ _ _) rfl ?_
   exact ⟨w1,N1,{ K with xs:=dh b },C,bt,k2,pq,{ R with xs:=dh b },Ag,ng,cg,g,rfl,K1.out,B,c,HFin.out⟩
end Go.Proofs.YtgcikpgcoemfnaaGreat.Pn
