/- Texts PrG, packed. -/
import Derived.BigRegion
import Derived.Test.YtgcikpgcoemfnaaGreatPu0
import Derived.Test.YtgcikpgcoemfnaaGreatPwx0
import Derived.Test.YtgcikpgcoemfnaaGreatPwx1
import Derived.Test.YtgcikpgcoemfnaaGreatPu4
import Derived.Test.YtgcikpgcoemfnaaGreatPu18
import Derived.Test.YtgcikpgcoemfnaaGreatPu19
import Derived.Test.YtgcikpgcoemfnaaGreatPu1
import Derived.Test.YtgcikpgcoemfnaaGreatPu7
import Derived.Test.YtgcikpgcoemfnaaGreatPu11
import Derived.Test.YtgcikpgcoemfnaaGreatPu21
import Derived.Test.YtgcikpgcoemfnaaGreatPu22
import Derived.Test.YtgcikpgcoemfnaaGreatPu12
import Derived.Test.YtgcikpgcoemfnaaGreatPwx5
import Derived.Test.YtgcikpgcoemfnaaGreatPu14
import Derived.Test.YtgcikpgcoemfnaaGreatPu13
import Derived.Test.YtgcikpgcoemfnaaGreatPu15
import Derived.Test.YtgcikpgcoemfnaaGreatPu16
import Derived.Test.YtgcikpgcoemfnaaGreatPu24
import Derived.Test.YtgcikpgcoemfnaaGreatPu23
import Derived.Test.YtgcikpgcoemfnaaGreatPu5
import Derived.Test.YtgcikpgcoemfnaaGreatPu8
import Derived.Test.YtgcikpgcoemfnaaGreatPu20
import Derived.Test.YtgcikpgcoemfnaaGreatPu2
import Derived.Test.YtgcikpgcoemfnaaGreatPu9
import Derived.Test.YtgcikpgcoemfnaaGreatPu25
import Derived.Test.YtgcikpgcoemfnaaGreatPu10
import Derived.Test.YtgcikpgcoemfnaaGreatPu27
import Derived.Test.YtgcikpgcoemfnaaGreatPu30
import Derived.Test.YtgcikpgcoemfnaaGreatPwx6
import Derived.Test.YtgcikpgcoemfnaaGreatPu3
import Derived.Test.YtgcikpgcoemfnaaGreatPwx2
import Derived.Test.YtgcikpgcoemfnaaGreatPwx3
import Derived.Test.YtgcikpgcoemfnaaGreatPwx4
import Derived.Test.YtgcikpgcoemfnaaGreatPwx7
import Derived.Test.YtgcikpgcoemfnaaGreatPu32
import Derived.Test.YtgcikpgcoemfnaaGreatPu6
import Derived.Test.YtgcikpgcoemfnaaGreatPu17
import Derived.Test.YtgcikpgcoemfnaaGreatPu29
import Derived.Test.YtgcikpgcoemfnaaGreatPu31
import Derived.Test.YtgcikpgcoemfnaaGreatPu33
namespace Go.Proofs.YtgcikpgcoemfnaaGreat.Pr
open Go.RowKit Co Pn
set_option linter.unusedVariables false
set_option linter.unusedSimpArgs false
/-- A process with a group, and what waits for it. -/
def gpq (p g pe : Int) : List Int := [1, p, g, 0, pe, 0, 0, 0, 1, 0, 0, 0, 0, 0, 0, 0]
/-- The first process, and its children, by their groups. -/
def GT (gs : List Int) : Sd := SdP ((gpq 0 0 0, 1) :: gs.map (fun g => (gpq 1 g 0, 1))) ((gs.length : Int) + 1)
theorem GT0 : GT [] = T0 := by decide +kernel
theorem gf0 : forkT (GT []) 0 = (GT [0], 1, 0) := by kernel_rfl
theorem gg0 (g : Int) : toT ((stOf (GT [0])).setP 1 (gpq 1 g 0)) = GT [g] := by kernel_rfl
theorem gf1 (a : Int) : forkT (GT [a]) 0 = (GT [a, 0], 2, 0) := by kernel_rfl
theorem gg1 (a g : Int) : toT ((stOf (GT [a, 0])).setP 2 (gpq 1 g 0)) = GT [a, g] := by kernel_rfl
theorem gf2 (a b : Int) : forkT (GT [a, b]) 0 = (GT [a, b, 0], 3, 0) := by kernel_rfl
theorem gg2 (a b g : Int) : toT ((stOf (GT [a, b, 0])).setP 3 (gpq 1 g 0)) = GT [a, b, g] := by kernel_rfl
theorem gf3 (a b c : Int) : forkT (GT [a, b, c]) 0 = (GT [a, b, c, 0], 4, 0) := by kernel_rfl
theorem gg3 (a b c g : Int) : toT ((stOf (GT [a, b, c, 0])).setP 4 (gpq 1 g 0)) = GT [a, b, c, g] := by kernel_rfl
theorem gf4 (a b c d : Int) : forkT (GT [a, b, c, d]) 0 = (GT [a, b, c, d, 0], 5, 0) := by kernel_rfl
theorem gg4 (a b c d g : Int) : toT ((stOf (GT [a, b, c, d, 0])).setP 5 (gpq 1 g 0)) = GT [a, b, c, d, g] := by kernel_rfl
theorem g_fork (gs : List Int) (h : gs.length < 5) : forkT (GT gs) 0 = (GT (gs ++ [0]), (gs.length : Int) + 1, 0) := by
 match gs, h with
 | [], _ => exact gf0 
 | [a], _ => exact gf1 a
 | [a, b], _ => exact gf2 a b
 | [a, b, c], _ => exact gf3 a b c
 | [a, b, c, d], _ => exact gf4 a b c d
 | _ :: _ :: _ :: _ :: _ :: l, h => exact absurd h (by simp only [List.length_cons]; omega)
theorem okd_g : ∀ (p : Fin 2) (g n : Fin 8), Cd.okd (gpq ((p : Nat) : Int) ((g : Nat) : Int) (Sg.pw (((n : Nat) : Int) + 1))) = true ∧ Cd.okd (gpq ((p : Nat) : Int) ((g : Nat) : Int) 0) = true := by decide +kernel
theorem okd_g0 {p g : Int} (hp : p = 0 ∨ p = 1) (h0 : 0 ≤ g) (h7 : g ≤ 7) : Cd.okd (gpq p g 0) = true := by
 obtain ⟨k, rfl⟩ := Int.eq_ofNat_of_zero_le h0
 rcases hp with rfl | rfl
 ·exact (okd_g ⟨0, by decide⟩ ⟨k, by omega⟩ ⟨0, by decide⟩).2
 ·exact (okd_g ⟨1, by decide⟩ ⟨k, by omega⟩ ⟨0, by decide⟩).2
theorem okd_gn {p g n : Int} (hp : p = 0 ∨ p = 1) (h0 : 0 ≤ g) (h7 : g ≤ 7) (n1 : 1 ≤ n) (n8 : n ≤ 8) : Cd.okd (gpq p g (Sg.pw n)) = true := by
 obtain ⟨k, rfl⟩ := Int.eq_ofNat_of_zero_le h0
 obtain ⟨m, rfl⟩ : ∃ m : Nat, n = (m : Int) + 1 := ⟨(n - 1).toNat, by omega⟩
 rcases hp with rfl | rfl
 ·exact (okd_g ⟨0, by decide⟩ ⟨k, by omega⟩ ⟨m, by omega⟩).1
 ·exact (okd_g ⟨1, by decide⟩ ⟨k, by omega⟩ ⟨m, by omega⟩).1
theorem groupS_ok {S : Stt} {i t g : Int} {u : List Int} (hs : (selfR (S.p i).1 (S.p i).2).2 = 0) (hb : ¬ (t < 0 ∨ 7 < t ∨ g < 0 ∨ 7 < g)) (ht : S.p t = (u, 1)) (hch : chB u 1 i = true) (hac : actB u 1 = true) (hm : g = t ∨ (pk S (memberS g) 8).length ≠ 0) (hok : Cd.okd (u.set 2 g) = true) :
  groupS S i t g = (S.setP t (u.set 2 g), 0) := by
 unfold groupS
 rw [if_pos hs, if_neg hb, ht]
 dsimp only
 rw [if_neg (by intro h; exact absurd h.2 (by decide)), if_neg (by intro h; exact h.2 ⟨hch, hac⟩), if_neg (by intro h; exact hm.elim (fun e => h.1 e) (fun e => e h.2)), hok]
 rfl
theorem pk_some {S : Stt} {p : List Int → Bool} {j : Nat} (hj : j < 8) (h : p (slS S j) = true) : (pk S p 8).length ≠ 0 := by
 have hm : slS S j ∈ pk S p 8 := by
  unfold pk
  refine List.mem_filter.2 ⟨?_, h⟩
  unfold mk
  exact List.mem_map.2 ⟨j, List.mem_range.2 hj, rfl⟩
 exact fun e => by
  rw [List.length_eq_zero_iff] at e
  rw [e] at hm
  cases hm
/-- What the processes are. -/
theorem GT_at (gs : List Int) (hl : gs.length ≤ 5) (j : Nat) (hj : j ≤ gs.length) : (stOf (GT gs)).p (j : Int) = (gpq (if j = 0 then 0 else 1) ((0 :: gs).getD j 0) 0, 1) := by
 match gs, hl with
 | [], _ | [a], _ | [a, b], _ | [a, b, c], _ | [a, b, c, d], _ | [a, b, c, d, e], _ =>
  simp only [List.length_cons, List.length_nil] at hj
  rcases (show j = 0 ∨ j = 1 ∨ j = 2 ∨ j = 3 ∨ j = 4 ∨ j = 5 by omega) with rfl | rfl | rfl | rfl | rfl | rfl <;> first | rfl | omega
 | _ :: _ :: _ :: _ :: _ :: _ :: l, h => exact absurd h (by simp only [List.length_cons]; omega)
theorem g_group (gs : List Int) (h : gs.length < 5) (g : Int) (h0 : 0 ≤ g) (h7 : g ≤ 7) (hg : g = (gs.length : Int) + 1 ∨ ∃ j : Nat, j ≤ gs.length ∧ (0 :: gs).getD j 0 = g) :
  groupT (GT (gs ++ [0])) 0 ((gs.length : Int) + 1) g = (GT (gs ++ [g]), 0) := by
 have hl : (gs ++ [0]).length = gs.length + 1 := by simp
 have hp0 := GT_at (gs ++ [0]) (by omega) 0 (by omega)
 have hpt := GT_at (gs ++ [0]) (by omega) (gs.length + 1) (by omega)
 have e0 : (0 :: (gs ++ [0])).getD (gs.length + 1) 0 = 0 := by simp [List.getD_eq_getElem?_getD]
 rw [e0, if_neg (by omega)] at hpt
 rw [if_pos rfl] at hp0
 have hm : g = (gs.length : Int) + 1 ∨ (pk (stOf (GT (gs ++ [0]))) (memberS g) 8).length ≠ 0 := by
  rcases hg with e | ⟨j, hj, e⟩
  ·exact .inl e
  ·refine .inr (pk_some (j := j) (by omega) ?_)
   unfold slS
   rw [GT_at (gs ++ [0]) (by omega) j (by omega)]
   have e2 : (0 :: (gs ++ [0])).getD j 0 = g := by
    rw [← e, List.getD_eq_getElem?_getD, List.getD_eq_getElem?_getD]
    congr 1
    rw [show (0 :: (gs ++ [0])) = (0 :: gs) ++ [0] from rfl, List.getElem?_append_left (by simp; omega)]
   rw [e2]
   show (((1 : Int) == 1 && (1 : Int) != 2) && g == g) = true
   simp
 have hst : groupS (stOf (GT (gs ++ [0]))) 0 ((gs.length : Int) + 1) g = ((stOf (GT (gs ++ [0]))).setP ((gs.length : Int) + 1) (gpq 1 g 0), 0) :=
  groupS_ok (u := gpq 1 0 0) (by
   have : (stOf (GT (gs ++ [0]))).p 0 = (gpq 0 ((0 :: (gs ++ [0])).getD 0 0) 0, 1) := hp0
   rw [this]; rfl) (by omega) (by rw [← hpt]; rfl) rfl rfl hm (okd_g0 (.inr rfl) h0 h7)
 unfold groupT
 rw [hst]
 dsimp only
 refine Prod.ext ?_ rfl
 dsimp only
 clear hst hm e0 hpt hp0 hl hg
 match gs, h with
 | [], _ => exact gg0  g
 | [a], _ => exact gg1 a g
 | [a, b], _ => exact gg2 a b g
 | [a, b, c], _ => exact gg3 a b c g
 | [a, b, c, d], _ => exact gg4 a b c d g
 | _ :: _ :: _ :: _ :: _ :: l, h => exact absurd h (by simp only [List.length_cons]; omega)
/-- A signal raised in all of a row. -/
theorem killL_all (n : Int) (V : List Int → List Int) : ∀ (l : List (List Int)) (S : Stt), (∀ x ∈ l, (Sg.raise (Sg.ofL (x.drop 2)) n).2 = true ∧ Sg.ls (Sg.raise (Sg.ofL (x.drop 2)) n).1 = V x ∧ Cd.okd (V x) = true ∧ (S.p (x.getD 0 0)).2 ≠ 2) →
  killL n S l = (l.foldl (fun s x => s.setP (x.getD 0 0) (V x)) S, 0)
 | [], _, _ => rfl
 | x :: l, S, h => by
  obtain ⟨h1, h2, h3, h4⟩ := h x (by simp)
  unfold killL
  rw [if_pos h1, h2, h3, decide_eq_true h4]
  show killL n (S.setP (x.getD 0 0) (V x)) l = _
  refine killL_all n V l _ (fun y hy => ?_)
  obtain ⟨g1, g2, g3, g4⟩ := h y (by simp [hy])
  refine ⟨g1, g2, g3, ?_⟩
  show (upd S.p (x.getD 0 0) (V x, 1) (y.getD 0 0)).2 ≠ 2
  by_cases e : y.getD 0 0 = x.getD 0 0
  ·rw [e, upd_same]; show (1 : Int) ≠ 2; decide
  ·rw [upd_far e]; exact g4
theorem fold_pk (S : Stt) (p : List Int → Bool) (V : List Int → List Int) : ∀ k : Nat, ((pk S p k).foldl (fun s x => s.setP (x.getD 0 0) (V x)) S).p = fun j => if 0 ≤ j ∧ j < (k : Int) ∧ p (slS S j) = true then (V (slS S j), 1) else S.p j
 | 0 => by
  funext j
  rw [if_neg (by omega)]
  rfl
 | k + 1 => by
  have ih := fold_pk S p V k
  rw [pk_succ, List.foldl_append]
  funext j
  by_cases hp : p (slS S (k : Int)) = true
  ·rw [if_pos hp]
   show upd (((pk S p k).foldl (fun s x => s.setP (x.getD 0 0) (V x)) S).p) (k : Int) (V (slS S k), 1) j = _
   by_cases e : j = (k : Int)
   ·subst e
    rw [upd_same, if_pos ⟨by omega, by omega, hp⟩]
   ·rw [upd_far e, ih]
    dsimp only
    by_cases hh : 0 ≤ j ∧ j < (k : Int) ∧ p (slS S j) = true
    ·rw [if_pos hh, if_pos ⟨hh.1, by omega, hh.2.2⟩]
    ·rw [if_neg hh, if_neg (fun h => hh ⟨h.1, by omega, h.2.2⟩)]
  ·rw [if_neg hp]
   show ((pk S p k).foldl (fun s x => s.setP (x.getD 0 0) (V x)) S).p j = _
   rw [ih]
   dsimp only
   by_cases hh : 0 ≤ j ∧ j < (k : Int) ∧ p (slS S j) = true
   ·rw [if_pos hh, if_pos ⟨hh.1, by omega, hh.2.2⟩]
   ·rw [if_neg hh, if_neg (fun h => hh ⟨h.1, by
     by_cases e : j = (k : Int)
     ·subst e; exact absurd h.2.2 hp
     ·omega, h.2.2⟩)]
theorem raise_g (p g n : Int) (n1 : 1 ≤ n) (n8 : n ≤ 8) : (Sg.raise (Sg.ofL (gpq p g 0)) n).2 = true ∧ Sg.ls (Sg.raise (Sg.ofL (gpq p g 0)) n).1 = gpq p g (Sg.pw n) := by
 rcases (show n = 1 ∨ n = 2 ∨ n = 3 ∨ n = 4 ∨ n = 5 ∨ n = 6 ∨ n = 7 ∨ n = 8 by omega) with rfl | rfl | rfl | rfl | rfl | rfl | rfl | rfl <;> exact ⟨by kernel_rfl, by kernel_rfl⟩
/-- Whether a signal for t is for process j. -/
def hitB (t : Int) (j : Nat) (g : Int) : Bool := t == (j : Int) || (decide (8 ≤ t) && g == t - 8)
theorem kill_res (gs : List Int) (hl : gs.length = 5) (hb : ∀ g ∈ gs, 0 ≤ g ∧ g ≤ 5) (t n : Int) (t0 : 0 ≤ t) (t15 : t ≤ 15) (n1 : 1 ≤ n) (n8 : n ≤ 8) :
  ∃ S' E, killS (stOf (GT gs)) 2 t n = (S', E) ∧ (∀ j : Nat, j < 6 → S'.p (j : Int) = (gpq (if j = 0 then 0 else 1) ((0 :: gs).getD j 0) (if hitB t j ((0 :: gs).getD j 0) then Sg.pw n else 0), 1)) ∧
   ((E = 0 ∧ ∃ j : Nat, j < 6 ∧ hitB t j ((0 :: gs).getD j 0) = true) ∨ (E = 103 ∧ ∀ j : Nat, j < 6 → hitB t j ((0 :: gs).getD j 0) = false)) := by
 have hat := fun (j : Nat) (hj : j < 6) => GT_at gs (by omega) j (by omega)
 have hgb : ∀ j : Nat, j < 6 → 0 ≤ (0 :: gs).getD j 0 ∧ (0 :: gs).getD j 0 ≤ 5 := fun j hj => by
  have hlt : j < (0 :: gs).length := by rw [List.length_cons]; omega
  rw [List.getD_eq_getElem?_getD, List.getElem?_eq_getElem hlt]
  show 0 ≤ (0 :: gs)[j] ∧ (0 :: gs)[j] ≤ 5
  rcases List.mem_cons.1 (List.getElem_mem (l := 0 :: gs) (n := j) hlt) with e | e
  ·rw [e]; decide
  ·exact hb _ e
 have h67 : ∀ j : Int, (j = 6 ∨ j = 7) → (stOf (GT gs)).p j = (Cd.noP, 0) := fun j hj => by
  match gs, hl with
  | [a, b, c, d, e], _ => rcases hj with rfl | rfl <;> rfl
 have hself : (selfR ((stOf (GT gs)).p 2).1 ((stOf (GT gs)).p 2).2).2 = 0 := by
  have := hat 2 (by decide)
  rw [show ((2 : Nat) : Int) = 2 from rfl] at this
  rw [this]; rfl
 generalize hS : stOf (GT gs) = S at *
 unfold killS
 rw [if_pos hself, if_neg (by omega)]
 by_cases h7 : 7 < t
 ·have hmb : ∀ j : Nat, j < 8 → memberS (t - 8) (slS S (j : Int)) = (decide (j < 6) && (0 :: gs).getD j 0 == t - 8) := fun j hj => by
   unfold slS
   by_cases h6 : j < 6
   ·rw [hat j h6, decide_eq_true h6]
    show (((1 : Int) == 1 && (1 : Int) != 2) && (0 :: gs).getD j 0 == t - 8) = _
    simp
   ·rw [h67 (j : Int) (by omega), decide_eq_false h6]
    rfl
  have hhit : ∀ j : Nat, j < 6 → hitB t j ((0 :: gs).getD j 0) = ((0 :: gs).getD j 0 == t - 8) := fun j hj => by
   unfold hitB
   have e1 : (t == (j : Int)) = false := by simp; omega
   rw [e1, decide_eq_true (show 8 ≤ t by omega)]
   simp
  unfold targS
  rw [if_pos h7]
  by_cases hz : (pk S (memberS (t - 8)) 8).length = 0
  ·rw [if_pos hz]
   have hno : ∀ j : Nat, j < 6 → hitB t j ((0 :: gs).getD j 0) = false := fun j hj => by
    rw [hhit j hj]
    cases hc : ((0 :: gs).getD j 0 == t - 8) with
    | false => rfl
    | true => exact absurd hz (pk_some (j := j) (by omega) (by rw [hmb j (by omega), decide_eq_true hj, hc]; rfl))
   refine ⟨S, 103, by rw [if_neg (by decide)], fun j hj => ?_, .inr ⟨rfl, hno⟩⟩
   rw [hno j hj, hat j hj]
   rfl
  ·rw [if_neg hz]
   dsimp only
   rw [if_pos rfl]
   have hall := killL_all n (fun x => gpq (x.getD 3 0) (x.getD 4 0) (Sg.pw n)) (pk S (memberS (t - 8)) 8) S (fun x hx => by
    obtain ⟨k, hk, rfl, hp⟩ := mem_pk hx
    rw [hmb k hk] at hp
    have h6 : k < 6 := by
     by_cases h : k < 6
     ·exact h
     ·rw [decide_eq_false h] at hp; cases hp
    have hg := hgb k h6
    unfold slS
    rw [hat k h6]
    have hr := raise_g (if k = 0 then 0 else 1) ((0 :: gs).getD k 0) n n1 n8
    refine ⟨hr.1, hr.2, (show Cd.okd (gpq (if k = 0 then 0 else 1) ((0 :: gs).getD k 0) (Sg.pw n)) = true from okd_gn (by by_cases e : k = 0 <;> simp [e]) hg.1 (by omega) n1 n8), ?_⟩
    show (S.p (k : Int)).2 ≠ 2
    rw [hat k h6]; show (1 : Int) ≠ 2; decide)
   refine ⟨_, 0, hall, fun j hj => ?_, .inl ⟨rfl, ?_⟩⟩
   ·rw [fold_pk S _ _ 8]
    dsimp only
    rw [hhit j hj, hmb j (by omega), decide_eq_true hj, Bool.true_and]
    cases hc : ((0 :: gs).getD j 0 == t - 8) with
    | true =>
     rw [if_pos ⟨by omega, by omega, rfl⟩]
     unfold slS
     rw [hat j hj]
     rfl
    | false =>
     rw [if_neg (by intro h; cases h.2.2), hat j hj]
     rfl
   ·obtain ⟨x, hx⟩ : ∃ x, x ∈ pk S (memberS (t - 8)) 8 := by
     cases hq : pk S (memberS (t - 8)) 8 with
     | nil => rw [hq] at hz; exact absurd rfl hz
     | cons x l => exact ⟨x, by simp⟩
    obtain ⟨k, hk, rfl, hp⟩ := mem_pk hx
    rw [hmb k hk] at hp
    have h6 : k < 6 := by
     by_cases h : k < 6
     ·exact h
     ·rw [decide_eq_false h] at hp; cases hp
    rw [decide_eq_true h6, Bool.true_and] at hp
    exact ⟨k, h6, by rw [hhit k h6]; exact hp⟩
 ·obtain ⟨m, rfl⟩ := Int.eq_ofNat_of_zero_le t0
  have hhit : ∀ j : Nat, hitB (m : Int) j ((0 :: gs).getD j 0) = decide (j = m) := fun j => by
   unfold hitB
   rw [decide_eq_false (show ¬ (8 : Int) ≤ (m : Int) by omega)]
   by_cases e : j = m
   ·subst e; simp
   ·have : ((m : Int) == (j : Int)) = false := by simp; omega
    rw [this, decide_eq_false e]; rfl
  by_cases h6 : m < 6
  ·have hT : targS S (m : Int) = ([slS S (m : Int)], 0) := by
    unfold targS
    rw [if_neg h7, hat m h6]
    dsimp only
    rw [if_neg (show ¬ (1 : Int) = 2 by decide), if_neg (show ¬ (1 : Int) = 0 by decide)]
   rw [hT]
   dsimp only
   rw [if_pos rfl]
   have hg := hgb m h6
   have hr := raise_g (if m = 0 then 0 else 1) ((0 :: gs).getD m 0) n n1 n8
   have hall := killL_all n (fun x => gpq (x.getD 3 0) (x.getD 4 0) (Sg.pw n)) [slS S (m : Int)] S (fun x hx => by
    obtain rfl : x = slS S (m : Int) := by simpa using hx
    unfold slS
    rw [hat m h6]
    refine ⟨hr.1, hr.2, (show Cd.okd (gpq (if m = 0 then 0 else 1) ((0 :: gs).getD m 0) (Sg.pw n)) = true from okd_gn (by by_cases e : m = 0 <;> simp [e]) hg.1 (by omega) n1 n8), ?_⟩
    show (S.p (m : Int)).2 ≠ 2
    rw [hat m h6]; show (1 : Int) ≠ 2; decide)
   refine ⟨_, 0, hall, fun j hj => ?_, .inl ⟨rfl, m, h6, by rw [hhit]; simp⟩⟩
   rw [hhit]
   show upd S.p (m : Int) (gpq ((slS S (m : Int)).getD 3 0) ((slS S (m : Int)).getD 4 0) (Sg.pw n), 1) (j : Int) = _
   by_cases e : j = m
   ·subst e
    rw [upd_same, decide_eq_true rfl]
    unfold slS
    rw [hat j hj]
    rfl
   ·rw [upd_far (by omega), decide_eq_false e, hat j hj]
    rfl
  ·have hT : targS S (m : Int) = ([], 103) := by
    unfold targS
    rw [if_neg h7, h67 (m : Int) (by omega)]
    dsimp only
    rw [if_neg (show ¬ (0 : Int) = 2 by decide), if_pos rfl]
   rw [hT]
   dsimp only
   rw [if_neg (show ¬ (103 : Int) = 0 by decide)]
   have hno : ∀ j : Nat, j < 6 → hitB (m : Int) j ((0 :: gs).getD j 0) = false := fun j hj => by rw [hhit, decide_eq_false (by omega)]
   refine ⟨S, 103, rfl, fun j hj => ?_, .inr ⟨rfl, hno⟩⟩
   rw [hno j hj, hat j hj]
   rfl
end Go.Proofs.YtgcikpgcoemfnaaGreat.Pr
