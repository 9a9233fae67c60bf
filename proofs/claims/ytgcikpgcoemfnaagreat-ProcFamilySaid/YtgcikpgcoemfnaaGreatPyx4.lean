/- Texts PrU, PrH, PrI, packed. -/
import Derived.Test.YtgcikpgcoemfnaaGreatRows
import Derived.BigQuiet
import Derived.Lib.TrailingZeros
import Derived.Laws.ResultCell
import Derived.Shelf.Spec.TrailingZeros
import Derived.Deep.QuietTactic
import Derived.BigRegion
import Derived.Deep.RegionHeld3
import Derived.Test.YtgcikpgcoemfnaaGreatPu0
import Derived.Test.YtgcikpgcoemfnaaGreatPyx0
import Derived.Test.YtgcikpgcoemfnaaGreatPyx1
import Derived.Test.YtgcikpgcoemfnaaGreatPu4
import Derived.Test.YtgcikpgcoemfnaaGreatPu18
import Derived.Test.YtgcikpgcoemfnaaGreatPu19
import Derived.Test.YtgcikpgcoemfnaaGreatPu1
import Derived.Test.YtgcikpgcoemfnaaGreatPu7
import Derived.Test.YtgcikpgcoemfnaaGreatPu11
import Derived.Test.YtgcikpgcoemfnaaGreatPu21
import Derived.Test.YtgcikpgcoemfnaaGreatPu22
import Derived.Test.YtgcikpgcoemfnaaGreatPu12
import Derived.Test.YtgcikpgcoemfnaaGreatPyx2
import Derived.Test.YtgcikpgcoemfnaaGreatPu14
import Derived.Test.YtgcikpgcoemfnaaGreatPu13
import Derived.Test.YtgcikpgcoemfnaaGreatPu15
import Derived.Test.YtgcikpgcoemfnaaGreatPu16
import Derived.Test.YtgcikpgcoemfnaaGreatPu24
import Derived.Test.YtgcikpgcoemfnaaGreatPu23
import Derived.Test.YtgcikpgcoemfnaaGreatPu5
import Derived.Test.YtgcikpgcoemfnaaGreatPu8
import Derived.Test.YtgcikpgcoemfnaaGreatPu20
import Derived.Test.YtgcikpgcoemfnaaGreatPu2
import Derived.Test.YtgcikpgcoemfnaaGreatPu9
import Derived.Test.YtgcikpgcoemfnaaGreatPu25
import Derived.Test.YtgcikpgcoemfnaaGreatPu10
import Derived.Test.YtgcikpgcoemfnaaGreatPu27
import Derived.Test.YtgcikpgcoemfnaaGreatPu30
import Derived.Test.YtgcikpgcoemfnaaGreatPu3
import Derived.Test.YtgcikpgcoemfnaaGreatPu32
import Derived.Test.YtgcikpgcoemfnaaGreatPu6
import Derived.Test.YtgcikpgcoemfnaaGreatPu17
import Derived.Test.YtgcikpgcoemfnaaGreatPu29
import Derived.Test.YtgcikpgcoemfnaaGreatPu31
import Derived.Test.YtgcikpgcoemfnaaGreatPu33
set_option linter.unusedVariables false
set_option linter.unusedSimpArgs false
namespace Go.Proofs.YtgcikpgcoemfnaaGreat.Pr
open Go.RowKit Co Pn
/-- The first process, and its descendants, by their Parents. -/
def FullT (ps : List Int) : Sd := SdP ((procF, 1) :: ps.map (fun p => (kid p, 1))) ((ps.length : Int) + 1)
theorem full0_0 : forkT (FullT []) 0 = (FullT [1], 1, 0) := by kernel_rfl
theorem full1_0 (a : Int) : forkT (FullT [a]) 0 = (FullT [a, 1], 2, 0) := by kernel_rfl
theorem full1_1 (a : Int) : forkT (FullT [a]) 1 = (FullT [a, 2], 2, 0) := by kernel_rfl
theorem full2_0 (a b : Int) : forkT (FullT [a, b]) 0 = (FullT [a, b, 1], 3, 0) := by kernel_rfl
theorem full2_1 (a b : Int) : forkT (FullT [a, b]) 1 = (FullT [a, b, 2], 3, 0) := by kernel_rfl
theorem full2_2 (a b : Int) : forkT (FullT [a, b]) 2 = (FullT [a, b, 3], 3, 0) := by kernel_rfl
theorem full3_0 (a b c : Int) : forkT (FullT [a, b, c]) 0 = (FullT [a, b, c, 1], 4, 0) := by kernel_rfl
theorem full3_1 (a b c : Int) : forkT (FullT [a, b, c]) 1 = (FullT [a, b, c, 2], 4, 0) := by kernel_rfl
theorem full3_2 (a b c : Int) : forkT (FullT [a, b, c]) 2 = (FullT [a, b, c, 3], 4, 0) := by kernel_rfl
theorem full3_3 (a b c : Int) : forkT (FullT [a, b, c]) 3 = (FullT [a, b, c, 4], 4, 0) := by kernel_rfl
theorem full4_0 (a b c d : Int) : forkT (FullT [a, b, c, d]) 0 = (FullT [a, b, c, d, 1], 5, 0) := by kernel_rfl
theorem full4_1 (a b c d : Int) : forkT (FullT [a, b, c, d]) 1 = (FullT [a, b, c, d, 2], 5, 0) := by kernel_rfl
theorem full4_2 (a b c d : Int) : forkT (FullT [a, b, c, d]) 2 = (FullT [a, b, c, d, 3], 5, 0) := by kernel_rfl
theorem full4_3 (a b c d : Int) : forkT (FullT [a, b, c, d]) 3 = (FullT [a, b, c, d, 4], 5, 0) := by kernel_rfl
theorem full4_4 (a b c d : Int) : forkT (FullT [a, b, c, d]) 4 = (FullT [a, b, c, d, 5], 5, 0) := by kernel_rfl
theorem full5_0 (a b c d e : Int) : forkT (FullT [a, b, c, d, e]) 0 = (FullT [a, b, c, d, e, 1], 6, 0) := by kernel_rfl
theorem full5_1 (a b c d e : Int) : forkT (FullT [a, b, c, d, e]) 1 = (FullT [a, b, c, d, e, 2], 6, 0) := by kernel_rfl
theorem full5_2 (a b c d e : Int) : forkT (FullT [a, b, c, d, e]) 2 = (FullT [a, b, c, d, e, 3], 6, 0) := by kernel_rfl
theorem full5_3 (a b c d e : Int) : forkT (FullT [a, b, c, d, e]) 3 = (FullT [a, b, c, d, e, 4], 6, 0) := by kernel_rfl
theorem full5_4 (a b c d e : Int) : forkT (FullT [a, b, c, d, e]) 4 = (FullT [a, b, c, d, e, 5], 6, 0) := by kernel_rfl
theorem full5_5 (a b c d e : Int) : forkT (FullT [a, b, c, d, e]) 5 = (FullT [a, b, c, d, e, 6], 6, 0) := by kernel_rfl
theorem full6_0 (a b c d e f : Int) : forkT (FullT [a, b, c, d, e, f]) 0 = (FullT [a, b, c, d, e, f, 1], 7, 0) := by kernel_rfl
theorem full6_1 (a b c d e f : Int) : forkT (FullT [a, b, c, d, e, f]) 1 = (FullT [a, b, c, d, e, f, 2], 7, 0) := by kernel_rfl
theorem full6_2 (a b c d e f : Int) : forkT (FullT [a, b, c, d, e, f]) 2 = (FullT [a, b, c, d, e, f, 3], 7, 0) := by kernel_rfl
theorem full6_3 (a b c d e f : Int) : forkT (FullT [a, b, c, d, e, f]) 3 = (FullT [a, b, c, d, e, f, 4], 7, 0) := by kernel_rfl
theorem full6_4 (a b c d e f : Int) : forkT (FullT [a, b, c, d, e, f]) 4 = (FullT [a, b, c, d, e, f, 5], 7, 0) := by kernel_rfl
theorem full6_5 (a b c d e f : Int) : forkT (FullT [a, b, c, d, e, f]) 5 = (FullT [a, b, c, d, e, f, 6], 7, 0) := by kernel_rfl
theorem full6_6 (a b c d e f : Int) : forkT (FullT [a, b, c, d, e, f]) 6 = (FullT [a, b, c, d, e, f, 7], 7, 0) := by kernel_rfl
theorem full_step (ps : List Int) (h : ps.length < 7) (i : Nat) (hi : i ≤ ps.length) : forkT (FullT ps) (i : Int) = (FullT (ps ++ [(i : Int) + 1]), (ps.length : Int) + 1, 0) := by
 match ps, h with
 | [], _ =>
  rcases (show i = 0 by simp only [List.length_cons, List.length_nil] at hi; omega) with rfl
  ·exact full0_0 
 | [a], _ =>
  rcases (show i = 0 ∨ i = 1 by simp only [List.length_cons, List.length_nil] at hi; omega) with rfl | rfl
  ·exact full1_0 a
  ·exact full1_1 a
 | [a, b], _ =>
  rcases (show i = 0 ∨ i = 1 ∨ i = 2 by simp only [List.length_cons, List.length_nil] at hi; omega) with rfl | rfl | rfl
  ·exact full2_0 a b
  ·exact full2_1 a b
  ·exact full2_2 a b
 | [a, b, c], _ =>
  rcases (show i = 0 ∨ i = 1 ∨ i = 2 ∨ i = 3 by simp only [List.length_cons, List.length_nil] at hi; omega) with rfl | rfl | rfl | rfl
  ·exact full3_0 a b c
  ·exact full3_1 a b c
  ·exact full3_2 a b c
  ·exact full3_3 a b c
 | [a, b, c, d], _ =>
  rcases (show i = 0 ∨ i = 1 ∨ i = 2 ∨ i = 3 ∨ i = 4 by simp only [List.length_cons, List.length_nil] at hi; omega) with rfl | rfl | rfl | rfl | rfl
  ·exact full4_0 a b c d
  ·exact full4_1 a b c d
  ·exact full4_2 a b c d
  ·exact full4_3 a b c d
  ·exact full4_4 a b c d
 | [a, b, c, d, e], _ =>
  rcases (show i = 0 ∨ i = 1 ∨ i = 2 ∨ i = 3 ∨ i = 4 ∨ i = 5 by simp only [List.length_cons, List.length_nil] at hi; omega) with rfl | rfl | rfl | rfl | rfl | rfl
  ·exact full5_0 a b c d e
  ·exact full5_1 a b c d e
  ·exact full5_2 a b c d e
  ·exact full5_3 a b c d e
  ·exact full5_4 a b c d e
  ·exact full5_5 a b c d e
 | [a, b, c, d, e, f], _ =>
  rcases (show i = 0 ∨ i = 1 ∨ i = 2 ∨ i = 3 ∨ i = 4 ∨ i = 5 ∨ i = 6 by simp only [List.length_cons, List.length_nil] at hi; omega) with rfl | rfl | rfl | rfl | rfl | rfl | rfl
  ·exact full6_0 a b c d e f
  ·exact full6_1 a b c d e f
  ·exact full6_2 a b c d e f
  ·exact full6_3 a b c d e f
  ·exact full6_4 a b c d e f
  ·exact full6_5 a b c d e f
  ·exact full6_6 a b c d e f
 | _ :: _ :: _ :: _ :: _ :: _ :: _ :: l, h => exact absurd h (by simp only [List.length_cons]; omega)
end Go.Proofs.YtgcikpgcoemfnaaGreat.Pr
namespace Go.Proofs.YtgcikpgcoemfnaaGreat.Pr
open Go.RowKit Co Pn
def allB : Nat → List (List Bool)
 | 0 => [[]]
 | n + 1 => (allB n).flatMap fun l => [true :: l, false :: l]
theorem mem_allB : ∀ l : List Bool, l ∈ allB l.length
 | [] => by simp [allB]
 | b :: l => by
  show b :: l ∈ (allB l.length).flatMap fun l => [true :: l, false :: l]
  refine List.mem_flatMap.2 ⟨l, mem_allB l, ?_⟩
  cases b <;> simp
def ent (b : Bool) : List Int × Int := if b then (kid 1, 1) else (Cd.noP, 0)
/-- The one that the first child forked. -/
def exE (al : List Bool) (fk : Bool) : List (List Int × Int) := if fk then [if al.headD true then (kid 2, 1) else (kid 0, 1)] else []
def nal (al : List Bool) : Int := ((al.filter id).length : Int)
/-- Commons of a parent whose children still live as told. -/
def FamT (al : List Bool) (fk : Bool) : Sd := SdP ((procF, 1) :: (al.map ent ++ exE al fk)) (1 + nal al + (if fk then 1 else 0))
/-- Child j has closed all, and its children are nobody's. -/
def FamU (al : List Bool) (fk : Bool) (j : Nat) : Sd := SdP ((procF, 1) :: (((al.set j false).map ent).set j (bare (kid 1), 1) ++ exE (al.set j false) fk)) (1 + nal (al.set j false) + (if fk then 1 else 0))
def setpT (T : Sd) (j : Nat) (v : List Int) : Sd := { T with p := T.p.set j (v, 1) }
theorem toT_setP (S : Stt) (j : Nat) (hj : j < 8) (v : List Int) : toT (S.setP (j : Int) v) = setpT (toT S) j v := by
 unfold toT setpT
 have e : mk 8 (fun i => (S.setP (j : Int) v).p i) = (mk 8 (fun i => S.p i)).set j (v, 1) := by
  apply List.ext_getElem?
  intro i
  by_cases hi : i < 8
  ·rw [List.getElem?_set]
   have h1 : (mk 8 (fun i => (S.setP (j : Int) v).p i))[i]? = some ((S.setP (j : Int) v).p (i : Int)) := by
    unfold mk
    rw [List.getElem?_map, List.getElem?_range hi]
    rfl
   have h2 : (mk 8 (fun i => S.p i))[i]? = some (S.p (i : Int)) := by
    unfold mk
    rw [List.getElem?_map, List.getElem?_range hi]
    rfl
   rw [h1]
   by_cases e : j = i
   ·subst e
    rw [if_pos rfl, if_pos (by simpa [mk] using hj)]
    show some (upd S.p (j : Int) (v, 1) (j : Int)) = _
    rw [upd_same]
   ·rw [if_neg e, h2]
    show some (upd S.p (j : Int) (v, 1) (i : Int)) = _
    rw [upd_far (by omega)]
  ·rw [List.getElem?_eq_none (by simp [mk]; omega), List.getElem?_eq_none (by simp [mk]; omega)]
 show (⟨mk 8 (fun i => (S.setP (j : Int) v).p i), _, _, _, _⟩ : Sd) = _
 rw [e]
 rfl
def combos : List (List Bool × Bool × Nat) := (List.range 6).flatMap fun m => (allB (m + 1)).flatMap fun al => [false, true].flatMap fun fk => ((List.range (m + 1)).filter fun j => al.getD j false).map fun j => (al, fk, j)
theorem mem_combos {al : List Bool} {fk : Bool} {j : Nat} (h1 : 1 ≤ al.length) (h6 : al.length ≤ 6) (hj : j < al.length) (ha : al.getD j false = true) : (al, fk, j) ∈ combos := by
 unfold combos
 refine List.mem_flatMap.2 ⟨al.length - 1, List.mem_range.2 (by omega), List.mem_flatMap.2 ⟨al, ?_, List.mem_flatMap.2 ⟨fk, by cases fk <;> simp, List.mem_map.2 ⟨j, List.mem_filter.2 ⟨List.mem_range.2 (by omega), ha⟩, rfl⟩⟩⟩⟩
 rw [show al.length - 1 + 1 = al.length by omega]
 exact mem_allB al
def famOk (a : List Bool × Bool × Nat) : Bool :=
 decide ((stOf (FamT a.1 a.2.1)).p ((a.2.2 : Int) + 1) = (kid 1, 1)) &&
 actB ((orphS (closeAllS (stOf (FamT a.1 a.2.1)) ((a.2.2 : Int) + 1)) ((a.2.2 : Int) + 1)).p 0).1 ((orphS (closeAllS (stOf (FamT a.1 a.2.1)) ((a.2.2 : Int) + 1)) ((a.2.2 : Int) + 1)).p 0).2 &&
 decide (((orphS (closeAllS (stOf (FamT a.1 a.2.1)) ((a.2.2 : Int) + 1)) ((a.2.2 : Int) + 1)).p ((a.2.2 : Int) + 1)).2 ≠ 2) &&
 decide (toT (orphS (closeAllS (stOf (FamT a.1 a.2.1)) ((a.2.2 : Int) + 1)) ((a.2.2 : Int) + 1)) = FamU a.1 a.2.1 (a.2.2))
theorem fam_ok : combos.all famOk = true := by decide +kernel
theorem map_same {α β : Type} {f g : α → β} : ∀ {l : List α}, l.map f = l.map g → ∀ a ∈ l, f a = g a
 | x :: l, h, a, ha => by
  rw [List.map_cons, List.map_cons, List.cons.injEq] at h
  rcases List.mem_cons.1 ha with rfl | ha
  ·exact h.1
  ·exact map_same h.2 a ha
theorem fam_wait (c : Int) : combos.map (fun a => waitT (setpT (FamU a.1 a.2.1 a.2.2) (a.2.2 + 1) (zom 1 c)) 0) = combos.map (fun a => (FamT (a.1.set a.2.2 false) a.2.1, 256 * ((a.2.2 : Int) + 1) + c, 0, false)) := by kernel_rfl
end Go.Proofs.YtgcikpgcoemfnaaGreat.Pr
namespace Go.Proofs.YtgcikpgcoemfnaaGreat.Pr
open Go.RowKit Co Pn
theorem bare_kid (c : Int) : zomb (kid 1) c = zom 1 c := rfl
theorem fam_exit {al : List Bool} {fk : Bool} {j : Nat} (h : (al, fk, j) ∈ combos) (hj : j < 6) (code : Int) : exitT (FamT al fk) ((j : Int) + 1) code = (setpT (FamU al fk j) (j + 1) (zom 1 (code8 code)), 0) := by
 have h1 := List.all_eq_true.1 fam_ok _ h
 unfold famOk at h1
 simp only [Bool.and_eq_true, decide_eq_true_eq] at h1
 obtain ⟨⟨⟨h1, h2⟩, h3⟩, h4⟩ := h1
 obtain ⟨k, hk⟩ := code8_nat code
 have hok := okd_zom k
 rw [← hk] at hok
 have e := exitS_ok (c := code) h1 rfl rfl h2 h3 (by rw [bare_kid]; exact hok)
 unfold exitT
 rw [e]
 dsimp only
 rw [bare_kid, show ((j : Int) + 1) = ((j + 1 : Nat) : Int) by omega, toT_setP _ (j + 1) (by omega)]
 rw [show (((j + 1 : Nat) : Int)) = (j : Int) + 1 by omega, h4]
def famF (c : Int) (a : List Bool × Bool × Nat) : Sd × Int × Int × Bool := waitT (setpT (FamU a.1 a.2.1 a.2.2) (a.2.2 + 1) (zom 1 c)) 0
def famG (c : Int) (a : List Bool × Bool × Nat) : Sd × Int × Int × Bool := (FamT (a.1.set a.2.2 false) a.2.1, 256 * ((a.2.2 : Int) + 1) + c, 0, false)
theorem fam_wait' (c : Int) : combos.map (famF c) = combos.map (famG c) := fam_wait c
theorem fam_wait1 {al : List Bool} {fk : Bool} {j : Nat} (h : (al, fk, j) ∈ combos) (c : Int) : waitT (setpT (FamU al fk j) (j + 1) (zom 1 c)) 0 = (FamT (al.set j false) fk, 256 * ((j : Int) + 1) + c, 0, false) := by
 have e : famF c (al, fk, j) = famG c (al, fk, j) := map_same (fam_wait' c) _ h
 unfold famF famG at e
 exact e
/-- Nobody has ended. -/
def famNo (a : List Bool × Bool) : Bool := decide (waitT (FamT a.1 a.2) 0 = (FamT a.1 a.2, 0, if a.1.any id then 0 else 110, a.1.any id))
theorem fam_no : ((List.range 6).flatMap fun m => (allB (m + 1)).flatMap fun al => [(al, false), (al, true)]).all famNo = true := by decide +kernel
theorem fam_wait2 {al : List Bool} (fk : Bool) (h1 : 1 ≤ al.length) (h6 : al.length ≤ 6) : waitT (FamT al fk) 0 = (FamT al fk, 0, if al.any id then 0 else 110, al.any id) := by
 have h := List.all_eq_true.1 fam_no (al, fk) (List.mem_flatMap.2 ⟨al.length - 1, List.mem_range.2 (by omega), List.mem_flatMap.2 ⟨al, by
  rw [show al.length - 1 + 1 = al.length by omega]; exact mem_allB al, by cases fk <;> simp⟩⟩)
 exact of_decide_eq_true h
theorem in6 {n : Nat} (h1 : 1 ≤ n) (h6 : n ≤ 6) : n = 1 ∨ n = 2 ∨ n = 3 ∨ n = 4 ∨ n = 5 ∨ n = 6 := by omega
theorem fam_full {n : Nat} (h1 : 1 ≤ n) (h6 : n ≤ 6) : FullT (List.replicate n 1) = FamT (List.replicate n true) false ∧ FullT (List.replicate n 1 ++ [2]) = FamT (List.replicate n true) true := by
 rcases in6 h1 h6 with rfl | rfl | rfl | rfl | rfl | rfl <;> decide +kernel
theorem fam_end {n : Nat} (h1 : 1 ≤ n) (h6 : n ≤ 6) : FamT (List.replicate n false) false = T0 ∧ selfR ((stOf (FamT (List.replicate n false) true)).p ((n : Int) + 1)).1 ((stOf (FamT (List.replicate n false) true)).p ((n : Int) + 1)).2 = (kid 0, 0) ∧ exitT (FamT (List.replicate n false) true) ((n : Int) + 1) 0 = (T0, 0) := by
 rcases in6 h1 h6 with rfl | rfl | rfl | rfl | rfl | rfl <;> decide +kernel
theorem full0 : FullT [] = T0 := by decide +kernel
theorem T0_free {k : Nat} (h1 : 1 ≤ k) (h7 : k < 8) : (stOf T0).p (k : Int) = (Cd.noP, 0) := by
 rcases (show k = 1 ∨ k = 2 ∨ k = 3 ∨ k = 4 ∨ k = 5 ∨ k = 6 ∨ k = 7 by omega) with rfl | rfl | rfl | rfl | rfl | rfl | rfl <;> rfl
/-- Who lives, by the row of their slots. -/
def alO (n : Nat) (L : List Int) : List Bool := mk n fun j => decide (((j : Int) + 1) ∈ L)
theorem alO_len (n : Nat) (L : List Int) : (alO n L).length = n := by simp [alO, mk]
theorem alO_get {n : Nat} (L : List Int) {j : Nat} (h : j < n) : (alO n L)[j]? = some (decide (((j : Int) + 1) ∈ L)) := by
 unfold alO mk
 rw [List.getElem?_map, List.getElem?_range h]
 rfl
def runL (n : Nat) : List Int := mk n fun j => (j : Int) + 1
theorem alO_full (n : Nat) : alO n (runL n) = List.replicate n true := by
 refine List.eq_replicate_iff.2 ⟨alO_len _ _, fun b hb => ?_⟩
 unfold alO mk at hb
 obtain ⟨j, hj, rfl⟩ := List.mem_map.1 hb
 refine decide_eq_true ?_
 unfold runL mk
 exact List.mem_map.2 ⟨j, hj, rfl⟩
theorem alO_nil (n : Nat) : alO n [] = List.replicate n false := by
 refine List.eq_replicate_iff.2 ⟨alO_len _ _, fun b hb => ?_⟩
 unfold alO mk at hb
 obtain ⟨j, hj, rfl⟩ := List.mem_map.1 hb
 exact decide_eq_false (by simp)
theorem alO_any {n : Nat} {L : List Int} (h : ∀ x ∈ L, 1 ≤ x ∧ x ≤ n) : (alO n L).any id = decide (0 < L.length) := by
 cases L with
 | nil =>
  rw [alO_nil, decide_eq_false (by simp)]
  simp
 | cons x l =>
  rw [decide_eq_true (by simp), List.any_eq_true]
  have hx := h x (by simp)
  refine ⟨true, ?_, rfl⟩
  unfold alO mk
  refine List.mem_map.2 ⟨(x - 1).toNat, List.mem_range.2 (by omega), decide_eq_true ?_⟩
  rw [show (((x - 1).toNat : Int)) + 1 = x by omega]
  simp
theorem alO_set {n : Nat} {L : List Int} (hn : L.Nodup) {k j : Nat} (hk : L[k]? = some ((j : Int) + 1)) : (alO n L).set j false = alO n (L.take k ++ L.drop (k + 1)) := by
 have hL : L = L.take k ++ ((j : Int) + 1) :: L.drop (k + 1) := by
  obtain ⟨h1, h2⟩ := List.getElem?_eq_some_iff.1 hk
  rw [← h2, List.getElem_cons_drop, List.take_append_drop]
 have hd : ∀ x : Int, x ∈ L ↔ x ∈ L.take k ++ L.drop (k + 1) ∨ x = (j : Int) + 1 := fun x => by
  conv => lhs; rw [hL]
  simp only [List.mem_append, List.mem_cons]
  constructor
  ·rintro (h | h | h)
   ·exact .inl (.inl h)
   ·exact .inr h
   ·exact .inl (.inr h)
  ·rintro ((h | h) | h)
   ·exact .inl h
   ·exact .inr (.inr h)
   ·exact .inr (.inl h)
 have hno : ((j : Int) + 1) ∉ L.take k ++ L.drop (k + 1) := fun hm => by
  rw [hL] at hn
  have h3 := List.nodup_append.1 hn
  have h4 := List.nodup_cons.1 h3.2.1
  rcases List.mem_append.1 hm with hm | hm
  ·exact h3.2.2 _ hm _ (by simp) rfl
  ·exact h4.1 hm
 apply List.ext_getElem?
 intro i
 by_cases hi : i < n
 ·rw [List.getElem?_set, alO_get L hi, alO_get _ hi]
  by_cases e : j = i
  ·subst e
   rw [if_pos rfl, if_pos (by rw [alO_len]; exact hi), decide_eq_false hno]
  ·rw [if_neg e]
   congr 1
   rw [decide_eq_decide, hd]
   constructor
   ·rintro (h | h)
    ·exact h
    ·omega
   ·exact .inl
 ·rw [List.getElem?_eq_none (by rw [List.length_set, alO_len]; omega), List.getElem?_eq_none (by rw [alO_len]; omega)]
theorem runL_snoc (n : Nat) : runL (n + 1) = runL n ++ [(n : Int) + 1] := by unfold runL; rw [← mk_succ]
theorem runL_len (n : Nat) : (runL n).length = n := by simp [runL, mk]
/-- The row of those who live: their slots, each once. -/
structure Lv (n : Nat) (L : List Int) : Prop where
 nd : L.Nodup
 inn : ∀ x ∈ L, 1 ≤ x ∧ x ≤ n
theorem Lv.run (n : Nat) : Lv n (runL n) := by
 refine ⟨?_, fun x hx => ?_⟩
 ·unfold runL Go.Proofs.YtgcikpgcoemfnaaGreat.mk
  exact List.Pairwise.map _ (fun a b h e => h (by omega)) (List.nodup_range (n := n))
 ·unfold runL Go.Proofs.YtgcikpgcoemfnaaGreat.mk at hx
  obtain ⟨j, hj, rfl⟩ := List.mem_map.1 hx
  have := List.mem_range.1 hj
  omega
theorem Lv.erase {n : Nat} {L : List Int} (h : Lv n L) (k : Nat) : Lv n (L.take k ++ L.drop (k + 1)) := by
 have hs : (L.take k ++ L.drop (k + 1)).Sublist L := by
  conv => rhs; rw [← List.take_append_drop k L]
  refine List.Sublist.append (List.Sublist.refl _) ?_
  rw [← List.drop_drop]
  exact List.drop_sublist _ _
 exact ⟨h.nd.sublist hs, fun x hx => h.inn x (hs.subset hx)⟩
end Go.Proofs.YtgcikpgcoemfnaaGreat.Pr
