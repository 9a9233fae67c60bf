import Derived.Test.YtgcikpgcoemfnaaGreatRows
import Derived.Shelf.SlSortCmp.WholeK
import Derived.Deep.RegionHeld3
import Derived.StillTailTactics
import Derived.Test.YtgcikpgcoemfnaaGreatPs0
set_option linter.unusedVariables false
set_option linter.unusedSimpArgs false
namespace Go.Proofs.YtgcikpgcoemfnaaGreat
open Go.RowKit Go.Shelf Go.Lib Go.Sort
def cmpI (a b : Int) : Int := if a < b then -1 else if b < a then 1 else 0
def cmpR (x y : Rf) : Int := if cmpI x.1 y.1 = 0 then cmpI x.2 y.2 else cmpI x.1 y.1
def ltR (x y : Rf) : Prop := x.1 < y.1 ∨ (x.1 = y.1 ∧ x.2 < y.2)
theorem gU (x y : Rf) : ltOf cmpR x y = true ↔ ltR x y := by
 unfold ltOf cmpR cmpI ltR
 simp only [decide_eq_true_eq]
 split <;> (repeat' split at *) <;> omega
theorem swoR : SWO (ltOf cmpR) where
 irrefl x := by
  have h := gU x x
  cases e : ltOf cmpR x x with
  | false => rfl
  | true => have := h.1 e; unfold ltR at this; omega
 trans x y z h1 h2 := by
  rw [gU] at *
  unfold ltR at *
  omega
 ntrans x y z h1 h2 := by
  have f : ∀ a b, ltOf cmpR a b = false ↔ ¬ ltR a b := fun a b => by rw [← gU]; simp
  rw [f] at *
  unfold ltR at *
  omega
theorem mixed : Tryz.prog.follows .mixedOrders = true := by kernel_rfl
theorem jB (x : Int) (w : World) : Calls Tryz.prog 235 #[.int .i64 x] w fun e w' => e = .returned (.bool false) ∧ w = w' := by
 go_enter Tryz.func235, Tryz.ntmps235
 go_wp2
 go_ret
 exact ⟨rfl, rfl⟩
theorem cmp_is (x y : Int) (w : World) : Calls Tryz.prog 134 #[.int .i64 x, .int .i64 y] w fun e w' => e = .returned (.int .i64 (cmpI x y)) ∧ w = w' := by
 rcases Int.lt_trichotomy x y with h | h | h
 ·have hr : cmpI x y = -1 := by unfold cmpI; rw [if_pos h]
  rw [hr]
  go_enter Tryz.func134, Tryz.ntmps134
  go_wp2_with fail
  refine (jB _ _).mono ?_; rintro e w' ⟨rfl, rfl⟩
  go_wp2_with fail
  refine (jB _ _).mono ?_; rintro e w' ⟨rfl, rfl⟩
  go_wp2
  go_ret
  exact ⟨rfl, rfl⟩
 ·subst h
  have hr : cmpI x x = 0 := by unfold cmpI; simp
  rw [hr]
  go_enter Tryz.func134, Tryz.ntmps134
  go_wp2_with fail
  refine (jB _ _).mono ?_; rintro e w' ⟨rfl, rfl⟩
  go_wp2_with fail
  refine (jB _ _).mono ?_; rintro e w' ⟨rfl, rfl⟩
  go_wp2
  go_ret
  exact ⟨rfl, rfl⟩
 ·have hr : cmpI x y = 1 := by unfold cmpI; rw [if_neg (by omega), if_pos h]
  rw [hr]
  go_enter Tryz.func134, Tryz.ntmps134
  go_wp2_with fail
  refine (jB _ _).mono ?_; rintro e w' ⟨rfl, rfl⟩
  go_wp2_with fail
  refine (jB _ _).mono ?_; rintro e w' ⟨rfl, rfl⟩
  go_wp2
  go_ret
  exact ⟨rfl, rfl⟩
theorem or_is (g : Nat) (x y : Int) (w : World) (h0 : w.cell? ⟨g, 0, none⟩ = some (.int .i64 x)) (h1 : w.cell? ⟨g, 1, none⟩ = some (.int .i64 y)) :
  Calls Tryz.prog 133 #[.slice (some ⟨g, 0, none⟩) 2 2] w fun e w' => e = .returned (.int .i64 (if x = 0 then y else x)) ∧ w = w' := by
 by_cases hx : x = 0
 ·rw [if_pos hx]
  by_cases hy : y = 0
  ·go_enter Tryz.func133, Tryz.ntmps133
   go_wp2
   go_loop [8] (fun s => ∃ k : Nat, k ≤ 2 ∧ s = .int .i64 k) (fun s => 2 - (intOf s).toNat)
   case atStart => exact ⟨0, by omega, rfl⟩
   case round =>
    obtain ⟨k, hk, rfl⟩ := hrel
    rcases (show k = 0 ∨ k = 1 ∨ k = 2 by omega) with rfl | rfl | rfl
    ·go_wp2
     go_round
     case rel => exact ⟨1, by omega, rfl⟩
     case measure => simp [intOf]
    ·go_wp2
     go_round
     case rel => exact ⟨2, by omega, rfl⟩
     case measure => simp [intOf]
    ·go_wp2
     go_ret
     exact ⟨rfl, rfl⟩
  ·go_enter Tryz.func133, Tryz.ntmps133
   go_wp2
   go_loop [8] (fun s => ∃ k : Nat, k ≤ 1 ∧ s = .int .i64 k) (fun s => 2 - (intOf s).toNat)
   case atStart => exact ⟨0, by omega, rfl⟩
   case round =>
    obtain ⟨k, hk, rfl⟩ := hrel
    rcases (show k = 0 ∨ k = 1 by omega) with rfl | rfl
    ·go_wp2
     go_round
     case rel => exact ⟨1, by omega, rfl⟩
     case measure => simp [intOf]
    ·go_wp2
     go_ret
     exact ⟨rfl, rfl⟩
 ·rw [if_neg hx]
  go_enter Tryz.func133, Tryz.ntmps133
  go_wp2
  go_loop [8] (fun s => s = .int .i64 0) (fun s => 2 - (intOf s).toNat)
  case atStart => rfl
  case round =>
   obtain rfl := hrel
   go_wp2
   go_ret
   exact ⟨rfl, rfl⟩
theorem ko (l : List Rf) : (flatK bP 2 l.toArray).toList = cU l := by
 apply List.ext_getElem?
 intro t
 by_cases h : t < l.length * 2
 ·have hj : t / 2 < l.length := by omega
  have hx : l[t / 2]? = some l[t / 2] := List.getElem?_eq_getElem hj
  have e := fK hx (j := t % 2) (by omega)
  rw [show t / 2 * 2 + t % 2 = t from by omega] at e
  rw [e]
  have h2 : t < (l.toArray).size * 2 := by simpa using h
  have e2 := get_flatK bP 2 l.toArray t h2
  have h3 : t < (flatK bP 2 l.toArray).size := by simpa using h
  rw [getElem!_pos (flatK bP 2 l.toArray) t h3] at e2
  rw [Array.getElem?_toList, Array.getElem?_eq_getElem h3, e2]
  have e3 : (l.toArray)[t / 2]! = l[t / 2] := by rw [getElem!_pos _ _ (by simpa using hj)]; simp
  rw [e3]
  have hl : t % 2 < (bP l[t / 2]).length := by show t % 2 < 2; omega
  rw [getElem!_pos (bP l[t / 2]) (t % 2) hl, List.getElem?_eq_getElem hl]
 ·rw [List.getElem?_eq_none (by simp; omega), List.getElem?_eq_none (by rw [eZ]; omega)]
theorem putRow_blk {w : World} {g : Nat} {t : TypeId} {cur : List Value} (h : Blk w g t cur) (F : Array Value) (hF : F.size ≤ cur.length) (m : Nat) (os : Array Obj) :
  Blk (grow (putRow id (Sort.ahead w m) g 0 F) os) g t (F.toList ++ cur.drop F.size) ∧ Keep (· = g) w (grow (putRow id (Sort.ahead w m) g 0 F) os) := by
 have hlt := h.lt
 have hh : (putRow id (Sort.ahead w m) g 0 F).heap[g]? = some (.cells (putCells id 0 F cur.toArray) t (0, 0)) := by
  show (w.heap.modify g (onCells _))[g]? = _
  rw [Array.getElem?_modify, if_pos rfl]
  unfold Blk at h
  rw [h]
  rfl
 have hsz : (putRow id (Sort.ahead w m) g 0 F).heap.size = w.heap.size := by
  show (w.heap.modify g (onCells _)).size = _
  simp
 have hc : putCells id 0 F cur.toArray = (F.toList ++ cur.drop F.size).toArray := by
  apply Array.ext
  ·simp [putCells]; omega
  ·intro i h1 h2
   simp only [putCells, Array.getElem_mapIdx, Nat.zero_le, true_and, Nat.zero_add, Nat.sub_zero, List.getElem_toArray, id]
   by_cases hi : i < F.size
   ·rw [if_pos hi, List.getElem_append_left (by simpa using hi), getElem!_pos F i hi]
    simp
   ·rw [if_neg hi, List.getElem_append_right (by simpa using hi)]
    simp only [List.getElem_drop, Array.length_toList]
    congr 1
    omega
 refine ⟨?_, ⟨rfl, rfl, rfl, ?_, fun k hk hne => ?_⟩⟩
 ·show (_ ++ os)[g]? = _
  rw [Array.getElem?_append_left (by rw [hsz]; exact hlt), hh, hc]
 ·show w.heap.size ≤ (_ ++ os).size
  rw [Array.size_append, hsz]
  omega
 ·show (_ ++ os)[k]? = _
  rw [Array.getElem?_append_left (by rw [hsz]; exact hk)]
  show (w.heap.modify g (onCells _))[k]? = _
  rw [Array.getElem?_modify, if_neg (Ne.symm hne)]
end Go.Proofs.YtgcikpgcoemfnaaGreat
