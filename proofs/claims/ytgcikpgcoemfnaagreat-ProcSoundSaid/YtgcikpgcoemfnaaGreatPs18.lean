import Derived.Deep.DeepCutAuto
import Derived.Deep.CutBlock
import Derived.Test.YtgcikpgcoemfnaaGreatPs16
set_option maxRecDepth 100000
set_option maxHeartbeats 8000000
set_option linter.unusedVariables false
set_option linter.unusedSimpArgs false
namespace Go.Proofs.YtgcikpgcoemfnaaGreat.Qu
open Go.RowKit
theorem infobool : (Tryz.prog.info? 4).map (fun i => (i.zero, i.size, i.bytes)) = some (some (.bool false), 1, 1) := by kernel_rfl
theorem infosess : (Tryz.prog.info? 275).map (fun i => (i.zero, i.size, i.bytes)) = some (some (.agg #[.int .i64 0, .slice none 0 0]), 2, 32) := by kernel_rfl
section
variable {w : World} {p : Nat} {A : Option Addr} {cap : Nat} {g : Nat → Nat} {ns : List Nat} {b : Nat → List Bool}
theorem dW (h : Quo w p A cap g ns b) (s : Int) (v : Bool) (hv : decide (0 ≤ s ∧ s < ns.length) = v) :
  Calls Tryz.prog 180 #[.pointer (some ⟨p, 0, none⟩), .int .i64 s] w fun e w' => e = .returned (.bool v) ∧ w = w' := by
 have hc := h.head
 have hl := h.few
 subst hv
 by_cases h0 : 0 ≤ s
 ·by_cases h1 : s < ns.length
  ·go_enter Tryz.func180, Tryz.ntmps180
   go_wp2
   go_ret
   exact ⟨by simp [h0, h1], rfl⟩
  ·go_enter Tryz.func180, Tryz.ntmps180
   go_wp2
   go_ret
   exact ⟨by simp [h1], rfl⟩
 ·go_enter Tryz.func180, Tryz.ntmps180
  go_wp2
  go_ret
  exact ⟨by simp; omega, rfl⟩
theorem lC {l : List Bool} {k : Nat} (h : k < l.idxOf false) : l.getD k false = true := by
 induction l generalizing k with
 | nil => simp at h
 | cons x l ih =>
  cases x with
  | false => simp at h
  | true =>
   cases k with
   | zero => rfl
   | succ k =>
    rw [List.idxOf_cons] at h
    simp at h
    simpa using ih (k := k) (by omega)
theorem idx_at {l : List Bool} (h : l.idxOf false < l.length) : l.getD (l.idxOf false) false = false := by
 rw [List.getD_eq_getElem?_getD, List.getElem?_eq_getElem h]
 simp
theorem idx_le (l : List Bool) : l.idxOf false ≤ l.length := List.idxOf_le_length
theorem index_yes {q k n : Nat} {l : List Bool} (hb : Blk w q 4 (dc l)) (hn : l.length = n) (hn64 : n ≤ 64) (hk : l.idxOf false = k) (hlt : k < n) :
  Calls Tryz.prog 181 #[.slice (some ⟨q, 0, none⟩) n n, .bool false] w fun e w' => e = .returned (.int .i64 k) ∧ w = w' := by
 have hbef : ∀ j, j < k → w.cell? ⟨q, j, none⟩ = some (.bool true) := fun j hj => by rw [hb.cell, gK (by omega), lC (by omega)]
 have hat : w.cell? ⟨q, k, none⟩ = some (.bool false) := by rw [hb.cell, gK (by omega), ← hk, idx_at (by omega)]
 clear hk hn hb
 go_enter Tryz.func181, Tryz.ntmps181
 go_wp2
 go_loop [8] (fun s => ∃ j : Nat, j ≤ k ∧ s = .int .i64 j) (fun s => k - (intOf s).toNat)
 case atStart => exact ⟨0, Nat.zero_le _, rfl⟩
 case round =>
  obtain ⟨j, hj, rfl⟩ := hrel
  by_cases h : j < k
  ·have hc := hbef j h
   have hj2 : j < n := by omega
   go_wp2
   go_round
   case rel => exact ⟨j + 1, by omega, by go_num⟩
   case measure => simp [intOf]; omega
  ·obtain rfl : j = k := by omega
   go_wp2
   go_ret
   exact ⟨rfl, rfl⟩
theorem index_no {q n : Nat} {l : List Bool} (hb : Blk w q 4 (dc l)) (hn : l.length = n) (hn64 : n ≤ 64) (hk : l.idxOf false = n) :
  Calls Tryz.prog 181 #[.slice (some ⟨q, 0, none⟩) n n, .bool false] w fun e w' => e = .returned (.int .i64 (-1)) ∧ w = w' := by
 have hbef : ∀ j, j < n → w.cell? ⟨q, j, none⟩ = some (.bool true) := fun j hj => by rw [hb.cell, gK (by omega), lC (by omega)]
 clear hk hn hb
 go_enter Tryz.func181, Tryz.ntmps181
 go_wp2
 go_loop [8] (fun s => ∃ j : Nat, j ≤ n ∧ s = .int .i64 j) (fun s => n - (intOf s).toNat)
 case atStart => exact ⟨0, Nat.zero_le _, rfl⟩
 case round =>
  obtain ⟨j, hj, rfl⟩ := hrel
  by_cases h : j < n
  ·have hc := hbef j h
   go_wp2
   go_round
   case rel => exact ⟨j + 1, by omega, by go_num⟩
   case measure => simp [intOf]; omega
  ·obtain rfl : j = n := by omega
   go_wp2
   go_ret
   exact ⟨rfl, rfl⟩
theorem alloc_is (h : Quo w p A cap g ns b) (s v er : Int) (b' : Nat → List Bool) (hal : al ns.length b s = (v, er, b')) :
  Calls Tryz.prog 86 #[.pointer (some ⟨p, 0, none⟩), .int .i64 s] w fun e w' => e = .returned (.tuple #[.int .i64 v, .int .i64 er]) ∧ Quo w' p A cap g ns b' ∧ Keep (Rw ns.length g) w w' := by
 have hc := h.head
 have hl := h.few
 unfold al at hal
 by_cases hs : 0 ≤ s ∧ s < ns.length
 ·rw [if_pos hs] at hal
  obtain ⟨hs0, hs1⟩ := hs
  obtain ⟨i, rfl⟩ := Int.eq_ofNat_of_zero_le hs0
  rw [Int.toNat_natCast] at hal
  have hi : i < ns.length := by omega
  obtain ⟨r, rfl, hc0, hc1⟩ := h.at_ hi
  have hsz := h.size hi
  have htab := h.tab i hi
  have hle := idx_le (b i)
  by_cases hk : (b i).idxOf false < (b i).length
  ·rw [if_pos hk] at hal
   cases hal
   have hx := index_yes htab rfl hsz rfl hk
   have hW := h.wr (by decide) (by decide) hi ((b i).idxOf false) true
   have hcell := h.cell hi hk
   have hfr := htab.frozen ((b i).idxOf false)
   have HW := aa hW
   clear hW htab hle hc0
   generalize (b i).idxOf false = k at *
   generalize hlen : (b i).length = n at *
   clear hlen
   go_enter Tryz.func86, Tryz.ntmps86
   go_wp2_with fail
   refine (dW h i true (by simp; omega)).mono ?_; rintro e w' ⟨rfl, rfl⟩
   go_wp2_with fail
   refine hx.mono ?_; rintro e w' ⟨rfl, rfl⟩
   go_wp2
   go_ret2
   exact ⟨rfl, HW.out.1, HW.out.2⟩
  ·rw [if_neg hk] at hal
   cases hal
   have hx := index_no htab rfl hsz (by omega)
   clear htab hle hc0 hk
   generalize hlen : (b i).length = n at *
   clear hlen
   go_enter Tryz.func86, Tryz.ntmps86
   go_wp2_with fail
   refine (dW h i true (by simp; omega)).mono ?_; rintro e w' ⟨rfl, rfl⟩
   go_wp2_with fail
   refine hx.mono ?_; rintro e w' ⟨rfl, rfl⟩
   go_wp2
   go_ret2
   exact ⟨rfl, h, Keep.refl _ _⟩
 ·rw [if_neg hs] at hal
  cases hal
  go_enter Tryz.func86, Tryz.ntmps86
  go_wp2_with fail
  refine (dW h s false (by simpa using hs)).mono ?_; rintro e w' ⟨rfl, rfl⟩
  go_wp2
  go_ret2
  exact ⟨rfl, h, Keep.refl _ _⟩
theorem lH (l : List Bool) (k : Nat) : (l.take k).count true ≤ k := by
 have := List.count_le_length (a := true) (l := l.take k)
 rw [List.length_take] at this
 omega
theorem count_next {l : List Bool} {k : Nat} (h : k < l.length) : (l.take (k + 1)).count true = (l.take k).count true + (if l.getD k false then 1 else 0) := by
 rw [List.take_succ_eq_append_getElem h, List.count_append, List.getD_eq_getElem?_getD, List.getElem?_eq_getElem h]
 cases l[k] <;> simp
theorem used_is (h : Quo w p A cap g ns b) (s v : Int) (hv : used ns.length b s = v) :
  Calls Tryz.prog 255 #[.pointer (some ⟨p, 0, none⟩), .int .i64 s] w fun e w' => e = .returned (.int .i64 v) ∧ w = w' := by
 have hc := h.head
 have hl := h.few
 have HV := aa hv
 unfold used at hv
 by_cases hs : 0 ≤ s ∧ s < ns.length
 ·rw [if_pos hs] at hv
  obtain ⟨hs0, hs1⟩ := hs
  obtain ⟨i, rfl⟩ := Int.eq_ofNat_of_zero_le hs0
  rw [Int.toNat_natCast] at hv
  have hi : i < ns.length := by omega
  obtain ⟨r, rfl, hc0, hc1⟩ := h.at_ hi
  have hsz := h.size hi
  have hcell := aa (show ∀ k, k < (b i).length → w.cell? ⟨g i, k, none⟩ = some (.bool ((b i).getD k false)) from fun k hk => h.cell hi hk)
  generalize b i = l at *
  have Hv := aa hv
  clear hv hc0
  go_enter Tryz.func255, Tryz.ntmps255
  go_wp2_with fail
  refine (dW h i true (by simp; omega)).mono ?_; rintro e w' ⟨rfl, rfl⟩
  go_wp2
  go_loop [5, 21] (fun s t => ∃ k : Nat, k ≤ l.length ∧ t = .int .i64 k ∧ s = .int .i64 ((l.take k).count true : Nat)) (fun _ t => l.length - (intOf t).toNat)
  case atStart => exact ⟨0, Nat.zero_le _, rfl, rfl⟩
  case round =>
   obtain ⟨k, hk, rfl, rfl⟩ := hrel
   by_cases hlt : k < l.length
   ·have hck := hcell.out k hlt
    have hcn := count_next hlt
    have hcl := lH l k
    cases hb : l.getD k false with
    | false =>
     rw [hb] at hck hcn
     generalize (l.take k).count true = m at *
     go_wp2
     go_round
     case rel => exact ⟨k + 1, by omega, by go_num, by rw [hcn]; rfl⟩
     case measure => simp [intOf]; omega
    | true =>
     rw [hb] at hck hcn
     generalize (l.take k).count true = m at *
     go_wp2
     go_round
     case rel => exact ⟨k + 1, by omega, by go_num, by rw [hcn]; go_num⟩
     case measure => simp [intOf]; omega
   ·obtain rfl : k = l.length := by omega
    have e : (l.take l.length).count true = l.count true := by rw [List.take_of_length_le (Nat.le_refl _)]
    rw [e]
    go_wp2
    go_ret
    exact ⟨by rw [← Hv.out]; rfl, rfl⟩
 ·rw [if_neg hs] at hv
  subst hv
  go_enter Tryz.func255, Tryz.ntmps255
  go_wp2_with fail
  refine (dW h s false (by simpa using hs)).mono ?_; rintro e w' ⟨rfl, rfl⟩
  go_wp2
  go_ret
  exact ⟨rfl, rfl⟩
end
section
variable {w : World}
def NewQ (ns : List Nat) (w : World) (e : Ending) (w' : World) : Prop := ∃ p A cap g, e = .returned (.pointer (some ⟨p, 0, none⟩)) ∧ Quo w' p A cap g ns (fun i => List.replicate (ns.getD i 0) false) ∧ (∀ i, i < ns.length → w.heap.size ≤ g i) ∧ Keep Nob w w'
structure fc (w wx : World) (p : Nat) (ms : List Nat) (A : Option Addr) (cap : Nat) (g : Nat → Nat) (b : Nat → List Bool) : Prop where
 q : Quo wx p A cap g ms b
 new : ∀ i, i < ms.length → b i = List.replicate (ms.getD i 0) false
 lo : ∀ i, i < ms.length → w.heap.size ≤ g i
 loA : ∀ x, Own A x → w.heap.size ≤ x
 lop : w.heap.size ≤ p
 keep : Keep Nob w wx
theorem IsQ.congr {tQ tE : TypeId} {W : Nat} {rows : (Nat → Nat) → List Nat → List (List Value)} {w : World} {p : Nat} {A : Option Addr} {cap : Nat} {g : Nat → Nat} {ns : List Nat} {b b' : Nat → List Bool} (h : IsQ tQ tE W rows w p A cap g ns b) (e : ∀ i, i < ns.length → b i = b' i) : IsQ tQ tE W rows w p A cap g ns b' :=
 ⟨h.obj, h.row, fun i hi => by rw [← e i hi]; exact h.tab i hi, fun i hi => by rw [← e i hi]; exact h.len i hi, h.few, h.small, h.inj⟩
theorem fc.start (w : World) : fc w (w.alloc (.cells #[.slice none 0 0] 278)) w.heap.size [] none 0 (fun _ => 0) (fun _ => []) :=
  ⟨⟨Blk.new w 278 [.slice none 0 0], Vec.nil _ _ _, fun i hi => absurd hi (by simp), fun i hi => absurd hi (by simp), by simp, fun n hn => absurd hn (by simp), fun i j hi => absurd hi (by simp)⟩,
   fun i hi => absurd hi (by simp), fun i hi => absurd hi (by simp), fun x ⟨a, ha, _⟩ => (by cases ha), Nat.le_refl _, (Keep.refl Nob w).alloc _⟩
theorem fc.next {wx w1 w2 : World} {p : Nat} {ms : List Nat} {A A2 : Option Addr} {cap cap2 : Nat} {g : Nat → Nat} {b : Nat → List Bool} (h : fc w wx p ms A cap g b) (hf : ms.length < 4) (n x : Nat) (hn : n ≤ 64)
  (k1 : Keep Nob wx w1) (hx : Blk w1 x 4 (dc (List.replicate n false))) (hxw : wx.heap.size ≤ x) (hv : Vec w2 275 2 A2 (ms.length + 1) cap2 ((gz g ms).flatten ++ [.int .i64 (first ms ms.length), .slice (some ⟨x, 0, none⟩) n n])) (k2 : Keep (Own A) w1 w2) (ho : ∀ y, Own A2 y → Own A y ∨ y = w1.heap.size) :
  fc w (w2.setCell ⟨p, 0, none⟩ (.slice A2 (ms.length + 1) cap2)) p (ms ++ [n]) A2 cap2 (gup g ms.length x) (up b ms.length (List.replicate n false)) := by
 have hs := h.keep.size
 have hs1 := k1.size
 refine ⟨h.q.snoc (by decide) (by decide) (by decide) hf n x hn _ (rowsR_snoc g ms n x) k1 hx hxw hv k2, fun i hi => ?_, fun i hi => ?_, fun y hy => ?_, h.lop, ?_⟩
 ·rw [List.length_append, List.length_singleton] at hi
  unfold up
  by_cases e : i = ms.length
  ·rw [if_pos e, e, eG]
  ·rw [if_neg e, fQ _ _ _ (by omega)]
   exact h.new i (by omega)
 ·rw [List.length_append, List.length_singleton] at hi
  unfold gup
  by_cases e : i = ms.length
  ·rw [if_pos e]; omega
  ·rw [if_neg e]; exact h.lo i (by omega)
 ·rcases ho y hy with h1 | h1
  ·exact h.loA y h1
  ·omega
 ·exact ((h.keep.nobt k1).trans k2 (fun y hy m => by have := h.loA y m; omega)).setCell _ _ (fun hl => by have := h.lop; dsimp only at hl; omega)
theorem clip (x : Int) : ∃ n : Nat, (min (max x 0) 64).toNat = n ∧ n ≤ 64 ∧ ((x < 0 ∧ n = 0) ∨ (64 < x ∧ n = 64) ∨ (0 ≤ x ∧ x ≤ 64 ∧ x = n)) := ⟨_, rfl, by omega, by omega⟩
theorem new_is {A0 : Option Addr} {n0 c0 : Nat} {xs : List Int} (hx : ae w A0 n0 (ab xs)) (h0 : n0 ≤ c0) (ns : List Nat) (hns : dI xs = ns) : Calls Tryz.prog 155 #[.slice A0 n0 c0] w (NewQ ns w) := by
 have hlx : xs.length = n0 := by have := hx.1; rwa [dd] at this
 obtain ⟨m, hm⟩ : ∃ m : Nat, min 4 n0 = m := ⟨_, rfl⟩
 have hm4 : m ≤ 4 := by omega
 have hmn : m ≤ n0 := by omega
 have hnl : (dI xs).length = m := by rw [fO]; omega
 have P0 := fc.start w
 have HN := aa hns
 have HX := aa hx
 have HL := aa hlx
 have HNL := aa hnl
 have HM := aa hm
 clear hns hx hlx hnl hm
 go_enter Tryz.func155, Tryz.ntmps155
 go_upto_region 3 with fail
 go_cut [13, 14, 15] (fun s13 s14 s15 wx => s13 = .slice A0 m c0 ∧ s14 = .int .i64 m ∧ s15 = .int .i64 0 ∧ wx = w.alloc (.cells #[.slice none 0 0] 278))
 case first =>
  by_cases h4 : (4 : Int) < n0
  ·have hm := HM.out
   obtain rfl : m = 4 := by omega
   clear hm
   go_wp2_with fail
   go_meet
   exact ⟨rfl, rfl, rfl, rfl⟩
  ·have hm := HM.out
   obtain rfl : m = n0 := by omega
   clear hm
   go_wp2_with fail
   go_meet
   exact ⟨rfl, rfl, rfl, rfl⟩
 case rest =>
 obtain ⟨rfl, rfl, rfl, hw⟩ := hcut
 subst hw
 go_wp2_with fail
 go_loopw [4, 15] (fun s4 s15 wx => ∃ (k : Nat) (ms : List Nat) (A : Option Addr) (cap : Nat) (g : Nat → Nat) (b : Nat → List Bool), k ≤ m ∧ ms.length = k ∧ ms = (dI xs).take k ∧ s4 = .int .i64 (first ms k : Nat) ∧ s15 = .int .i64 k ∧ fc w wx w.heap.size ms A cap g b) (fun _ t _ => m - (intOf t).toNat)
 case atStart => exact ⟨0, [], none, 0, _, _, Nat.zero_le _, rfl, rfl, rfl, rfl, P0⟩
 case round =>
  obtain ⟨k, ms, A, cap, g, b, hk, hml, hms, rfl, rfl, hP⟩ := hrel
  have HML := aa hml
  have HMS := aa hms
  clear hml hms P0
  by_cases hlt : k < m
  ·obtain ⟨bb, off, rfl, hcx⟩ := HX.out.lit (by omega)
   have hlx := HL.out
   have hcr := hP.keep.cell_nob (hcx k (.int .i64 (xs.getD k 0)) (by rw [bg, List.getD_eq_getElem?_getD, List.getElem?_eq_getElem (by omega)]; rfl))
   have hst := ly (xs := xs) (i := k) (by omega) (by omega)
   clear hcx hlx
   obtain ⟨n, hn, hn64, hcase⟩ := clip (xs.getD k 0)
   rw [hn, ← HMS.out] at hst
   generalize xs.getD k 0 = x at *
   have HST := aa hst
   clear hst hn
   go_upto_region 6 with fail
   go_cut [6] from 19 to 21 (fun s6 wx => s6 = .int .i64 n ∧ wx = wr)
   case first =>
    rcases hcase with ⟨h1, rfl⟩ | ⟨h1, rfl⟩ | ⟨h1, h2, rfl⟩
    all_goals
     go_wp2_with fail
     go_meet
     exact ⟨rfl, rfl⟩
   case rest =>
   obtain ⟨rfl, hw⟩ := hcut
   have hw := hw.symm
   subst hw
   have hobj := hP.q.obj
   rw [HML.out] at hobj
   have sf : ∀ W, Keep Nob wr W → W.cell? ⟨w.heap.size, 0, none⟩ = some (.slice A k cap) := fun W kk => (hobj.nob kk).cell 0
   have kd := (Keep.refl Nob wr).drew
   have hmk := fun wx => run_make_row' (P := Tryz.prog) 73 4 (.bool false) 1 Tryz.underlying73 infobool rfl .i64 .i64 n (by omega) (by omega) wx
   have k1 : Keep Nob wr ((wr.drew.alloc (.cells (madeCells #[.bool false] n) 4)).alloc (.cells #[.int .i64 (first ms k : Nat), .slice (some ⟨wr.heap.size, 0, none⟩) n n] 275)) := (kd.alloc _).alloc _
   have hv1 := hP.q.row.nob k1
   rw [HML.out] at hv1
   have hr1 : ae ((wr.drew.alloc (.cells (madeCells #[.bool false] n) 4)).alloc (.cells #[.int .i64 (first ms k : Nat), .slice (some ⟨wr.heap.size, 0, none⟩) n n] 275)) (some ⟨wr.heap.size + 1, 0, none⟩) 2 [.int .i64 (first ms k : Nat), .slice (some ⟨wr.heap.size, 0, none⟩) n n] := by
    have := aj (n := 2) (Blk.new (wr.drew.alloc (.cells (madeCells #[.bool false] n) 4)) 275 [.int .i64 (first ms k : Nat), .slice (some ⟨wr.heap.size, 0, none⟩) n n]) rfl
    simpa using this
   have hxb : Blk ((wr.drew.alloc (.cells (madeCells #[.bool false] n) 4)).alloc (.cells #[.int .i64 (first ms k : Nat), .slice (some ⟨wr.heap.size, 0, none⟩) n n] 275)) wr.heap.size 4 (dc (List.replicate n false)) := by
    have := (Blk.new wr.drew 4 (madeCells #[.bool false] n).toList).alloc (.cells #[.int .i64 (first ms k : Nat), .slice (some ⟨wr.heap.size, 0, none⟩) n n] 275)
    rw [Array.toArray_toList, toList_madeCells_one] at this
    rw [bools_rep]
    exact this
   have hnA : ¬ Own A w.heap.size := fun ho => by obtain ⟨c, hc⟩ := hP.q.row.blk ho; exact hP.q.obj.ne_ hc (by decide) rfl
   have hfl := bV hP.q.small k (by rw [HML.out]; omega)
   go_wp2_with fail
   have q0 := sf _ kd
   have q1 := sf _ ((Keep.refl Nob wr).alloc (.cells (madeCells #[.bool false] n) 4))
   have q2 := sf _ (((Keep.refl Nob wr).alloc (.cells (madeCells #[.bool false] n) 4)).alloc (.cells #[.int .i64 (first ms k : Nat), .slice (some ⟨wr.heap.size, 0, none⟩) n n] 275))
   go_region_law
    ((refine fo (by rfl) _ _ 276 (by rfl) 275 2 32 (.agg #[.int .i64 0, .slice none 0 0]) Tryz.underlying276 infosess (by rfl) (by decide) A k cap (gz g ms).flatten (by rfl) hv1 (some ⟨wr.heap.size + 1, 0, none⟩) 1 1 [.int .i64 (first ms k : Nat), .slice (some ⟨wr.heap.size, 0, none⟩) n n] (by rfl) 2 (by rfl) hr1 (by simp [Value.oneCell']) (by unfold maxLen; omega) (by omega) ?_; intro A2 c2 w2 hv2 hk2 ho2; have o2 := (hobj.nob k1).keep hk2 hnA; have z1 := o2.cell 0; have f1 := o2.frozen 0))
   all_goals
    clear hcase hcr
    have hN : fc w (w2.setCell ⟨w.heap.size, 0, none⟩ (.slice A2 (k + 1) c2)) w.heap.size (ms ++ [n]) A2 c2 (gup g k wr.heap.size) (up b k (List.replicate n false)) := by
     have e := HML.out
     subst e
     exact hP.next (by omega) n wr.heap.size hn64 k1 hxb (Nat.le_refl _) hv2 hk2 ho2
    have hL : (ms ++ [n]).length = k + 1 := by rw [List.length_append, HML.out]; rfl
    have hS : ms ++ [n] = (dI xs).take (k + 1) := HST.out.symm
    have hF : first (ms ++ [n]) (k + 1) = first ms k + n := by
     have e := HML.out
     subst e
     rw [dj (by simp), ii _ _ _ (Nat.le_refl _), eG]
    have HH := aa (And.intro hN (And.intro hL (And.intro hS hF)))
    clear hN hL hS hF hv2 hk2 ho2 o2 q0 q1 q2 hv1 hr1 hxb k1 hmk hP hobj sf kd
    go_wp2
    go_roundw
    case rel => exact ⟨k + 1, ms ++ [n], A2, c2, _, _, by omega, HH.out.2.1, HH.out.2.2.1, by rw [HH.out.2.2.2]; go_num, by go_num, HH.out.1⟩
    case measure => simp [intOf]; omega
  ·obtain rfl : k = m := by omega
   have hq : Quo wr w.heap.size A cap g ns (fun i => List.replicate (ns.getD i 0) false) := by
    have e : ms = ns := by rw [HMS.out, ← HN.out, ← HNL.out, List.take_length]
    rw [← e]
    exact hP.q.congr (fun i hi => hP.new i hi)
   have hlo : ∀ i, i < ns.length → w.heap.size ≤ g i := by
    have e : ms = ns := by rw [HMS.out, ← HN.out, ← HNL.out, List.take_length]
    rw [← e]
    exact hP.lo
   have hkp := hP.keep
   go_wp2
   go_ret
   exact ⟨_, A, cap, g, rfl, hq, hlo, hkp⟩
end
end Go.Proofs.YtgcikpgcoemfnaaGreat.Qu
namespace Go.Proofs.YtgcikpgcoemfnaaGreat.Qu
open Go.RowKit
theorem infobools : (Tryz.prog.info? 73).map (fun i => (i.zero, i.size, i.bytes)) = some (some (.slice none 0 0), 1, 24) := by kernel_rfl
section
variable {w : World} {p : Nat} {A : Option Addr} {cap : Nat} {g : Nat → Nat} {ns : List Nat} {b : Nat → List Bool}
theorem gv (h : Dq w p A cap g ns b) (i : Nat) (hi : i ≤ ns.length) (x : Int) (hx : ((first ns i : Nat) : Int) = x) :
  Calls Tryz.prog 162 #[.pointer (some ⟨p, 0, none⟩), .int .i64 i] w fun e w' => e = .returned (.int .i64 x) ∧ w = w' := by
 have hc := h.head
 have hl := h.few
 have HX := aa hx
 have hat := aa (fun (s : Nat) (hs : s < ns.length) => h.at_ hs)
 have hsm := aa h.small
 clear hx
 go_enter Tryz.func162, Tryz.ntmps162
 go_wp2
 go_loop [5, 6] (fun s t => ∃ k : Nat, k ≤ i ∧ t = .int .i64 k ∧ s = .int .i64 (first ns k : Nat)) (fun _ t => i - (intOf t).toNat)
 case atStart => exact ⟨0, Nat.zero_le _, rfl, rfl⟩
 case round =>
  obtain ⟨k, hk, rfl, rfl⟩ := hrel
  by_cases hlt : k < i
  ·have hkn : k < ns.length := by omega
   obtain ⟨r, rfl, hc1⟩ := hat.out k hkn
   have hsz := h.size hkn
   have hf := bV hsm.out k (by omega)
   have hs := dj hkn
   rw [← h.len k hkn] at hs
   have HS := aa hs
   clear hs
   generalize first ns k = f at *
   generalize (b k).length = n at *
   go_wp2
   go_round
   case rel => exact ⟨k + 1, by omega, by go_num, by rw [HS.out]; go_num⟩
   case measure => simp [intOf]; omega
  ·obtain rfl : k = i := by omega
   go_wp2
   go_ret
   exact ⟨by rw [← HX.out]; rfl, rfl⟩
end
end Go.Proofs.YtgcikpgcoemfnaaGreat.Qu
namespace Go.Proofs.YtgcikpgcoemfnaaGreat.Qu
open Go.RowKit
section
variable {w : World}
def NewD (ns : List Nat) (w : World) (e : Ending) (w' : World) : Prop := ∃ p A cap g, e = .returned (.pointer (some ⟨p, 0, none⟩)) ∧ Dq w' p A cap g ns (fun i => List.replicate (ns.getD i 0) false) ∧ (∀ i, i < ns.length → w.heap.size ≤ g i) ∧ Keep Nob w w'
structure PartD (w wx : World) (p : Nat) (ms : List Nat) (A : Option Addr) (cap : Nat) (g : Nat → Nat) (b : Nat → List Bool) : Prop where
 q : Dq wx p A cap g ms b
 new : ∀ i, i < ms.length → b i = List.replicate (ms.getD i 0) false
 lo : ∀ i, i < ms.length → w.heap.size ≤ g i
 loA : ∀ x, Own A x → w.heap.size ≤ x
 lop : w.heap.size ≤ p
 keep : Keep Nob w wx
theorem PartD.start (w : World) : PartD w (w.alloc (.cells #[.slice none 0 0] 291)) w.heap.size [] none 0 (fun _ => 0) (fun _ => []) :=
  ⟨⟨Blk.new w 291 [.slice none 0 0], Vec.nil _ _ _, fun i hi => absurd hi (by simp), fun i hi => absurd hi (by simp), by simp, fun n hn => absurd hn (by simp), fun i j hi => absurd hi (by simp)⟩,
   fun i hi => absurd hi (by simp), fun i hi => absurd hi (by simp), fun x ⟨a, ha, _⟩ => (by cases ha), Nat.le_refl _, (Keep.refl Nob w).alloc _⟩
theorem PartD.next {wx w1 w2 : World} {p : Nat} {ms : List Nat} {A A2 : Option Addr} {cap cap2 : Nat} {g : Nat → Nat} {b : Nat → List Bool} (h : PartD w wx p ms A cap g b) (hf : ms.length < 4) (n x : Nat) (hn : n ≤ 64)
  (k1 : Keep Nob wx w1) (hx : Blk w1 x 4 (dc (List.replicate n false))) (hxw : wx.heap.size ≤ x) (hv : Vec w2 73 1 A2 (ms.length + 1) cap2 ((gk g ms).flatten ++ [.slice (some ⟨x, 0, none⟩) n n])) (k2 : Keep (Own A) w1 w2) (ho : ∀ y, Own A2 y → Own A y ∨ y = w1.heap.size) :
  PartD w (w2.setCell ⟨p, 0, none⟩ (.slice A2 (ms.length + 1) cap2)) p (ms ++ [n]) A2 cap2 (gup g ms.length x) (up b ms.length (List.replicate n false)) := by
 have hs := h.keep.size
 have hs1 := k1.size
 refine ⟨h.q.snoc (by decide) (by decide) (by decide) hf n x hn _ (rowsD_snoc g ms n x) k1 hx hxw hv k2, fun i hi => ?_, fun i hi => ?_, fun y hy => ?_, h.lop, ?_⟩
 ·rw [List.length_append, List.length_singleton] at hi
  unfold up
  by_cases e : i = ms.length
  ·rw [if_pos e, e, eG]
  ·rw [if_neg e, fQ _ _ _ (by omega)]
   exact h.new i (by omega)
 ·rw [List.length_append, List.length_singleton] at hi
  unfold gup
  by_cases e : i = ms.length
  ·rw [if_pos e]; omega
  ·rw [if_neg e]; exact h.lo i (by omega)
 ·rcases ho y hy with h1 | h1
  ·exact h.loA y h1
  ·omega
 ·exact ((h.keep.nobt k1).trans k2 (fun y hy m => by have := h.loA y m; omega)).setCell _ _ (fun hl => by have := h.lop; dsimp only at hl; omega)
theorem dnew_is {A0 : Option Addr} {n0 c0 : Nat} {xs : List Int} (hx : ae w A0 n0 (ab xs)) (ns : List Nat) (hns : dI xs = ns) : Calls Tryz.prog 161 #[.slice A0 n0 c0] w (NewD ns w) := by
 have hlx : xs.length = n0 := by have := hx.1; rwa [dd] at this
 have hnl : (dI xs).length = min 4 n0 := by rw [fO, hlx]
 have P0 := PartD.start w
 have HN := aa hns
 have HX := aa hx
 have HL := aa hlx
 have HNL := aa hnl
 clear hns hx hlx hnl
 go_enter Tryz.func161, Tryz.ntmps161
 go_wp2_with fail
 go_loopw [4] (fun s4 wx => ∃ (k : Nat) (ms : List Nat) (A : Option Addr) (cap : Nat) (g : Nat → Nat) (b : Nat → List Bool), k ≤ 4 ∧ k ≤ n0 ∧ ms.length = k ∧ ms = (dI xs).take k ∧ s4 = .int .i64 k ∧ PartD w wx w.heap.size ms A cap g b) (fun t _ => 4 - (intOf t).toNat)
 case atStart => exact ⟨0, [], none, 0, _, _, Nat.zero_le _, Nat.zero_le _, rfl, rfl, rfl, P0⟩
 case round =>
  obtain ⟨k, ms, A, cap, g, b, hk4, hkn, hml, hms, rfl, hP⟩ := hrel
  have HML := aa hml
  have HMS := aa hms
  clear hml hms P0
  by_cases hlt : k < n0 ∧ k < 4
  ·obtain ⟨hl1, hl2⟩ := hlt
   obtain ⟨bb, off, rfl, hcx⟩ := HX.out.lit (by omega)
   have hlx := HL.out
   have hcr := hP.keep.cell_nob (hcx k (.int .i64 (xs.getD k 0)) (by rw [bg, List.getD_eq_getElem?_getD, List.getElem?_eq_getElem (by omega)]; rfl))
   have hst := ly (xs := xs) (i := k) (by omega) (by omega)
   clear hcx hlx
   obtain ⟨n, hn, hn64, hcase⟩ := clip (xs.getD k 0)
   rw [hn, ← HMS.out] at hst
   generalize xs.getD k 0 = x at *
   have HST := aa hst
   clear hst hn
   have hobj := hP.q.obj
   rw [HML.out] at hobj
   have sf : ∀ W, Keep Nob wr W → W.cell? ⟨w.heap.size, 0, none⟩ = some (.slice A k cap) := fun W kk => (hobj.nob kk).cell 0
   have kd := (Keep.refl Nob wr).drew
   have hL : (if 64 < (if x < 0 then 0 else x) then 64 else if x < 0 then 0 else x) = (n : Int) := by
    rcases hcase with ⟨h1, h2⟩ | ⟨h1, h2⟩ | ⟨h1, h2, h3⟩ <;> (repeat' split) <;> omega
   have hmk : ∀ wx : World, (Instr.makeSlice 73 (.int .i64 (if 64 < (if x < 0 then 0 else x) then 64 else if x < 0 then 0 else x)) (.int .i64 (if 64 < (if x < 0 then 0 else x) then 64 else if x < 0 then 0 else x))).run Tryz.prog wx = .ok (.slice (some ⟨wx.heap.size, 0, none⟩) n n) (wx.alloc (.cells (madeCells #[.bool false] n) 4)) := by
    intro wx
    rw [hL]
    exact run_make_row' (P := Tryz.prog) 73 4 (.bool false) 1 Tryz.underlying73 infobool rfl .i64 .i64 n (by omega) (by omega) wx
   clear hL hcase
   have k1 : Keep Nob wr ((wr.drew.alloc (.cells (madeCells #[.bool false] n) 4)).alloc (.cells #[.slice (some ⟨wr.heap.size, 0, none⟩) n n] 73)) := (kd.alloc _).alloc _
   have hv1 := hP.q.row.nob k1
   rw [HML.out] at hv1
   have hr1 : ae ((wr.drew.alloc (.cells (madeCells #[.bool false] n) 4)).alloc (.cells #[.slice (some ⟨wr.heap.size, 0, none⟩) n n] 73)) (some ⟨wr.heap.size + 1, 0, none⟩) 1 [.slice (some ⟨wr.heap.size, 0, none⟩) n n] := by
    have := aj (n := 1) (Blk.new (wr.drew.alloc (.cells (madeCells #[.bool false] n) 4)) 73 [.slice (some ⟨wr.heap.size, 0, none⟩) n n]) rfl
    simpa using this
   have hxb : Blk ((wr.drew.alloc (.cells (madeCells #[.bool false] n) 4)).alloc (.cells #[.slice (some ⟨wr.heap.size, 0, none⟩) n n] 73)) wr.heap.size 4 (dc (List.replicate n false)) := by
    have := (Blk.new wr.drew 4 (madeCells #[.bool false] n).toList).alloc (.cells #[.slice (some ⟨wr.heap.size, 0, none⟩) n n] 73)
    rw [Array.toArray_toList, toList_madeCells_one] at this
    rw [bools_rep]
    exact this
   have hnA : ¬ Own A w.heap.size := fun ho => by obtain ⟨c, hc⟩ := hP.q.row.blk ho; exact hP.q.obj.ne_ hc (by decide) rfl
   have q0 := sf _ kd
   have q1 := sf _ ((Keep.refl Nob wr).alloc (.cells (madeCells #[.bool false] n) 4))
   have q2 := sf _ (((Keep.refl Nob wr).alloc (.cells (madeCells #[.bool false] n) 4)).alloc (.cells #[.slice (some ⟨wr.heap.size, 0, none⟩) n n] 73))
   have r1 : (wr.alloc (.cells (madeCells #[.bool false] n) 4)).cell? ⟨bb, off + k, none⟩ = some (.int .i64 x) := ((Keep.refl Nob wr).alloc _).cell_nob hcr
   have hN : ∀ (A2 : Option Addr) (c2 : Nat) (w2 : World), Vec w2 73 1 A2 (k + 1) c2 ((gk g ms).flatten ++ [.slice (some ⟨wr.heap.size, 0, none⟩) n n]) → Keep (Own A) ((wr.drew.alloc (.cells (madeCells #[.bool false] n) 4)).alloc (.cells #[.slice (some ⟨wr.heap.size, 0, none⟩) n n] 73)) w2 →
     (∀ y, Own A2 y → Own A y ∨ y = ((wr.drew.alloc (.cells (madeCells #[.bool false] n) 4)).alloc (.cells #[.slice (some ⟨wr.heap.size, 0, none⟩) n n] 73)).heap.size) →
     PartD w (w2.setCell ⟨w.heap.size, 0, none⟩ (.slice A2 (k + 1) c2)) w.heap.size (ms ++ [n]) A2 c2 (gup g k wr.heap.size) (up b k (List.replicate n false)) := by
    intro A2 c2 w2 hv2 hk2 ho2
    have e := HML.out
    subst e
    exact hP.next hl2 n wr.heap.size hn64 k1 hxb (Nat.le_refl _) hv2 hk2 ho2
   have HH := aa hN
   have hL2 : (ms ++ [n]).length = k + 1 := by rw [List.length_append, HML.out]; rfl
   have HR := aa (And.intro hL2 HST.out.symm)
   clear hN hL2 hP hxb
   all_goals
    go_wp2_with fail
    go_region_law
     ((refine fo (by rfl) _ _ 289 (by rfl) 73 1 24 (.slice none 0 0) Tryz.underlying289 infobools (by rfl) (by decide) A k cap (gk g ms).flatten (by rfl) hv1 (some ⟨wr.heap.size + 1, 0, none⟩) 1 1 [.slice (some ⟨wr.heap.size, 0, none⟩) n n] (by rfl) 1 (by rfl) hr1 (by simp [Value.oneCell']) (by unfold maxLen; omega) (by omega) ?_; intro A2 c2 w2 hv2 hk2 ho2; have o2 := (hobj.nob k1).keep hk2 hnA; have z1 := o2.cell 0; have f1 := o2.frozen 0))
    all_goals
     have HP := aa (HH.out A2 c2 w2 hv2 hk2 ho2)
     clear hv2 hk2 ho2 o2
     go_wp2
     go_roundw
     case rel => exact ⟨k + 1, ms ++ [n], A2, c2, _, _, by omega, by omega, HR.out.1, HR.out.2, by go_num, HP.out⟩
     case measure => simp [intOf]; omega
  ·have e : ms = ns := by rw [HMS.out, ← HN.out, List.take_of_length_le (by rw [HNL.out]; omega)]
   have hq : Dq wr w.heap.size A cap g ns (fun i => List.replicate (ns.getD i 0) false) := by
    rw [← e]
    exact hP.q.congr (fun i hi => hP.new i hi)
   have hlo : ∀ i, i < ns.length → w.heap.size ≤ g i := by
    rw [← e]
    exact hP.lo
   have hkp := hP.keep
   clear e
   by_cases hl1 : k < n0
   ·have hl2 : 4 ≤ k := by omega
    clear hlt
    go_wp2
    go_ret
    exact ⟨_, A, cap, g, rfl, hq, hlo, hkp⟩
   ·clear hlt
    go_wp2
    go_ret
    exact ⟨_, A, cap, g, rfl, hq, hlo, hkp⟩
end
end Go.Proofs.YtgcikpgcoemfnaaGreat.Qu
