import Derived.Test.YtgcikpgcoemfnaaGreatRows
import Derived.BigQuiet
import Derived.WalkLawsBesides
import Derived.Test.YtgcikpgcoemfnaaGreatPs0
set_option maxRecDepth 100000
set_option maxHeartbeats 8000000
set_option linter.unusedVariables false
set_option linter.unusedSimpArgs false
namespace Go.Proofs.YtgcikpgcoemfnaaGreat.TabC
open Go.RowKit
abbrev Tab (w : World) (p r : Nat) (L : List Pl) : Prop := bM 375 372 8 w p r L
theorem info372 : (Tryz.prog.info? 372).map (fun i => (i.zero, i.size, i.bytes)) = some (some (.agg #[.int .i64 0, .bool false, .int .i64 0, .int .i64 0, .int .i64 0, .int .i64 0, .int .i64 0, .int .i64 0]), 8, 64) := by kernel_rfl
theorem name_at (p r n i : Nat) (g : Int) (w : World) (hc : w.cell? ⟨p, 0, none⟩ = some (.slice (some ⟨r, 0, none⟩) n n)) (hg : w.cell? ⟨r, i * 8, none⟩ = some (.int .i64 g)) (hi : i < n) (hg0 : 0 ≤ g) (hg1 : g ≤ 1000001) (hn : n ≤ 256) :
  Calls Tryz.prog 323 #[.pointer (some ⟨p, 0, none⟩), .int .i64 i] w fun e w' => e = .returned (.int .i64 (i + 256 * g)) ∧ w = w' := by
 go_enter Tryz.func323, Tryz.ntmps323
 go_wp2
 go_ret
 exact ⟨rfl, rfl⟩
theorem jW {p r i : Nat} {L : List Pl} {q : Pl} {w : World} (h : Tab w p r L) (hq : L[i]? = some q) :
  Calls Tryz.prog 323 #[.pointer (some ⟨p, 0, none⟩), .int .i64 i] w fun e w' => e = .returned (.int .i64 (i + 256 * (q.gen : Int))) ∧ w = w' := by
 have := h.pl.gen q (bE hq)
 exact name_at p r L.length i q.gen w h.head (h.gen_ hq) (aP hq) (by omega) (by omega) h.pl.len
theorem free_at (p r n i : Nat) (g : Int) (b : Bool) (w : World) (hc : w.cell? ⟨p, 0, none⟩ = some (.slice (some ⟨r, 0, none⟩) n n)) (hg : w.cell? ⟨r, i * 8, none⟩ = some (.int .i64 g)) (hb : w.cell? ⟨r, i * 8 + 1, none⟩ = some (.bool b)) (hi : i < n) :
  Calls Tryz.prog 324 #[.pointer (some ⟨p, 0, none⟩), .int .i64 i] w fun e w' => e = .returned (.bool (!b && decide (g ≤ 1000000))) ∧ w = w' := by
 cases b
 all_goals
  go_enter Tryz.func324, Tryz.ntmps324
  go_wp2
  go_ret
  exact ⟨by simp, rfl⟩
theorem free_is {p r i : Nat} {L : List Pl} {q : Pl} {w : World} (h : Tab w p r L) (hq : L[i]? = some q) (b : Bool) (hb : q.free = b) :
  Calls Tryz.prog 324 #[.pointer (some ⟨p, 0, none⟩), .int .i64 i] w fun e w' => e = .returned (.bool b) ∧ w = w' := by
 subst hb
 have e : q.free = (!q.on && decide ((q.gen : Int) ≤ 1000000)) := by unfold Pl.free; congr 1; simp; omega
 rw [e]
 exact free_at p r L.length i q.gen q.on w h.head (h.gen_ hq) (h.on_ hq) (aP hq)
theorem find_yes {p r i : Nat} {a : Int} {L : List Pl} {q : Pl} {w : World} (h : Tab w p r L) (hq : L[i]? = some q) (ho : q.on = true) (ha : a = i + 256 * (q.gen : Int)) :
  Calls Tryz.prog 275 #[.pointer (some ⟨p, 0, none⟩), .int .i64 a] w fun e w' => e = .returned (.tuple #[.int .i64 i, .bool true]) ∧ w = w' := by
 have hc := h.head
 have h1 := h.on_ hq
 have hg := h.pl.gen q (bE hq)
 have hi := aP hq
 have hl := h.pl.len
 rw [ho] at h1
 have hm : a % 256 = i := by omega
 have hm2 : a.tmod 256 = i := by rw [Int.tmod_eq_emod_of_nonneg (by omega)]; exact hm
 have hna := aa ha
 have h0 : 0 ≤ a := by omega
 clear ha
 go_enter Tryz.func275, Tryz.ntmps275
 go_wp2_with fail
 refine (jW h hq).mono ?_; rintro e w' ⟨rfl, rfl⟩
 rw [← hna.out]
 go_wp2
 go_ret2
 exact ⟨rfl, rfl⟩
theorem find_no {p r : Nat} {a : Int} {L : List Pl} {w : World} (h : Tab w p r L) (hno : ∀ (i : Nat) (q : Pl), L[i]? = some q → q.on = true → a ≠ i + 256 * (q.gen : Int)) :
  Calls Tryz.prog 275 #[.pointer (some ⟨p, 0, none⟩), .int .i64 a] w fun e w' => e = .returned (.tuple #[.int .i64 0, .bool false]) ∧ w = w' := by
 have hc := h.head
 have hl := h.pl.len
 by_cases h0 : a < 0
 ·go_enter Tryz.func275, Tryz.ntmps275
  go_wp2
  go_ret2
  exact ⟨rfl, rfl⟩
 ·obtain ⟨k, hk⟩ : ∃ k : Nat, a % 256 = k := ⟨(a % 256).toNat, by omega⟩
  have hm2 : a.tmod 256 = k := by rw [Int.tmod_eq_emod_of_nonneg (by omega)]; exact hk
  by_cases hkl : k < L.length
  ·have hq : L[k]? = some L[k] := List.getElem?_eq_getElem hkl
   generalize L[k] = q at hq
   have h1 := h.on_ hq
   have hn := hno k q hq
   clear hno hk
   cases hb : q.on with
   | false =>
    rw [hb] at h1
    clear hn
    go_enter Tryz.func275, Tryz.ntmps275
    go_wp2
    go_ret2
    exact ⟨rfl, rfl⟩
   | true =>
    rw [hb] at h1
    have hne : ((k : Int) + 256 * (q.gen : Int) == a) = false := by rw [beq_eq_false_iff_ne]; exact fun e => hn hb e.symm
    have hne2 : ((k : Int) + 256 * (q.gen : Int) != a) = true := by rw [bne, hne]; rfl
    clear hn
    go_enter Tryz.func275, Tryz.ntmps275
    go_wp2_with fail
    refine (jW h hq).mono ?_; rintro e w' ⟨rfl, rfl⟩
    generalize (k : Int) + 256 * (q.gen : Int) = n at hne hne2
    go_wp2
    go_ret2
    exact ⟨rfl, rfl⟩
  ·clear hno hk
   go_enter Tryz.func275, Tryz.ntmps275
   go_wp2
   go_ret2
   exact ⟨rfl, rfl⟩
def fJ (k : Nat) (w : World) (e : Ending) (w' : World) : Prop := ∃ p r, e = .returned (.pointer (some ⟨p, 0, none⟩)) ∧ Tab w' p r (List.replicate k ⟨1, false, [.int .i64 0, .int .i64 0, .int .i64 0, .int .i64 0, .int .i64 0, .int .i64 0]⟩) ∧ w.heap.size ≤ p ∧ w.heap.size ≤ r ∧ Keep Nob w w'
theorem new_is (n : Int) (k : Nat) (hk : (min (max n 0) 256).toNat = k) (w : World) : Calls Tryz.prog 262 #[.int .i64 n] w (fJ k w) := by
 have hk256 : k ≤ 256 := by omega
 have fin : ∀ w1 : World, Blk w1 w.heap.size 372 (List.replicate k (Value.int .i64 0 :: Value.bool false :: [.int .i64 0, .int .i64 0, .int .i64 0, .int .i64 0, .int .i64 0, .int .i64 0])).flatten → Keep Nob w w1 → w1.heap.size = w.heap.size + 1 →
   Tab (w1.alloc (.cells #[.slice (some ⟨w.heap.size, 0, none⟩) k k] 375)) (w.heap.size + 1) w.heap.size (gi [.int .i64 0, .int .i64 0, .int .i64 0, .int .i64 0, .int .i64 0, .int .i64 0] k 0) := by
  intro w1 hb hk1 hs
  refine ⟨?_, ?_, fresh_places _ _ _ _ (by decide) hk256, by decide⟩
  ·have := Blk.new w1 375 [.slice (some ⟨w.heap.size, 0, none⟩) k k]
   rw [dt]
   rw [hs] at this
   exact this
  ·rw [fresh_none]
   exact hb.alloc _
 rcases (show n < 0 ∨ 256 < n ∨ (0 ≤ n ∧ n ≤ 256) from by omega) with h | h | ⟨h, h'⟩
 all_goals
  have Hk := aa hk
  clear hk
  go_enter Tryz.func262, Tryz.ntmps262
  go_wp2_with (refine lj rfl _ _ 373 rfl 372 (.agg #[.int .i64 0, .bool false, .int .i64 0, .int .i64 0, .int .i64 0, .int .i64 0, .int .i64 0, .int .i64 0]) 64 Tryz.underlying373 info372 .i64 .i64 k _ (by have := Hk.out; omega) rfl rfl (by omega) (by omega) ?_; intro w1 hb1 hk1 hs1)
  have f1 := fin w1 hb1 hk1 hs1
  have K1 := hk1.alloc (.cells #[.slice (some ⟨w.heap.size, 0, none⟩) k k] 375)
  clear hs1 fin hb1
  go_loopw [17] (fun s wx => ∃ j : Nat, j ≤ k ∧ s = .int .i64 j ∧ Tab wx (w.heap.size + 1) w.heap.size (gi [.int .i64 0, .int .i64 0, .int .i64 0, .int .i64 0, .int .i64 0, .int .i64 0] k j) ∧ Keep Nob w wx) (fun s _ => k - (intOf s).toNat)
  case atStart => exact ⟨0, Nat.zero_le _, rfl, f1, K1⟩
  case round =>
   obtain ⟨j, hj, rfl, ht, hK⟩ := hrel
   have hh := ht.head
   rw [dt] at hh
   by_cases hlt : j < k
   ·have hq := fP [.int .i64 0, .int .i64 0, .int .i64 0, .int .i64 0, .int .i64 0, .int .i64 0] (j := j) hlt
    rw [if_neg (Nat.lt_irrefl j)] at hq
    have hg := ht.gen_ hq
    have hf := ht.row.frozen (j * 8)
    obtain ⟨t2, k2⟩ := ht.wr hq 0 (.int .i64 1) ⟨1, false, [.int .i64 0, .int .i64 0, .int .i64 0, .int .i64 0, .int .i64 0, .int .i64 0]⟩ (by decide) rfl (by decide)
    rw [fresh_set _ _ _ hlt] at t2
    go_wp2
    go_roundw
    case rel => exact ⟨j + 1, by omega, by go_num, t2, hK.trans k2 (fun b hb e => by omega)⟩
    case measure => simp [intOf]; omega
   ·obtain rfl : j = k := by omega
    rw [fresh_all] at ht
    go_wp2
    go_ret
    exact ⟨_, _, rfl, ht, by omega, Nat.le_refl _, hK⟩
theorem infoint : (Tryz.prog.info? 3).map (fun i => (i.zero, i.size, i.bytes)) = some (some (.int .i64 0), 1, 8) := by kernel_rfl
theorem six_cells {p r i : Nat} {L : List Pl} {q : Pl} {w : World} (h : Tab w p r L) (hq : L[i]? = some q) : ∃ a b c d e f, q.v = [a, b, c, d, e, f] := by
 have := h.pl.each q (bE hq)
 exact by
  match hv : q.v, (show q.v.length = 6 by omega) with
  | [a, b, c, d, e, f], _ => exact ⟨a, b, c, d, e, f, rfl⟩
theorem add_yes {p r i : Nat} {L : List Pl} {q : Pl} {w : World} (c0 c1 c2 c3 c4 c5 : Int) (h : Tab w p r L) (hq : L[i]? = some q) (hf : q.free = true) (hb : ∀ (j : Nat) (q : Pl), j < i → L[j]? = some q → q.free = false) :
  Calls Tryz.prog 271 #[.pointer (some ⟨p, 0, none⟩), .agg #[.int .i64 c0, .int .i64 c1, .int .i64 c2, .int .i64 c3, .int .i64 c4, .int .i64 c5]] w fun e w' => e = .returned (.tuple #[.int .i64 (i + 256 * (q.gen : Int)), .bool true]) ∧ Tab w' p r (L.set i ⟨q.gen, true, [.int .i64 c0, .int .i64 c1, .int .i64 c2, .int .i64 c3, .int .i64 c4, .int .i64 c5]⟩) ∧ Keep (· = r) w w' := by
 have hi := aP hq
 have hl := h.pl.len
 obtain ⟨u0, u1, u2, u3, u4, u5, hu⟩ := six_cells h hq
 have hg := h.pl.gen q (bE hq)
 have hr := h.row.lt
 have Hb := aa hb
 clear hb
 go_enter Tryz.func271, Tryz.ntmps271
 go_wp2_with (refine af rfl 255 _ rfl _ rfl ?_; intro w1 hb1 hk1 hs1; have h0 := h.nob hk1; have hc := h0.head)
 have hon := h0.on_ hq
 have hv0 := h0.v_ hq (j := 0) (by rw [hu]; rfl)
 have hv1 := h0.v_ hq (j := 1) (by rw [hu]; rfl)
 have hv2 := h0.v_ hq (j := 2) (by rw [hu]; rfl)
 have hv3 := h0.v_ hq (j := 3) (by rw [hu]; rfl)
 have hv4 := h0.v_ hq (j := 4) (by rw [hu]; rfl)
 have hv5 := h0.v_ hq (j := 5) (by rw [hu]; rfl)
 have hf1 := h0.row.frozen (i * 8 + 1)
 have hf2 := h0.row.frozen (i * 8 + 2)
 have hf3 := h0.row.frozen (i * 8 + 3)
 have hf4 := h0.row.frozen (i * 8 + 4)
 have hf5 := h0.row.frozen (i * 8 + 5)
 have hf6 := h0.row.frozen (i * 8 + 6)
 have hf7 := h0.row.frozen (i * 8 + 7)
 have b0 : w1.cell? ⟨w.heap.size, 0, none⟩ = some (.int .i64 c0) := hb1.cell 0
 have b1 : w1.cell? ⟨w.heap.size, 1, none⟩ = some (.int .i64 c1) := hb1.cell 1
 have b2 : w1.cell? ⟨w.heap.size, 2, none⟩ = some (.int .i64 c2) := hb1.cell 2
 have b3 : w1.cell? ⟨w.heap.size, 3, none⟩ = some (.int .i64 c3) := hb1.cell 3
 have b4 : w1.cell? ⟨w.heap.size, 4, none⟩ = some (.int .i64 c4) := hb1.cell 4
 have b5 : w1.cell? ⟨w.heap.size, 5, none⟩ = some (.int .i64 c5) := hb1.cell 5
 have hne : r ≠ w.heap.size := by omega
 have hpr := h.ne_
 obtain ⟨f3, k3⟩ := h0.wr8add hq c0 c1 c2 c3 c4 c5 hu
 have hq3 : (L.set i ⟨q.gen, true, [.int .i64 c0, .int .i64 c1, .int .i64 c2, .int .i64 c3, .int .i64 c4, .int .i64 c5]⟩)[i]? = some ⟨q.gen, true, [.int .i64 c0, .int .i64 c1, .int .i64 c2, .int .i64 c3, .int .i64 c4, .int .i64 c5]⟩ := List.getElem?_set_self hi
 have K3 := aa (((hk1.mono (M' := (· = r)) (fun k hk e => e.elim)).trans k3 (fun k hk e => e)).drew)
 have F3 := aa (f3.nob (Keep.nobdrew _))
 clear k3 f3
 go_loop [12] (fun s => ∃ k : Nat, k ≤ i ∧ s = .int .i64 k) (fun s => i - (intOf s).toNat)
 case atStart => exact ⟨0, Nat.zero_le _, rfl⟩
 case round =>
  obtain ⟨k, hk, rfl⟩ := hrel
  by_cases hlt : k < i
  ·obtain ⟨qk, hqk⟩ : ∃ qk, L[k]? = some qk := ⟨_, List.getElem?_eq_getElem (Nat.lt_trans hlt hi)⟩
   go_wp2_with fail
   refine (free_is h0 hqk false (Hb.out k qk hlt hqk)).mono ?_; rintro e w' ⟨rfl, rfl⟩
   go_wp2
   go_round
   case rel => exact ⟨k + 1, by omega, by go_num⟩
   case measure => simp [intOf]; omega
  ·obtain rfl : k = i := by omega
   go_wp2_with fail
   refine (free_is h0 hq true hf).mono ?_; rintro e w' ⟨rfl, rfl⟩
   go_wp2_with fail
   go_region
   go_wp2_with fail
   refine (jW F3.out hq3).mono ?_; rintro e w' ⟨rfl, rfl⟩
   go_wp2
   go_ret2
   exact ⟨rfl, F3.out, K3.out⟩
theorem add_no {p r : Nat} {L : List Pl} {w : World} (c0 c1 c2 c3 c4 c5 : Int) (h : Tab w p r L) (hb : ∀ (j : Nat) (q : Pl), L[j]? = some q → q.free = false) :
  Calls Tryz.prog 271 #[.pointer (some ⟨p, 0, none⟩), .agg #[.int .i64 c0, .int .i64 c1, .int .i64 c2, .int .i64 c3, .int .i64 c4, .int .i64 c5]] w fun e w' => e = .returned (.tuple #[.int .i64 0, .bool false]) ∧ Keep Nob w w' := by
 have k0 := (Keep.refl Nob w).alloc (.cells #[.int .i64 c0, .int .i64 c1, .int .i64 c2, .int .i64 c3, .int .i64 c4, .int .i64 c5] 255)
 have h0 := h.nob k0
 have hc := h0.head
 have hl := h.pl.len
 have Hb := aa hb
 clear hb
 go_enter Tryz.func271, Tryz.ntmps271
 go_wp2
 go_loop [12] (fun s => ∃ k : Nat, k ≤ L.length ∧ s = .int .i64 k) (fun s => L.length - (intOf s).toNat)
 case atStart => exact ⟨0, Nat.zero_le _, rfl⟩
 case round =>
  obtain ⟨k, hk, rfl⟩ := hrel
  by_cases hlt : k < L.length
  ·obtain ⟨qk, hqk⟩ : ∃ qk, L[k]? = some qk := ⟨_, List.getElem?_eq_getElem hlt⟩
   go_wp2_with fail
   refine (free_is h0 hqk false (Hb.out k qk hqk)).mono ?_; rintro e w' ⟨rfl, rfl⟩
   go_wp2
   go_round
   case rel => exact ⟨k + 1, by omega, by go_num⟩
   case measure => simp [intOf]; omega
  ·go_wp2
   go_ret2
   exact ⟨rfl, k0⟩
theorem get_yes {p r i : Nat} {a : Int} {L : List Pl} {q : Pl} {w : World} (c0 c1 c2 c3 c4 c5 : Int) (h : Tab w p r L) (hq : L[i]? = some q) (ho : q.on = true) (ha : a = i + 256 * (q.gen : Int)) (hu : q.v = [.int .i64 c0, .int .i64 c1, .int .i64 c2, .int .i64 c3, .int .i64 c4, .int .i64 c5]) :
  Calls Tryz.prog 270 #[.pointer (some ⟨p, 0, none⟩), .int .i64 a] w fun e w' => e = .returned (.tuple #[.agg #[.int .i64 c0, .int .i64 c1, .int .i64 c2, .int .i64 c3, .int .i64 c4, .int .i64 c5], .bool true]) ∧ Keep Nob w w' := by
 have hi := aP hq
 have hl := h.pl.len
 have Ha := aa ha
 clear ha
 have k0 := (Keep.refl Nob w).alloc (.cells #[.int .i64 0, .int .i64 0, .int .i64 0, .int .i64 0, .int .i64 0, .int .i64 0] 255)
 have h0 := h.nob k0
 have hc := h0.head
 have hv0 := h0.v_ hq (j := 0) (by rw [hu]; rfl)
 have hv1 := h0.v_ hq (j := 1) (by rw [hu]; rfl)
 have hv2 := h0.v_ hq (j := 2) (by rw [hu]; rfl)
 have hv3 := h0.v_ hq (j := 3) (by rw [hu]; rfl)
 have hv4 := h0.v_ hq (j := 4) (by rw [hu]; rfl)
 have hv5 := h0.v_ hq (j := 5) (by rw [hu]; rfl)
 clear hu
 go_enter Tryz.func270, Tryz.ntmps270
 go_wp2_with fail
 refine (find_yes h0 hq ho Ha.out).mono ?_; rintro e w' ⟨rfl, rfl⟩
 go_wp2
 (try simp only [Exit.inBlock, Exit.then])
 refine bodyPost_ret (v := .tuple #[.agg #[.int .i64 c0, .int .i64 c1, .int .i64 c2, .int .i64 c3, .int .i64 c4, .int .i64 c5], .bool true]) ?_ rfl ?_
 ·rw [results_cell_tmp rfl]
  go_simp
 exact ⟨rfl, (Keep.refl Nob w).alloc _⟩
theorem get_no {p r : Nat} {a : Int} {L : List Pl} {w : World} (h : Tab w p r L) (hno : ∀ (i : Nat) (q : Pl), L[i]? = some q → q.on = true → a ≠ i + 256 * (q.gen : Int)) :
  Calls Tryz.prog 270 #[.pointer (some ⟨p, 0, none⟩), .int .i64 a] w fun e w' => e = .returned (.tuple #[.agg #[.int .i64 0, .int .i64 0, .int .i64 0, .int .i64 0, .int .i64 0, .int .i64 0], .bool false]) ∧ Keep Nob w w' := by
 have k0 := (Keep.refl Nob w).alloc (.cells #[.int .i64 0, .int .i64 0, .int .i64 0, .int .i64 0, .int .i64 0, .int .i64 0] 255)
 have h0 := h.nob k0
 go_enter Tryz.func270, Tryz.ntmps270
 go_wp2_with fail
 refine (find_no h0 hno).mono ?_; rintro e w' ⟨rfl, rfl⟩
 go_wp2
 (try simp only [Exit.inBlock, Exit.then])
 refine bodyPost_ret (v := .tuple #[.agg #[.int .i64 0, .int .i64 0, .int .i64 0, .int .i64 0, .int .i64 0, .int .i64 0], .bool false]) ?_ rfl ?_
 ·rw [results_cell_tmp rfl]
  go_simp
 exact ⟨rfl, k0.alloc _⟩
end Go.Proofs.YtgcikpgcoemfnaaGreat.TabC
namespace Go.Proofs.YtgcikpgcoemfnaaGreat
open Go.RowKit
structure eS (w : World) (p r : Nat) (xs : List UInt8) : Prop where
 obj : Blk w p 209 [.slice (some ⟨r, 0, none⟩) xs.length xs.length]
 row : Blk w r 5 (bytes xs)
 len : xs.length ≤ 16384
theorem eS.cell {w : World} {p r : Nat} {xs : List UInt8} (h : eS w p r xs) : w.cell? ⟨p, 0, none⟩ = some (.slice (some ⟨r, 0, none⟩) xs.length xs.length) := h.obj.cell 0
theorem eS.keep {M : Nat → Prop} {w w' : World} {p r : Nat} {xs : List UInt8} (h : eS w p r xs) (k : Keep M w w') (hp : ¬ M p) (hr : ¬ M r) : eS w' p r xs := ⟨h.obj.keep k hp, h.row.keep k hr, h.len⟩
theorem eS.ne_ {w : World} {p r : Nat} {xs : List UInt8} (h : eS w p r xs) : p ≠ r := h.obj.ne_ h.row (by decide)
theorem Tryz.info5 : (Tryz.prog.info? 5).map (fun i => (i.zero, i.size, i.bytes)) = some (some (.int .u8 0), 1, 1) := by kernel_rfl
theorem Tryz.size5 : (Tryz.prog.info? 5).map (·.size) = some 1 := by kernel_rfl
theorem has_yes (p : Nat) (a : Option Addr) (len cap : Nat) (at' n : Int) (w : World) (hl : len ≤ 16384) (hc : w.cell? ⟨p, 0, none⟩ = some (.slice a len cap)) (h : 0 ≤ at' ∧ 0 ≤ n ∧ at' + n ≤ len) :
  Calls Tryz.prog 130 #[.pointer (some ⟨p, 0, none⟩), .int .i64 at', .int .i64 n] w fun e w' => e = .returned (.bool true) ∧ w = w' := by
 obtain ⟨h0, h1, h2⟩ := h
 have h3 : at' ≤ len := by omega
 have h4 : n ≤ len - at' := by omega
 go_enter Tryz.func130, Tryz.ntmps130
 go_wp2
 go_ret
 exact ⟨by simp [*], rfl⟩
def br (k : Nat) : List UInt8 := List.replicate (64 * k) 0
theorem fI (k : Nat) : (br k).length = 64 * k := by simp [br]
def fJ (k : Nat) (w : World) (e : Ending) (w' : World) : Prop := ∃ p r, e = .returned (.pointer (some ⟨p, 0, none⟩)) ∧ eS w' p r (br k) ∧ w.heap.size ≤ p ∧ w.heap.size ≤ r ∧ Keep Nob w w'
theorem made_of (k : Nat) (hk : k ≤ 256) (w : World) :
  fJ k w (.returned (.pointer (some ⟨w.heap.size + 1, 0, none⟩))) ((w.alloc (.cells (madeCells #[.int .u8 0] (64 * k)) 5)).alloc (.cells #[.slice (some ⟨w.heap.size, 0, none⟩) (64 * k) (64 * k)] 209)) := by
 refine ⟨w.heap.size + 1, w.heap.size, rfl, ⟨?_, ?_, by simp [br]; omega⟩, by omega, by omega, ((Keep.refl _ w).alloc _).alloc _⟩
 ·rw [fI]
  have := Blk.new (w.alloc (.cells (madeCells #[.int .u8 0] (64 * k)) 5)) 209 [.slice (some ⟨w.heap.size, 0, none⟩) (64 * k) (64 * k)]
  simpa using this
 ·refine Blk.alloc ?_ _
  have := Blk.new w 5 (madeCells #[.int .u8 0] (64 * k)).toList
  rw [Array.toArray_toList, toList_madeCells_one] at this
  rw [br, ao]
  exact this
theorem new_low (n : Int) (w : World) (h : n < 0) : Calls Tryz.prog 158 #[.int .i64 n] w (fJ 0 w) := by
 have hm : ∀ wx : World, (Instr.makeSlice 28 (.int .i64 0) (.int .i64 0)).run Tryz.prog wx = _ := fun wx => run_make_row' (P := Tryz.prog) 28 5 (.int .u8 0) 1 Tryz.underlying28 Tryz.info5 rfl .i64 .i64 0 (by omega) (by omega) wx
 have fin := made_of 0 (by omega) w
 go_enter Tryz.func158, Tryz.ntmps158
 go_wp2
 go_ret
 exact fin
theorem new_mid (n : Nat) (w : World) (h : n ≤ 256) : Calls Tryz.prog 158 #[.int .i64 n] w (fJ n w) := by
 have hm := fun wx => run_make_row' (P := Tryz.prog) 28 5 (.int .u8 0) 1 Tryz.underlying28 Tryz.info5 rfl .i64 .i64 (64 * n) (by omega) (by omega) wx
 have e1 : (((64 * n : Nat)) : Int) = (n : Int) * 64 := by omega
 rw [e1] at hm
 clear e1
 have fin := made_of n h w
 go_enter Tryz.func158, Tryz.ntmps158
 go_wp2
 go_ret
 exact fin
theorem new_high (n : Int) (w : World) (h : 256 < n) : Calls Tryz.prog 158 #[.int .i64 n] w (fJ 256 w) := by
 have hm : ∀ wx : World, (Instr.makeSlice 28 (.int .i64 16384) (.int .i64 16384)).run Tryz.prog wx = _ := fun wx => run_make_row' (P := Tryz.prog) 28 5 (.int .u8 0) 1 Tryz.underlying28 Tryz.info5 rfl .i64 .i64 16384 (by omega) (by omega) wx
 have fin := made_of 256 (by omega) w
 go_enter Tryz.func158, Tryz.ntmps158
 go_wp2
 go_ret
 exact fin
theorem new_any (n : Int) (w : World) : Calls Tryz.prog 158 #[.int .i64 n] w (fJ (min (max n 0) 256).toNat w) := by
 rcases (show n < 0 ∨ 256 < n ∨ (0 ≤ n ∧ n ≤ 256) from by omega) with h | h | ⟨h, h'⟩
 ·rw [show (min (max n 0) 256).toNat = 0 from by omega]; exact new_low n w h
 ·rw [show (min (max n 0) 256).toNat = 256 from by omega]; exact new_high n w h
 ·obtain ⟨k, rfl⟩ := Int.eq_ofNat_of_zero_le h
  rw [show (min (max (k : Int) 0) 256).toNat = k from by omega]; exact new_mid k w (by omega)
def iu (xs : List UInt8) (w : World) (e : Ending) (w' : World) : Prop := ∃ g, e = .returned (.tuple #[.slice (some ⟨g, 0, none⟩) xs.length xs.length, .int .i64 0]) ∧ Blk w' g 5 (bytes xs) ∧ w.heap.size ≤ g ∧ Keep Nob w w'
theorem load_yes (p r at' n : Nat) (xs : List UInt8) (w : World) (h : eS w p r xs) (h1 : at' + n ≤ xs.length) :
  Calls Tryz.prog 65 #[.pointer (some ⟨p, 0, none⟩), .int .i64 at', .int .i64 n] w (iu ((xs.drop at').take n) w) := by
 have hc := h.cell
 have hl := h.len
 have hn : (n : Int) ≤ (xs.length : Int) - (at' : Int) := by omega
 have ha : at' ≤ xs.length := by omega
 have fin : ∀ w1 w2 : World, Keep Nob w w1 → w1.heap.size = w.heap.size + 1 → Blk w2 w.heap.size 5 (splice (List.replicate n (Value.int .u8 0)) 0 ((((bytes xs).drop at').take (xs.length - at')).take n)) → Keep (· = w.heap.size) w1 w2 →
   iu ((xs.drop at').take n) w (.returned (.tuple #[.slice (some ⟨w.heap.size, 0, none⟩) n n, .int .i64 0])) w2 := by
  intro w1 w2 k1 hs b2 k2
  have e : ((xs.drop at').take n).length = n := by simp; omega
  refine ⟨w.heap.size, by rw [e], ?_, Nat.le_refl _, k1.trans k2 (fun k hk e => by omega)⟩
  have e2 : splice (List.replicate n (Value.int .u8 0)) 0 ((((bytes xs).drop at').take (xs.length - at')).take n) = bytes ((xs.drop at').take n) := by
   rw [List.take_take, Nat.min_eq_left (by omega)]
   have : (((bytes xs).drop at').take n).length = n := by simp; omega
   rw [splice, this]
   simp [eI, ip]
  rw [e2] at b2
  exact b2
 go_enter Tryz.func65, Tryz.ntmps65
 go_wp2_with (first | (go_at_call 130; refine (has_yes _ _ _ _ _ _ _ hl hc (by omega)).mono ?_; rintro e w' ⟨rfl, rfl⟩) | (refine bu rfl _ _ 28 rfl 5 (.int .u8 0) 1 Tryz.underlying28 Tryz.info5 rfl .i64 .i64 n _ rfl rfl rfl (by omega) (by omega) ?_; intro w1 hb1 hk1 hs1; have hm1 := h.keep hk1 (fun f => f) (fun f => f); have hc1 := hm1.cell) | (refine gf rfl 28 _ _ rfl 5 1 Tryz.underlying28 Tryz.size5 _ _ _ at' .i64 rfl rfl ha ?_; intro A' hA'; have hR : ae w1 A' (xs.length - at') (((bytes xs).drop at').take (xs.length - at')) := ae.of_blk (off := at') hm1.row (fun h0 => by rw [hA' (by omega)]; simp [cR]) (by simp; omega)) | (refine wpList_cp rfl _ _ 28 28 rfl 5 Tryz.underlying28 Tryz.size5 _ _ _ _ _ _ rfl rfl w.heap.size 0 _ 5 hb1 _ hR (fun _ => rfl) (by simp) (fun v hv => dX _ v (List.mem_of_mem_drop (List.mem_of_mem_take hv))) ?_; intro w2 hb2 hk2 hs2))
 go_ret2
 exact fin w1 w2 hk1 hs1 hb2 hk2
def Stored (p r at' : Nat) (xs bs : List UInt8) (w : World) (e : Ending) (w' : World) : Prop := e = .returned (.int .i64 0) ∧ eS w' p r (splice xs at' bs) ∧ Keep (· = r) w w' ∧ w'.heap.size = w.heap.size
theorem aX (xs bs : List UInt8) (at' : Nat) (h : at' + bs.length ≤ xs.length) : (splice xs at' bs).length = xs.length := length_splice xs at' bs h
theorem store_yes (p r at' n cap : Nat) (A : Option Addr) (xs bs : List UInt8) (w : World) (h : eS w p r xs) (hn : bs.length = n) (hb : ae w A n (bytes bs)) (h1 : at' + n ≤ xs.length) :
  Calls Tryz.prog 172 #[.pointer (some ⟨p, 0, none⟩), .int .i64 at', .slice A n cap] w (Stored p r at' xs bs w) := by
 have hc := h.cell
 have hl := h.len
 have hn' : (n : Int) ≤ (xs.length : Int) - (at' : Int) := by omega
 have ha : at' ≤ xs.length := by omega
 have fin : ∀ w2 : World, w2.heap.size = w.heap.size → Blk w2 r 5 (splice (bytes xs) at' ((bytes bs).take (xs.length - at'))) → Keep (· = r) w w2 → Stored p r at' xs bs w (.returned (.int .i64 0)) w2 := by
  intro w2 hs b2 k2
  have e : (bytes bs).take (xs.length - at') = bytes bs := List.take_of_length_le (by simp; omega)
  rw [e, ev] at b2
  have e2 := aX xs bs at' (by omega)
  have hp := h.obj.keep k2 h.ne_
  exact ⟨rfl, ⟨by rw [e2]; exact hp, b2, by rw [e2]; exact hl⟩, k2, hs⟩
 have HN := aa hn
 clear hn
 go_enter Tryz.func172, Tryz.ntmps172
 go_wp2_with (first | (go_at_call 130; refine (has_yes _ _ _ _ _ _ _ hl hc (by omega)).mono ?_; rintro e w' ⟨rfl, rfl⟩) | (refine gf rfl 28 _ _ rfl 5 1 Tryz.underlying28 Tryz.size5 _ _ _ at' .i64 rfl rfl ha ?_; intro A' hA'; have hA2 : 0 < xs.length - at' → A' = some ⟨r, at', none⟩ := fun h0 => by rw [hA' (by omega)]; simp [cR]) | (refine wpList_cp rfl _ _ 28 28 rfl 5 Tryz.underlying28 Tryz.size5 _ _ _ _ _ _ rfl rfl r at' _ 5 h.row _ hb hA2 (by simp; omega) (dX _) ?_; intro w2 hb2 hk2 hs2))
 go_ret
 exact fin w2 hs2 hb2 hk2
theorem size_any (p r : Nat) (xs : List UInt8) (w : World) (h : eS w p r xs) :
  Calls Tryz.prog 320 #[.pointer (some ⟨p, 0, none⟩)] w fun e w' => e = .returned (.int .i64 xs.length) ∧ w = w' := by
 have hc := h.cell
 go_enter Tryz.func320, Tryz.ntmps320
 go_wp2
 go_ret
 exact ⟨rfl, rfl⟩
end Go.Proofs.YtgcikpgcoemfnaaGreat
namespace Go.Proofs.YtgcikpgcoemfnaaGreat
open Go.RowKit
theorem new_is (n : Int) (k : Nat) (hk : (min (max n 0) 256).toNat = k) (w : World) : Calls Tryz.prog 158 #[.int .i64 n] w (fJ k w) := by
 subst hk
 exact new_any n w
end Go.Proofs.YtgcikpgcoemfnaaGreat
namespace Go.Proofs.YtgcikpgcoemfnaaGreat
open Go.RowKit
namespace Ref
structure IsNames (w : World) (q : Nat) (A : Option Addr) (cap : Nat) (L : List Pl) : Prop where
 obj : Blk w q 381 [.slice A L.length cap]
 row : Vec w 378 2 A L.length cap (flat L)
 pl : dV 2 L
section
variable {w w' : World} {q : Nat} {A : Option Addr} {cap : Nat} {L : List Pl}
theorem IsNames.head (h : IsNames w q A cap L) : w.cell? ⟨q, 0, none⟩ = some (.slice A L.length cap) := h.obj.cell 0
theorem IsNames.keep {M : Nat → Prop} (h : IsNames w q A cap L) (k : Keep M w w') (hq : ¬ M q) (hA : ∀ g, Own A g → ¬ M g) : IsNames w' q A cap L := ⟨h.obj.keep k hq, h.row.keep k hA, h.pl⟩
theorem IsNames.nob (h : IsNames w q A cap L) (k : Keep Nob w w') : IsNames w' q A cap L := h.keep k (fun f => f) (fun _ _ f => f)
theorem IsNames.ne_ (h : IsNames w q A cap L) : ¬ Own A q := fun ho => by
 obtain ⟨cur, hb⟩ := h.row.blk ho
 exact h.obj.ne_ hb (by decide) rfl
theorem IsNames.at_ (h : IsNames w q A cap L) {i : Nat} {x : Pl} (hx : L[i]? = some x) : ∃ g, A = some ⟨g, 0, none⟩ := by
 obtain ⟨g, _, rfl, _⟩ := h.row.at_ (by have := aP hx; omega)
 exact ⟨g, rfl⟩
theorem IsNames.cells {g : Nat} (h : IsNames w q (some ⟨g, 0, none⟩) cap L) {i : Nat} {x : Pl} (hx : L[i]? = some x) : w.cell? ⟨g, i * 2, none⟩ = some (.int .i64 x.gen) ∧ w.cell? ⟨g, i * 2 + 1, none⟩ = some (.bool x.on) ∧ ∀ j, w.frozen? ⟨g, j, none⟩ = false := by
 have hi := aP hx
 obtain ⟨g', cur, he, hb, hn, hc, ht⟩ := h.row.at_ (by omega)
 simp only [Option.some.injEq, Addr.mk.injEq, and_true] at he
 subst he
 have e0 := h.pl.get (i := i) (j := 0) (by decide) hx
 have e1 := h.pl.get (i := i) (j := 1) (by decide) hx
 rw [← ht, List.getElem?_take, if_pos (by omega)] at e0 e1
 exact ⟨by rw [hb.cell]; exact e0, by rw [hb.cell]; exact e1, fun j => hb.frozen j⟩
theorem IsNames.wr {g : Nat} (h : IsNames w q (some ⟨g, 0, none⟩) cap L) {i : Nat} {x : Pl} (hx : L[i]? = some x) (j : Nat) (u : Value) (x' : Pl) (hj : j < 2) (hu : x.cells.set j u = x'.cells) (h2 : x'.gen ≤ 1000001) :
  IsNames (w.setCell ⟨g, i * 2 + j, none⟩ u) q (some ⟨g, 0, none⟩) cap (L.set i x') ∧ Keep (Own (some ⟨g, 0, none⟩)) w (w.setCell ⟨g, i * 2 + j, none⟩ u) := by
 have k : Keep (Own (some ⟨g, 0, none⟩)) w (w.setCell ⟨g, i * 2 + j, none⟩ u) := (Keep.refl _ w).setCell _ u (fun _ => ⟨_, rfl, rfl⟩)
 have h1 := h.pl.each x (bE hx)
 have hl : x'.v.length + 2 = 2 := by
  have := congrArg List.length hu
  simp [Pl.cells] at this
  omega
 refine ⟨⟨by rw [List.length_set]; exact h.obj.keep k h.ne_, ?_, h.pl.set i x' hl h2⟩, k⟩
 have hb := h.row.setCell (i * 2 + j) u
 rw [h.pl.set_cells hj hx u hu] at hb
 rw [List.length_set]
 exact hb
end
theorem has_yes {q i : Nat} {A : Option Addr} {cap : Nat} {a : Int} {L : List Pl} {x : Pl} {w : World} (h : IsNames w q A cap L) (hx : L[i]? = some x) (ho : x.on = true) (ha : a = i + 256 * (x.gen : Int)) :
  Calls Tryz.prog 283 #[.pointer (some ⟨q, 0, none⟩), .int .i64 a] w fun e w' => e = .returned (.bool true) ∧ w = w' := by
 obtain ⟨g, rfl⟩ := h.at_ hx
 have hc := h.head
 obtain ⟨c0, c1, _⟩ := h.cells hx
 rw [ho] at c1
 have hg := h.pl.gen x (bE hx)
 have hi := aP hx
 have hl := h.pl.len
 have hm : a % 256 = i := by omega
 have hs : a / 256 = x.gen := by omega
 have h0 : 0 ≤ a := by omega
 have h1 : a ≤ 1000000000 := by omega
 clear ha
 go_enter Tryz.func283, Tryz.ntmps283
 go_wp2
 go_ret
 exact ⟨rfl, rfl⟩
theorem has_no {q : Nat} {A : Option Addr} {cap : Nat} {a : Int} {L : List Pl} {w : World} (h : IsNames w q A cap L) (hno : ∀ (i : Nat) (q : Pl), L[i]? = some q → q.on = true → a ≠ i + 256 * (q.gen : Int)) :
  Calls Tryz.prog 283 #[.pointer (some ⟨q, 0, none⟩), .int .i64 a] w fun e w' => e = .returned (.bool false) ∧ w = w' := by
 have hc := h.head
 have hl := h.pl.len
 by_cases h0 : a < 0
 ·clear hno
  go_enter Tryz.func283, Tryz.ntmps283
  go_wp2
  go_ret
  exact ⟨rfl, rfl⟩
 ·obtain ⟨k, hk⟩ : ∃ k : Nat, a % 256 = k := ⟨(a % 256).toNat, by omega⟩
  by_cases hkl : k < L.length
  ·have hx : L[k]? = some L[k] := List.getElem?_eq_getElem hkl
   generalize L[k] = x at hx
   obtain ⟨g, rfl⟩ := h.at_ hx
   obtain ⟨c0, c1, _⟩ := h.cells hx
   have hn := hno k x hx
   clear hno
   cases hb : x.on with
   | false =>
    rw [hb] at c1
    clear hn
    go_enter Tryz.func283, Tryz.ntmps283
    go_wp2
    go_ret
    exact ⟨rfl, rfl⟩
   | true =>
    rw [hb] at c1
    have hne : ((x.gen : Int) == a / 256) = false := by rw [beq_eq_false_iff_ne]; intro e; exact hn hb (by omega)
    have Hne := aa hne
    clear hn hne
    go_enter Tryz.func283, Tryz.ntmps283
    go_wp2
    go_ret
    exact ⟨congrArg (fun b => Ending.returned (Value.bool b)) Hne.out, rfl⟩
  ·clear hno
   go_enter Tryz.func283, Tryz.ntmps283
   go_wp2
   go_ret
   exact ⟨rfl, rfl⟩
theorem add_yes {q i : Nat} {A : Option Addr} {cap : Nat} {L : List Pl} {x : Pl} {w : World} (h : IsNames w q A cap L) (hx : L[i]? = some x) (hf : x.free = true) (hb : ∀ (j : Nat) (y : Pl), j < i → L[j]? = some y → y.free = false) :
  Calls Tryz.prog 284 #[.pointer (some ⟨q, 0, none⟩)] w fun e w' => e = .returned (.tuple #[.int .i64 (i + 256 * (x.gen : Int)), .bool true]) ∧ IsNames w' q A cap (L.set i ⟨x.gen, true, []⟩) ∧ Keep (Own A) w w' ∧ w'.heap.size = w.heap.size := by
 obtain ⟨g, rfl⟩ := h.at_ hx
 have hc := h.head
 have hl := h.pl.len
 have hi := aP hx
 have hg := h.pl.gen x (bE hx)
 have hnq : q ≠ g := fun e => h.ne_ ⟨_, rfl, e.symm⟩
 obtain ⟨c0, c1, hfr⟩ := h.cells hx
 have hfr1 := hfr (i * 2 + 1)
 clear hfr
 have hv : x.v = [] := List.eq_nil_of_length_eq_zero (by have := h.pl.each x (bE hx); omega)
 have hon : x.on = false := by
  unfold Pl.free at hf
  simp at hf
  exact hf.1
 have hgl : x.gen ≤ 1000000 := by
  unfold Pl.free at hf
  simp at hf
  exact hf.2
 rw [hon] at c1
 have Fin := aa (h.wr hx 1 (.bool true) ⟨x.gen, true, []⟩ (by decide) (by simp [Pl.cells, hv]) hg)
 have Hb := aa hb
 clear hb hf
 go_enter Tryz.func284, Tryz.ntmps284
 go_wp2
 go_loop [4] (fun s => ∃ k : Nat, k ≤ i ∧ s = .int .i64 k) (fun s => i - (intOf s).toNat)
 case atStart => exact ⟨0, Nat.zero_le _, rfl⟩
 case round =>
  obtain ⟨k, hk, rfl⟩ := hrel
  by_cases hlt : k < i
  ·obtain ⟨y, hy⟩ : ∃ y, L[k]? = some y := ⟨_, List.getElem?_eq_getElem (Nat.lt_trans hlt hi)⟩
   have hyf := Hb.out k y hlt hy
   obtain ⟨d0, d1, _⟩ := h.cells hy
   unfold Pl.free at hyf
   clear Hb
   cases hyo : y.on with
   | true =>
    rw [hyo] at d1
    clear hyf
    go_wp2
    go_round
    case rel => exact ⟨k + 1, by omega, by go_num⟩
    case measure => simp [intOf]; omega
   | false =>
    rw [hyo] at d1 hyf
    simp at hyf
    have hd : ¬ ((y.gen : Int) ≤ 1000000) := by omega
    clear hyf
    go_wp2
    go_round
    case rel => exact ⟨k + 1, by omega, by go_num⟩
    case measure => simp [intOf]; omega
  ·obtain rfl : k = i := by omega
   go_wp2
   go_ret2
   exact ⟨rfl, Fin.out.1, Fin.out.2, iY _ _ _⟩
theorem infoint : (Tryz.prog.info? 3).map (fun i => (i.zero, i.size, i.bytes)) = some (some (.int .i64 0), 1, 8) := by kernel_rfl
theorem all_new {q : Nat} {A : Option Addr} {cap : Nat} {L : List Pl} {w : World} (h : IsNames w q A cap L) :
  Calls Tryz.prog 268 #[.pointer (some ⟨q, 0, none⟩)] w fun e w' => ∃ B c, e = .returned (.slice B (names L L.length).length c) ∧ Vec w' 3 1 B (names L L.length).length c (ab (names L L.length)) ∧ Keep Nob w w' ∧ ∀ g, Own B g → w.heap.size ≤ g := by
 have hc := h.head
 have hl := h.pl.len
 go_enter Tryz.func268, Tryz.ntmps268
 go_wp2
 go_loopw [3, 4] (fun s t wx => ∃ (k : Nat) (B : Option Addr) (c : Nat), k ≤ L.length ∧ t = .int .i64 k ∧ s = .slice B (names L k).length c ∧ Vec wx 3 1 B (names L k).length c (ab (names L k)) ∧ Keep Nob w wx ∧ ∀ g, Own B g → w.heap.size ≤ g) (fun _ t _ => L.length - (intOf t).toNat)
 case atStart => exact ⟨0, none, 0, Nat.zero_le _, rfl, rfl, Vec.nil _ _ _, Keep.refl _ _, fun g ⟨a, ha, _⟩ => by cases ha⟩
 case round =>
  obtain ⟨k, B, c, hk, rfl, rfl, hv, hK, hA⟩ := hrel
  have hx := h.nob hK
  have hc2 := hx.head
  by_cases hlt : k < L.length
  ·obtain ⟨x, hy⟩ : ∃ x, L[k]? = some x := ⟨_, List.getElem?_eq_getElem hlt⟩
   obtain ⟨g, rfl⟩ := h.at_ hy
   obtain ⟨d0, d1, _⟩ := hx.cells hy
   have hle := km L k
   have hgx := h.pl.gen x (bE hy)
   cases hb : x.on with
   | false =>
    rw [hb] at d1
    have he := jg hy hb
    go_wp2
    go_roundw
    case rel => exact ⟨k + 1, B, c, by omega, by go_num, by rw [he], by rw [he]; exact hv, hK, hA⟩
    case measure => simp [intOf]; omega
   | true =>
    rw [hb] at d1
    have he := kD hy hb
    have hel : (names L (k + 1)).length = (names L k).length + 1 := by rw [he, List.length_append]; rfl
    go_wp2_with (at_builtin; go_loud (refine aN rfl _ _ 42 rfl 3 1 8 (.int .i64 0) Tryz.underlying42 infoint rfl (by decide) B (names L k).length c (ab (names L k)) rfl (hv.keep ((Keep.refl Nob wr).alloc _) (fun _ _ f => f)) (some ⟨wr.heap.size, 0, none⟩) 1 1 [.int .i64 ((k : Int) + 256 * (x.gen : Int))] rfl _ (Nat.mul_one _) (aj (Blk.new wr 3 [.int .i64 ((k : Int) + 256 * (x.gen : Int))]) rfl) (by simp [Value.oneCell']) (by unfold maxLen; omega) (by omega) ?_); intro B' c' w2 hv2 hk2 ho2)
    go_roundw
    case rel => exact ⟨k + 1, B', c', by omega, by go_num, by rw [hel], by rw [hel, he, fh]; exact hv2, (hK.alloc _).trans hk2 (fun b hb ho => by have := hA b ho; omega), fun g hg => by
     rcases ho2 g hg with h1 | h1
     ·exact hA g h1
     ·rw [h1]; have := hK.size; simp; omega⟩
    case measure => simp [intOf]; omega
  ·obtain rfl : k = L.length := by omega
   go_wp2
   go_ret
   exact ⟨B, c, rfl, hv, hK, hA⟩
theorem info378 : (Tryz.prog.info? 378).map (fun i => (i.zero, i.size, i.bytes)) = some (some (.agg #[.int .i64 0, .bool false]), 2, 16) := by kernel_rfl
theorem flat_rep (k : Nat) : flat (List.replicate k ⟨1, false, []⟩) ++ [.int .i64 1, .bool false] = flat (List.replicate (k + 1) ⟨1, false, []⟩) := by
 unfold flat
 rw [List.replicate_succ', List.map_append, List.flatten_append]
 simp [Pl.cells]
theorem ke (k : Nat) (hk : k ≤ 256) : dV 2 (List.replicate k ⟨1, false, []⟩) := by
 refine ⟨fun q hq => ?_, fun q hq => ?_, by simpa using hk⟩ <;> (rw [List.eq_of_mem_replicate hq]; simp)
def fJ (k : Nat) (w : World) (e : Ending) (w' : World) : Prop := ∃ q A cap, e = .returned (.pointer (some ⟨q, 0, none⟩)) ∧ IsNames w' q A cap (List.replicate k ⟨1, false, []⟩) ∧ w.heap.size ≤ q ∧ (∀ g, Own A g → w.heap.size ≤ g) ∧ Keep Nob w w'
theorem new_is (n : Int) (k : Nat) (hk : (min (max n 0) 256).toNat = k) (w : World) : Calls Tryz.prog 266 #[.int .i64 n] w (fJ k w) := by
 have hk256 : k ≤ 256 := by omega
 have Hk := aa hk
 clear hk
 go_enter Tryz.func266, Tryz.ntmps266
 go_wp2
 go_loopw [4] (fun s wx => ∃ (j : Nat) (A : Option Addr) (cap : Nat), j ≤ k ∧ s = .int .i64 j ∧ IsNames wx w.heap.size A cap (List.replicate j ⟨1, false, []⟩) ∧ Keep Nob w wx ∧ ∀ g, Own A g → w.heap.size ≤ g) (fun s _ => k - (intOf s).toNat)
 case atStart => exact ⟨0, none, 0, Nat.zero_le _, rfl, ⟨Blk.new w 381 [.slice none 0 0], Vec.nil _ _ _, ke 0 (by decide)⟩, (Keep.refl _ _).alloc _, fun g ⟨a, ha, _⟩ => by cases ha⟩
 case round =>
  obtain ⟨j, A, cap, hj, rfl, ht, hK, hA⟩ := hrel
  have hh := ht.head
  rw [List.length_replicate] at hh
  by_cases hlt : j < k
  ·have t1 : (j : Int) < n := by have := Hk.out; omega
   have t2 : (j : Int) < 256 := by omega
   have hrow := ht.row
   rw [List.length_replicate] at hrow
   have hob := ht.obj
   go_wp2_with (at_builtin; go_loud (refine aN rfl _ _ 379 rfl 378 2 16 (.agg #[.int .i64 0, .bool false]) Tryz.underlying379 info378 rfl (by decide) A j cap (flat (List.replicate j ⟨1, false, []⟩)) rfl (hrow.keep ((Keep.refl Nob wr).alloc _) (fun _ _ f => f)) (some ⟨wr.heap.size, 0, none⟩) 1 1 [.int .i64 1, .bool false] rfl 2 rfl (aj (Blk.new wr 378 [.int .i64 1, .bool false]) rfl) (by simp [Value.oneCell']) (by unfold maxLen; omega) (by omega) ?_); intro A' c' w2 hv2 hk2 ho2; have k3 := ((Keep.refl Nob wr).alloc (.cells #[.int .i64 1, .bool false] 378)); have ob2 := (hob.keep k3 (fun f => f)).keep hk2 ht.ne_; have oc := ob2.cell 0; have of := ob2.frozen 0)
   go_roundw
   case rel =>
    rw [flat_rep] at hv2
    have ob3 := ob2.setCell 0 (.slice A' (j + 1) c')
    refine ⟨j + 1, A', c', by omega, by go_num, ⟨?_, ?_, ke _ (by omega)⟩, ?_, fun g hg => ?_⟩
    ·rw [List.length_replicate]; exact ob3
    ·rw [List.length_replicate]
     exact hv2.keep ((Keep.refl (· = w.heap.size) w2).setCell _ _ (fun _ => rfl)) (fun g hg e => by
      obtain ⟨cur, hb⟩ := hv2.blk hg
      exact hb.ne_ ob2 (by decide) e)
    ·exact ((hK.trans k3 (fun _ _ f => f)).trans hk2 (fun b hb ho => by have := hA b ho; omega)).setCell _ _ (fun hlt => absurd hlt (Nat.lt_irrefl _))
    ·rcases ho2 g hg with h1 | h1
     ·exact hA g h1
     ·rw [h1]; have := hK.size; simp; omega
   case measure => simp [intOf]; omega
  ·obtain rfl : j = k := by omega
   rcases (show n ≤ (j : Int) ∨ ((j : Int) < n ∧ 256 ≤ j) from by have := Hk.out; omega) with t1 | ⟨t1, t2⟩
   ·go_wp2
    go_ret
    exact ⟨_, A, cap, rfl, ht, Nat.le_refl _, hA, hK⟩
   ·go_wp2
    go_ret
    exact ⟨_, A, cap, rfl, ht, Nat.le_refl _, hA, hK⟩
end Ref
end Go.Proofs.YtgcikpgcoemfnaaGreat
