/- Texts TabC, Mem, Mem1, packed. -/
import Derived.Test.YtngchjejmnfanaaGreatRows
import Derived.Deep.QuietTactic
import Derived.BigQuiet
import Derived.WalkLawsBesides
import Derived.Outline
import Derived.Laws.ResultCell
import Derived.Test.YtngchjejmnfanaaGreatPu0
namespace Go.Proofs.YtngchjejmnfanaaGreat.TabC
open Go.RowKit
set_option linter.unusedVariables false
set_option linter.unusedSimpArgs false
abbrev Tab (w : World) (p r : Nat) (L : List Pl) : Prop := IsTab 366 368 8 w p r L
theorem info368 : (Tryz.prog.info? 368).map (fun i => (i.zero, i.size, i.bytes)) = some (some (.agg #[.int .i64 0, .bool false, .int .i64 0, .int .i64 0, .int .i64 0, .int .i64 0, .int .i64 0, .int .i64 0]), 8, 64) := by kernel_rfl
theorem name_at (p r n i : Nat) (g : Int) (w : World) (hc : w.cell? ⟨p, 0, none⟩ = some (.slice (some ⟨r, 0, none⟩) n n)) (hg : w.cell? ⟨r, i * 8, none⟩ = some (.int .i64 g)) (hi : i < n) (hg0 : 0 ≤ g) (hg1 : g ≤ 1000001) (hn : n ≤ 256) :
    Calls Tryz.prog 264 #[.pointer (some ⟨p, 0, none⟩), .int .i64 i] w fun e w' => e = .returned (.int .i64 (i + 256 * g)) ∧ w = w' := by
  go_enter Tryz.func264, Tryz.ntmps264
  go_wp2
  go_ret
  exact ⟨rfl, rfl⟩
theorem name_is {p r i : Nat} {L : List Pl} {q : Pl} {w : World} (h : Tab w p r L) (hq : L[i]? = some q) :
    Calls Tryz.prog 264 #[.pointer (some ⟨p, 0, none⟩), .int .i64 i] w fun e w' => e = .returned (.int .i64 (i + 256 * (q.gen : Int))) ∧ w = w' := by
  have := h.pl.gen q (get_mem hq)
  exact name_at p r L.length i q.gen w h.head (h.gen_ hq) (get_lt hq) (by omega) (by omega) h.pl.len
theorem free_at (p r n i : Nat) (g : Int) (b : Bool) (w : World) (hc : w.cell? ⟨p, 0, none⟩ = some (.slice (some ⟨r, 0, none⟩) n n)) (hg : w.cell? ⟨r, i * 8, none⟩ = some (.int .i64 g)) (hb : w.cell? ⟨r, i * 8 + 1, none⟩ = some (.bool b)) (hi : i < n) :
    Calls Tryz.prog 298 #[.pointer (some ⟨p, 0, none⟩), .int .i64 i] w fun e w' => e = .returned (.bool (!b && decide (g ≤ 1000000))) ∧ w = w' := by
  cases b
  all_goals
    go_enter Tryz.func298, Tryz.ntmps298
    go_wp2
    go_ret
    exact ⟨by simp, rfl⟩
theorem free_is {p r i : Nat} {L : List Pl} {q : Pl} {w : World} (h : Tab w p r L) (hq : L[i]? = some q) (b : Bool) (hb : q.free = b) :
    Calls Tryz.prog 298 #[.pointer (some ⟨p, 0, none⟩), .int .i64 i] w fun e w' => e = .returned (.bool b) ∧ w = w' := by
  subst hb
  have e : q.free = (!q.on && decide ((q.gen : Int) ≤ 1000000)) := by unfold Pl.free; congr 1; simp; omega
  rw [e]
  exact free_at p r L.length i q.gen q.on w h.head (h.gen_ hq) (h.on_ hq) (get_lt hq)
set_option maxHeartbeats 1000000 in
theorem find_yes {p r i : Nat} {a : Int} {L : List Pl} {q : Pl} {w : World} (h : Tab w p r L) (hq : L[i]? = some q) (ho : q.on = true) (ha : a = i + 256 * (q.gen : Int)) :
    Calls Tryz.prog 270 #[.pointer (some ⟨p, 0, none⟩), .int .i64 a] w fun e w' => e = .returned (.tuple #[.int .i64 i, .bool true]) ∧ w = w' := by
  have hc := h.head
  have h1 := h.on_ hq
  have hg := h.pl.gen q (get_mem hq)
  have hi := get_lt hq
  have hl := h.pl.len
  rw [ho] at h1
  have hm : a % 256 = i := by omega
  have hm2 : a.tmod 256 = i := by rw [Int.tmod_eq_emod_of_nonneg (by omega)]; exact hm
  have hna := Lib.hid ha
  have h0 : 0 ≤ a := by omega
  clear ha
  go_enter Tryz.func270, Tryz.ntmps270
  go_wp2_with fail
  refine (name_is h hq).mono ?_; rintro e w' ⟨rfl, rfl⟩
  rw [← hna.out]
  go_wp2
  go_ret2
  exact ⟨rfl, rfl⟩
set_option maxHeartbeats 1000000 in
theorem find_no {p r : Nat} {a : Int} {L : List Pl} {w : World} (h : Tab w p r L) (hno : ∀ (i : Nat) (q : Pl), L[i]? = some q → q.on = true → a ≠ i + 256 * (q.gen : Int)) :
    Calls Tryz.prog 270 #[.pointer (some ⟨p, 0, none⟩), .int .i64 a] w fun e w' => e = .returned (.tuple #[.int .i64 0, .bool false]) ∧ w = w' := by
  have hc := h.head
  have hl := h.pl.len
  by_cases h0 : a < 0
  · go_enter Tryz.func270, Tryz.ntmps270
    go_wp2
    go_ret2
    exact ⟨rfl, rfl⟩
  · obtain ⟨k, hk⟩ : ∃ k : Nat, a % 256 = k := ⟨(a % 256).toNat, by omega⟩
    have hm2 : a.tmod 256 = k := by rw [Int.tmod_eq_emod_of_nonneg (by omega)]; exact hk
    by_cases hkl : k < L.length
    · have hq : L[k]? = some L[k] := List.getElem?_eq_getElem hkl
      generalize L[k] = q at hq
      have h1 := h.on_ hq
      have hn := hno k q hq
      clear hno hk
      cases hb : q.on with
      | false =>
        rw [hb] at h1
        clear hn
        go_enter Tryz.func270, Tryz.ntmps270
        go_wp2
        go_ret2
        exact ⟨rfl, rfl⟩
      | true =>
        rw [hb] at h1
        have hne : ((k : Int) + 256 * (q.gen : Int) == a) = false := by rw [beq_eq_false_iff_ne]; exact fun e => hn hb e.symm
        have hne2 : ((k : Int) + 256 * (q.gen : Int) != a) = true := by rw [bne, hne]; rfl
        clear hn
        go_enter Tryz.func270, Tryz.ntmps270
        go_wp2_with fail
        refine (name_is h hq).mono ?_; rintro e w' ⟨rfl, rfl⟩
        generalize (k : Int) + 256 * (q.gen : Int) = n at hne hne2
        go_wp2
        go_ret2
        exact ⟨rfl, rfl⟩
    · clear hno hk
      go_enter Tryz.func270, Tryz.ntmps270
      go_wp2
      go_ret2
      exact ⟨rfl, rfl⟩
def Made (k : Nat) (w : World) (e : Ending) (w' : World) : Prop := ∃ p r, e = .returned (.pointer (some ⟨p, 0, none⟩)) ∧ Tab w' p r (List.replicate k ⟨1, false, [.int .i64 0, .int .i64 0, .int .i64 0, .int .i64 0, .int .i64 0, .int .i64 0]⟩) ∧ w.heap.size ≤ p ∧ w.heap.size ≤ r ∧ Keep Nob w w'
set_option maxHeartbeats 2000000 in
theorem new_is (n : Int) (k : Nat) (hk : (min (max n 0) 256).toNat = k) (w : World) : Calls Tryz.prog 188 #[.int .i64 n] w (Made k w) := by
  have hk256 : k ≤ 256 := by omega
  have fin : ∀ w1 : World, Blk w1 w.heap.size 368 (List.replicate k (Value.int .i64 0 :: Value.bool false :: [.int .i64 0, .int .i64 0, .int .i64 0, .int .i64 0, .int .i64 0, .int .i64 0])).flatten → Keep Nob w w1 → w1.heap.size = w.heap.size + 1 →
      Tab (w1.alloc (.cells #[.slice (some ⟨w.heap.size, 0, none⟩) k k] 366)) (w.heap.size + 1) w.heap.size (fresh [.int .i64 0, .int .i64 0, .int .i64 0, .int .i64 0, .int .i64 0, .int .i64 0] k 0) := by
    intro w1 hb hk1 hs
    refine ⟨?_, ?_, fresh_places _ _ _ _ (by decide) hk256, by decide⟩
    · have := Blk.new w1 366 [.slice (some ⟨w.heap.size, 0, none⟩) k k]
      rw [fresh_len]
      rw [hs] at this
      exact this
    · rw [fresh_none]
      exact hb.alloc _
  rcases (show n < 0 ∨ 256 < n ∨ (0 ≤ n ∧ n ≤ 256) from by omega) with h | h | ⟨h, h'⟩
  all_goals
    have Hk := Lib.hid hk
    clear hk
    go_enter Tryz.func188, Tryz.ntmps188
    go_wp2_with (refine wpList_mkN rfl _ _ 364 rfl 368 (.agg #[.int .i64 0, .bool false, .int .i64 0, .int .i64 0, .int .i64 0, .int .i64 0, .int .i64 0, .int .i64 0]) 64 Tryz.underlying364 info368 .i64 .i64 k _ (by have := Hk.out; omega) rfl rfl (by omega) (by omega) ?_; intro w1 hb1 hk1 hs1)
    have f1 := fin w1 hb1 hk1 hs1
    have K1 := hk1.alloc (.cells #[.slice (some ⟨w.heap.size, 0, none⟩) k k] 366)
    clear hs1 fin hb1
    go_loopw [17] (fun s wx => ∃ j : Nat, j ≤ k ∧ s = .int .i64 j ∧ Tab wx (w.heap.size + 1) w.heap.size (fresh [.int .i64 0, .int .i64 0, .int .i64 0, .int .i64 0, .int .i64 0, .int .i64 0] k j) ∧ Keep Nob w wx) (fun s _ => k - (intOf s).toNat)
    case atStart => exact ⟨0, Nat.zero_le _, rfl, f1, K1⟩
    case round =>
      obtain ⟨j, hj, rfl, ht, hK⟩ := hrel
      have hh := ht.head
      rw [fresh_len] at hh
      by_cases hlt : j < k
      · have hq := fresh_get [.int .i64 0, .int .i64 0, .int .i64 0, .int .i64 0, .int .i64 0, .int .i64 0] (j := j) hlt
        rw [if_neg (Nat.lt_irrefl j)] at hq
        have hg := ht.gen_ hq
        have hf := ht.row.frozen (j * 8)
        obtain ⟨t2, k2⟩ := ht.wr hq 0 (.int .i64 1) ⟨1, false, [.int .i64 0, .int .i64 0, .int .i64 0, .int .i64 0, .int .i64 0, .int .i64 0]⟩ (by decide) rfl (by decide)
        rw [fresh_set _ _ _ hlt] at t2
        go_wp2
        go_roundw
        case rel => exact ⟨j + 1, by omega, by go_num, t2, hK.trans k2 (fun b hb e => by omega)⟩
        case measure => simp [intOf]; omega
      · obtain rfl : j = k := by omega
        rw [fresh_all] at ht
        go_wp2
        go_ret
        exact ⟨_, _, rfl, ht, by omega, Nat.le_refl _, hK⟩
theorem infoint : (Tryz.prog.info? 3).map (fun i => (i.zero, i.size, i.bytes)) = some (some (.int .i64 0), 1, 8) := by kernel_rfl
theorem six_cells {p r i : Nat} {L : List Pl} {q : Pl} {w : World} (h : Tab w p r L) (hq : L[i]? = some q) : ∃ a b c d e f, q.v = [a, b, c, d, e, f] := by
  have := h.pl.each q (get_mem hq)
  exact by
    match hv : q.v, (show q.v.length = 6 by omega) with
    | [a, b, c, d, e, f], _ => exact ⟨a, b, c, d, e, f, rfl⟩
set_option maxHeartbeats 2000000 in
theorem add_yes {p r i : Nat} {L : List Pl} {q : Pl} {w : World} (c0 c1 c2 c3 c4 c5 : Int) (h : Tab w p r L) (hq : L[i]? = some q) (hf : q.free = true) (hb : ∀ (j : Nat) (q : Pl), j < i → L[j]? = some q → q.free = false) :
    Calls Tryz.prog 266 #[.pointer (some ⟨p, 0, none⟩), .agg #[.int .i64 c0, .int .i64 c1, .int .i64 c2, .int .i64 c3, .int .i64 c4, .int .i64 c5]] w fun e w' => e = .returned (.tuple #[.int .i64 (i + 256 * (q.gen : Int)), .bool true]) ∧ Tab w' p r (L.set i ⟨q.gen, true, [.int .i64 c0, .int .i64 c1, .int .i64 c2, .int .i64 c3, .int .i64 c4, .int .i64 c5]⟩) ∧ Keep (· = r) w w' := by
  have hi := get_lt hq
  have hl := h.pl.len
  obtain ⟨u0, u1, u2, u3, u4, u5, hu⟩ := six_cells h hq
  have hg := h.pl.gen q (get_mem hq)
  have hr := h.row.lt
  have Hb := Lib.hid hb
  clear hb
  go_enter Tryz.func266, Tryz.ntmps266
  go_wp2_with (refine wpList_box rfl 202 _ rfl _ rfl ?_; intro w1 hb1 hk1 hs1; have h0 := h.nob hk1; have hc := h0.head)
  have hon := h0.on_ hq
  have hv0 := h0.v_ hq (j := 0) (by rw [hu]; rfl)
  have hv1 := h0.v_ hq (j := 1) (by rw [hu]; rfl)
  have hv2 := h0.v_ hq (j := 2) (by rw [hu]; rfl)
  have hv3 := h0.v_ hq (j := 3) (by rw [hu]; rfl)
  have hv4 := h0.v_ hq (j := 4) (by rw [hu]; rfl)
  have hv5 := h0.v_ hq (j := 5) (by rw [hu]; rfl)
  have hf1 := h0.row.frozen (i * 8 + 1)
  have hf2 := h0.row.frozen (i * 8 + 2)
  have hf3 := h0.row.frozen (i * 8 + 3)
  have hf4 := h0.row.frozen (i * 8 + 4)
  have hf5 := h0.row.frozen (i * 8 + 5)
  have hf6 := h0.row.frozen (i * 8 + 6)
  have hf7 := h0.row.frozen (i * 8 + 7)
  have b0 : w1.cell? ⟨w.heap.size, 0, none⟩ = some (.int .i64 c0) := hb1.cell 0
  have b1 : w1.cell? ⟨w.heap.size, 1, none⟩ = some (.int .i64 c1) := hb1.cell 1
  have b2 : w1.cell? ⟨w.heap.size, 2, none⟩ = some (.int .i64 c2) := hb1.cell 2
  have b3 : w1.cell? ⟨w.heap.size, 3, none⟩ = some (.int .i64 c3) := hb1.cell 3
  have b4 : w1.cell? ⟨w.heap.size, 4, none⟩ = some (.int .i64 c4) := hb1.cell 4
  have b5 : w1.cell? ⟨w.heap.size, 5, none⟩ = some (.int .i64 c5) := hb1.cell 5
  have hne : r ≠ w.heap.size := by omega
  have hpr := h.ne_
  obtain ⟨f3, k3⟩ := h0.wr8add hq c0 c1 c2 c3 c4 c5 hu
  have hq3 : (L.set i ⟨q.gen, true, [.int .i64 c0, .int .i64 c1, .int .i64 c2, .int .i64 c3, .int .i64 c4, .int .i64 c5]⟩)[i]? = some ⟨q.gen, true, [.int .i64 c0, .int .i64 c1, .int .i64 c2, .int .i64 c3, .int .i64 c4, .int .i64 c5]⟩ := List.getElem?_set_self hi
  have K3 := Lib.hid (((hk1.mono (M' := (· = r)) (fun k hk e => e.elim)).trans k3 (fun k hk e => e)).drew)
  have F3 := Lib.hid (f3.nob (Keep.nobdrew _))
  clear k3 f3
  go_loop [12] (fun s => ∃ k : Nat, k ≤ i ∧ s = .int .i64 k) (fun s => i - (intOf s).toNat)
  case atStart => exact ⟨0, Nat.zero_le _, rfl⟩
  case round =>
    obtain ⟨k, hk, rfl⟩ := hrel
    by_cases hlt : k < i
    · obtain ⟨qk, hqk⟩ : ∃ qk, L[k]? = some qk := ⟨_, List.getElem?_eq_getElem (Nat.lt_trans hlt hi)⟩
      go_wp2_with fail
      refine (free_is h0 hqk false (Hb.out k qk hlt hqk)).mono ?_; rintro e w' ⟨rfl, rfl⟩
      go_wp2
      go_round
      case rel => exact ⟨k + 1, by omega, by go_num⟩
      case measure => simp [intOf]; omega
    · obtain rfl : k = i := by omega
      go_wp2_with fail
      refine (free_is h0 hq true hf).mono ?_; rintro e w' ⟨rfl, rfl⟩
      go_wp2_with fail
      go_region
      go_wp2_with fail
      refine (name_is F3.out hq3).mono ?_; rintro e w' ⟨rfl, rfl⟩
      go_wp2
      go_ret2
      exact ⟨rfl, F3.out, K3.out⟩
set_option maxHeartbeats 1000000 in
theorem add_no {p r : Nat} {L : List Pl} {w : World} (c0 c1 c2 c3 c4 c5 : Int) (h : Tab w p r L) (hb : ∀ (j : Nat) (q : Pl), L[j]? = some q → q.free = false) :
    Calls Tryz.prog 266 #[.pointer (some ⟨p, 0, none⟩), .agg #[.int .i64 c0, .int .i64 c1, .int .i64 c2, .int .i64 c3, .int .i64 c4, .int .i64 c5]] w fun e w' => e = .returned (.tuple #[.int .i64 0, .bool false]) ∧ Keep Nob w w' := by
  have k0 := (Keep.refl Nob w).alloc (.cells #[.int .i64 c0, .int .i64 c1, .int .i64 c2, .int .i64 c3, .int .i64 c4, .int .i64 c5] 202)
  have h0 := h.nob k0
  have hc := h0.head
  have hl := h.pl.len
  have Hb := Lib.hid hb
  clear hb
  go_enter Tryz.func266, Tryz.ntmps266
  go_wp2
  go_loop [12] (fun s => ∃ k : Nat, k ≤ L.length ∧ s = .int .i64 k) (fun s => L.length - (intOf s).toNat)
  case atStart => exact ⟨0, Nat.zero_le _, rfl⟩
  case round =>
    obtain ⟨k, hk, rfl⟩ := hrel
    by_cases hlt : k < L.length
    · obtain ⟨qk, hqk⟩ : ∃ qk, L[k]? = some qk := ⟨_, List.getElem?_eq_getElem hlt⟩
      go_wp2_with fail
      refine (free_is h0 hqk false (Hb.out k qk hqk)).mono ?_; rintro e w' ⟨rfl, rfl⟩
      go_wp2
      go_round
      case rel => exact ⟨k + 1, by omega, by go_num⟩
      case measure => simp [intOf]; omega
    · go_wp2
      go_ret2
      exact ⟨rfl, k0⟩
set_option maxHeartbeats 1000000 in
theorem get_yes {p r i : Nat} {a : Int} {L : List Pl} {q : Pl} {w : World} (c0 c1 c2 c3 c4 c5 : Int) (h : Tab w p r L) (hq : L[i]? = some q) (ho : q.on = true) (ha : a = i + 256 * (q.gen : Int)) (hu : q.v = [.int .i64 c0, .int .i64 c1, .int .i64 c2, .int .i64 c3, .int .i64 c4, .int .i64 c5]) :
    Calls Tryz.prog 265 #[.pointer (some ⟨p, 0, none⟩), .int .i64 a] w fun e w' => e = .returned (.tuple #[.agg #[.int .i64 c0, .int .i64 c1, .int .i64 c2, .int .i64 c3, .int .i64 c4, .int .i64 c5], .bool true]) ∧ Keep Nob w w' := by
  have hi := get_lt hq
  have hl := h.pl.len
  have Ha := Lib.hid ha
  clear ha
  have k0 := (Keep.refl Nob w).alloc (.cells #[.int .i64 0, .int .i64 0, .int .i64 0, .int .i64 0, .int .i64 0, .int .i64 0] 202)
  have h0 := h.nob k0
  have hc := h0.head
  have hv0 := h0.v_ hq (j := 0) (by rw [hu]; rfl)
  have hv1 := h0.v_ hq (j := 1) (by rw [hu]; rfl)
  have hv2 := h0.v_ hq (j := 2) (by rw [hu]; rfl)
  have hv3 := h0.v_ hq (j := 3) (by rw [hu]; rfl)
  have hv4 := h0.v_ hq (j := 4) (by rw [hu]; rfl)
  have hv5 := h0.v_ hq (j := 5) (by rw [hu]; rfl)
  clear hu
  go_enter Tryz.func265, Tryz.ntmps265
  go_wp2_with fail
  refine (find_yes h0 hq ho Ha.out).mono ?_; rintro e w' ⟨rfl, rfl⟩
  go_wp2
  (try simp only [Exit.inBlock, Exit.then])
  refine bodyPost_ret (v := .tuple #[.agg #[.int .i64 c0, .int .i64 c1, .int .i64 c2, .int .i64 c3, .int .i64 c4, .int .i64 c5], .bool true]) ?_ rfl ?_
  · rw [results_cell_tmp rfl]
    go_simp
  exact ⟨rfl, (Keep.refl Nob w).alloc _⟩
set_option maxHeartbeats 1000000 in
theorem get_no {p r : Nat} {a : Int} {L : List Pl} {w : World} (h : Tab w p r L) (hno : ∀ (i : Nat) (q : Pl), L[i]? = some q → q.on = true → a ≠ i + 256 * (q.gen : Int)) :
    Calls Tryz.prog 265 #[.pointer (some ⟨p, 0, none⟩), .int .i64 a] w fun e w' => e = .returned (.tuple #[.agg #[.int .i64 0, .int .i64 0, .int .i64 0, .int .i64 0, .int .i64 0, .int .i64 0], .bool false]) ∧ Keep Nob w w' := by
  have k0 := (Keep.refl Nob w).alloc (.cells #[.int .i64 0, .int .i64 0, .int .i64 0, .int .i64 0, .int .i64 0, .int .i64 0] 202)
  have h0 := h.nob k0
  go_enter Tryz.func265, Tryz.ntmps265
  go_wp2_with fail
  refine (find_no h0 hno).mono ?_; rintro e w' ⟨rfl, rfl⟩
  go_wp2
  (try simp only [Exit.inBlock, Exit.then])
  refine bodyPost_ret (v := .tuple #[.agg #[.int .i64 0, .int .i64 0, .int .i64 0, .int .i64 0, .int .i64 0, .int .i64 0], .bool false]) ?_ rfl ?_
  · rw [results_cell_tmp rfl]
    go_simp
  exact ⟨rfl, k0.alloc _⟩
end Go.Proofs.YtngchjejmnfanaaGreat.TabC
namespace Go.Proofs.YtngchjejmnfanaaGreat
open Go.RowKit
set_option linter.unusedVariables false
set_option linter.unusedSimpArgs false
/-- p points at a Mem with the bytes xs, which lie in block r. -/
structure IsMem (w : World) (p r : Nat) (xs : List UInt8) : Prop where
  obj : Blk w p 260 [.slice (some ⟨r, 0, none⟩) xs.length xs.length]
  row : Blk w r 5 (bytes xs)
  len : xs.length ≤ 16384
theorem IsMem.cell {w : World} {p r : Nat} {xs : List UInt8} (h : IsMem w p r xs) : w.cell? ⟨p, 0, none⟩ = some (.slice (some ⟨r, 0, none⟩) xs.length xs.length) := h.obj.cell 0
theorem IsMem.keep {M : Nat → Prop} {w w' : World} {p r : Nat} {xs : List UInt8} (h : IsMem w p r xs) (k : Keep M w w') (hp : ¬ M p) (hr : ¬ M r) : IsMem w' p r xs := ⟨h.obj.keep k hp, h.row.keep k hr, h.len⟩
theorem IsMem.ne_ {w : World} {p r : Nat} {xs : List UInt8} (h : IsMem w p r xs) : p ≠ r := h.obj.ne_ h.row (by decide)
theorem Tryz.info5 : (Tryz.prog.info? 5).map (fun i => (i.zero, i.size, i.bytes)) = some (some (.int .u8 0), 1, 1) := by kernel_rfl
theorem Tryz.size5 : (Tryz.prog.info? 5).map (·.size) = some 1 := by kernel_rfl

set_option maxHeartbeats 400000 in
theorem has_yes (p : Nat) (a : Option Addr) (len cap : Nat) (at' n : Int) (w : World) (hl : len ≤ 16384) (hc : w.cell? ⟨p, 0, none⟩ = some (.slice a len cap)) (h : 0 ≤ at' ∧ 0 ≤ n ∧ at' + n ≤ len) :
    Calls Tryz.prog 163 #[.pointer (some ⟨p, 0, none⟩), .int .i64 at', .int .i64 n] w fun e w' => e = .returned (.bool true) ∧ w = w' := by
  obtain ⟨h0, h1, h2⟩ := h
  have h3 : at' ≤ len := by omega
  have h4 : n ≤ len - at' := by omega
  go_enter Tryz.func163, Tryz.ntmps163
  go_wp2
  go_ret
  exact ⟨by simp [*], rfl⟩
/-- k frames of 64 bytes, all 0. -/
def zeros (k : Nat) : List UInt8 := List.replicate (64 * k) 0
theorem zeros_len (k : Nat) : (zeros k).length = 64 * k := by simp [zeros]
def Made (k : Nat) (w : World) (e : Ending) (w' : World) : Prop := ∃ p r, e = .returned (.pointer (some ⟨p, 0, none⟩)) ∧ IsMem w' p r (zeros k) ∧ w.heap.size ≤ p ∧ w.heap.size ≤ r ∧ Keep Nob w w'
theorem made_of (k : Nat) (hk : k ≤ 256) (w : World) :
    Made k w (.returned (.pointer (some ⟨w.heap.size + 1, 0, none⟩))) ((w.alloc (.cells (madeCells #[.int .u8 0] (64 * k)) 5)).alloc (.cells #[.slice (some ⟨w.heap.size, 0, none⟩) (64 * k) (64 * k)] 260)) := by
  refine ⟨w.heap.size + 1, w.heap.size, rfl, ⟨?_, ?_, by simp [zeros]; omega⟩, by omega, by omega, ((Keep.refl _ w).alloc _).alloc _⟩
  · rw [zeros_len]
    have := Blk.new (w.alloc (.cells (madeCells #[.int .u8 0] (64 * k)) 5)) 260 [.slice (some ⟨w.heap.size, 0, none⟩) (64 * k) (64 * k)]
    simpa using this
  · refine Blk.alloc ?_ _
    have := Blk.new w 5 (madeCells #[.int .u8 0] (64 * k)).toList
    rw [Array.toArray_toList, toList_madeCells_one] at this
    rw [zeros, bytes_replicate]
    exact this
set_option maxHeartbeats 400000 in
theorem new_low (n : Int) (w : World) (h : n < 0) : Calls Tryz.prog 97 #[.int .i64 n] w (Made 0 w) := by
  have hm : ∀ wx : World, (Instr.makeSlice 36 (.int .i64 0) (.int .i64 0)).run Tryz.prog wx = _ := fun wx => run_make_row' (P := Tryz.prog) 36 5 (.int .u8 0) 1 Tryz.underlying36 Tryz.info5 rfl .i64 .i64 0 (by omega) (by omega) wx
  have fin := made_of 0 (by omega) w
  go_enter Tryz.func97, Tryz.ntmps97
  go_wp2
  go_ret
  exact fin
set_option maxHeartbeats 400000 in
theorem new_mid (n : Nat) (w : World) (h : n ≤ 256) : Calls Tryz.prog 97 #[.int .i64 n] w (Made n w) := by
  have hm := fun wx => run_make_row' (P := Tryz.prog) 36 5 (.int .u8 0) 1 Tryz.underlying36 Tryz.info5 rfl .i64 .i64 (64 * n) (by omega) (by omega) wx
  have e1 : (((64 * n : Nat)) : Int) = (n : Int) * 64 := by omega
  rw [e1] at hm
  clear e1
  have fin := made_of n h w
  go_enter Tryz.func97, Tryz.ntmps97
  go_wp2
  go_ret
  exact fin
set_option maxHeartbeats 400000 in
theorem new_high (n : Int) (w : World) (h : 256 < n) : Calls Tryz.prog 97 #[.int .i64 n] w (Made 256 w) := by
  have hm : ∀ wx : World, (Instr.makeSlice 36 (.int .i64 16384) (.int .i64 16384)).run Tryz.prog wx = _ := fun wx => run_make_row' (P := Tryz.prog) 36 5 (.int .u8 0) 1 Tryz.underlying36 Tryz.info5 rfl .i64 .i64 16384 (by omega) (by omega) wx
  have fin := made_of 256 (by omega) w
  go_enter Tryz.func97, Tryz.ntmps97
  go_wp2
  go_ret
  exact fin
/-- mem.New: as many frames as are told, below 0 as 0, above 256 as that. -/
theorem new_any (n : Int) (w : World) : Calls Tryz.prog 97 #[.int .i64 n] w (Made (min (max n 0) 256).toNat w) := by
  rcases (show n < 0 ∨ 256 < n ∨ (0 ≤ n ∧ n ≤ 256) from by omega) with h | h | ⟨h, h'⟩
  · rw [show (min (max n 0) 256).toNat = 0 from by omega]; exact new_low n w h
  · rw [show (min (max n 0) 256).toNat = 256 from by omega]; exact new_high n w h
  · obtain ⟨k, rfl⟩ := Int.eq_ofNat_of_zero_le h
    rw [show (min (max (k : Int) 0) 256).toNat = k from by omega]; exact new_mid k w (by omega)

def GotBytes (xs : List UInt8) (w : World) (e : Ending) (w' : World) : Prop := ∃ g, e = .returned (.tuple #[.slice (some ⟨g, 0, none⟩) xs.length xs.length, .int .i64 0]) ∧ Blk w' g 5 (bytes xs) ∧ w.heap.size ≤ g ∧ Keep Nob w w'
set_option maxHeartbeats 400000 in
theorem load_yes (p r at' n : Nat) (xs : List UInt8) (w : World) (h : IsMem w p r xs) (h1 : at' + n ≤ xs.length) :
    Calls Tryz.prog 72 #[.pointer (some ⟨p, 0, none⟩), .int .i64 at', .int .i64 n] w (GotBytes ((xs.drop at').take n) w) := by
  have hc := h.cell
  have hl := h.len
  have hn : (n : Int) ≤ (xs.length : Int) - (at' : Int) := by omega
  have ha : at' ≤ xs.length := by omega
  have fin : ∀ w1 w2 : World, Keep Nob w w1 → w1.heap.size = w.heap.size + 1 → Blk w2 w.heap.size 5 (splice (List.replicate n (Value.int .u8 0)) 0 ((((bytes xs).drop at').take (xs.length - at')).take n)) → Keep (· = w.heap.size) w1 w2 →
      GotBytes ((xs.drop at').take n) w (.returned (.tuple #[.slice (some ⟨w.heap.size, 0, none⟩) n n, .int .i64 0])) w2 := by
    intro w1 w2 k1 hs b2 k2
    have e : ((xs.drop at').take n).length = n := by simp; omega
    refine ⟨w.heap.size, by rw [e], ?_, Nat.le_refl _, k1.trans k2 (fun k hk e => by omega)⟩
    have e2 : splice (List.replicate n (Value.int .u8 0)) 0 ((((bytes xs).drop at').take (xs.length - at')).take n) = bytes ((xs.drop at').take n) := by
      rw [List.take_take, Nat.min_eq_left (by omega)]
      have : (((bytes xs).drop at').take n).length = n := by simp; omega
      rw [splice, this]
      simp [bytes_take, bytes_drop]
    rw [e2] at b2
    exact b2
  go_enter Tryz.func72, Tryz.ntmps72
  go_wp2_with (first | (go_at_call 163; refine (has_yes _ _ _ _ _ _ _ hl hc (by omega)).mono ?_; rintro e w' ⟨rfl, rfl⟩) | (refine wpList_mk rfl _ _ 36 rfl 5 (.int .u8 0) 1 Tryz.underlying36 Tryz.info5 rfl .i64 .i64 n _ rfl rfl rfl (by omega) (by omega) ?_; intro w1 hb1 hk1 hs1; have hm1 := h.keep hk1 (fun f => f) (fun f => f); have hc1 := hm1.cell) | (refine wpList_cut_l rfl 36 _ _ rfl 5 1 Tryz.underlying36 Tryz.size5 _ _ _ at' .i64 rfl rfl ha ?_; intro A' hA'; have hR : Reads w1 A' (xs.length - at') (((bytes xs).drop at').take (xs.length - at')) := Reads.of_blk (off := at') hm1.row (fun h0 => by rw [hA' (by omega)]; simp [add_lit]) (by simp; omega)) | (refine wpList_cp rfl _ _ 36 36 rfl 5 Tryz.underlying36 Tryz.size5 _ _ _ _ _ _ rfl rfl w.heap.size 0 _ 5 hb1 _ hR (fun _ => rfl) (by simp) (fun v hv => bytes_one _ v (List.mem_of_mem_drop (List.mem_of_mem_take hv))) ?_; intro w2 hb2 hk2 hs2))
  go_ret2
  exact fin w1 w2 hk1 hs1 hb2 hk2
def Stored (p r at' : Nat) (xs bs : List UInt8) (w : World) (e : Ending) (w' : World) : Prop := e = .returned (.int .i64 0) ∧ IsMem w' p r (splice xs at' bs) ∧ Keep (· = r) w w' ∧ w'.heap.size = w.heap.size
theorem splice_len (xs bs : List UInt8) (at' : Nat) (h : at' + bs.length ≤ xs.length) : (splice xs at' bs).length = xs.length := length_splice xs at' bs h
set_option maxHeartbeats 400000 in
theorem store_yes (p r at' n cap : Nat) (A : Option Addr) (xs bs : List UInt8) (w : World) (h : IsMem w p r xs) (hn : bs.length = n) (hb : Reads w A n (bytes bs)) (h1 : at' + n ≤ xs.length) :
    Calls Tryz.prog 199 #[.pointer (some ⟨p, 0, none⟩), .int .i64 at', .slice A n cap] w (Stored p r at' xs bs w) := by
  have hc := h.cell
  have hl := h.len
  have hn' : (n : Int) ≤ (xs.length : Int) - (at' : Int) := by omega
  have ha : at' ≤ xs.length := by omega
  have fin : ∀ w2 : World, w2.heap.size = w.heap.size → Blk w2 r 5 (splice (bytes xs) at' ((bytes bs).take (xs.length - at'))) → Keep (· = r) w w2 → Stored p r at' xs bs w (.returned (.int .i64 0)) w2 := by
    intro w2 hs b2 k2
    have e : (bytes bs).take (xs.length - at') = bytes bs := List.take_of_length_le (by simp; omega)
    rw [e, splice_bytes] at b2
    have e2 := splice_len xs bs at' (by omega)
    have hp := h.obj.keep k2 h.ne_
    exact ⟨rfl, ⟨by rw [e2]; exact hp, b2, by rw [e2]; exact hl⟩, k2, hs⟩
  have HN := Lib.hid hn
  clear hn
  go_enter Tryz.func199, Tryz.ntmps199
  go_wp2_with (first | (go_at_call 163; refine (has_yes _ _ _ _ _ _ _ hl hc (by omega)).mono ?_; rintro e w' ⟨rfl, rfl⟩) | (refine wpList_cut_l rfl 36 _ _ rfl 5 1 Tryz.underlying36 Tryz.size5 _ _ _ at' .i64 rfl rfl ha ?_; intro A' hA'; have hA2 : 0 < xs.length - at' → A' = some ⟨r, at', none⟩ := fun h0 => by rw [hA' (by omega)]; simp [add_lit]) | (refine wpList_cp rfl _ _ 36 36 rfl 5 Tryz.underlying36 Tryz.size5 _ _ _ _ _ _ rfl rfl r at' _ 5 h.row _ hb hA2 (by simp; omega) (bytes_one _) ?_; intro w2 hb2 hk2 hs2))
  go_ret
  exact fin w2 hs2 hb2 hk2
theorem size_any (p r : Nat) (xs : List UInt8) (w : World) (h : IsMem w p r xs) :
    Calls Tryz.prog 260 #[.pointer (some ⟨p, 0, none⟩)] w fun e w' => e = .returned (.int .i64 xs.length) ∧ w = w' := by
  have hc := h.cell
  go_enter Tryz.func260, Tryz.ntmps260
  go_wp2
  go_ret
  exact ⟨rfl, rfl⟩
end Go.Proofs.YtngchjejmnfanaaGreat
namespace Go.Proofs.YtngchjejmnfanaaGreat
open Go.RowKit
set_option linter.unusedVariables false
set_option linter.unusedSimpArgs false
theorem new_is (n : Int) (k : Nat) (hk : (min (max n 0) 256).toNat = k) (w : World) : Calls Tryz.prog 97 #[.int .i64 n] w (Made k w) := by
  subst hk
  exact new_any n w
end Go.Proofs.YtngchjejmnfanaaGreat
