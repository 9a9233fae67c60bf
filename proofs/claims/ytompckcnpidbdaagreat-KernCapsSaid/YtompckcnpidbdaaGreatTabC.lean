/- Contracts of package table at the element type api.Cap: what each call answers, and what becomes of the places. -/
import Derived.Test.YtompckcnpidbdaaGreatRows
import Derived.Test.YtompckcnpidbdaaGreatTab0
import Derived.Deep.QuietTactic
import Derived.BigQuiet
import Derived.WalkLawsBesides
import Derived.Outline
import Derived.Laws.ResultCell
namespace Go.Proofs.YtompckcnpidbdaaGreat.TabC
open Go.RowKit
set_option linter.unusedVariables false
set_option linter.unusedSimpArgs false
abbrev Tab (w : World) (p r : Nat) (L : List Pl) : Prop := IsTab 142 144 8 w p r L
def zv : Value := .agg #[.int .i64 0, .int .i64 0, .int .i64 0, .int .i64 0, .int .i64 0, .int .i64 0]
def zc : List Value := [.int .i64 0, .int .i64 0, .int .i64 0, .int .i64 0, .int .i64 0, .int .i64 0]
theorem info144 : (Tryz.prog.info? 144).map (fun i => (i.zero, i.size, i.bytes)) = some (some (.agg #[.int .i64 0, .bool false, .int .i64 0, .int .i64 0, .int .i64 0, .int .i64 0, .int .i64 0, .int .i64 0]), 8, 64) := by kernel_rfl
theorem name_at (p r n i : Nat) (g : Int) (w : World) (hc : w.cell? ⟨p, 0, none⟩ = some (.slice (some ⟨r, 0, none⟩) n n)) (hg : w.cell? ⟨r, i * 8, none⟩ = some (.int .i64 g)) (hi : i < n) (hg0 : 0 ≤ g) (hg1 : g ≤ 1000001) (hn : n ≤ 256) :
    Calls Tryz.prog 73 #[.pointer (some ⟨p, 0, none⟩), .int .i64 i] w fun e w' => e = .returned (.int .i64 (i + 256 * g)) ∧ w = w' := by
  go_enter Tryz.func73, Tryz.ntmps73
  go_wp2
  go_ret
  exact ⟨rfl, rfl⟩
theorem name_is {p r i : Nat} {L : List Pl} {q : Pl} {w : World} (h : Tab w p r L) (hq : L[i]? = some q) :
    Calls Tryz.prog 73 #[.pointer (some ⟨p, 0, none⟩), .int .i64 i] w fun e w' => e = .returned (.int .i64 (i + 256 * (q.gen : Int))) ∧ w = w' := by
  have := h.pl.gen q (get_mem hq)
  exact name_at p r L.length i q.gen w h.head (h.gen_ hq) (get_lt hq) (by omega) (by omega) h.pl.len
theorem free_at (p r n i : Nat) (g : Int) (b : Bool) (w : World) (hc : w.cell? ⟨p, 0, none⟩ = some (.slice (some ⟨r, 0, none⟩) n n)) (hg : w.cell? ⟨r, i * 8, none⟩ = some (.int .i64 g)) (hb : w.cell? ⟨r, i * 8 + 1, none⟩ = some (.bool b)) (hi : i < n) :
    Calls Tryz.prog 92 #[.pointer (some ⟨p, 0, none⟩), .int .i64 i] w fun e w' => e = .returned (.bool (!b && decide (g ≤ 1000000))) ∧ w = w' := by
  cases b
  all_goals
    go_enter Tryz.func92, Tryz.ntmps92
    go_wp2
    go_ret
    exact ⟨by simp, rfl⟩
theorem free_is {p r i : Nat} {L : List Pl} {q : Pl} {w : World} (h : Tab w p r L) (hq : L[i]? = some q) (b : Bool) (hb : q.free = b) :
    Calls Tryz.prog 92 #[.pointer (some ⟨p, 0, none⟩), .int .i64 i] w fun e w' => e = .returned (.bool b) ∧ w = w' := by
  subst hb
  have e : q.free = (!q.on && decide ((q.gen : Int) ≤ 1000000)) := by unfold Pl.free; congr 1; simp; omega
  rw [e]
  exact free_at p r L.length i q.gen q.on w h.head (h.gen_ hq) (h.on_ hq) (get_lt hq)
set_option maxHeartbeats 1000000 in
theorem find_yes {p r i : Nat} {a : Int} {L : List Pl} {q : Pl} {w : World} (h : Tab w p r L) (hq : L[i]? = some q) (ho : q.on = true) (ha : a = i + 256 * (q.gen : Int)) :
    Calls Tryz.prog 74 #[.pointer (some ⟨p, 0, none⟩), .int .i64 a] w fun e w' => e = .returned (.tuple #[.int .i64 i, .bool true]) ∧ w = w' := by
  have hc := h.head
  have h1 := h.on_ hq
  have hg := h.pl.gen q (get_mem hq)
  have hi := get_lt hq
  have hl := h.pl.len
  rw [ho] at h1
  have hm : a % 256 = i := by omega
  have hm2 : a.tmod 256 = i := by rw [Int.tmod_eq_emod_of_nonneg (by omega)]; exact hm
  have hna := Lib.hid ha
  have h0 : 0 ≤ a := by omega
  clear ha
  go_enter Tryz.func74, Tryz.ntmps74
  go_wp2_with fail
  refine (name_is h hq).mono ?_; rintro e w' ⟨rfl, rfl⟩
  rw [← hna.out]
  go_wp2
  go_ret2
  exact ⟨rfl, rfl⟩
set_option maxHeartbeats 1000000 in
theorem find_no {p r : Nat} {a : Int} {L : List Pl} {w : World} (h : Tab w p r L) (hno : ∀ (i : Nat) (q : Pl), L[i]? = some q → q.on = true → a ≠ i + 256 * (q.gen : Int)) :
    Calls Tryz.prog 74 #[.pointer (some ⟨p, 0, none⟩), .int .i64 a] w fun e w' => e = .returned (.tuple #[.int .i64 0, .bool false]) ∧ w = w' := by
  have hc := h.head
  have hl := h.pl.len
  by_cases h0 : a < 0
  · go_enter Tryz.func74, Tryz.ntmps74
    go_wp2
    go_ret2
    exact ⟨rfl, rfl⟩
  · obtain ⟨k, hk⟩ : ∃ k : Nat, a % 256 = k := ⟨(a % 256).toNat, by omega⟩
    have hm2 : a.tmod 256 = k := by rw [Int.tmod_eq_emod_of_nonneg (by omega)]; exact hk
    by_cases hkl : k < L.length
    · have hq : L[k]? = some L[k] := List.getElem?_eq_getElem hkl
      generalize L[k] = q at hq
      have h1 := h.on_ hq
      have hn := hno k q hq
      clear hno hk
      cases hb : q.on with
      | false =>
        rw [hb] at h1
        clear hn
        go_enter Tryz.func74, Tryz.ntmps74
        go_wp2
        go_ret2
        exact ⟨rfl, rfl⟩
      | true =>
        rw [hb] at h1
        have hne : ((k : Int) + 256 * (q.gen : Int) == a) = false := by rw [beq_eq_false_iff_ne]; exact fun e => hn hb e.symm
        have hne2 : ((k : Int) + 256 * (q.gen : Int) != a) = true := by rw [bne, hne]; rfl
        clear hn
        go_enter Tryz.func74, Tryz.ntmps74
        go_wp2_with fail
        refine (name_is h hq).mono ?_; rintro e w' ⟨rfl, rfl⟩
        generalize (k : Int) + 256 * (q.gen : Int) = n at hne hne2
        go_wp2
        go_ret2
        exact ⟨rfl, rfl⟩
    · clear hno hk
      go_enter Tryz.func74, Tryz.ntmps74
      go_wp2
      go_ret2
      exact ⟨rfl, rfl⟩
set_option maxHeartbeats 1000000 in
theorem drop_no {p r : Nat} {a : Int} {L : List Pl} {w : World} (h : Tab w p r L) (hno : ∀ (i : Nat) (q : Pl), L[i]? = some q → q.on = true → a ≠ i + 256 * (q.gen : Int)) :
    Calls Tryz.prog 66 #[.pointer (some ⟨p, 0, none⟩), .int .i64 a] w fun e w' => e = .returned (.bool false) ∧ w = w' := by
  go_enter Tryz.func66, Tryz.ntmps66
  go_wp2_with fail
  refine (find_no h hno).mono ?_; rintro e w' ⟨rfl, rfl⟩
  go_wp2
  go_ret
  exact ⟨rfl, rfl⟩
def Made (k : Nat) (w : World) (e : Ending) (w' : World) : Prop := ∃ p r, e = .returned (.pointer (some ⟨p, 0, none⟩)) ∧ Tab w' p r (List.replicate k ⟨1, false, [.int .i64 0, .int .i64 0, .int .i64 0, .int .i64 0, .int .i64 0, .int .i64 0]⟩) ∧ w.heap.size ≤ p ∧ w.heap.size ≤ r ∧ Keep Nob w w'
set_option maxHeartbeats 2000000 in
theorem new_is (n : Int) (k : Nat) (hk : (min (max n 0) 256).toNat = k) (w : World) : Calls Tryz.prog 55 #[.int .i64 n] w (Made k w) := by
  have hk256 : k ≤ 256 := by omega
  have fin : ∀ w1 : World, Blk w1 w.heap.size 144 (List.replicate k (Value.int .i64 0 :: Value.bool false :: [.int .i64 0, .int .i64 0, .int .i64 0, .int .i64 0, .int .i64 0, .int .i64 0])).flatten → Keep Nob w w1 → w1.heap.size = w.heap.size + 1 →
      Tab (w1.alloc (.cells #[.slice (some ⟨w.heap.size, 0, none⟩) k k] 142)) (w.heap.size + 1) w.heap.size (fresh [.int .i64 0, .int .i64 0, .int .i64 0, .int .i64 0, .int .i64 0, .int .i64 0] k 0) := by
    intro w1 hb hk1 hs
    refine ⟨?_, ?_, fresh_places _ _ _ _ (by decide) hk256, by decide⟩
    · have := Blk.new w1 142 [.slice (some ⟨w.heap.size, 0, none⟩) k k]
      rw [fresh_len]
      rw [hs] at this
      exact this
    · rw [fresh_none]
      exact hb.alloc _
  rcases (show n < 0 ∨ 256 < n ∨ (0 ≤ n ∧ n ≤ 256) from by omega) with h | h | ⟨h, h'⟩
  all_goals
    have Hk := Lib.hid hk
    clear hk
    go_enter Tryz.func55, Tryz.ntmps55
    go_wp2_with (refine wpList_mkN rfl _ _ 140 rfl 144 (.agg #[.int .i64 0, .bool false, .int .i64 0, .int .i64 0, .int .i64 0, .int .i64 0, .int .i64 0, .int .i64 0]) 64 Tryz.underlying140 info144 .i64 .i64 k _ (by have := Hk.out; omega) rfl rfl (by omega) (by omega) ?_; intro w1 hb1 hk1 hs1)
    have f1 := fin w1 hb1 hk1 hs1
    have K1 := hk1.alloc (.cells #[.slice (some ⟨w.heap.size, 0, none⟩) k k] 142)
    clear hs1 fin hb1
    go_loopw [17] (fun s wx => ∃ j : Nat, j ≤ k ∧ s = .int .i64 j ∧ Tab wx (w.heap.size + 1) w.heap.size (fresh [.int .i64 0, .int .i64 0, .int .i64 0, .int .i64 0, .int .i64 0, .int .i64 0] k j) ∧ Keep Nob w wx) (fun s _ => k - (intOf s).toNat)
    case atStart => exact ⟨0, Nat.zero_le _, rfl, f1, K1⟩
    case round =>
      obtain ⟨j, hj, rfl, ht, hK⟩ := hrel
      have hh := ht.head
      rw [fresh_len] at hh
      by_cases hlt : j < k
      · have hq := fresh_get [.int .i64 0, .int .i64 0, .int .i64 0, .int .i64 0, .int .i64 0, .int .i64 0] (j := j) hlt
        rw [if_neg (Nat.lt_irrefl j)] at hq
        have hg := ht.gen_ hq
        have hf := ht.row.frozen (j * 8)
        obtain ⟨t2, k2⟩ := ht.wr hq 0 (.int .i64 1) ⟨1, false, [.int .i64 0, .int .i64 0, .int .i64 0, .int .i64 0, .int .i64 0, .int .i64 0]⟩ (by decide) rfl (by decide)
        rw [fresh_set _ _ _ hlt] at t2
        go_wp2
        go_roundw
        case rel => exact ⟨j + 1, by omega, by go_num, t2, hK.trans k2 (fun b hb e => by omega)⟩
        case measure => simp [intOf]; omega
      · obtain rfl : j = k := by omega
        rw [fresh_all] at ht
        go_wp2
        go_ret
        exact ⟨_, _, rfl, ht, by omega, Nat.le_refl _, hK⟩
def intT : TypeId := 3
theorem infoint : (Tryz.prog.info? 3).map (fun i => (i.zero, i.size, i.bytes)) = some (some (.int .i64 0), 1, 8) := by kernel_rfl
set_option maxHeartbeats 2000000 in
theorem names_is {p r : Nat} {L : List Pl} {w : World} (h : Tab w p r L) :
    Calls Tryz.prog 45 #[.pointer (some ⟨p, 0, none⟩)] w fun e w' => ∃ A cap, e = .returned (.slice A (names L L.length).length cap) ∧ Vec w' 3 1 A (names L L.length).length cap (ints (names L L.length)) ∧ Keep Nob w w' := by
  have hc := h.head
  have hl := h.pl.len
  go_enter Tryz.func45, Tryz.ntmps45
  go_wp2
  go_loopw [3, 10] (fun s t wx => ∃ (k : Nat) (A : Option Addr) (cap : Nat), k ≤ L.length ∧ t = .int .i64 k ∧ s = .slice A (names L k).length cap ∧ Vec wx 3 1 A (names L k).length cap (ints (names L k)) ∧ Keep Nob w wx ∧ ∀ g, Own A g → w.heap.size ≤ g) (fun _ t _ => L.length - (intOf t).toNat)
  case atStart => exact ⟨0, none, 0, Nat.zero_le _, rfl, rfl, Vec.nil _ _ _, Keep.refl _ _, fun g ⟨a, ha, _⟩ => by cases ha⟩
  case round =>
    obtain ⟨k, A, cap, hk, rfl, rfl, hv, hK, hA⟩ := hrel
    have hx := h.nob hK
    have hc2 := hx.head
    by_cases hlt : k < L.length
    · obtain ⟨q, hq⟩ : ∃ q, L[k]? = some q := ⟨_, List.getElem?_eq_getElem hlt⟩
      have ho := hx.on_ hq
      have hle := names_le L k
      cases hb : q.on with
      | false =>
        rw [hb] at ho
        have he := names_off hq hb
        go_wp2
        go_roundw
        case rel => exact ⟨k + 1, A, cap, by omega, by go_num, by rw [he], by rw [he]; exact hv, hK, hA⟩
        case measure => simp [intOf]; omega
      | true =>
        rw [hb] at ho
        have he := names_on hq hb
        have hel : (names L (k + 1)).length = (names L k).length + 1 := by rw [he, List.length_append]; rfl
        go_wp2_with fail
        refine (name_is hx hq).mono ?_; rintro e w' ⟨rfl, rfl⟩
        go_wp2_with (at_builtin; go_loud (refine wpList_ap rfl _ _ 27 rfl 3 1 8 (.int .i64 0) Tryz.underlying27 infoint rfl (by decide) A (names L k).length cap (ints (names L k)) rfl (hv.keep ((Keep.refl Nob wr).alloc _) (fun _ _ f => f)) (some ⟨wr.heap.size, 0, none⟩) 1 1 [.int .i64 ((k : Int) + 256 * (q.gen : Int))] rfl _ (Nat.mul_one _) (reads_all (Blk.new wr 3 [.int .i64 ((k : Int) + 256 * (q.gen : Int))]) rfl) (by simp [Value.oneCell']) (by unfold maxLen; omega) (by omega) ?_); intro A' cap' w2 hv2 hk2 ho2)
        go_roundw
        case rel => exact ⟨k + 1, A', cap', by omega, by go_num, by rw [hel], by rw [hel, he, ints_append]; exact hv2, (hK.alloc _).trans hk2 (fun b hb ho => by have := hA b ho; omega), fun g hg => by
          rcases ho2 g hg with h1 | h1
          · exact hA g h1
          · rw [h1]; have := hK.size; simp; omega⟩
        case measure => simp [intOf]; omega
    · obtain rfl : k = L.length := by omega
      go_wp2
      go_ret
      exact ⟨A, cap, rfl, hv, hK⟩
theorem six_cells {p r i : Nat} {L : List Pl} {q : Pl} {w : World} (h : Tab w p r L) (hq : L[i]? = some q) : ∃ a b c d e f, q.v = [a, b, c, d, e, f] := by
  have := h.pl.each q (get_mem hq)
  exact by
    match hv : q.v, (show q.v.length = 6 by omega) with
    | [a, b, c, d, e, f], _ => exact ⟨a, b, c, d, e, f, rfl⟩
set_option maxHeartbeats 2000000 in
theorem add_yes {p r i : Nat} {L : List Pl} {q : Pl} {w : World} (c0 c1 c2 c3 c4 c5 : Int) (h : Tab w p r L) (hq : L[i]? = some q) (hf : q.free = true) (hb : ∀ (j : Nat) (q : Pl), j < i → L[j]? = some q → q.free = false) :
    Calls Tryz.prog 84 #[.pointer (some ⟨p, 0, none⟩), .agg #[.int .i64 c0, .int .i64 c1, .int .i64 c2, .int .i64 c3, .int .i64 c4, .int .i64 c5]] w fun e w' => e = .returned (.tuple #[.int .i64 (i + 256 * (q.gen : Int)), .bool true]) ∧ Tab w' p r (L.set i ⟨q.gen, true, [.int .i64 c0, .int .i64 c1, .int .i64 c2, .int .i64 c3, .int .i64 c4, .int .i64 c5]⟩) ∧ Keep (· = r) w w' := by
  have hi := get_lt hq
  have hl := h.pl.len
  obtain ⟨u0, u1, u2, u3, u4, u5, hu⟩ := six_cells h hq
  have hg := h.pl.gen q (get_mem hq)
  have hr := h.row.lt
  have Hb := Lib.hid hb
  clear hb
  go_enter Tryz.func84, Tryz.ntmps84
  go_wp2_with (refine wpList_box rfl 61 _ rfl _ rfl ?_; intro w1 hb1 hk1 hs1; have h0 := h.nob hk1; have hc := h0.head)
  have hon := h0.on_ hq
  have hv0 := h0.v_ hq (j := 0) (by rw [hu]; rfl)
  have hv1 := h0.v_ hq (j := 1) (by rw [hu]; rfl)
  have hv2 := h0.v_ hq (j := 2) (by rw [hu]; rfl)
  have hv3 := h0.v_ hq (j := 3) (by rw [hu]; rfl)
  have hv4 := h0.v_ hq (j := 4) (by rw [hu]; rfl)
  have hv5 := h0.v_ hq (j := 5) (by rw [hu]; rfl)
  have hf1 := h0.row.frozen (i * 8 + 1)
  have hf2 := h0.row.frozen (i * 8 + 2)
  have hf3 := h0.row.frozen (i * 8 + 3)
  have hf4 := h0.row.frozen (i * 8 + 4)
  have hf5 := h0.row.frozen (i * 8 + 5)
  have hf6 := h0.row.frozen (i * 8 + 6)
  have hf7 := h0.row.frozen (i * 8 + 7)
  have b0 : w1.cell? ⟨w.heap.size, 0, none⟩ = some (.int .i64 c0) := hb1.cell 0
  have b1 : w1.cell? ⟨w.heap.size, 1, none⟩ = some (.int .i64 c1) := hb1.cell 1
  have b2 : w1.cell? ⟨w.heap.size, 2, none⟩ = some (.int .i64 c2) := hb1.cell 2
  have b3 : w1.cell? ⟨w.heap.size, 3, none⟩ = some (.int .i64 c3) := hb1.cell 3
  have b4 : w1.cell? ⟨w.heap.size, 4, none⟩ = some (.int .i64 c4) := hb1.cell 4
  have b5 : w1.cell? ⟨w.heap.size, 5, none⟩ = some (.int .i64 c5) := hb1.cell 5
  have hne : r ≠ w.heap.size := by omega
  have hpr := h.ne_
  obtain ⟨f3, k3⟩ := h0.wr8add hq c0 c1 c2 c3 c4 c5 hu
  have hq3 : (L.set i ⟨q.gen, true, [.int .i64 c0, .int .i64 c1, .int .i64 c2, .int .i64 c3, .int .i64 c4, .int .i64 c5]⟩)[i]? = some ⟨q.gen, true, [.int .i64 c0, .int .i64 c1, .int .i64 c2, .int .i64 c3, .int .i64 c4, .int .i64 c5]⟩ := List.getElem?_set_self hi
  have K3 := Lib.hid (((hk1.mono (M' := (· = r)) (fun k hk e => e.elim)).trans k3 (fun k hk e => e)).drew)
  have F3 := Lib.hid (f3.nob (Keep.nobdrew _))
  clear k3 f3
  go_loop [12] (fun s => ∃ k : Nat, k ≤ i ∧ s = .int .i64 k) (fun s => i - (intOf s).toNat)
  case atStart => exact ⟨0, Nat.zero_le _, rfl⟩
  case round =>
    obtain ⟨k, hk, rfl⟩ := hrel
    by_cases hlt : k < i
    · obtain ⟨qk, hqk⟩ : ∃ qk, L[k]? = some qk := ⟨_, List.getElem?_eq_getElem (Nat.lt_trans hlt hi)⟩
      go_wp2_with fail
      refine (free_is h0 hqk false (Hb.out k qk hlt hqk)).mono ?_; rintro e w' ⟨rfl, rfl⟩
      go_wp2
      go_round
      case rel => exact ⟨k + 1, by omega, by go_num⟩
      case measure => simp [intOf]; omega
    · obtain rfl : k = i := by omega
      go_wp2_with fail
      refine (free_is h0 hq true hf).mono ?_; rintro e w' ⟨rfl, rfl⟩
      go_wp2_with fail
      go_region
      go_wp2_with fail
      refine (name_is F3.out hq3).mono ?_; rintro e w' ⟨rfl, rfl⟩
      go_wp2
      go_ret2
      exact ⟨rfl, F3.out, K3.out⟩
set_option maxHeartbeats 1000000 in
theorem add_no {p r : Nat} {L : List Pl} {w : World} (c0 c1 c2 c3 c4 c5 : Int) (h : Tab w p r L) (hb : ∀ (j : Nat) (q : Pl), L[j]? = some q → q.free = false) :
    Calls Tryz.prog 84 #[.pointer (some ⟨p, 0, none⟩), .agg #[.int .i64 c0, .int .i64 c1, .int .i64 c2, .int .i64 c3, .int .i64 c4, .int .i64 c5]] w fun e w' => e = .returned (.tuple #[.int .i64 0, .bool false]) ∧ Keep Nob w w' := by
  have k0 := (Keep.refl Nob w).alloc (.cells #[.int .i64 c0, .int .i64 c1, .int .i64 c2, .int .i64 c3, .int .i64 c4, .int .i64 c5] 61)
  have h0 := h.nob k0
  have hc := h0.head
  have hl := h.pl.len
  have Hb := Lib.hid hb
  clear hb
  go_enter Tryz.func84, Tryz.ntmps84
  go_wp2
  go_loop [12] (fun s => ∃ k : Nat, k ≤ L.length ∧ s = .int .i64 k) (fun s => L.length - (intOf s).toNat)
  case atStart => exact ⟨0, Nat.zero_le _, rfl⟩
  case round =>
    obtain ⟨k, hk, rfl⟩ := hrel
    by_cases hlt : k < L.length
    · obtain ⟨qk, hqk⟩ : ∃ qk, L[k]? = some qk := ⟨_, List.getElem?_eq_getElem hlt⟩
      go_wp2_with fail
      refine (free_is h0 hqk false (Hb.out k qk hqk)).mono ?_; rintro e w' ⟨rfl, rfl⟩
      go_wp2
      go_round
      case rel => exact ⟨k + 1, by omega, by go_num⟩
      case measure => simp [intOf]; omega
    · go_wp2
      go_ret2
      exact ⟨rfl, k0⟩
set_option maxHeartbeats 1000000 in
theorem get_yes {p r i : Nat} {a : Int} {L : List Pl} {q : Pl} {w : World} (c0 c1 c2 c3 c4 c5 : Int) (h : Tab w p r L) (hq : L[i]? = some q) (ho : q.on = true) (ha : a = i + 256 * (q.gen : Int)) (hu : q.v = [.int .i64 c0, .int .i64 c1, .int .i64 c2, .int .i64 c3, .int .i64 c4, .int .i64 c5]) :
    Calls Tryz.prog 46 #[.pointer (some ⟨p, 0, none⟩), .int .i64 a] w fun e w' => e = .returned (.tuple #[.agg #[.int .i64 c0, .int .i64 c1, .int .i64 c2, .int .i64 c3, .int .i64 c4, .int .i64 c5], .bool true]) ∧ Keep Nob w w' := by
  have hi := get_lt hq
  have hl := h.pl.len
  have Ha := Lib.hid ha
  clear ha
  have k0 := (Keep.refl Nob w).alloc (.cells #[.int .i64 0, .int .i64 0, .int .i64 0, .int .i64 0, .int .i64 0, .int .i64 0] 61)
  have h0 := h.nob k0
  have hc := h0.head
  have hv0 := h0.v_ hq (j := 0) (by rw [hu]; rfl)
  have hv1 := h0.v_ hq (j := 1) (by rw [hu]; rfl)
  have hv2 := h0.v_ hq (j := 2) (by rw [hu]; rfl)
  have hv3 := h0.v_ hq (j := 3) (by rw [hu]; rfl)
  have hv4 := h0.v_ hq (j := 4) (by rw [hu]; rfl)
  have hv5 := h0.v_ hq (j := 5) (by rw [hu]; rfl)
  clear hu
  go_enter Tryz.func46, Tryz.ntmps46
  go_wp2_with fail
  refine (find_yes h0 hq ho Ha.out).mono ?_; rintro e w' ⟨rfl, rfl⟩
  go_wp2
  (try simp only [Exit.inBlock, Exit.then])
  refine bodyPost_ret (v := .tuple #[.agg #[.int .i64 c0, .int .i64 c1, .int .i64 c2, .int .i64 c3, .int .i64 c4, .int .i64 c5], .bool true]) ?_ rfl ?_
  · rw [results_cell_tmp rfl]
    go_simp
  exact ⟨rfl, (Keep.refl Nob w).alloc _⟩
set_option maxHeartbeats 1000000 in
theorem get_no {p r : Nat} {a : Int} {L : List Pl} {w : World} (h : Tab w p r L) (hno : ∀ (i : Nat) (q : Pl), L[i]? = some q → q.on = true → a ≠ i + 256 * (q.gen : Int)) :
    Calls Tryz.prog 46 #[.pointer (some ⟨p, 0, none⟩), .int .i64 a] w fun e w' => e = .returned (.tuple #[.agg #[.int .i64 0, .int .i64 0, .int .i64 0, .int .i64 0, .int .i64 0, .int .i64 0], .bool false]) ∧ Keep Nob w w' := by
  have k0 := (Keep.refl Nob w).alloc (.cells #[.int .i64 0, .int .i64 0, .int .i64 0, .int .i64 0, .int .i64 0, .int .i64 0] 61)
  have h0 := h.nob k0
  go_enter Tryz.func46, Tryz.ntmps46
  go_wp2_with fail
  refine (find_no h0 hno).mono ?_; rintro e w' ⟨rfl, rfl⟩
  go_wp2
  (try simp only [Exit.inBlock, Exit.then])
  refine bodyPost_ret (v := .tuple #[.agg #[.int .i64 0, .int .i64 0, .int .i64 0, .int .i64 0, .int .i64 0, .int .i64 0], .bool false]) ?_ rfl ?_
  · rw [results_cell_tmp rfl]
    go_simp
  exact ⟨rfl, k0.alloc _⟩
set_option maxHeartbeats 2000000 in
theorem drop_yes {p r i : Nat} {a : Int} {L : List Pl} {q : Pl} {w : World} (h : Tab w p r L) (hq : L[i]? = some q) (ho : q.on = true) (ha : a = i + 256 * (q.gen : Int)) (hg : q.gen ≤ 1000000) :
    Calls Tryz.prog 66 #[.pointer (some ⟨p, 0, none⟩), .int .i64 a] w fun e w' => e = .returned (.bool true) ∧ Tab w' p r (L.set i ⟨q.gen + 1, false, [.int .i64 0, .int .i64 0, .int .i64 0, .int .i64 0, .int .i64 0, .int .i64 0]⟩) ∧ Keep (· = r) w w' ∧ w'.heap.size = w.heap.size := by
  have hc := h.head
  have hi := get_lt hq
  have hl := h.pl.len
  have Ha := Lib.hid ha
  clear ha
  obtain ⟨u0, u1, u2, u3, u4, u5, hu⟩ := six_cells h hq
  have hc0 := h.gen_ hq
  have hc1 := h.on_ hq
  have hv0 := h.v_ hq (j := 0) (by rw [hu]; rfl)
  have hv1 := h.v_ hq (j := 1) (by rw [hu]; rfl)
  have hv2 := h.v_ hq (j := 2) (by rw [hu]; rfl)
  have hv3 := h.v_ hq (j := 3) (by rw [hu]; rfl)
  have hv4 := h.v_ hq (j := 4) (by rw [hu]; rfl)
  have hv5 := h.v_ hq (j := 5) (by rw [hu]; rfl)
  have hf0 := h.row.frozen (i * 8)
  have hf1 := h.row.frozen (i * 8 + 1)
  have hf2 := h.row.frozen (i * 8 + 2)
  have hf3 := h.row.frozen (i * 8 + 3)
  have hf4 := h.row.frozen (i * 8 + 4)
  have hf5 := h.row.frozen (i * 8 + 5)
  have hf6 := h.row.frozen (i * 8 + 6)
  have hf7 := h.row.frozen (i * 8 + 7)
  have Fin := Lib.hid (h.wr8 hq (.int .i64 ((q.gen : Int) + 1)) (.bool false) (.int .i64 0) (.int .i64 0) (.int .i64 0) (.int .i64 0) (.int .i64 0) (.int .i64 0) ⟨q.gen + 1, false, [.int .i64 0, .int .i64 0, .int .i64 0, .int .i64 0, .int .i64 0, .int .i64 0]⟩ rfl (by simp; omega))
  go_enter Tryz.func66, Tryz.ntmps66
  go_wp2_with fail
  refine (find_yes h hq ho Ha.out).mono ?_; rintro e w' ⟨rfl, rfl⟩
  go_wp2_with fail
  go_region
  go_wp2
  go_ret
  exact ⟨rfl, Fin.out.1.nob (Keep.nobdrew _), Fin.out.2.drew, by simp [World.setCell]⟩
end Go.Proofs.YtompckcnpidbdaaGreat.TabC
