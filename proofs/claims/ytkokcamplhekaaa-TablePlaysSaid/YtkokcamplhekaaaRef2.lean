/- Contracts of the document's answer for names (commonageref1: NewNames, Names.Has, Add, Drop, All, SameInts). -/
import Derived.Test.YtkokcamplhekaaaRows
import Derived.Test.YtkokcamplhekaaaTab0
import Derived.Deep.QuietTactic
import Derived.BigQuiet
import Derived.WalkLawsBesides
import Derived.Outline
namespace Go.Proofs.Ytkokcamplhekaaa
open Go.RowKit
namespace Ref
/-- q points at the answer's names L; they lie behind A. -/
structure IsNames (w : World) (q : Nat) (A : Option Addr) (cap : Nat) (L : List Pl) : Prop where
  obj : Blk w q 86 [.slice A L.length cap]
  row : Vec w 88 2 A L.length cap (flat L)
  pl : Places 2 L
section
variable {w w' : World} {q : Nat} {A : Option Addr} {cap : Nat} {L : List Pl}
theorem IsNames.head (h : IsNames w q A cap L) : w.cell? ⟨q, 0, none⟩ = some (.slice A L.length cap) := h.obj.cell 0
theorem IsNames.keep {M : Nat → Prop} (h : IsNames w q A cap L) (k : Keep M w w') (hq : ¬ M q) (hA : ∀ g, Own A g → ¬ M g) : IsNames w' q A cap L := ⟨h.obj.keep k hq, h.row.keep k hA, h.pl⟩
theorem IsNames.nob (h : IsNames w q A cap L) (k : Keep Nob w w') : IsNames w' q A cap L := h.keep k (fun f => f) (fun _ _ f => f)
theorem IsNames.ne_ (h : IsNames w q A cap L) : ¬ Own A q := fun ho => by
  obtain ⟨cur, hb⟩ := h.row.blk ho
  exact h.obj.ne_ hb (by decide) rfl
theorem IsNames.at_ (h : IsNames w q A cap L) {i : Nat} {x : Pl} (hx : L[i]? = some x) : ∃ g, A = some ⟨g, 0, none⟩ := by
  obtain ⟨g, _, rfl, _⟩ := h.row.at_ (by have := get_lt hx; omega)
  exact ⟨g, rfl⟩
theorem IsNames.cells {g : Nat} (h : IsNames w q (some ⟨g, 0, none⟩) cap L) {i : Nat} {x : Pl} (hx : L[i]? = some x) : w.cell? ⟨g, i * 2, none⟩ = some (.int .i64 x.gen) ∧ w.cell? ⟨g, i * 2 + 1, none⟩ = some (.bool x.on) ∧ ∀ j, w.frozen? ⟨g, j, none⟩ = false := by
  have hi := get_lt hx
  obtain ⟨g', cur, he, hb, hn, hc, ht⟩ := h.row.at_ (by omega)
  simp only [Option.some.injEq, Addr.mk.injEq, and_true] at he
  subst he
  have e0 := h.pl.get (i := i) (j := 0) (by decide) hx
  have e1 := h.pl.get (i := i) (j := 1) (by decide) hx
  rw [← ht, List.getElem?_take, if_pos (by omega)] at e0 e1
  exact ⟨by rw [hb.cell]; exact e0, by rw [hb.cell]; exact e1, fun j => hb.frozen j⟩
theorem IsNames.wr {g : Nat} (h : IsNames w q (some ⟨g, 0, none⟩) cap L) {i : Nat} {x : Pl} (hx : L[i]? = some x) (j : Nat) (u : Value) (x' : Pl) (hj : j < 2) (hu : x.cells.set j u = x'.cells) (h2 : x'.gen ≤ 1000001) :
    IsNames (w.setCell ⟨g, i * 2 + j, none⟩ u) q (some ⟨g, 0, none⟩) cap (L.set i x') ∧ Keep (Own (some ⟨g, 0, none⟩)) w (w.setCell ⟨g, i * 2 + j, none⟩ u) := by
  have k : Keep (Own (some ⟨g, 0, none⟩)) w (w.setCell ⟨g, i * 2 + j, none⟩ u) := (Keep.refl _ w).setCell _ u (fun _ => ⟨_, rfl, rfl⟩)
  have h1 := h.pl.each x (get_mem hx)
  have hl : x'.v.length + 2 = 2 := by
    have := congrArg List.length hu
    simp [Pl.cells] at this
    omega
  refine ⟨⟨by rw [List.length_set]; exact h.obj.keep k h.ne_, ?_, h.pl.set i x' hl h2⟩, k⟩
  have hb := h.row.setCell (i * 2 + j) u
  rw [h.pl.set_cells hj hx u hu] at hb
  rw [List.length_set]
  exact hb
end
set_option maxHeartbeats 1000000 in
theorem has_yes {q i : Nat} {A : Option Addr} {cap : Nat} {a : Int} {L : List Pl} {x : Pl} {w : World} (h : IsNames w q A cap L) (hx : L[i]? = some x) (ho : x.on = true) (ha : a = i + 256 * (x.gen : Int)) :
    Calls Try.prog 22 #[.pointer (some ⟨q, 0, none⟩), .int .i64 a] w fun e w' => e = .returned (.bool true) ∧ w = w' := by
  obtain ⟨g, rfl⟩ := h.at_ hx
  have hc := h.head
  obtain ⟨c0, c1, _⟩ := h.cells hx
  rw [ho] at c1
  have hg := h.pl.gen x (get_mem hx)
  have hi := get_lt hx
  have hl := h.pl.len
  have hm : a % 256 = i := by omega
  have hs : a / 256 = x.gen := by omega
  have h0 : 0 ≤ a := by omega
  have h1 : a ≤ 1000000000 := by omega
  clear ha
  go_enter Try.func22, Try.ntmps22
  go_wp2
  go_ret
  exact ⟨rfl, rfl⟩
set_option maxHeartbeats 1000000 in
theorem has_no {q : Nat} {A : Option Addr} {cap : Nat} {a : Int} {L : List Pl} {w : World} (h : IsNames w q A cap L) (hno : ∀ (i : Nat) (q : Pl), L[i]? = some q → q.on = true → a ≠ i + 256 * (q.gen : Int)) :
    Calls Try.prog 22 #[.pointer (some ⟨q, 0, none⟩), .int .i64 a] w fun e w' => e = .returned (.bool false) ∧ w = w' := by
  have hc := h.head
  have hl := h.pl.len
  by_cases h0 : a < 0
  · clear hno
    go_enter Try.func22, Try.ntmps22
    go_wp2
    go_ret
    exact ⟨rfl, rfl⟩
  · obtain ⟨k, hk⟩ : ∃ k : Nat, a % 256 = k := ⟨(a % 256).toNat, by omega⟩
    by_cases hkl : k < L.length
    · have hx : L[k]? = some L[k] := List.getElem?_eq_getElem hkl
      generalize L[k] = x at hx
      obtain ⟨g, rfl⟩ := h.at_ hx
      obtain ⟨c0, c1, _⟩ := h.cells hx
      have hn := hno k x hx
      clear hno
      cases hb : x.on with
      | false =>
        rw [hb] at c1
        clear hn
        go_enter Try.func22, Try.ntmps22
        go_wp2
        go_ret
        exact ⟨rfl, rfl⟩
      | true =>
        rw [hb] at c1
        have hne : ((x.gen : Int) == a / 256) = false := by rw [beq_eq_false_iff_ne]; intro e; exact hn hb (by omega)
        have Hne := Lib.hid hne
        clear hn hne
        go_enter Try.func22, Try.ntmps22
        go_wp2
        go_ret
        exact ⟨congrArg (fun b => Ending.returned (Value.bool b)) Hne.out, rfl⟩
    · clear hno
      go_enter Try.func22, Try.ntmps22
      go_wp2
      go_ret
      exact ⟨rfl, rfl⟩
set_option maxHeartbeats 1000000 in
theorem add_yes {q i : Nat} {A : Option Addr} {cap : Nat} {L : List Pl} {x : Pl} {w : World} (h : IsNames w q A cap L) (hx : L[i]? = some x) (hf : x.free = true) (hb : ∀ (j : Nat) (y : Pl), j < i → L[j]? = some y → y.free = false) :
    Calls Try.prog 25 #[.pointer (some ⟨q, 0, none⟩)] w fun e w' => e = .returned (.tuple #[.int .i64 (i + 256 * (x.gen : Int)), .bool true]) ∧ IsNames w' q A cap (L.set i ⟨x.gen, true, []⟩) ∧ Keep (Own A) w w' ∧ w'.heap.size = w.heap.size := by
  obtain ⟨g, rfl⟩ := h.at_ hx
  have hc := h.head
  have hl := h.pl.len
  have hi := get_lt hx
  have hg := h.pl.gen x (get_mem hx)
  have hnq : q ≠ g := fun e => h.ne_ ⟨_, rfl, e.symm⟩
  obtain ⟨c0, c1, hfr⟩ := h.cells hx
  have hfr1 := hfr (i * 2 + 1)
  clear hfr
  have hv : x.v = [] := List.eq_nil_of_length_eq_zero (by have := h.pl.each x (get_mem hx); omega)
  have hon : x.on = false := by
    unfold Pl.free at hf
    simp at hf
    exact hf.1
  have hgl : x.gen ≤ 1000000 := by
    unfold Pl.free at hf
    simp at hf
    exact hf.2
  rw [hon] at c1
  have Fin := Lib.hid (h.wr hx 1 (.bool true) ⟨x.gen, true, []⟩ (by decide) (by simp [Pl.cells, hv]) hg)
  have Hb := Lib.hid hb
  clear hb hf
  go_enter Try.func25, Try.ntmps25
  go_wp2
  go_loop [4] (fun s => ∃ k : Nat, k ≤ i ∧ s = .int .i64 k) (fun s => i - (intOf s).toNat)
  case atStart => exact ⟨0, Nat.zero_le _, rfl⟩
  case round =>
    obtain ⟨k, hk, rfl⟩ := hrel
    by_cases hlt : k < i
    · obtain ⟨y, hy⟩ : ∃ y, L[k]? = some y := ⟨_, List.getElem?_eq_getElem (Nat.lt_trans hlt hi)⟩
      have hyf := Hb.out k y hlt hy
      obtain ⟨d0, d1, _⟩ := h.cells hy
      unfold Pl.free at hyf
      clear Hb
      cases hyo : y.on with
      | true =>
        rw [hyo] at d1
        clear hyf
        go_wp2
        go_round
        case rel => exact ⟨k + 1, by omega, by go_num⟩
        case measure => simp [intOf]; omega
      | false =>
        rw [hyo] at d1 hyf
        simp at hyf
        have hd : ¬ ((y.gen : Int) ≤ 1000000) := by omega
        clear hyf
        go_wp2
        go_round
        case rel => exact ⟨k + 1, by omega, by go_num⟩
        case measure => simp [intOf]; omega
    · obtain rfl : k = i := by omega
      go_wp2
      go_ret2
      exact ⟨rfl, Fin.out.1, Fin.out.2, heap_size_setCell _ _ _⟩
set_option maxHeartbeats 1000000 in
theorem add_no {q : Nat} {A : Option Addr} {cap : Nat} {L : List Pl} {w : World} (h : IsNames w q A cap L) (hb : ∀ (j : Nat) (y : Pl), L[j]? = some y → y.free = false) :
    Calls Try.prog 25 #[.pointer (some ⟨q, 0, none⟩)] w fun e w' => e = .returned (.tuple #[.int .i64 0, .bool false]) ∧ w = w' := by
  have hc := h.head
  have hl := h.pl.len
  have Hb := Lib.hid hb
  clear hb
  go_enter Try.func25, Try.ntmps25
  go_wp2
  go_loop [4] (fun s => ∃ k : Nat, k ≤ L.length ∧ s = .int .i64 k) (fun s => L.length - (intOf s).toNat)
  case atStart => exact ⟨0, Nat.zero_le _, rfl⟩
  case round =>
    obtain ⟨k, hk, rfl⟩ := hrel
    by_cases hlt : k < L.length
    · obtain ⟨y, hy⟩ : ∃ y, L[k]? = some y := ⟨_, List.getElem?_eq_getElem hlt⟩
      have hyf := Hb.out k y hy
      obtain ⟨g, rfl⟩ := h.at_ hy
      obtain ⟨d0, d1, _⟩ := h.cells hy
      unfold Pl.free at hyf
      clear Hb
      cases hyo : y.on with
      | true =>
        rw [hyo] at d1
        clear hyf
        go_wp2
        go_round
        case rel => exact ⟨k + 1, by omega, by go_num⟩
        case measure => simp [intOf]; omega
      | false =>
        rw [hyo] at d1 hyf
        simp at hyf
        have hd : ¬ ((y.gen : Int) ≤ 1000000) := by omega
        clear hyf
        go_wp2
        go_round
        case rel => exact ⟨k + 1, by omega, by go_num⟩
        case measure => simp [intOf]; omega
    · clear Hb
      go_wp2
      go_ret2
      exact ⟨rfl, rfl⟩
set_option maxHeartbeats 1000000 in
theorem drop_no {q : Nat} {A : Option Addr} {cap : Nat} {a : Int} {L : List Pl} {w : World} (h : IsNames w q A cap L) (hno : ∀ (i : Nat) (q : Pl), L[i]? = some q → q.on = true → a ≠ i + 256 * (q.gen : Int)) :
    Calls Try.prog 32 #[.pointer (some ⟨q, 0, none⟩), .int .i64 a] w fun e w' => e = .returned (.bool false) ∧ w = w' := by
  go_enter Try.func32, Try.ntmps32
  go_wp2_with fail
  refine (has_no h hno).mono ?_; rintro e w' ⟨rfl, rfl⟩
  go_wp2
  go_ret
  exact ⟨rfl, rfl⟩
set_option maxHeartbeats 1000000 in
theorem drop_yes {q i : Nat} {A : Option Addr} {cap : Nat} {a : Int} {L : List Pl} {x : Pl} {w : World} (h : IsNames w q A cap L) (hx : L[i]? = some x) (ho : x.on = true) (ha : a = i + 256 * (x.gen : Int)) (hgl : x.gen ≤ 1000000) :
    Calls Try.prog 32 #[.pointer (some ⟨q, 0, none⟩), .int .i64 a] w fun e w' => e = .returned (.bool true) ∧ IsNames w' q A cap (L.set i ⟨x.gen + 1, false, []⟩) ∧ Keep (Own A) w w' ∧ w'.heap.size = w.heap.size := by
  obtain ⟨g, rfl⟩ := h.at_ hx
  have hc := h.head
  have hl := h.pl.len
  have hi := get_lt hx
  have hnq : q ≠ g := fun e => h.ne_ ⟨_, rfl, e.symm⟩
  obtain ⟨c0, c1, hfr⟩ := h.cells hx
  have hfr0 := hfr (i * 2)
  have hfr1 := hfr (i * 2 + 1)
  clear hfr
  have hv : x.v = [] := List.eq_nil_of_length_eq_zero (by have := h.pl.each x (get_mem hx); omega)
  obtain ⟨f1, k1⟩ := h.wr hx 0 (.int .i64 ((x.gen : Int) + 1)) ⟨x.gen + 1, true, []⟩ (by decide) (by simp [Pl.cells, hv, ho]) (by simp; omega)
  have hx1 : (L.set i ⟨x.gen + 1, true, []⟩)[i]? = some ⟨x.gen + 1, true, []⟩ := List.getElem?_set_self hi
  obtain ⟨f2, k2⟩ := f1.wr hx1 1 (.bool false) ⟨x.gen + 1, false, []⟩ (by decide) (by simp [Pl.cells]) (by simp; omega)
  rw [List.set_set] at f2
  have Fin := Lib.hid (And.intro (f2.nob (Keep.nobdrew _)) (k1.trans k2 (fun _ _ e => e)).drew)
  have hm : a % 256 = i := by omega
  have Ha := Lib.hid ha
  clear f1 f2 k1 k2 ha
  go_enter Try.func32, Try.ntmps32
  go_wp2_with fail
  refine (has_yes h hx ho Ha.out).mono ?_; rintro e w' ⟨rfl, rfl⟩
  go_wp2_with fail
  go_region
  go_wp2
  go_ret
  exact ⟨rfl, Fin.out.1, Fin.out.2, by simp [World.setCell]⟩
theorem infoint : (Try.prog.info? 3).map (fun i => (i.zero, i.size, i.bytes)) = some (some (.int .i64 0), 1, 8) := by kernel_rfl
set_option maxHeartbeats 2000000 in
theorem all_is {q : Nat} {A : Option Addr} {cap : Nat} {L : List Pl} {w : World} (h : IsNames w q A cap L) :
    Calls Try.prog 34 #[.pointer (some ⟨q, 0, none⟩)] w fun e w' => ∃ B c, e = .returned (.slice B (names L L.length).length c) ∧ Vec w' 3 1 B (names L L.length).length c (ints (names L L.length)) ∧ Keep Nob w w' := by
  have hc := h.head
  have hl := h.pl.len
  go_enter Try.func34, Try.ntmps34
  go_wp2
  go_loopw [3, 4] (fun s t wx => ∃ (k : Nat) (B : Option Addr) (c : Nat), k ≤ L.length ∧ t = .int .i64 k ∧ s = .slice B (names L k).length c ∧ Vec wx 3 1 B (names L k).length c (ints (names L k)) ∧ Keep Nob w wx ∧ ∀ g, Own B g → w.heap.size ≤ g) (fun _ t _ => L.length - (intOf t).toNat)
  case atStart => exact ⟨0, none, 0, Nat.zero_le _, rfl, rfl, Vec.nil _ _ _, Keep.refl _ _, fun g ⟨a, ha, _⟩ => by cases ha⟩
  case round =>
    obtain ⟨k, B, c, hk, rfl, rfl, hv, hK, hA⟩ := hrel
    have hx := h.nob hK
    have hc2 := hx.head
    by_cases hlt : k < L.length
    · obtain ⟨x, hy⟩ : ∃ x, L[k]? = some x := ⟨_, List.getElem?_eq_getElem hlt⟩
      obtain ⟨g, rfl⟩ := h.at_ hy
      obtain ⟨d0, d1, _⟩ := hx.cells hy
      have hle := names_le L k
      have hgx := h.pl.gen x (get_mem hy)
      cases hb : x.on with
      | false =>
        rw [hb] at d1
        have he := names_off hy hb
        go_wp2
        go_roundw
        case rel => exact ⟨k + 1, B, c, by omega, by go_num, by rw [he], by rw [he]; exact hv, hK, hA⟩
        case measure => simp [intOf]; omega
      | true =>
        rw [hb] at d1
        have he := names_on hy hb
        have hel : (names L (k + 1)).length = (names L k).length + 1 := by rw [he, List.length_append]; rfl
        go_wp2_with (at_builtin; go_loud (refine wpList_ap rfl _ _ 22 rfl 3 1 8 (.int .i64 0) Try.underlying22 infoint rfl (by decide) B (names L k).length c (ints (names L k)) rfl (hv.keep ((Keep.refl Nob wr).alloc _) (fun _ _ f => f)) (some ⟨wr.heap.size, 0, none⟩) 1 1 [.int .i64 ((k : Int) + 256 * (x.gen : Int))] rfl _ (Nat.mul_one _) (reads_all (Blk.new wr 3 [.int .i64 ((k : Int) + 256 * (x.gen : Int))]) rfl) (by simp [Value.oneCell']) (by unfold maxLen; omega) (by omega) ?_); intro B' c' w2 hv2 hk2 ho2)
        go_roundw
        case rel => exact ⟨k + 1, B', c', by omega, by go_num, by rw [hel], by rw [hel, he, ints_append]; exact hv2, (hK.alloc _).trans hk2 (fun b hb ho => by have := hA b ho; omega), fun g hg => by
          rcases ho2 g hg with h1 | h1
          · exact hA g h1
          · rw [h1]; have := hK.size; simp; omega⟩
        case measure => simp [intOf]; omega
    · obtain rfl : k = L.length := by omega
      go_wp2
      go_ret
      exact ⟨B, c, rfl, hv, hK⟩
theorem reads_int {w : World} {A : Option Addr} {n : Nat} {l : List Int} (h : Reads w A n (ints l)) {k : Nat} (hk : k < n) : ∃ ad, A = some ad ∧ w.cell? (ad.add k) = some (.int .i64 (l.getD k 0)) := by
  obtain ⟨ad, he, hc⟩ := h.2 (by omega)
  have hl := h.1
  rw [ints_len] at hl
  refine ⟨ad, he, hc k _ ?_⟩
  rw [ints_get, List.getElem?_eq_getElem (by omega), List.getD_eq_getElem?_getD, List.getElem?_eq_getElem (by omega)]
  rfl
set_option maxHeartbeats 1000000 in
theorem same_yes {A B : Option Addr} {n c d : Nat} {l : List Int} {w : World} (ha : Vec w 3 1 A n c (ints l)) (hb : Vec w 3 1 B n d (ints l)) (hl : l.length ≤ 1000000) :
    Calls Try.prog 35 #[.slice A n c, .slice B n d] w fun e w' => e = .returned (.bool true) ∧ Keep Nob w w' := by
  have hn : n = l.length := by have := ha.len; rw [ints_len] at this; omega
  go_enter Try.func35, Try.ntmps35
  go_wp2
  go_loopw [5] (fun s wx => ∃ k : Nat, k ≤ n ∧ s = .int .i64 k ∧ Keep Nob w wx) (fun s _ => n - (intOf s).toNat)
  case atStart => exact ⟨0, Nat.zero_le _, rfl, Keep.refl _ _⟩
  case round =>
    obtain ⟨k, hk, rfl, hK⟩ := hrel
    by_cases hlt : k < n
    · obtain ⟨ga, _, rfl, ba, _, _, ta⟩ := (ha.keep hK (fun _ _ f => f)).at_ (by omega)
      obtain ⟨gb, _, rfl, bb, _, _, tb⟩ := (hb.keep hK (fun _ _ f => f)).at_ (by omega)
      obtain ⟨x, hx⟩ : ∃ x, (ints l)[k]? = some (.int .i64 x) := ⟨l.getD k 0, by rw [ints_get, List.getElem?_eq_getElem (by omega), List.getD_eq_getElem?_getD, List.getElem?_eq_getElem (by omega)]; rfl⟩
      have ca : wr.cell? ⟨ga, k, none⟩ = some (.int .i64 x) := by rw [ba.cell, ← hx, ← ta, List.getElem?_take, if_pos (by omega)]
      have cb : wr.cell? ⟨gb, k, none⟩ = some (.int .i64 x) := by rw [bb.cell, ← hx, ← tb, List.getElem?_take, if_pos (by omega)]
      clear ba bb ta tb hx
      go_wp2_with fail
      go_region
      go_wp2
      go_roundw
      case rel => exact ⟨k + 1, by omega, by go_num, hK.drew⟩
      case measure => simp [intOf]; omega
    · obtain rfl : k = n := by omega
      go_wp2
      go_ret
      exact ⟨rfl, hK⟩
theorem info88 : (Try.prog.info? 88).map (fun i => (i.zero, i.size, i.bytes)) = some (some (.agg #[.int .i64 0, .bool false]), 2, 16) := by kernel_rfl
theorem flat_rep (k : Nat) : flat (List.replicate k ⟨1, false, []⟩) ++ [.int .i64 1, .bool false] = flat (List.replicate (k + 1) ⟨1, false, []⟩) := by
  unfold flat
  rw [List.replicate_succ', List.map_append, List.flatten_append]
  simp [Pl.cells]
theorem rep_places (k : Nat) (hk : k ≤ 256) : Places 2 (List.replicate k ⟨1, false, []⟩) := by
  refine ⟨fun q hq => ?_, fun q hq => ?_, by simpa using hk⟩ <;> (rw [List.eq_of_mem_replicate hq]; simp)
def Made (k : Nat) (w : World) (e : Ending) (w' : World) : Prop := ∃ q A cap, e = .returned (.pointer (some ⟨q, 0, none⟩)) ∧ IsNames w' q A cap (List.replicate k ⟨1, false, []⟩) ∧ w.heap.size ≤ q ∧ (∀ g, Own A g → w.heap.size ≤ g) ∧ Keep Nob w w'
set_option maxRecDepth 100000 in
set_option maxHeartbeats 2000000 in
theorem new_is (n : Int) (k : Nat) (hk : (min (max n 0) 256).toNat = k) (w : World) : Calls Try.prog 21 #[.int .i64 n] w (Made k w) := by
  have hk256 : k ≤ 256 := by omega
  have Hk := Lib.hid hk
  clear hk
  go_enter Try.func21, Try.ntmps21
  go_wp2
  go_loopw [4] (fun s wx => ∃ (j : Nat) (A : Option Addr) (cap : Nat), j ≤ k ∧ s = .int .i64 j ∧ IsNames wx w.heap.size A cap (List.replicate j ⟨1, false, []⟩) ∧ Keep Nob w wx ∧ ∀ g, Own A g → w.heap.size ≤ g) (fun s _ => k - (intOf s).toNat)
  case atStart => exact ⟨0, none, 0, Nat.zero_le _, rfl, ⟨Blk.new w 86 [.slice none 0 0], Vec.nil _ _ _, rep_places 0 (by decide)⟩, (Keep.refl _ _).alloc _, fun g ⟨a, ha, _⟩ => by cases ha⟩
  case round =>
    obtain ⟨j, A, cap, hj, rfl, ht, hK, hA⟩ := hrel
    have hh := ht.head
    rw [List.length_replicate] at hh
    by_cases hlt : j < k
    · have t1 : (j : Int) < n := by have := Hk.out; omega
      have t2 : (j : Int) < 256 := by omega
      have hrow := ht.row
      rw [List.length_replicate] at hrow
      have hob := ht.obj
      go_wp2_with (at_builtin; go_loud (refine wpList_ap rfl _ _ 84 rfl 88 2 16 (.agg #[.int .i64 0, .bool false]) Try.underlying84 info88 rfl (by decide) A j cap (flat (List.replicate j ⟨1, false, []⟩)) rfl (hrow.keep ((Keep.refl Nob wr).alloc _) (fun _ _ f => f)) (some ⟨wr.heap.size, 0, none⟩) 1 1 [.int .i64 1, .bool false] rfl 2 rfl (reads_all (Blk.new wr 88 [.int .i64 1, .bool false]) rfl) (by simp [Value.oneCell']) (by unfold maxLen; omega) (by omega) ?_); intro A' c' w2 hv2 hk2 ho2; have k3 := ((Keep.refl Nob wr).alloc (.cells #[.int .i64 1, .bool false] 88)); have ob2 := (hob.keep k3 (fun f => f)).keep hk2 ht.ne_; have oc := ob2.cell 0; have of := ob2.frozen 0)
      go_roundw
      case rel =>
        rw [flat_rep] at hv2
        have ob3 := ob2.setCell 0 (.slice A' (j + 1) c')
        refine ⟨j + 1, A', c', by omega, by go_num, ⟨?_, ?_, rep_places _ (by omega)⟩, ?_, fun g hg => ?_⟩
        · rw [List.length_replicate]; exact ob3
        · rw [List.length_replicate]
          exact hv2.keep ((Keep.refl (· = w.heap.size) w2).setCell _ _ (fun _ => rfl)) (fun g hg e => by
            obtain ⟨cur, hb⟩ := hv2.blk hg
            exact hb.ne_ ob2 (by decide) e)
        · exact ((hK.trans k3 (fun _ _ f => f)).trans hk2 (fun b hb ho => by have := hA b ho; omega)).setCell _ _ (fun hlt => absurd hlt (Nat.lt_irrefl _))
        · rcases ho2 g hg with h1 | h1
          · exact hA g h1
          · rw [h1]; have := hK.size; simp; omega
      case measure => simp [intOf]; omega
    · obtain rfl : j = k := by omega
      rcases (show n ≤ (j : Int) ∨ ((j : Int) < n ∧ 256 ≤ j) from by have := Hk.out; omega) with t1 | ⟨t1, t2⟩
      · go_wp2
        go_ret
        exact ⟨_, A, cap, rfl, ht, Nat.le_refl _, hA, hK⟩
      · go_wp2
        go_ret
        exact ⟨_, A, cap, rfl, ht, Nat.le_refl _, hA, hK⟩
end Ref
end Go.Proofs.Ytkokcamplhekaaa
