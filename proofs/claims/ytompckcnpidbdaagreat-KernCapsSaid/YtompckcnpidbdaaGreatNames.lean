/- The names of a Space's environment, in a row of the call's own. -/
import Derived.Test.YtompckcnpidbdaaGreatCaps2
import Derived.Test.YtompckcnpidbdaaGreatKrn6
namespace Go.Proofs.YtompckcnpidbdaaGreat.TabC
open Go.RowKit
set_option linter.unusedVariables false
set_option linter.unusedSimpArgs false
set_option maxHeartbeats 2000000 in
theorem names_new {p r : Nat} {L : List Pl} {w : World} (h : Tab w p r L) :
    Calls Tryz.prog 45 #[.pointer (some ⟨p, 0, none⟩)] w fun e w' => ∃ A cap, e = .returned (.slice A (names L L.length).length cap) ∧ Vec w' 3 1 A (names L L.length).length cap (ints (names L L.length)) ∧ Keep Nob w w' ∧ ∀ g, Own A g → w.heap.size ≤ g := by
  have hc := h.head
  have hl := h.pl.len
  go_enter Tryz.func45, Tryz.ntmps45
  go_wp2
  go_loopw [3, 10] (fun s t wx => ∃ (k : Nat) (A : Option Addr) (cap : Nat), k ≤ L.length ∧ t = .int .i64 k ∧ s = .slice A (names L k).length cap ∧ Vec wx 3 1 A (names L k).length cap (ints (names L k)) ∧ Keep Nob w wx ∧ ∀ g, Own A g → w.heap.size ≤ g) (fun _ t _ => L.length - (intOf t).toNat)
  case atStart => exact ⟨0, none, 0, Nat.zero_le _, rfl, rfl, Vec.nil _ _ _, Keep.refl _ _, fun g ⟨a, ha, _⟩ => by cases ha⟩
  case round =>
    obtain ⟨k, A, cap, hk, rfl, rfl, hv, hK, hA⟩ := hrel
    have hx := h.nob hK
    have hc2 := hx.head
    by_cases hlt : k < L.length
    · obtain ⟨q, hq⟩ : ∃ q, L[k]? = some q := ⟨_, List.getElem?_eq_getElem hlt⟩
      have ho := hx.on_ hq
      have hle := names_le L k
      cases hb : q.on with
      | false =>
        rw [hb] at ho
        have he := names_off hq hb
        go_wp2
        go_roundw
        case rel => exact ⟨k + 1, A, cap, by omega, by go_num, by rw [he], by rw [he]; exact hv, hK, hA⟩
        case measure => simp [intOf]; omega
      | true =>
        rw [hb] at ho
        have he := names_on hq hb
        have hel : (names L (k + 1)).length = (names L k).length + 1 := by rw [he, List.length_append]; rfl
        go_wp2_with fail
        refine (name_is hx hq).mono ?_; rintro e w' ⟨rfl, rfl⟩
        go_wp2_with (at_builtin; go_loud (refine wpList_ap rfl _ _ 27 rfl 3 1 8 (.int .i64 0) Tryz.underlying27 infoint rfl (by decide) A (names L k).length cap (ints (names L k)) rfl (hv.keep ((Keep.refl Nob wr).alloc _) (fun _ _ f => f)) (some ⟨wr.heap.size, 0, none⟩) 1 1 [.int .i64 ((k : Int) + 256 * (q.gen : Int))] rfl _ (Nat.mul_one _) (reads_all (Blk.new wr 3 [.int .i64 ((k : Int) + 256 * (q.gen : Int))]) rfl) (by simp [Value.oneCell']) (by unfold maxLen; omega) (by omega) ?_); intro A' cap' w2 hv2 hk2 ho2)
        go_roundw
        case rel => exact ⟨k + 1, A', cap', by omega, by go_num, by rw [hel], by rw [hel, he, ints_append]; exact hv2, (hK.alloc _).trans hk2 (fun b hb ho => by have := hA b ho; omega), fun g hg => by
          rcases ho2 g hg with h1 | h1
          · exact hA g h1
          · rw [h1]; have := hK.size; simp; omega⟩
        case measure => simp [intOf]; omega
    · obtain rfl : k = L.length := by omega
      go_wp2
      go_ret
      exact ⟨A, cap, rfl, hv, hK, hA⟩
end Go.Proofs.YtompckcnpidbdaaGreat.TabC
namespace Go.Proofs.YtompckcnpidbdaaGreat
open Go.RowKit
set_option maxHeartbeats 2000000 in
theorem snames_new {w : World} {s B n e : Nat} {p r : Nat → Nat} {T : St} (h : IsSp w s B n p r T) (he : e < n) :
    Calls Tryz.prog 17 #[.pointer (some ⟨s, 0, none⟩), .int .i64 e] w fun e' w' => ∃ A cap, e' = .returned (.slice A (names ((T e).map Q.pl) (T e).length).length cap) ∧ Vec w' 3 1 A (names ((T e).map Q.pl) (T e).length).length cap (ints (names ((T e).map Q.pl) (T e).length)) ∧ Keep Nob w w' ∧ ∀ g, Own A g → w.heap.size ≤ g := by
  have hc := h.head
  have hp := h.ptr he
  have hn := TabC.names_new (h.tab e he)
  rw [List.length_map] at hn
  generalize names ((T e).map Q.pl) (T e).length = l at hn ⊢
  go_enter Tryz.func17, Tryz.ntmps17
  go_wp2_with fail
  refine (has_is h (e : Int) true (by simp [he])).mono ?_; rintro e' w' ⟨rfl, rfl⟩
  go_wp2_with fail
  refine hn.mono ?_; rintro e' W ⟨A, cap, rfl, hv, hk, hA⟩
  go_wp2
  go_ret
  exact ⟨A, cap, rfl, hv, hk, hA⟩
/-- The names of a Table that so many Caps lie in. -/
theorem names_row (l : List Cp) (hl : l.length ≤ 32) : ∀ k, k ≤ 32 → names ((rowQ l).map Q.pl) k = mk (min k l.length) fun i => (i : Int) + 256
  | 0, _ => by simp [names, mk]
  | k + 1, hk => by
    have ih := names_row l hl k (by omega)
    by_cases h : k < l.length
    · have hq : ((rowQ l).map Q.pl)[k]? = some (Q.pl ⟨1, true, l[k]⟩) := by rw [List.getElem?_map, rowQ_in (List.getElem?_eq_getElem h)]; rfl
      rw [names_on hq rfl, ih, show min k l.length = k by omega, show min (k + 1) l.length = k + 1 by omega, ← mk_succ]
      rfl
    · have hq : ((rowQ l).map Q.pl)[k]? = some (Q.pl ⟨1, false, zcap⟩) := by rw [List.getElem?_map, rowQ_out (by omega) (by omega)]; rfl
      rw [names_off hq rfl, ih, show min k l.length = min (k + 1) l.length by omega]
end Go.Proofs.YtompckcnpidbdaaGreat
