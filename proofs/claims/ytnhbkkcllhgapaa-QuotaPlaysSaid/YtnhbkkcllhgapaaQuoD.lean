/- Contracts of the document's answer for frames by sessions (commonageref1's Quota). -/
import Derived.Test.YtnhbkkcllhgapaaQuoR
namespace Go.Proofs.Ytnhbkkcllhgapaa
open Go.RowKit
set_option linter.unusedVariables false
set_option linter.unusedSimpArgs false
theorem infobools : (Try.prog.info? 44).map (fun i => (i.zero, i.size, i.bytes)) = some (some (.slice none 0 0), 1, 24) := by kernel_rfl
section
variable {w : World} {p : Nat} {A : Option Addr} {cap : Nat} {g : Nat → Nat} {ns : List Nat} {b : Nat → List Bool}
set_option maxHeartbeats 1000000 in
theorem downs_is (h : Dq w p A cap g ns b) (s k : Int) (v : Bool) (hv : owns ns.length b s k = v) :
    Calls Try.prog 14 #[.pointer (some ⟨p, 0, none⟩), .int .i64 s, .int .i64 k] w fun e w' => e = .returned (.bool v) ∧ w = w' := by
  have hc := h.head
  have hl := h.few
  subst hv
  unfold owns
  by_cases hs0 : 0 ≤ s
  · by_cases hs1 : s < ns.length
    · obtain ⟨i, rfl⟩ := Int.eq_ofNat_of_zero_le hs0
      rw [decide_eq_true (show (0 : Int) ≤ (i : Int) ∧ (i : Int) < (ns.length : Int) from ⟨hs0, hs1⟩), Bool.true_and, Int.toNat_natCast]
      have hi : i < ns.length := by omega
      obtain ⟨r, rfl, hc1⟩ := h.at_ hi
      have hsz := h.size hi
      by_cases hk0 : 0 ≤ k
      · obtain ⟨j, rfl⟩ := Int.eq_ofNat_of_zero_le hk0
        rw [Int.toNat_natCast]
        by_cases hk1 : j < (b i).length
        · have hcell := h.cell hi hk1
          rw [decide_eq_true (show (0 : Int) ≤ (j : Int) ∧ (j : Int) < ((b i).length : Int) from ⟨by omega, by omega⟩), Bool.true_and]
          generalize (b i).getD j false = v at *
          generalize (b i).length = n at *
          go_enter Try.func14, Try.ntmps14
          go_wp2
          go_ret
          exact ⟨rfl, rfl⟩
        · rw [decide_eq_false (show ¬ ((0 : Int) ≤ (j : Int) ∧ (j : Int) < ((b i).length : Int)) from by omega), Bool.false_and]
          generalize (b i).length = n at *
          go_enter Try.func14, Try.ntmps14
          go_wp2
          go_ret
          exact ⟨rfl, rfl⟩
      · rw [decide_eq_false (show ¬ ((0 : Int) ≤ k ∧ k < ((b i).length : Int)) from by omega), Bool.false_and]
        generalize (b i).length = n at *
        go_enter Try.func14, Try.ntmps14
        go_wp2
        go_ret
        exact ⟨rfl, rfl⟩
    · rw [decide_eq_false (show ¬ ((0 : Int) ≤ s ∧ s < (ns.length : Int)) from by omega), Bool.false_and]
      go_enter Try.func14, Try.ntmps14
      go_wp2
      go_ret
      exact ⟨rfl, rfl⟩
  · rw [decide_eq_false (show ¬ ((0 : Int) ≤ s ∧ s < (ns.length : Int)) from by omega), Bool.false_and]
    go_enter Try.func14, Try.ntmps14
    go_wp2
    go_ret
    exact ⟨rfl, rfl⟩
set_option maxHeartbeats 1000000 in
theorem dfree_is (h : Dq w p A cap g ns b) (s k er : Int) (b' : Nat → List Bool) (hfr : fr ns.length b s k = (er, b')) :
    Calls Try.prog 12 #[.pointer (some ⟨p, 0, none⟩), .int .i64 s, .int .i64 k] w fun e w' => e = .returned (.int .i64 er) ∧ Dq w' p A cap g ns b' ∧ Keep (Rw ns.length g) w w' := by
  have hc := h.head
  have hl := h.few
  unfold fr at hfr
  by_cases hs : 0 ≤ s ∧ s < ns.length
  · rw [if_pos hs] at hfr
    by_cases ho : owns ns.length b s k = true
    · rw [if_pos ho] at hfr
      cases hfr
      have ow := downs_is h s k true ho
      obtain ⟨i, j, rfl, rfl, hi, hj, hg⟩ := owns_true ho
      rw [Int.toNat_natCast, Int.toNat_natCast]
      obtain ⟨r, rfl, hc1⟩ := h.at_ hi
      have hsz := h.size hi
      have hcell := h.cell hi hj
      have hf := (h.tab i hi).frozen j
      have HW := Lib.hid (h.wr (by decide) (by decide) hi j false)
      clear ho hg
      generalize hlen : (b i).length = n at *
      clear hlen
      go_enter Try.func12, Try.ntmps12
      go_wp2_with fail
      refine ow.mono ?_; rintro e w' ⟨rfl, rfl⟩
      go_wp2
      go_ret
      exact ⟨rfl, HW.out.1, HW.out.2⟩
    · rw [if_neg ho] at hfr
      cases hfr
      have ow := downs_is h s k false (by simpa using ho)
      obtain ⟨hs0, hs1⟩ := hs
      clear ho
      go_enter Try.func12, Try.ntmps12
      go_wp2_with fail
      refine ow.mono ?_; rintro e w' ⟨rfl, rfl⟩
      go_wp2
      go_ret
      exact ⟨rfl, h, Keep.refl _ _⟩
  · rw [if_neg hs] at hfr
    cases hfr
    by_cases hs0 : s < 0
    · clear hs
      go_enter Try.func12, Try.ntmps12
      go_wp2
      go_ret
      exact ⟨rfl, h, Keep.refl _ _⟩
    · have hs1 : (ns.length : Int) ≤ s := by omega
      clear hs
      go_enter Try.func12, Try.ntmps12
      go_wp2
      go_ret
      exact ⟨rfl, h, Keep.refl _ _⟩
set_option maxHeartbeats 1000000 in
theorem dalloc_is (h : Dq w p A cap g ns b) (s v er : Int) (b' : Nat → List Bool) (hal : al ns.length b s = (v, er, b')) :
    Calls Try.prog 10 #[.pointer (some ⟨p, 0, none⟩), .int .i64 s] w fun e w' => e = .returned (.tuple #[.int .i64 v, .int .i64 er]) ∧ Dq w' p A cap g ns b' ∧ Keep (Rw ns.length g) w w' := by
  have hc := h.head
  have hl := h.few
  unfold al at hal
  by_cases hs : 0 ≤ s ∧ s < ns.length
  · rw [if_pos hs] at hal
    obtain ⟨hs0, hs1⟩ := hs
    obtain ⟨i, rfl⟩ := Int.eq_ofNat_of_zero_le hs0
    rw [Int.toNat_natCast] at hal
    have hi : i < ns.length := by omega
    obtain ⟨r, rfl, hc1⟩ := h.at_ hi
    have hsz := h.size hi
    have htab := h.tab i hi
    have hle := idx_le (b i)
    have hbef := Lib.hid (show ∀ j, j < (b i).idxOf false → w.cell? ⟨g i, j, none⟩ = some (.bool true) from fun j hj => by rw [htab.cell, bools_get (by omega), idx_before (by omega)])
    by_cases hk : (b i).idxOf false < (b i).length
    · rw [if_pos hk] at hal
      cases hal
      have hat : w.cell? ⟨g i, (b i).idxOf false, none⟩ = some (.bool false) := by rw [htab.cell, bools_get (by omega), idx_at (by omega)]
      have HW := Lib.hid (h.wr (by decide) (by decide) hi ((b i).idxOf false) true)
      have hfr := htab.frozen ((b i).idxOf false)
      clear htab hle
      generalize (b i).idxOf false = k at *
      generalize hlen : (b i).length = n at *
      clear hlen
      go_enter Try.func10, Try.ntmps10
      go_wp2
      go_loop [6] (fun s => ∃ j : Nat, j ≤ k ∧ s = .int .i64 j) (fun s => k - (intOf s).toNat)
      case atStart => exact ⟨0, Nat.zero_le _, rfl⟩
      case round =>
        obtain ⟨j, hj, rfl⟩ := hrel
        by_cases hlt : j < k
        · have hcj := hbef.out j hlt
          have hj2 : j < n := by omega
          clear hat hfr
          go_wp2
          go_round
          case rel => exact ⟨j + 1, by omega, by go_num⟩
          case measure => simp [intOf]; omega
        · obtain rfl : j = k := by omega
          go_wp2
          go_ret2
          exact ⟨rfl, HW.out.1, HW.out.2⟩
    · rw [if_neg hk] at hal
      cases hal
      have hke : (b i).idxOf false = (b i).length := by omega
      rw [hke] at hbef
      clear htab hle hk hke
      generalize hlen : (b i).length = n at *
      clear hlen
      go_enter Try.func10, Try.ntmps10
      go_wp2
      go_loop [6] (fun s => ∃ j : Nat, j ≤ n ∧ s = .int .i64 j) (fun s => n - (intOf s).toNat)
      case atStart => exact ⟨0, Nat.zero_le _, rfl⟩
      case round =>
        obtain ⟨j, hj, rfl⟩ := hrel
        by_cases hlt : j < n
        · have hcj := hbef.out j hlt
          go_wp2
          go_round
          case rel => exact ⟨j + 1, by omega, by go_num⟩
          case measure => simp [intOf]; omega
        · obtain rfl : j = n := by omega
          go_wp2
          go_ret2
          exact ⟨rfl, h, Keep.refl _ _⟩
  · rw [if_neg hs] at hal
    cases hal
    by_cases hs0 : s < 0
    · clear hs
      go_enter Try.func10, Try.ntmps10
      go_wp2
      go_ret2
      exact ⟨rfl, h, Keep.refl _ _⟩
    · have hs1 : (ns.length : Int) ≤ s := by omega
      clear hs
      go_enter Try.func10, Try.ntmps10
      go_wp2
      go_ret2
      exact ⟨rfl, h, Keep.refl _ _⟩
set_option maxHeartbeats 1000000 in
theorem first_is (h : Dq w p A cap g ns b) (i : Nat) (hi : i ≤ ns.length) (x : Int) (hx : ((first ns i : Nat) : Int) = x) :
    Calls Try.prog 15 #[.pointer (some ⟨p, 0, none⟩), .int .i64 i] w fun e w' => e = .returned (.int .i64 x) ∧ w = w' := by
  have hc := h.head
  have hl := h.few
  have HX := Lib.hid hx
  have hat := Lib.hid (fun (s : Nat) (hs : s < ns.length) => h.at_ hs)
  have hsm := Lib.hid h.small
  clear hx
  go_enter Try.func15, Try.ntmps15
  go_wp2
  go_loop [5, 6] (fun s t => ∃ k : Nat, k ≤ i ∧ t = .int .i64 k ∧ s = .int .i64 (first ns k : Nat)) (fun _ t => i - (intOf t).toNat)
  case atStart => exact ⟨0, Nat.zero_le _, rfl, rfl⟩
  case round =>
    obtain ⟨k, hk, rfl, rfl⟩ := hrel
    by_cases hlt : k < i
    · have hkn : k < ns.length := by omega
      obtain ⟨r, rfl, hc1⟩ := hat.out k hkn
      have hsz := h.size hkn
      have hf := first_le hsm.out k (by omega)
      have hs := first_succ hkn
      rw [← h.len k hkn] at hs
      have HS := Lib.hid hs
      clear hs
      generalize first ns k = f at *
      generalize (b k).length = n at *
      go_wp2
      go_round
      case rel => exact ⟨k + 1, by omega, by go_num, by rw [HS.out]; go_num⟩
      case measure => simp [intOf]; omega
    · obtain rfl : k = i := by omega
      go_wp2
      go_ret
      exact ⟨by rw [← HX.out]; rfl, rfl⟩
set_option maxHeartbeats 1000000 in
theorem dused_is (h : Dq w p A cap g ns b) (s v : Int) (hv : used ns.length b s = v) :
    Calls Try.prog 18 #[.pointer (some ⟨p, 0, none⟩), .int .i64 s] w fun e w' => e = .returned (.int .i64 v) ∧ w = w' := by
  have hc := h.head
  have hl := h.few
  unfold used at hv
  by_cases hs : 0 ≤ s ∧ s < ns.length
  · rw [if_pos hs] at hv
    obtain ⟨hs0, hs1⟩ := hs
    obtain ⟨i, rfl⟩ := Int.eq_ofNat_of_zero_le hs0
    rw [Int.toNat_natCast] at hv
    have hi : i < ns.length := by omega
    obtain ⟨r, rfl, hc1⟩ := h.at_ hi
    have hsz := h.size hi
    have hcell := Lib.hid (show ∀ k, k < (b i).length → w.cell? ⟨g i, k, none⟩ = some (.bool ((b i).getD k false)) from fun k hk => h.cell hi hk)
    generalize b i = l at *
    have Hv := Lib.hid hv
    clear hv
    go_enter Try.func18, Try.ntmps18
    go_wp2
    go_loop [5, 6] (fun s t => ∃ k : Nat, k ≤ l.length ∧ t = .int .i64 k ∧ s = .int .i64 ((l.take k).count true : Nat)) (fun _ t => l.length - (intOf t).toNat)
    case atStart => exact ⟨0, Nat.zero_le _, rfl, rfl⟩
    case round =>
      obtain ⟨k, hk, rfl, rfl⟩ := hrel
      by_cases hlt : k < l.length
      · have hck := hcell.out k hlt
        have hcn := count_next hlt
        have hcl := count_take_le l k
        cases hb : l.getD k false with
        | false =>
          rw [hb] at hck hcn
          generalize (l.take k).count true = m at *
          go_wp2
          go_round
          case rel => exact ⟨k + 1, by omega, by go_num, by rw [hcn]; rfl⟩
          case measure => simp [intOf]; omega
        | true =>
          rw [hb] at hck hcn
          generalize (l.take k).count true = m at *
          go_wp2
          go_round
          case rel => exact ⟨k + 1, by omega, by go_num, by rw [hcn]; go_num⟩
          case measure => simp [intOf]; omega
      · obtain rfl : k = l.length := by omega
        have e : (l.take l.length).count true = l.count true := by rw [List.take_of_length_le (Nat.le_refl _)]
        rw [e]
        go_wp2
        go_ret
        exact ⟨by rw [← Hv.out]; rfl, rfl⟩
  · rw [if_neg hs] at hv
    subst hv
    by_cases hs0 : s < 0
    · clear hs
      go_enter Try.func18, Try.ntmps18
      go_wp2
      go_loop [5, 6] (fun s t => t = .int .i64 0 ∧ s = .int .i64 0) (fun _ _ => 0)
      case atStart => exact ⟨rfl, rfl⟩
      case round =>
        obtain ⟨rfl, rfl⟩ := hrel
        go_wp2
        go_ret
        exact ⟨rfl, rfl⟩
    · have hs1 : (ns.length : Int) ≤ s := by omega
      clear hs
      go_enter Try.func18, Try.ntmps18
      go_wp2
      go_loop [5, 6] (fun s t => t = .int .i64 0 ∧ s = .int .i64 0) (fun _ _ => 0)
      case atStart => exact ⟨rfl, rfl⟩
      case round =>
        obtain ⟨rfl, rfl⟩ := hrel
        go_wp2
        go_ret
        exact ⟨rfl, rfl⟩
end
end Go.Proofs.Ytnhbkkcllhgapaa
