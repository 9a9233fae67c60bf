/- The walk of BellOrder. -/
import Derived.Test.YtbieffenicojpaaBel2
namespace Go.Proofs.Ytbieffenicojpaa
open Go.RowKit
set_option linter.unusedVariables false
set_option linter.unusedSimpArgs false
theorem holds_int {w : World} {A : Option Addr} {n c : Nat} {xs : List Int} (h : Holds w (.sl 8 (.int .i64)) xs [.slice A n c]) {k : Nat} (hk : k < n) :
    ∃ b off, A = some ⟨b, off, none⟩ ∧ w.cell? ⟨b, off + k, none⟩ = some (.int .i64 (xs.getD k 0)) := by
  obtain ⟨bb, off, cs', hA0, hcl, hcc, hk', hh⟩ := holds_at (e := .int .i64) h (by decide) hk
  obtain ⟨rfl, _⟩ := hh
  have := hcc 0 _ rfl
  simp only [show (Ty.int IntKind.i64).size = 1 from rfl, Nat.mul_one, Nat.add_zero] at this
  refine ⟨bb, off, hA0, ?_⟩
  rw [this]
  have hk2 : k < List.length (α := Int) xs := hk'
  rw [List.getD_eq_getElem?_getD, List.getElem?_eq_getElem hk2]
  rfl
theorem holds_ints_len {w : World} {A : Option Addr} {n c : Nat} {xs : List Int} (h : Holds w (.sl 8 (.int .i64)) xs [.slice A n c]) : xs.length = n := by
  obtain ⟨A', cap, he, _⟩ := h
  simp only [List.cons.injEq, Value.slice.injEq, and_true] at he
  exact he.2.1.symm
theorem rung_take (l : List Int) {i s : Nat} (h : i < l.length) : rung s (l.take (min i s)) (l.getD i 0) = l.take (min (i + 1) s) := by
  have hl : (l.take (min i s)).length = min i s := by simp; omega
  unfold rung
  rw [hl]
  by_cases h1 : i < s
  · rw [if_pos (by omega), show min i s = i from by omega, show min (i + 1) s = i + 1 from by omega, List.take_succ_eq_append_getElem h, List.getD_eq_getElem?_getD, List.getElem?_eq_getElem h]
    rfl
  · rw [if_neg (by omega), show min i s = s from by omega, show min (i + 1) s = s from by omega]
set_option maxRecDepth 100000 in
set_option maxHeartbeats 4000000 in
theorem BellOrder_core (w : World) (a0 : Int) (A1 : Option Addr) (n1 c1 : Nat) (x1 : List Int) (w1 : Holds w (.sl 8 (.int .i64)) x1 [.slice A1 n1 c1]) (m N N2 : Nat) (hm : bits .and .i64 a0 63 = m) (hm2 : m < 64)
    (hN : (if (80 : Int) < (n1 : Int) then (80 : Int) else (n1 : Int)) = (N : Int)) (hN2 : (if (m : Int) + 1 < (N : Int) then (m : Int) + 1 else (N : Int)) = (N2 : Int)) (e1 : N = min n1 80) (e2 : N2 = min N (m + 1)) :
    Calls Try.prog 4 #[.int .i64 a0, .slice A1 n1 c1] w fun e w' => e = .returned (.bool true) ∧ Below w.heap.size w w' := by
  have W1 := Lib.hid w1
  have hl1 := holds_ints_len w1
  have E := Lib.hid (And.intro e1 (And.intro e2 hl1))
  clear w1 e1 e2 hl1
  go_enter Try.func4, Try.ntmps4
  go_wp2_with fail
  refine (B0.new (Keep.refl (From w.heap.size) w) ((m : Int) + 1) (m + 1) (by omega)).mono ?_; rintro e w2 ⟨p, rfl, h2, -⟩
  generalize w.heap.size = c at h2
  go_wp2_with fail
  go_loopw [7] (fun s7 wx => ∃ i : Nat, i ≤ N ∧ s7 = .int .i64 i ∧ B0 w wx p c (m + 1) (x1.take (min i (m + 1)))) (fun s7 _ => N - (intOf s7).toNat)
  case atStart => exact ⟨0, Nat.zero_le _, rfl, by simpa using h2⟩
  case round =>
    obtain ⟨i, hi, rfl, H⟩ := hrel
    clear h2
    obtain ⟨eN, eN2, hl⟩ := E.out
    by_cases hlt : i < N
    · obtain ⟨b, off, rfl, hx⟩ := holds_int W1.out (k := i) (by omega)
      have hxr := H.keep.cell_from hx
      have hR := H.ring (x1.getD i 0)
      rw [rung_take x1 (by omega), show (x1.take (min i (m + 1))).length = min i (m + 1) from by simp; omega, show decide (min i (m + 1) < m + 1) = decide ((i : Int) < (m : Int) + 1) from by simp only [decide_eq_decide]; omega] at hR
      generalize x1.getD i 0 = x at *
      clear hx H eN eN2
      go_wp2_with fail
      refine hR.mono ?_; rintro e w3 ⟨rfl, h3, -⟩
      clear hR hxr
      by_cases hs : (i : Int) < (m : Int) + 1
      all_goals
        go_wp2_with fail
        go_roundw
        case rel => exact ⟨i + 1, by omega, by go_num, h3⟩
        case measure => simp [intOf]; omega
    · obtain rfl : i = N := by omega
      rw [show min i (m + 1) = N2 from eN2.symm] at H
      clear eN eN2 hl
      go_wp2_with fail
      go_loopw [8] (fun s8 wx => ∃ j : Nat, j ≤ N2 ∧ s8 = .int .i64 j ∧ B0 w wx p c (m + 1) ((x1.take N2).drop j)) (fun s8 _ => N2 - (intOf s8).toNat)
      case atStart => exact ⟨0, Nat.zero_le _, rfl, H⟩
      case round =>
        obtain ⟨j, hj, rfl, K⟩ := hrel
        clear H
        obtain ⟨eN, eN2, hl⟩ := E.out
        by_cases hlt2 : j < N2
        · obtain ⟨b, off, rfl, hx⟩ := holds_int W1.out (k := j) (by omega)
          have hxr := K.keep.cell_from hx
          have hT := K.take
          have hlen : (x1.take N2).length = N2 := by rw [List.length_take]; omega
          rw [drop_head, drop_more, decide_eq_true (by omega), List.tail_drop, List.getD_eq_getElem?_getD, List.getElem?_take, if_pos hlt2, ← List.getD_eq_getElem?_getD] at hT
          have hL : ((x1.take N2).drop (j + 1)).length = N2 - (j + 1) := by rw [List.length_drop]; omega
          have HL := Lib.hid hL
          have hcn : ((N2 - (j + 1) : Nat) : Int) = (N2 : Int) - 1 - (j : Int) := by omega
          generalize x1.getD j 0 = x at *
          have hx0 := Lib.hid hx
          have hb2 : N2 ≤ 64 := by omega
          clear hx eN eN2 hlen hL hl
          go_wp2_with fail
          refine hT.mono ?_; rintro e w4 ⟨rfl, K4, -⟩
          have hb := len_is K4.bell
          rw [HL.out, hcn] at hb
          have hx4 := K4.keep.cell_from hx0.out
          clear hT hxr K
          go_wp2_with fail
          refine hb.mono ?_; rintro e w5 ⟨rfl, rfl⟩
          go_wp2_with fail
          go_roundw
          case rel => exact ⟨j + 1, by omega, by go_num, K4⟩
          case measure => simp [intOf]; omega
        · obtain rfl : j = N2 := by omega
          rw [show (x1.take j).drop j = [] from List.drop_of_length_le (by rw [List.length_take]; omega)] at K
          clear eN eN2 hl
          have hE := either_is K.bell.isB (IsB.nil wr) (fun x _ => by simp)
          go_wp2_with fail
          refine hE.mono ?_; rintro e w4 ⟨rfl, ⟨p1, hp1, h4⟩, -, k4, -⟩
          cases hp1
          have K4 := K.at_ h4 (k4.mono (fun x _ m => by rcases m with m | m <;> cases m; rfl))
          clear hE K
          simp only [eith, List.isEmpty_nil, if_false, Bool.true_eq_false]
          go_wp2_with fail
          refine (either_is (IsB.nil w4) (IsB.nil w4) (fun x h => by cases h)).mono ?_; rintro e w5 ⟨rfl, -, -, k5, -⟩
          have K5 := K4.nob (k5.mono (fun x _ m => by rcases m with m | m <;> cases m))
          simp only [eith, List.isEmpty_nil, if_false, Bool.true_eq_false]
          clear K4
          go_wp2_with fail
          refine K5.drain.mono ?_; rintro e w6 ⟨A6, n6, rfl, -, -, K6, -⟩
          clear K5
          go_wp2_with fail
          refine (awake_is w6).mono ?_; rintro e w7 ⟨rfl, k7⟩
          go_wp2_with fail
          go_ret
          exact ⟨rfl, (K6.nob k7).keep.done⟩
theorem BellOrder_walk (w : World) (a0 : Int) (w0 : (Lit.int .i64 a0).wf = true) (A1 : Option Addr) (n1 c1 : Nat) (x1 : Ty.den (.sl 8 (.int .i64))) (w1 : Holds w (.sl 8 (.int .i64)) x1 [.slice A1 n1 c1]) :
    Calls Try.prog 4 #[.int .i64 a0, .slice A1 n1 c1] w fun e w' => e = .returned (.bool true) ∧ Below w.heap.size w w' := by
  obtain ⟨m, hm⟩ := Int.eq_ofNat_of_zero_le (show 0 ≤ a0 % 64 by omega)
  exact BellOrder_core w a0 A1 n1 c1 x1 w1 m (min n1 80) (min (min n1 80) (m + 1)) ((i64_and63 a0).trans hm) (by omega) (by split <;> omega) (by split <;> omega) rfl rfl
end Go.Proofs.Ytbieffenicojpaa
