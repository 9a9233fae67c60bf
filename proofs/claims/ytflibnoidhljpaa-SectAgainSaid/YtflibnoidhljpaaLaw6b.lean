/- The walks of SectAgain and SectQuits. -/
import Derived.Test.YtflibnoidhljpaaLaw6a
namespace Go.Proofs.Ytflibnoidhljpaa
open Go.RowKit
set_option linter.unusedVariables false
set_option linter.unusedSimpArgs false
/-- a, a + 1, .., k of them. -/
def run (a : Int) : Nat → List Int
  | 0 => []
  | k + 1 => a :: run (a + 1) k
theorem run_len : ∀ (k : Nat) (a : Int), (run a k).length = k
  | 0, _ => rfl
  | k + 1, a => by rw [run, List.length_cons, run_len k]
theorem run_mem : ∀ (k : Nat) (a x : Int), x ∈ run a k ↔ a ≤ x ∧ x < a + k
  | 0, a, x => by simp [run]
  | k + 1, a, x => by rw [run, List.mem_cons, run_mem k]; omega
theorem run_snoc : ∀ (k : Nat) (a : Int), run a k ++ [a + k] = run a (k + 1)
  | 0, a => by simp [run]
  | k + 1, a => by
    have := run_snoc k (a + 1)
    rw [run, List.cons_append, show a + ((k + 1 : Nat) : Int) = a + 1 + k from by omega, this]
    rfl
theorem run_get : ∀ (k : Nat) (a : Int) (i : Nat), i < k → (run a k)[i]? = some (a + i)
  | 0, _, _, h => by omega
  | k + 1, a, 0, _ => by simp [run]
  | k + 1, a, i + 1, h => by rw [run, List.getElem?_cons_succ, run_get k (a + 1) i (by omega)]; congr 1; omega
theorem run_idx : ∀ (k : Nat) (a : Int) (i : Nat), i < k → (run a k).idxOf (a + i) = i
  | 0, _, _, h => by omega
  | k + 1, a, 0, _ => by simp [run]
  | k + 1, a, i + 1, h => by
    have := run_idx k (a + 1) i (by omega)
    rw [run, List.idxOf_cons]
    rw [show a + ((i + 1 : Nat) : Int) = a + 1 + i from by omega, this]
    have e : (a == a + 1 + (i : Int)) = false := by simp; omega
    rw [e]
    rfl
theorem run_head {a : Int} {k : Nat} (h : 0 < k) : (run a k).headD 0 = a := by
  cases k with
  | zero => omega
  | succ k => rfl
theorem run_tail (a : Int) (k : Nat) : (run a (k + 1)).eraseIdx 0 = run (a + 1) k := rfl
theorem mk_run (a : Int) (k : Nat) : mk k (fun i => a + (i : Int)) = run a k := by
  apply List.ext_getElem?
  intro i
  by_cases h : i < k
  · rw [mk_get h, run_get k a i h]
  · rw [mk_none (by omega), List.getElem?_eq_none (by rw [run_len]; omega)]
/-- One who holds, since now, while nobody is passed by: others only wait. -/
theorem enter_waits {s : Sec} {x now : Int} (h0 : 0 ≤ x) (h9 : x ≤ 99) (hs : 0 < s.stamp) (hw : s.who ≠ x) (hx : x ∉ s.q) (ho : max s.now now - s.since < s.lease) :
    s.enter x now = (0, false, { s with now := max s.now now, q := s.q ++ [x], first := if s.q.length = 0 then max s.now now else s.first }) := by
  have h1 : ¬ (x < 0 ∨ 99 < x) := by omega
  have h2 : ¬ s.lease ≤ max s.now now - s.since := by omega
  have e1 : (s.tick now).isH x = false := by simp [Sec.tick, Sec.isH, hw]
  have e2 : (s.tick now).wait x = { s with now := max s.now now, q := s.q ++ [x], first := if s.q.length = 0 then max s.now now else s.first } := by
    unfold Sec.wait
    rw [if_neg (by exact hx)]
    rfl
  have e3 : (s.tick now).ask x = { s with now := max s.now now, q := s.q ++ [x], first := if s.q.length = 0 then max s.now now else s.first } := by
    unfold Sec.ask
    rw [e2]
    unfold Sec.pass1
    rw [if_neg (by simp [Sec.over, h2])]
    unfold Sec.pass2
    rw [if_neg (by simp [Sec.held, hs])]
  unfold Sec.enter
  rw [if_neg h1]
  unfold Sec.enterIn
  rw [e1, e3]
  simp only [Bool.false_eq_true, if_false]
  by_cases hq : s.q = []
  · rw [hq]
    simp [Sec.held, hs]
  · obtain ⟨y, l, hl⟩ := List.exists_cons_of_ne_nil hq
    have hy : y ≠ x := fun e => hx (by rw [hl, e]; simp)
    rw [hl]
    simp [hy]
/-- The first who waits comes in, where nobody holds. -/
theorem enter_first {s : Sec} {x now : Int} (h0 : 0 ≤ x) (h9 : x ≤ 99) (hs : s.stamp = 0) (l : List Int) (hq : s.q = x :: l) :
    s.enter x now = (s.stamps + 1, true, { s with now := max s.now now, who := x, stamp := s.stamps + 1, stamps := s.stamps + 1, since := max s.now now, q := l, first := max s.now now }) := by
  have h1 : ¬ (x < 0 ∨ 99 < x) := by omega
  have e1 : (s.tick now).isH x = false := by simp [Sec.tick, Sec.isH, hs]
  have e3 : (s.tick now).ask x = s.tick now := by
    unfold Sec.ask Sec.wait
    rw [if_pos (by show x ∈ s.q; rw [hq]; simp)]
    unfold Sec.pass1
    rw [if_neg (by simp [Sec.held, Sec.tick, hs])]
    unfold Sec.pass2
    rw [if_neg (by simp [Sec.tick, hq])]
  unfold Sec.enter
  rw [if_neg h1]
  unfold Sec.enterIn
  rw [e1, e3]
  simp [Sec.tick, Sec.held, Sec.letIn, hs, hq]
def ag (st : Int) (q : List Int) : Sec := ⟨1000, 0, st, 0, 0, 0, q, 0⟩
def ah (q : List Int) : Sec := ⟨1000, 0, 1, 0, 1, 0, q, 0⟩
theorem ah_wait {i : Nat} (hi : i ≤ 20) : (ah (run 1 i)).enter ((i : Int) + 1) 0 = (0, false, ah (run 1 (i + 1))) := by
  have h := enter_waits (s := ah (run 1 i)) (x := (i : Int) + 1) (now := 0) (by omega) (by omega) (by show (0 : Int) < 1; decide) (by simp [ah]; omega) (by simp only [ah]; rw [run_mem]; omega) (by simp [ah])
  rw [h]
  simp only [ah]
  rw [show (i : Int) + 1 = 1 + i from by omega, run_snoc]
  simp
theorem ag_wait {n : Nat} (hn : 0 < n) : (ag 1 (run 1 n)).enter 0 0 = (0, false, ag 1 (run 1 n ++ [0])) := by
  obtain ⟨k, rfl⟩ : ∃ k, n = k + 1 := ⟨n - 1, by omega⟩
  have hm : (0 : Int) ∉ run 1 (k + 1) := by rw [run_mem]; omega
  have e1 : (ag 1 (run 1 (k + 1))).tick 0 = ag 1 (run 1 (k + 1)) := by simp [ag, Sec.tick]
  have e3 : (ag 1 (run 1 (k + 1))).ask 0 = ag 1 (run 1 (k + 1) ++ [0]) := by
    unfold Sec.ask Sec.wait
    rw [if_neg (by exact hm)]
    unfold Sec.pass1
    rw [if_neg (by simp [Sec.held, ag])]
    unfold Sec.pass2
    rw [if_neg (by simp [Sec.over, ag, run_len])]
    simp [ag, run_len]
  unfold Sec.enter
  rw [if_neg (by omega), e1]
  unfold Sec.enterIn
  rw [e3, if_neg (by simp [Sec.isH, ag])]
  rw [if_pos (by simp [ag, run])]
theorem ag_in {i k : Nat} (hi : i ≤ 20) : (ag ((i : Int) + 1) (run ((i : Int) + 1) (k + 1) ++ [0])).enter ((i : Int) + 1) 0 = ((i : Int) + 2, true, ⟨1000, 0, (i : Int) + 2, (i : Int) + 1, (i : Int) + 2, 0, run ((i : Int) + 2) k ++ [0], 0⟩) := by
  have h := enter_first (s := ag ((i : Int) + 1) (run ((i : Int) + 1) (k + 1) ++ [0])) (x := (i : Int) + 1) (now := 0) (by omega) (by omega) rfl (run ((i : Int) + 2) k ++ [0]) (by simp only [ag, run, List.cons_append]; rw [show (i : Int) + 1 + 1 = i + 2 from by omega])
  rw [h]
  simp [ag]
  omega
theorem ag_out {i : Nat} (q : List Int) : (⟨1000, 0, (i : Int) + 2, (i : Int) + 1, (i : Int) + 2, 0, q, 0⟩ : Sec).leave ((i : Int) + 1) ((i : Int) + 2) = (true, ag ((i : Int) + 2) q) := by
  have : 0 < (i : Int) + 2 := by omega
  simp [Sec.leave, Sec.holds, Sec.isH, Sec.rel, ag, this]
theorem ag_last {n : Nat} : (ag ((n : Int) + 1) [0]).enter 0 0 = ((n : Int) + 2, true, ⟨1000, 0, (n : Int) + 2, 0, (n : Int) + 2, 0, [], 0⟩) := by
  rw [enter_first (by omega) (by omega) rfl [] rfl]
  simp [ag]
  omega
set_option maxRecDepth 100000 in
set_option maxHeartbeats 4000000 in
theorem SectAgain_core (w : World) (a0 : Int) (m : Nat) (hm : bits .and .i64 a0 7 = m) (hm8 : m < 8) :
    Calls Try.prog 4 #[.int .i64 a0] w fun e w' => e = .returned (.bool true) ∧ Below w.heap.size w w' := by
  go_enter Try.func4, Try.ntmps4
  go_wp2_with fail
  refine (S0.new (Keep.refl (From w.heap.size) w) 1000).mono ?_; rintro e w2 ⟨p, rfl, h2, k2⟩
  go_wp2_with fail
  refine (h2.enter 0 0 (by decide) (by decide) 1 true (ah []) rfl).mono ?_; rintro e w3 ⟨rfl, A3, c3, h3, k3⟩
  clear h2 k2 k3
  go_wp2_with fail
  go_loopw [6] (fun s6 wx => ∃ (i : Nat) (A : Option Addr) (cap : Nat), i ≤ m + 1 ∧ s6 = .int .i64 ((i : Int) + 1) ∧ S0 w wx p A cap (ah (run 1 i))) (fun s6 _ => 10 - (intOf s6).toNat)
  case atStart => exact ⟨0, A3, c3, Nat.zero_le _, rfl, h3⟩
  case round =>
    obtain ⟨i, A, cap, hi, rfl, H⟩ := hrel
    clear h3
    by_cases hlt : i < m + 1
    · have he := H.enter ((i : Int) + 1) 0 (by decide) (by show (1 : Int) < 4611686018427387904; decide) 0 false _ (ah_wait (by omega))
      go_wp2_with fail
      refine he.mono ?_; rintro e w4 ⟨rfl, A4, c4, h4, k4⟩
      go_wp2_with fail
      go_roundw
      case rel => exact ⟨i + 1, A4, c4, by omega, by go_num, h4⟩
      case measure => simp [intOf]; omega
    · obtain rfl : i = m + 1 := by omega
      go_wp2_with fail
      refine (H.leave 0 1 true (ag 1 (run 1 (m + 1))) rfl).mono ?_; rintro e w4 ⟨rfl, h4, k4⟩
      go_wp2_with fail
      refine (h4.enter 0 0 (by decide) (by show (1 : Int) < 4611686018427387904; decide) 0 false _ (ag_wait (by omega))).mono ?_; rintro e w5 ⟨rfl, A5, c5, h5, k5⟩
      clear H h4 k4 k5 hlt hi
      go_wp2_with fail
      go_loopw [11] (fun s11 wx => ∃ (i : Nat) (A : Option Addr) (cap : Nat), i ≤ m + 1 ∧ s11 = .int .i64 ((i : Int) + 1) ∧ S0 w wx p A cap (ag ((i : Int) + 1) (run ((i : Int) + 1) (m + 1 - i) ++ [0]))) (fun s11 _ => 10 - (intOf s11).toNat)
      case atStart => exact ⟨0, A5, c5, Nat.zero_le _, rfl, h5⟩
      case round =>
        obtain ⟨i, A, cap, hi, rfl, H⟩ := hrel
        clear h5
        by_cases hlt : i < m + 1
        · rw [show m + 1 - i = m - i + 1 from by omega] at H
          have he := H.enter ((i : Int) + 1) 0 (by decide) (by show (i : Int) + 1 < 4611686018427387904; omega) _ true _ (ag_in (by omega))
          have hk : m - i = m + 1 - (i + 1) := by omega
          have HK := Lib.hid hk
          clear hk
          generalize m - i = k at *
          go_wp2_with fail
          refine he.mono ?_; rintro e w6 ⟨rfl, A6, c6, h6, k6⟩
          go_wp2_with fail
          refine (h6.leave ((i : Int) + 1) (1 + ((i : Int) + 1)) true (ag ((i : Int) + 2) (run ((i : Int) + 2) k ++ [0])) ((congrArg (Sec.leave _ _) (show (1 : Int) + ((i : Int) + 1) = (i : Int) + 2 from by omega)).trans (ag_out _))).mono ?_; rintro e w7 ⟨rfl, h7, k7⟩
          go_wp2_with fail
          go_roundw
          case rel => exact ⟨i + 1, A6, c6, by omega, by go_num, by rw [← HK.out]; rw [show ((i + 1 : Nat) : Int) + 1 = (i : Int) + 2 from by omega]; exact h7⟩
          case measure => simp [intOf]; omega
        · obtain rfl : i = m + 1 := by omega
          rw [Nat.sub_self] at H
          have he := H.enter 0 0 (by decide) (by show ((m + 1 : Nat) : Int) + 1 < 4611686018427387904; omega) _ true _ ag_last
          go_wp2_with fail
          refine he.mono ?_; rintro e w6 ⟨rfl, A6, c6, h6, k6⟩
          go_wp2_with fail
          refine (queue_is h6.is h6.ok).mono ?_; rintro e w7 ⟨A7, c7, rfl, hv, ho, k7⟩
          go_wp2_with fail
          refine (awake_true w7).mono ?_; rintro e w8 ⟨rfl, k8⟩
          go_wp2_with fail
          go_ret
          exact ⟨rfl, ((h6.nob k7).nob k8).keep.done⟩
theorem SectAgain_walk (w : World) (a0 : Int) (w0 : (Lit.int .i64 a0).wf = true) :
    Calls Try.prog 4 #[.int .i64 a0] w fun e w' => e = .returned (.bool true) ∧ Below w.heap.size w w' := by
  obtain ⟨m, hm⟩ := Int.eq_ofNat_of_zero_le (show 0 ≤ a0 % 8 by omega)
  exact SectAgain_core w a0 m ((i64_and7 a0).trans hm) (by omega)
end Go.Proofs.Ytflibnoidhljpaa
