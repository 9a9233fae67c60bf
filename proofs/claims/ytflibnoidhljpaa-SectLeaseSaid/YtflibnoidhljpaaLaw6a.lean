/- The walks of the statements of layer 6 (sect): what each needs of awake; SectLease, SectAgain, SectQuits. -/
import Derived.Test.YtflibnoidhljpaaSec4
namespace Go.Proofs.Ytflibnoidhljpaa
open Go.RowKit
set_option linter.unusedVariables false
set_option linter.unusedSimpArgs false
set_option maxHeartbeats 2000000 in
theorem awake_true (w : World) : Calls Try.prog 13 #[] w fun e w' => e = .returned (.bool true) ∧ Keep Nob w w' := by
  go_enter Try.func13, Try.ntmps13
  go_wp2_with fail
  refine (S0.new (Keep.refl (From w.heap.size) w) 5).mono ?_; rintro e w1 ⟨p, rfl, h1, k1⟩
  go_wp2_with fail
  refine (h1.enter 1 0 (by decide) (by decide) 1 true ⟨5, 0, 1, 1, 1, 0, [], 0⟩ rfl).mono ?_; rintro e w2 ⟨rfl, A2, c2, h2, k2⟩
  go_wp2_with fail
  refine (h2.enter 2 1 (by decide) (by decide) 0 false ⟨5, 1, 1, 1, 1, 0, [2], 1⟩ rfl).mono ?_; rintro e w3 ⟨rfl, A3, c3, h3, k3⟩
  go_wp2_with fail
  refine (h3.enter 2 5 (by decide) (by decide) 2 true ⟨5, 5, 2, 2, 2, 5, [], 5⟩ rfl).mono ?_; rintro e w4 ⟨rfl, A4, c4, h4, k4⟩
  go_wp2_with fail
  refine (holds_is h4.is 1 1 false rfl).mono ?_; rintro e w5 ⟨rfl, rfl⟩
  go_wp2_with fail
  refine (holds_is h4.is 2 2 true rfl).mono ?_; rintro e w5 ⟨rfl, rfl⟩
  go_wp2_with fail
  refine (queue_is h4.is h4.ok).mono ?_; rintro e w5 ⟨A5, c5, rfl, hv, ho, k5⟩
  go_wp2_with fail
  go_ret
  exact ⟨rfl, (h4.nob k5).keep.mono (fun k hk m => absurd m (Nat.not_le.2 hk))⟩
theorem holds_int_at {w : World} {wd : Nat} {A : Option Addr} {n c : Nat} {xs : List Int} (h : Holds w (.sl wd (.int .i64)) xs [.slice A n c]) {k : Nat} (hk : k < n) :
    ∃ b off, A = some ⟨b, off, none⟩ ∧ ∃ x : Int, w.cell? ⟨b, off + k, none⟩ = some (.int .i64 x) := by
  obtain ⟨bb, off, cs', hA0, hcl, hcc, hk', hh⟩ := holds_at h (by decide) hk
  obtain ⟨rfl, _⟩ := hh
  have := hcc 0 _ rfl
  simp only [show (Ty.int IntKind.i64).size = 1 from rfl, Nat.mul_one, Nat.add_zero] at this
  exact ⟨bb, off, hA0, _, this⟩
/-- SectLease: 1 is in since 0, 2 may wait. -/
def lz (L now : Int) (q : List Int) : Sec := ⟨L, now, 1, 1, 1, 0, q, now⟩
theorem lz_stay {L now n : Int} {q : List Int} (hq : q = [] ∨ q = [2]) (h1 : now ≤ n) (h2 : n < L) : (lz L now q).enter 2 n = (0, false, lz L n [2]) := by
  have hm : max now n = n := by omega
  have h3 : ¬ L ≤ n := by omega
  rcases hq with rfl | rfl <;> simp [lz, Sec.enter, Sec.enterIn, Sec.tick, Sec.isH, Sec.ask, Sec.wait, Sec.pass1, Sec.pass2, Sec.held, Sec.over, hm, h2, h3]
theorem lz_take {L now n : Int} {q : List Int} (hq : q = [] ∨ q = [2]) (h1 : now ≤ n) (h2 : L ≤ n) : (lz L now q).enter 2 n = (2, true, ⟨L, n, 2, 2, 2, n, [], n⟩) := by
  have hm : max now n = n := by omega
  have h3 : ¬ n < L := by omega
  rcases hq with rfl | rfl <;> simp [lz, Sec.enter, Sec.enterIn, Sec.tick, Sec.isH, Sec.ask, Sec.wait, Sec.pass1, Sec.pass2, Sec.held, Sec.over, Sec.rel, Sec.letIn, hm, h2, h3]
theorem lz_own {L now : Int} {q : List Int} : (lz L now q).enter 1 now = (1, true, lz L now q) := by
  simp [lz, Sec.enter, Sec.enterIn, Sec.tick, Sec.isH]
theorem new_in {L : Int} (h1 : 1 ≤ L) (h2 : L ≤ 1000) : (Sec.new L).enter 1 0 = (1, true, lz L 0 []) := by
  have e1 : min (max L 1) 1000 = L := by omega
  have e2 : max (-9223372036854775808 : Int) 0 = 0 := by decide
  simp [lz, Sec.new, Sec.enter, Sec.enterIn, Sec.tick, Sec.isH, Sec.ask, Sec.wait, Sec.pass1, Sec.pass2, Sec.held, Sec.over, Sec.rel, Sec.letIn, e1, e2]
set_option maxRecDepth 100000 in
set_option maxHeartbeats 4000000 in
theorem SectLease_core (w : World) (a0 : Int) (A1 : Option Addr) (n1 c1 : Nat) (x1 : List Int) (w1 : Holds w (.sl 8 (.int .i64)) x1 [.slice A1 n1 c1]) (m k : Nat) (hm : bits .and .i64 a0 255 = m) (hk : (m : Int) % 100 = k) (hk2 : (m : Int).tmod 100 = k) (hk3 : k < 100) :
    Calls Try.prog 3 #[.int .i64 a0, .slice A1 n1 c1] w fun e w' => e = .returned (.bool true) ∧ Below w.heap.size w w' := by
  have W1 := Lib.hid w1
  clear w1
  go_enter Try.func3, Try.ntmps3
  go_wp2_with fail
  refine (S0.new (Keep.refl (From w.heap.size) w) ((k : Int) + 1)).mono ?_; rintro e w2 ⟨p, rfl, h2, k2⟩
  go_wp2_with fail
  refine (h2.enter 1 0 (by decide) (by show (0 : Int) < 4611686018427387904; decide) 1 true _ (new_in (by omega) (by omega))).mono ?_; rintro e w3 ⟨rfl, A3, c3, h3, k3⟩
  clear h2 k2 k3
  go_wp2_with fail
  go_loopw [8, 9] (fun s8 s9 wx => ∃ (i : Nat) (now : Int) (q : List Int) (A : Option Addr) (cap : Nat), i ≤ n1 ∧ i ≤ 30 ∧ s8 = .int .i64 now ∧ s9 = .int .i64 i ∧ 0 ≤ now ∧ now ≤ 31 * i ∧ now < (k : Int) + 1 ∧ (q = [] ∨ q = [2]) ∧ S0 w wx p A cap (lz ((k : Int) + 1) now q)) (fun _ s9 _ => 30 - (intOf s9).toNat)
  case atStart => exact ⟨0, 0, [], A3, c3, Nat.zero_le _, Nat.zero_le _, rfl, rfl, by omega, by omega, by omega, .inl rfl, h3⟩
  case round =>
    obtain ⟨i, now, q, A, cap, hi1, hi2, rfl, rfl, hn0, hn1, hn2, hq, H⟩ := hrel
    clear h3
    by_cases hlt : i < n1 ∧ i < 30
    · obtain ⟨hl1, hl2⟩ := hlt
      obtain ⟨b, off, rfl, x, hx⟩ := holds_int_at W1.out hl1
      have hxr := H.keep.cell_from hx
      have hx31 : 0 ≤ x % 32 ∧ x % 32 ≤ 31 := by omega
      obtain ⟨y, hy⟩ : ∃ y, x % 32 = y := ⟨_, rfl⟩
      rw [hy] at hx31
      have one : ∀ z : Int, z < 4611686018427387904 → z ≤ 9223372036854775807 := fun z h => by omega
      by_cases hL : now + y < (k : Int) + 1
      · have he := H.enter 2 (now + y) (by omega) (by show (1 : Int) < 4611686018427387904; decide) 0 false _ (lz_stay hq (by omega) hL)
        go_wp2_with fail
        refine he.mono ?_; rintro e w4 ⟨rfl, A4, c4, h4, k4⟩
        go_wp2_with fail
        refine (holds_is h4.is 1 1 true rfl).mono ?_; rintro e w5 ⟨rfl, rfl⟩
        go_wp2_with fail
        go_roundw
        case rel => exact ⟨i + 1, now + y, [2], A4, c4, by omega, by omega, rfl, by go_num, by omega, by omega, by omega, .inr rfl, h4⟩
        case measure => simp [intOf]; omega
      · have he := H.enter 2 (now + y) (by omega) (by show (1 : Int) < 4611686018427387904; decide) 2 true _ (lz_take hq (by omega) (by omega))
        go_wp2_with fail
        refine he.mono ?_; rintro e w4 ⟨rfl, A4, c4, h4, k4⟩
        go_wp2_with fail
        refine (holds_is h4.is 1 1 false rfl).mono ?_; rintro e w5 ⟨rfl, rfl⟩
        go_wp2_with fail
        refine (holds_is h4.is 2 2 true rfl).mono ?_; rintro e w5 ⟨rfl, rfl⟩
        go_wp2_with fail
        refine (h4.leave 1 1 false _ rfl).mono ?_; rintro e w5 ⟨rfl, h5, k5⟩
        go_wp2_with fail
        refine (h5.leave 2 2 true _ rfl).mono ?_; rintro e w6 ⟨rfl, h6, k6⟩
        go_wp2_with fail
        refine (awake_true w6).mono ?_; rintro e w7 ⟨rfl, k7⟩
        go_wp2_with fail
        go_ret
        exact ⟨rfl, (h6.nob k7).keep.done⟩
    · have he := H.enter 1 now (by omega) (by show (1 : Int) < 4611686018427387904; decide) 1 true _ lz_own
      by_cases hl1 : i < n1
      · have hl2 : ¬ i < 30 := fun h => hlt ⟨hl1, h⟩
        clear hlt
        go_wp2_with fail
        refine he.mono ?_; rintro e w4 ⟨rfl, A4, c4, h4, k4⟩
        go_wp2_with fail
        refine (h4.leave 1 1 true _ rfl).mono ?_; rintro e w5 ⟨rfl, h5, k5⟩
        go_wp2_with fail
        refine (h5.leave 1 1 false _ rfl).mono ?_; rintro e w6 ⟨rfl, h6, k6⟩
        go_wp2_with fail
        refine (awake_true w6).mono ?_; rintro e w7 ⟨rfl, k7⟩
        go_wp2_with fail
        go_ret
        exact ⟨rfl, (h6.nob k7).keep.done⟩
      · clear hlt
        go_wp2_with fail
        refine he.mono ?_; rintro e w4 ⟨rfl, A4, c4, h4, k4⟩
        go_wp2_with fail
        refine (h4.leave 1 1 true _ rfl).mono ?_; rintro e w5 ⟨rfl, h5, k5⟩
        go_wp2_with fail
        refine (h5.leave 1 1 false _ rfl).mono ?_; rintro e w6 ⟨rfl, h6, k6⟩
        go_wp2_with fail
        refine (awake_true w6).mono ?_; rintro e w7 ⟨rfl, k7⟩
        go_wp2_with fail
        go_ret
        exact ⟨rfl, (h6.nob k7).keep.done⟩
theorem SectLease_walk (w : World) (a0 : Int) (w0 : (Lit.int .i64 a0).wf = true) (A1 : Option Addr) (n1 c1 : Nat) (x1 : Ty.den (.sl 8 (.int .i64))) (w1 : Holds w (.sl 8 (.int .i64)) x1 [.slice A1 n1 c1]) :
    Calls Try.prog 3 #[.int .i64 a0, .slice A1 n1 c1] w fun e w' => e = .returned (.bool true) ∧ Below w.heap.size w w' := by
  obtain ⟨m, hm⟩ := Int.eq_ofNat_of_zero_le (show 0 ≤ a0 % 256 by omega)
  exact SectLease_core w a0 A1 n1 c1 x1 w1 m (m % 100) ((i64_and255 a0).trans hm) (by omega) (by rw [Int.tmod_eq_emod_of_nonneg (by omega)]; omega) (Nat.mod_lt _ (by decide))
end Go.Proofs.Ytflibnoidhljpaa
