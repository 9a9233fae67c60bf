/- The walk of the statement PredTells (layer 7). -/
import Derived.Test.YtlkknmbdikoldaaLaw7a
namespace Go.Proofs.Ytlkknmbdikoldaa
open Go.RowKit
set_option linter.unusedVariables false
set_option linter.unusedSimpArgs false
theorem view_str {w w' : World} {A : Option Addr} {n c : Nat} {view : List UInt8} (h : Reads w A n (bytes view)) (k : Keep Nob w w') : (convert 22 9 (.slice A n c)).run Try.prog w' = .ok (.string (str view)) w' :=
  run_str (P := Try.prog) w' 22 9 5 A n c view Try.underlying22 Try.underlying5 Try.underlying9 (h.nob k)
set_option maxHeartbeats 4000000 in
theorem PredTells_walk (w : World) (A0 : Option Addr) (n0 c0 : Nat) (x0 : Ty.den (.sl 24 (.pair (.int .i64) (.pair (.int .i64) (.pair (.int .i64) .unit))))) (w0 : Holds w (.sl 24 (.pair (.int .i64) (.pair (.int .i64) (.pair (.int .i64) .unit)))) x0 [.slice A0 n0 c0]) (A1 : Option Addr) (n1 c1 : Nat) (x1 : Ty.den (.sl 8 (.int .i64))) (w1 : Holds w (.sl 8 (.int .i64)) x1 [.slice A1 n1 c1]) (A2 : Option Addr) (n2 c2 : Nat) (x2 : Ty.den (.sl 1 .byte)) (w2 : Holds w (.sl 1 .byte) x2 [.slice A2 n2 c2]) (a3 : Int) (w3 : (Lit.int .i64 a3).wf = true) :
    Calls Try.prog 4 #[.slice A0 n0 c0, .slice A1 n1 c1, .slice A2 n2 c2, .int .i64 a3] w fun e w' => e = .returned (.bool true) ∧ Below w.heap.size w w' := by
  obtain ⟨hm, hR, _, _⟩ := holds_bytes w2
  obtain ⟨l0, hp0⟩ := holds_prog w0
  have W1 := Lib.hid w1
  have HR := Lib.hid hR
  have HP := Lib.hid hp0
  clear w0 w1 w2 w3 hR hp0
  by_cases h60 : 60 < n0
  · go_enter Try.func4, Try.ntmps4
    go_wp2_with fail
    refine (awake_true _).mono ?_; rintro e we ⟨rfl, k5⟩
    go_wp2_with fail
    go_ret
    exact ⟨rfl, k5.fin⟩
  by_cases h300 : 300 < n2
  · go_enter Try.func4, Try.ntmps4
    go_wp2_with fail
    refine (awake_true _).mono ?_; rintro e we ⟨rfl, k5⟩
    go_wp2_with fail
    go_ret
    exact ⟨rfl, k5.fin⟩
  go_enter Try.func4, Try.ntmps4
  go_wp2_with fail
  go_loopw [9, 10] (fun s9 s10 wx => ∃ (i : Nat) (B : Option Addr) (m cap : Nat) (l : List Prim), i ≤ 2 ∧ s9 = .slice B m cap ∧ s10 = .int .i64 i ∧ IsProg wx B m l ∧ (i = 2 → check l = 0) ∧ Keep Nob w wx) (fun _ s10 _ => 2 - (intOf s10).toNat)
  case atStart => exact ⟨0, A0, n0, c0, l0, by omega, rfl, rfl, HP.out, by omega, Keep.refl _ _⟩
  case round =>
    obtain ⟨i, B, m, cap, l, hi, rfl, rfl, hp, hc, hk⟩ := hrel
    have HQ := Lib.hid hp
    clear hp
    by_cases hlt : i < 2
    · obtain ⟨z, k, hz⟩ : ∃ z k, eval x2 a3 l = (z, k) := ⟨_, _, rfl⟩
      obtain ⟨v, hv⟩ : ∃ v, check l = v := ⟨_, rfl⟩
      have hzb : (z != z) = false := by cases z <;> rfl
      have hvb : (v != v) = false := by simp
      go_wp2_with fail
      refine (eval_is hm (HR.out.nob hk) a3 HQ.out z k hz).mono ?_; rintro e wb ⟨rfl, k2⟩
      have k12 := hk.nobt k2
      have hs := view_str (c := c2) HR.out k12
      go_wp2_with fail
      refine (deval_is x2 a3 (HQ.out.nob k2) z k hz).mono ?_; rintro e wc ⟨rfl, k3⟩
      have k13 := k12.nobt k3
      clear hs
      go_wp2_with fail
      refine (check_is ((HQ.out.nob k2).nob k3) v hv).mono ?_; rintro e wd ⟨rfl, k4⟩
      have k14 := k13.nobt k4
      go_wp2_with fail
      refine (dcheck_is (((HQ.out.nob k2).nob k3).nob k4) v hv).mono ?_; rintro e we ⟨rfl, k5⟩
      have k15 := k14.nobt k5
      clear k12 k13 k14 k2 k3 k4 k5
      go_wp2_with fail
      have ht : Holds we (.sl 8 (.int .i64)) x1 [.slice A1 n1 c1] := Holds.nob k15 _ _ _ W1.out
      refine (tame_is ht).mono ?_; rintro e wf ⟨B', m', cap', l', rfl, hl', hm20, hc', hv', k6⟩
      go_wp2_with fail
      go_roundw
      case rel => exact ⟨i + 1, B', m', cap', l', by omega, rfl, by go_num, IsProg.of_vec hv', fun _ => hc', k15.nobt k6⟩
      case measure => simp [intOf]; omega
    · obtain rfl : i = 2 := by omega
      have hc0 : check l = 0 := by simpa using hc
      clear hc
      go_wp2_with fail
      refine (dcheck_is HQ.out 0 hc0).mono ?_; rintro e we ⟨rfl, k5⟩
      go_wp2_with fail
      refine (awake_true _).mono ?_; rintro e wf ⟨rfl, k6⟩
      go_wp2_with fail
      go_ret
      exact ⟨rfl, ((hk.nobt k5).nobt k6).fin⟩
end Go.Proofs.Ytlkknmbdikoldaa
