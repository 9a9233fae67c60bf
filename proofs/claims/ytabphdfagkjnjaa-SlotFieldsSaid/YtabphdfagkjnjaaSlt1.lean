/- Package pslot: fits, hasOkSets, hasOkFds, suitsState, Ok; the document's in, signals, ProcOk; processes compared. -/
import Derived.Test.YtabphdfagkjnjaaSltE
import Derived.Deep.DeepCutAuto
namespace Go.Proofs.Ytabphdfagkjnjaa
open Go.RowKit
set_option linter.unusedVariables false
set_option linter.unusedSimpArgs false
theorem fits_is (n lo hi : Int) (w : World) (v : Bool) (hv : inn n lo hi = v) : Calls Try.prog 21 #[.int .i64 n, .int .i64 lo, .int .i64 hi] w fun e w' => e = .returned (.bool v) ∧ w = w' := by
  subst hv
  by_cases h0 : lo ≤ n
  · go_enter Try.func21, Try.ntmps21
    go_wp2
    go_ret
    exact ⟨by simp [inn, h0], rfl⟩
  · go_enter Try.func21, Try.ntmps21
    go_wp2
    go_ret
    exact ⟨by simp [inn, h0]; try omega, rfl⟩
theorem in_is (n lo hi : Int) (w : World) (v : Bool) (hv : inn n lo hi = v) : Calls Try.prog 25 #[.int .i64 n, .int .i64 lo, .int .i64 hi] w fun e w' => e = .returned (.bool v) ∧ w = w' := by
  subst hv
  by_cases h0 : lo ≤ n
  · go_enter Try.func25, Try.ntmps25
    go_wp2
    go_ret
    exact ⟨by simp [inn, h0], rfl⟩
  · go_enter Try.func25, Try.ntmps25
    go_wp2
    go_ret
    exact ⟨by simp [inn, h0]; try omega, rfl⟩
theorem signals_is (n : Int) (h : Wf n) (w : World) (v : Bool) (hv : sig n = v) : Calls Try.prog 26 #[.int .i64 n] w fun e w' => e = .returned (.bool v) ∧ w = w' := by
  have hs := sig_off h
  rw [hv] at hs
  by_cases h0 : 0 ≤ n
  · clear hv
    go_enter Try.func26, Try.ntmps26
    go_wp2
    go_ret
    exact ⟨rfl, rfl⟩
  · obtain rfl : v = false := by
      rw [← hv]; unfold sig
      rw [decide_eq_false (by omega), Bool.false_and]
    clear hv hs
    go_enter Try.func26, Try.ntmps26
    go_wp2
    go_ret
    exact ⟨by simp; try omega, rfl⟩
theorem getD_wf {p : List Int} (h : ∀ x ∈ p, Wf x) (k : Nat) : Wf (p.getD k 0) := by
  rw [List.getD_eq_getElem?_getD]
  rcases Nat.lt_or_ge k p.length with h1 | h1
  · rw [List.getElem?_eq_getElem h1]; exact h _ (List.getElem_mem h1)
  · rw [List.getElem?_eq_none h1]; exact ⟨by decide, by decide⟩
set_option maxHeartbeats 1000000 in
theorem sets_is (p : List Int) (hl : p.length = 16) (hw : ∀ x ∈ p, Wf x) (w : World) (v : Bool) (hv : setsOk (p.getD 4 0) (p.getD 5 0) (p.getD 6 0) (p.getD 7 0) = v) :
    Calls Try.prog 22 #[pv p] w fun e w' => e = .returned (.bool v) ∧ Keep Nob w w' := by
  rw [← setsOk_is (getD_wf hw 4) (getD_wf hw 5) (getD_wf hw 6) (getD_wf hw 7)] at hv
  clear hw
  obtain ⟨a0, a1, a2, a3, a4, a5, a6, a7, f0, f1, f2, f3, f4, f5, f6, f7, rfl⟩ := split16 hl
  simp only [List.getD_cons_succ, List.getD_cons_zero, ruled] at hv
  simp only [pv, ints, List.map_cons, List.map_nil]
  by_cases h1 : bits .andNot .i64 (bits .or .i64 a4 (bits .or .i64 (bits .or .i64 a5 a6) a7)) 65534 = 0
  · rw [h1, beq_self_eq_true, Bool.true_and] at hv
    by_cases h2 : bits .and .i64 (bits .or .i64 (bits .or .i64 a5 a6) a7) 16896 = 0
    · rw [h2, beq_self_eq_true, Bool.true_and] at hv
      go_enter Try.func22, Try.ntmps22
      go_wp2
      go_ret
      exact ⟨by subst hv; rfl, (Keep.refl Nob w).alloc _⟩
    · have e2 : (bits .and .i64 (bits .or .i64 (bits .or .i64 a5 a6) a7) 16896 == 0) = false := by simpa using h2
      rw [e2, Bool.false_and] at hv
      subst hv
      go_enter Try.func22, Try.ntmps22
      go_wp2
      go_ret
      exact ⟨rfl, (Keep.refl Nob w).alloc _⟩
  · have e1 : (bits .andNot .i64 (bits .or .i64 a4 (bits .or .i64 (bits .or .i64 a5 a6) a7)) 65534 == 0) = false := by simpa using h1
    rw [e1, Bool.false_and, Bool.false_and] at hv
    subst hv
    go_enter Try.func22, Try.ntmps22
    go_wp2
    go_ret
    exact ⟨rfl, (Keep.refl Nob w).alloc _⟩
set_option maxHeartbeats 1000000 in
theorem suits_is (p : List Int) (hl : p.length = 16) (w : World) (v : Bool) (hv : (if p.getD 0 0 == 2 then fdsNone (p.drop 8) && p.getD 4 0 == 0 else p.getD 3 0 == 0) = v) :
    Calls Try.prog 24 #[pv p] w fun e w' => e = .returned (.bool v) ∧ Keep Nob w w' := by
  have he := eq_fds (p.drop 8) (by simp [hl])
  obtain ⟨a0, a1, a2, a3, a4, a5, a6, a7, f0, f1, f2, f3, f4, f5, f6, f7, rfl⟩ := split16 hl
  simp only [List.getD_cons_succ, List.getD_cons_zero, List.drop_succ_cons, List.drop_zero] at hv he
  generalize fdsNone _ = d at *
  simp only [pv, ints, List.map_cons, List.map_nil] at he ⊢
  by_cases h1 : a0 = 2
  · subst h1
    rw [beq_self_eq_true, if_pos rfl] at hv
    cases d with
    | true =>
      rw [Bool.true_and] at hv
      go_enter Try.func24, Try.ntmps24
      go_wp2
      go_ret
      exact ⟨by subst hv; rfl, (Keep.refl Nob w).alloc _⟩
    | false =>
      rw [Bool.false_and] at hv
      subst hv
      go_enter Try.func24, Try.ntmps24
      go_wp2
      go_ret
      exact ⟨rfl, (Keep.refl Nob w).alloc _⟩
  · have e1 : (a0 == 2) = false := by simpa using h1
    rw [e1, if_neg (by simp)] at hv
    clear he
    go_enter Try.func24, Try.ntmps24
    go_wp2
    go_ret
    exact ⟨by subst hv; rfl, (Keep.refl Nob w).alloc _⟩
theorem index8 (f : List Int) (hf : f.length = 8) (k : Nat) (hk : k < 8) (W : World) : (Instr.index 22 (.agg (ints f).toArray) (.int .i64 (k : Int))).run Try.prog W = .ok (.int .i64 (f.getD k 0)) W := by
  have hg := Try.isAgg3
  have hs := Try.sizeOf3
  have h0 : (0 : Int) ≤ (k : Int) := by omega
  have h8 : ((k : Nat) : Int) < ((8 : Nat) : Int) := by omega
  have hc : ((ints f).toArray)[k]? = some (.int .i64 (f.getD k 0)) := by
    rw [List.getElem?_toArray, ints_get, List.getD_eq_getElem?_getD, List.getElem?_eq_getElem (by omega)]; rfl
  generalize (ints f).toArray = A at *
  simp [Instr.index, asIntOf, run_underlying Try.underlying22, Go.part, hg, hs, h8, hc, Sem.run_bind, Result.andThen]
  intro h; omega
theorem fds_take {f : List Int} {k : Nat} (h : k < f.length) : fdsOk (f.take (k + 1)) = (fdsOk (f.take k) && inn (f.getD k 0) 0 12) := by
  unfold fdsOk
  rw [List.take_succ_eq_append_getElem h, List.all_append, List.getD_eq_getElem?_getD, List.getElem?_eq_getElem h]
  simp
theorem fds_off {f : List Int} {k : Nat} (h : k < f.length) (hu : inn (f.getD k 0) 0 12 = false) : fdsOk f = false := by
  unfold fdsOk
  rw [List.all_eq_false]
  refine ⟨f[k], List.getElem_mem h, ?_⟩
  rw [List.getD_eq_getElem?_getD, List.getElem?_eq_getElem h] at hu
  simpa using hu
set_option maxHeartbeats 1000000 in
theorem fds_is (p : List Int) (hl : p.length = 16) (w : World) (v : Bool) (hv : fdsOk (p.drop 8) = v) :
    Calls Try.prog 23 #[pv p] w fun e w' => e = .returned (.bool v) ∧ Keep Nob w w' := by
  obtain ⟨a0, a1, a2, a3, a4, a5, a6, a7, f0, f1, f2, f3, f4, f5, f6, f7, rfl⟩ := split16 hl
  simp only [List.drop_succ_cons, List.drop_zero] at hv
  have HV := Lib.hid hv
  clear hv hl
  have kb := (Keep.refl Nob w).alloc (.cells #[.int .i64 a0, .int .i64 a1, .int .i64 a2, .int .i64 a3, .int .i64 a4, .int .i64 a5, .int .i64 a6, .int .i64 a7, .int .i64 f0, .int .i64 f1, .int .i64 f2, .int .i64 f3, .int .i64 f4, .int .i64 f5, .int .i64 f6, .int .i64 f7] 24)
  simp only [pv, ints, List.map_cons, List.map_nil]
  go_enter Try.func23, Try.ntmps23
  go_wp2_with fail
  go_loop [7] (fun s7 => ∃ (k : Nat), k ≤ 8 ∧ s7 = .int .i64 k ∧ fdsOk (([f0, f1, f2, f3, f4, f5, f6, f7] : List Int).take k) = true) (fun s7 => 8 - (intOf s7).toNat)
  case atStart => exact ⟨0, Nat.zero_le _, rfl, rfl⟩
  case round =>
    obtain ⟨k, hk, rfl, hx⟩ := hrel
    have HX2 := Lib.hid hx
    clear hx
    by_cases hlt : k < 8
    · have hkl : k < (([f0, f1, f2, f3, f4, f5, f6, f7] : List Int) : List Int).length := hlt
      have hix := index8 [f0, f1, f2, f3, f4, f5, f6, f7] rfl k hlt
      simp only [ints, List.map_cons, List.map_nil] at hix
      cases hb : inn (([f0, f1, f2, f3, f4, f5, f6, f7] : List Int).getD k 0) 0 12 with
      | true =>
        have hs := Lib.hid (fds_take hkl)
        have hb := Lib.hid hb
        generalize ([f0, f1, f2, f3, f4, f5, f6, f7] : List Int).getD k 0 = u at *
        go_wp2_with fail
        refine (fits_is _ _ _ _ _ hb.out).mono ?_; rintro e w1 ⟨rfl, rfl⟩
        go_wp2_with fail
        go_round
        case rel => exact ⟨k + 1, by omega, by go_num, by rw [hs.out, HX2.out, hb.out]; rfl⟩
        case measure => simp [intOf]; omega
      | false =>
        have hs := Lib.hid (fds_off hkl hb)
        have hb := Lib.hid hb
        generalize ([f0, f1, f2, f3, f4, f5, f6, f7] : List Int).getD k 0 = u at *
        go_wp2_with fail
        refine (fits_is _ _ _ _ _ hb.out).mono ?_; rintro e w1 ⟨rfl, rfl⟩
        go_wp2_with fail
        go_ret
        obtain rfl : v = false := by rw [← HV.out, hs.out]
        exact ⟨rfl, kb⟩
    · obtain rfl : k = 8 := by omega
      obtain rfl : v = true := by rw [← HV.out, ← HX2.out]; rfl
      go_wp2
      go_ret
      exact ⟨rfl, kb⟩
end Go.Proofs.Ytabphdfagkjnjaa
