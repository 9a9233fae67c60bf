/- Package ofile: fits, lastPipe, Ok; the document's in, FileOk. -/
import Derived.Test.YtdlenjooidnofaaFilE
import Derived.Deep.QuietTactic
import Derived.Deep.DeepCutAuto
namespace Go.Proofs.Ytdlenjooidnofaa.Fi
open Go.RowKit
set_option linter.unusedVariables false
set_option linter.unusedSimpArgs false
theorem quiet_ {f : FuncId} {args : Array Value} {w : World} {n : Nat} {v : Value} (h : Calls Try.prog f args (w.drewN n) fun e w' => e = .returned v ∧ w.drewN n = w') : Calls Try.prog f args (w.drewN n) fun e w'' => e = .returned v ∧ ∃ m, w'' = w.drewN m :=
  h.mono fun _ _ ⟨he, hm⟩ => ⟨he, n, hm.symm⟩
theorem fits_is (n lo hi : Int) (w : World) (v : Bool) (hv : inn n lo hi = v) : Calls Try.prog 20 #[.int .i64 n, .int .i64 lo, .int .i64 hi] w fun e w' => e = .returned (.bool v) ∧ w = w' := by
  subst hv
  by_cases h0 : lo ≤ n
  · go_enter Try.func20, Try.ntmps20
    go_wp2
    go_ret
    exact ⟨by simp [inn, h0], rfl⟩
  · go_enter Try.func20, Try.ntmps20
    go_wp2
    go_ret
    exact ⟨by simp [inn, h0]; try omega, rfl⟩
theorem in_is (n lo hi : Int) (w : World) (v : Bool) (hv : inn n lo hi = v) : Calls Try.prog 19 #[.int .i64 n, .int .i64 lo, .int .i64 hi] w fun e w' => e = .returned (.bool v) ∧ w = w' := by
  subst hv
  by_cases h0 : lo ≤ n
  · go_enter Try.func19, Try.ntmps19
    go_wp2
    go_ret
    exact ⟨by simp [inn, h0], rfl⟩
  · go_enter Try.func19, Try.ntmps19
    go_wp2
    go_ret
    exact ⟨by simp [inn, h0]; try omega, rfl⟩
theorem last_is (n : Int) (w : World) (v : Int) (hv : last n = v) : Calls Try.prog 21 #[.int .i64 n] w fun e w' => e = .returned (.int .i64 v) ∧ w = w' := by
  unfold last at hv
  by_cases h0 : n = 3
  · rw [if_pos h0] at hv
    subst h0 hv
    go_enter Try.func21, Try.ntmps21
    go_wp2
    go_ret
    exact ⟨rfl, rfl⟩
  · rw [if_neg h0] at hv
    subst hv
    go_enter Try.func21, Try.ntmps21
    go_wp2
    go_ret
    exact ⟨rfl, rfl⟩
theorem cells4 {w : World} {g : Nat} {t : TypeId} {a0 a1 a2 a3 : Int} (hb : Blk w g t (ints [a0, a1, a2, a3])) :
    w.cell? ⟨g, 0, none⟩ = some (.int .i64 a0) ∧ w.cell? ⟨g, 1, none⟩ = some (.int .i64 a1) ∧ w.cell? ⟨g, 2, none⟩ = some (.int .i64 a2) ∧ w.cell? ⟨g, 3, none⟩ = some (.int .i64 a3) := by
  refine ⟨?_, ?_, ?_, ?_⟩ <;> rw [hb.cell] <;> rfl
set_option maxHeartbeats 2000000 in
theorem ok_is (p : List Int) (hl : p.length = 4) (w : World) (v : Bool) (hv : okd p = v) :
    Calls Try.prog 9 #[pv p] w fun e w' => e = .returned (.bool v) ∧ Keep Nob w w' := by
  unfold okd at hv
  obtain ⟨a0, a1, a2, a3, rfl⟩ := split4 hl
  simp only [List.getD_cons_succ, List.getD_cons_zero] at hv
  clear hl
  obtain ⟨L, hL⟩ : ∃ L, last a0 = L := ⟨_, rfl⟩
  rw [hL] at hv
  generalize hb1 : inn a0 1 3 = b1 at hv
  generalize hb2 : inn a1 0 L = b2 at hv
  generalize hb3 : inn a2 1 64 = b3 at hv
  generalize hb4 : inn a3 0 1 = b4 at hv
  have HL := Lib.hid hL
  have HB1 := Lib.hid hb1
  have HB2 := Lib.hid hb2
  have HB3 := Lib.hid hb3
  have HB4 := Lib.hid hb4
  have HV := Lib.hid hv
  clear hb1 hb2 hb3 hb4 hv hL
  simp only [pv, ints, List.map_cons, List.map_nil]
  go_enter Try.func9, Try.ntmps9
  go_wp2_with (refine wpList_box rfl 23 _ rfl _ rfl ?_; intro w1 hb hk hs; clear hs; obtain ⟨c0, c1, c2, c3⟩ := cells4 hb; clear hb)
  cases b1 with
  | false =>
    go_quiet (first | (go_at_call 20; exact quiet_ (fits_is _ _ _ _ false HB1.out)))
    go_wp2
    go_ret
    obtain rfl : v = false := by have := HV.out; simpa using this.symm
    exact ⟨rfl, hk.nobt ((Keep.refl Nob w1).drewN _)⟩
  | true =>
  cases b2 with
  | false =>
    go_quiet (first | (go_at_call 20; exact quiet_ (fits_is _ _ _ _ true HB1.out)) | (go_at_call 21; exact quiet_ (last_is _ _ L HL.out)) | (go_at_call 20; exact quiet_ (fits_is _ _ _ _ false HB2.out)))
    go_wp2
    go_ret
    obtain rfl : v = false := by have := HV.out; simpa using this.symm
    exact ⟨rfl, hk.nobt ((Keep.refl Nob w1).drewN _)⟩
  | true =>
  cases b3 with
  | false =>
    go_quiet (first | (go_at_call 20; exact quiet_ (fits_is _ _ _ _ true HB1.out)) | (go_at_call 21; exact quiet_ (last_is _ _ L HL.out)) | (go_at_call 20; exact quiet_ (fits_is _ _ _ _ true HB2.out)) | (go_at_call 20; exact quiet_ (fits_is _ _ _ _ false HB3.out)))
    go_wp2
    go_ret
    obtain rfl : v = false := by have := HV.out; simpa using this.symm
    exact ⟨rfl, hk.nobt ((Keep.refl Nob w1).drewN _)⟩
  | true =>
  obtain rfl : b4 = v := by have := HV.out; simpa using this
  go_quiet (first | (go_at_call 20; exact quiet_ (fits_is _ _ _ _ true HB1.out)) | (go_at_call 21; exact quiet_ (last_is _ _ L HL.out)) | (go_at_call 20; exact quiet_ (fits_is _ _ _ _ true HB2.out)) | (go_at_call 20; exact quiet_ (fits_is _ _ _ _ true HB3.out)) | (go_at_call 20; exact quiet_ (fits_is _ _ _ _ b4 HB4.out)))
  go_wp2
  go_ret
  exact ⟨rfl, hk.nobt ((Keep.refl Nob w1).drewN _)⟩
theorem okd_doc (a0 a1 a2 a3 : Int) : okd [a0, a1, a2, a3] = (inn a0 1 3 && (inn a1 0 7 && ((a0 != 3 || a1 == 0) && (inn a2 1 64 && inn a3 0 1)))) := by
  unfold okd last
  simp only [List.getD_cons_succ, List.getD_cons_zero, Bool.and_assoc]
  by_cases h : a0 = 3
  · subst h
    have : inn a1 0 0 = (inn a1 0 7 && a1 == 0) := by
      unfold inn
      by_cases h1 : a1 = 0
      · subst h1; rfl
      · rw [show (a1 == 0) = false from by simpa using h1, Bool.and_false]
        exact decide_eq_false (by omega)
    rw [if_pos rfl, this]
    simp only [bne_self_eq_false, Bool.false_or, Bool.and_assoc]
  · rw [if_neg h, show (a0 != 3) = true from by simpa using h]
    simp only [Bool.true_or, Bool.true_and]
set_option maxHeartbeats 2000000 in
theorem fileok_is (p : List Int) (hl : p.length = 4) (w : World) (v : Bool) (hv : okd p = v) :
    Calls Try.prog 8 #[pv p] w fun e w' => e = .returned (.bool v) ∧ Keep Nob w w' := by
  obtain ⟨a0, a1, a2, a3, rfl⟩ := split4 hl
  rw [okd_doc] at hv
  clear hl
  generalize hb1 : inn a0 1 3 = b1 at hv
  generalize hb2 : inn a1 0 7 = b2 at hv
  generalize hb3 : inn a2 1 64 = b3 at hv
  generalize hb4 : inn a3 0 1 = b4 at hv
  have HB1 := Lib.hid hb1
  have HB2 := Lib.hid hb2
  have HB3 := Lib.hid hb3
  have HB4 := Lib.hid hb4
  have HV := Lib.hid hv
  clear hb1 hb2 hb3 hb4 hv
  simp only [pv, ints, List.map_cons, List.map_nil]
  go_enter Try.func8, Try.ntmps8
  go_wp2_with (refine wpList_box rfl 23 _ rfl _ rfl ?_; intro w1 hb hk hs; clear hs; obtain ⟨c0, c1, c2, c3⟩ := cells4 hb; clear hb)
  refine (in_is _ _ _ _ b1 HB1.out).mono ?_; rintro e w2 ⟨rfl, rfl⟩
  cases b1 with
  | false =>
    go_wp2
    go_ret
    obtain rfl : v = false := by have := HV.out; simpa using this.symm
    exact ⟨rfl, hk⟩
  | true =>
  go_wp2_with fail
  refine (in_is _ _ _ _ b2 HB2.out).mono ?_; rintro e w2 ⟨rfl, rfl⟩
  cases b2 with
  | false =>
    go_wp2
    go_ret
    obtain rfl : v = false := by have := HV.out; simpa using this.symm
    exact ⟨rfl, hk⟩
  | true =>
  have hv2 : ((a0 != 3 || a1 == 0) && (b3 && b4)) = v := by have := HV.out; simpa only [Bool.true_and] using this
  clear HV
  by_cases h3 : a0 = 3
  · subst h3
    by_cases h0 : a1 = 0
    · subst h0
      have hv3 : (b3 && b4) = v := by simpa using hv2
      clear hv2
      go_wp2_with fail
      refine (in_is _ _ _ _ b3 HB3.out).mono ?_; rintro e w2 ⟨rfl, rfl⟩
      cases b3 with
      | false =>
        go_wp2
        go_ret
        obtain rfl : v = false := by simpa using hv3.symm
        exact ⟨rfl, hk⟩
      | true =>
      go_wp2_with fail
      refine (in_is _ _ _ _ b4 HB4.out).mono ?_; rintro e w2 ⟨rfl, rfl⟩
      obtain rfl : b4 = v := by simpa using hv3
      go_wp2
      go_ret
      exact ⟨rfl, hk⟩
    · obtain rfl : v = false := by
        rw [show (a1 == 0) = false from by simpa using h0] at hv2
        simpa using hv2.symm
      clear hv2
      go_wp2
      go_ret
      exact ⟨rfl, hk⟩
  · have hv3 : (b3 && b4) = v := by
      rw [show (a0 != 3) = true from by simpa using h3] at hv2
      simpa using hv2
    clear hv2
    go_wp2_with fail
    refine (in_is _ _ _ _ b3 HB3.out).mono ?_; rintro e w2 ⟨rfl, rfl⟩
    cases b3 with
    | false =>
      go_wp2
      go_ret
      obtain rfl : v = false := by simpa using hv3.symm
      exact ⟨rfl, hk⟩
    | true =>
    go_wp2_with fail
    refine (in_is _ _ _ _ b4 HB4.out).mono ?_; rintro e w2 ⟨rfl, rfl⟩
    obtain rfl : b4 = v := by simpa using hv3
    go_wp2
    go_ret
    exact ⟨rfl, hk⟩
end Go.Proofs.Ytdlenjooidnofaa.Fi
