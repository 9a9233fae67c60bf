/- Package ring: fits, Ok, place; the document's in, PipeOk. -/
import Derived.Test.YtojciodjffahnaaRinE
import Derived.Deep.DeepCutAuto
namespace Go.Proofs.Ytojciodjffahnaa.Ri
open Go.RowKit
set_option linter.unusedVariables false
set_option linter.unusedSimpArgs false
theorem fits_is (n hi : Int) (w : World) (v : Bool) (hv : inn n 0 hi = v) : Calls Try.prog 26 #[.int .i64 n, .int .i64 hi] w fun e w' => e = .returned (.bool v) ∧ w = w' := by
  subst hv
  by_cases h0 : 0 ≤ n
  · go_enter Try.func26, Try.ntmps26
    go_wp2
    go_ret
    exact ⟨by simp [inn, h0], rfl⟩
  · go_enter Try.func26, Try.ntmps26
    go_wp2
    go_ret
    exact ⟨by simp [inn, h0]; try omega, rfl⟩
theorem in_is (n lo hi : Int) (w : World) (v : Bool) (hv : inn n lo hi = v) : Calls Try.prog 25 #[.int .i64 n, .int .i64 lo, .int .i64 hi] w fun e w' => e = .returned (.bool v) ∧ w = w' := by
  subst hv
  by_cases h0 : lo ≤ n
  · go_enter Try.func25, Try.ntmps25
    go_wp2
    go_ret
    exact ⟨by simp [inn, h0], rfl⟩
  · go_enter Try.func25, Try.ntmps25
    go_wp2
    go_ret
    exact ⟨by simp [inn, h0]; try omega, rfl⟩
theorem cells4 {w : World} {g : Nat} {t : TypeId} {p : Pp} (hb : Blk w g t (pc p)) :
    w.cell? ⟨g, 0, none⟩ = some (.int .i64 p.h) ∧ w.cell? ⟨g, 1, none⟩ = some (.int .i64 p.c) ∧ w.cell? ⟨g, 2, none⟩ = some (.int .i64 p.r) ∧ w.cell? ⟨g, 3, none⟩ = some (.int .i64 p.s) := by
  refine ⟨?_, ?_, ?_, ?_⟩ <;> rw [hb.cell] <;> rfl
theorem cellD {w : World} {g : Nat} {t : TypeId} {p : Pp} (hb : Blk w g t (pc p)) {k : Nat} (hk : k < p.d.length) :
    w.cell? ⟨g, 4 + k, none⟩ = some (.int .u8 ((p.d.getD k 0).toNat : Int)) := by
  rw [hb.cell, Nat.add_comm]
  exact bytes_getD hk
set_option maxHeartbeats 2000000 in
theorem ok_is (p : Pp) (w : World) (v : Bool) (hv : okd p = v) :
    Calls Try.prog 13 #[pv p] w fun e w' => e = .returned (.bool v) ∧ Keep Nob w w' := by
  unfold okd at hv
  generalize hb1 : inn p.h 0 31 = b1 at hv
  generalize hb2 : inn p.c 0 32 = b2 at hv
  generalize hb3 : inn p.r 0 8 = b3 at hv
  generalize hb4 : inn p.s 0 8 = b4 at hv
  have HB1 := Lib.hid hb1
  have HB2 := Lib.hid hb2
  have HB3 := Lib.hid hb3
  have HB4 := Lib.hid hb4
  have HV := Lib.hid hv
  clear hb1 hb2 hb3 hb4 hv
  unfold pv
  go_enter Try.func13, Try.ntmps13
  go_wp2_with (refine wpList_box rfl 26 _ rfl _ rfl ?_; intro w1 hb hk hs; clear hs; obtain ⟨c0, c1, c2, c3⟩ := cells4 hb; clear hb)
  refine (fits_is _ _ _ b1 HB1.out).mono ?_; rintro e w2 ⟨rfl, rfl⟩
  cases b1 with
  | false =>
    go_wp2
    go_ret
    obtain rfl : v = false := by have := HV.out; simpa using this.symm
    exact ⟨rfl, hk⟩
  | true =>
  go_wp2_with fail
  refine (fits_is _ _ _ b2 HB2.out).mono ?_; rintro e w2 ⟨rfl, rfl⟩
  cases b2 with
  | false =>
    go_wp2
    go_ret
    obtain rfl : v = false := by have := HV.out; simpa using this.symm
    exact ⟨rfl, hk⟩
  | true =>
  go_wp2_with fail
  refine (fits_is _ _ _ b3 HB3.out).mono ?_; rintro e w2 ⟨rfl, rfl⟩
  cases b3 with
  | false =>
    go_wp2
    go_ret
    obtain rfl : v = false := by have := HV.out; simpa using this.symm
    exact ⟨rfl, hk⟩
  | true =>
  go_wp2_with fail
  refine (fits_is _ _ _ b4 HB4.out).mono ?_; rintro e w2 ⟨rfl, rfl⟩
  obtain rfl : b4 = v := by have := HV.out; simpa using this
  go_wp2
  go_ret
  exact ⟨rfl, hk⟩
set_option maxHeartbeats 2000000 in
theorem pipeok_is (p : Pp) (w : World) (v : Bool) (hv : okd p = v) :
    Calls Try.prog 12 #[pv p] w fun e w' => e = .returned (.bool v) ∧ Keep Nob w w' := by
  unfold okd at hv
  generalize hb1 : inn p.h 0 31 = b1 at hv
  generalize hb2 : inn p.c 0 32 = b2 at hv
  generalize hb3 : inn p.r 0 8 = b3 at hv
  generalize hb4 : inn p.s 0 8 = b4 at hv
  have HB1 := Lib.hid hb1
  have HB2 := Lib.hid hb2
  have HB3 := Lib.hid hb3
  have HB4 := Lib.hid hb4
  have HV := Lib.hid hv
  clear hb1 hb2 hb3 hb4 hv
  unfold pv
  go_enter Try.func12, Try.ntmps12
  go_wp2_with (refine wpList_box rfl 26 _ rfl _ rfl ?_; intro w1 hb hk hs; clear hs; obtain ⟨c0, c1, c2, c3⟩ := cells4 hb; clear hb)
  refine (in_is _ _ _ _ b1 HB1.out).mono ?_; rintro e w2 ⟨rfl, rfl⟩
  cases b1 with
  | false =>
    go_wp2
    go_ret
    obtain rfl : v = false := by have := HV.out; simpa using this.symm
    exact ⟨rfl, hk⟩
  | true =>
  go_wp2_with fail
  refine (in_is _ _ _ _ b2 HB2.out).mono ?_; rintro e w2 ⟨rfl, rfl⟩
  cases b2 with
  | false =>
    go_wp2
    go_ret
    obtain rfl : v = false := by have := HV.out; simpa using this.symm
    exact ⟨rfl, hk⟩
  | true =>
  go_wp2_with fail
  refine (in_is _ _ _ _ b3 HB3.out).mono ?_; rintro e w2 ⟨rfl, rfl⟩
  cases b3 with
  | false =>
    go_wp2
    go_ret
    obtain rfl : v = false := by have := HV.out; simpa using this.symm
    exact ⟨rfl, hk⟩
  | true =>
  go_wp2_with fail
  refine (in_is _ _ _ _ b4 HB4.out).mono ?_; rintro e w2 ⟨rfl, rfl⟩
  obtain rfl : b4 = v := by have := HV.out; simpa using this
  go_wp2
  go_ret
  exact ⟨rfl, hk⟩
theorem place_is (p : Pp) (i m : Int) (hh : 0 ≤ p.h ∧ p.h ≤ 31) (hi : 0 ≤ i ∧ i ≤ 1000) (hm : (p.h + i) % 32 = m) (w : World) :
    Calls Try.prog 21 #[pv p, .int .i64 i] w fun e w' => e = .returned (.int .i64 m) ∧ Keep Nob w w' := by
  have hm2 : (p.h + i).tmod 32 = m := by rw [Int.tmod_eq_emod_of_nonneg (by omega)]; exact hm
  have hs : IntKind.i64.wrap (p.h + i) = p.h + i := wrap_small_i64 _ (by omega) (by omega)
  have hw : IntKind.i64.wrap m = m := wrap_small_i64 _ (by omega) (by omega)
  unfold pv
  go_enter Try.func21, Try.ntmps21
  go_wp2_with (refine wpList_box rfl 26 _ rfl _ rfl ?_; intro w1 hb hk hs; clear hs; obtain ⟨c0, c1, c2, c3⟩ := cells4 hb; clear hb)
  go_ret
  exact ⟨rfl, hk⟩
end Go.Proofs.Ytojciodjffahnaa.Ri
