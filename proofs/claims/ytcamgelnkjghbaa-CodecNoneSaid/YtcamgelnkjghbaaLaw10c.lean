/- The walk of CodecNone. -/
import Derived.Test.YtcamgelnkjghbaaCod2
namespace Go.Proofs.Ytcamgelnkjghbaa
open Go.RowKit
set_option linter.unusedVariables false
set_option linter.unusedSimpArgs false
theorem dec_any (p k : Nat) (A : Option Addr) (n cap : Nat) (l : List UInt8) (w : World) (hb : Blk w p 51 [.int .i64 k, .func (.func 31) #[] #[], .func (.func 32) #[] #[]]) (hk : k ≤ 64) (hr : Reads w A n (bytes l)) :
    Calls Try.prog 26 #[.pointer (some ⟨p, 0, none⟩), .slice A n cap] w fun e w' => e = .returned (.tuple #[.int .i64 0, .bool false]) ∧ Keep Nob w w' := by
  by_cases h : n = k
  · exact deci_none p k _ _ _ A n cap l w hb h hk hr
  · exact (deci_len p k _ _ _ _ _ _ A n cap w hb h).mono fun e w' ⟨he, hw⟩ => ⟨he, hw ▸ Keep.refl _ _⟩
set_option maxRecDepth 100000 in
set_option maxHeartbeats 2000000 in
theorem CodecNone_in (w : World) (A : Option Addr) (n c : Nat) (l : List UInt8) (ra : Reads w A n (bytes l)) (h100 : n ≤ 100) (a0 a1 : Int) (m : Nat) (hm : bits .and .i64 a0 63 = m) (hm2 : m < 64) :
    Calls Try.prog 7 #[.int .i64 a0, .int .i64 a1, .slice A n c] w fun e w' => e = .returned (.bool true) ∧ Below w.heap.size w w' := by
  have hn : (n : Int) ≤ 100 := by omega
  have RA := Lib.hid ra
  clear ra
  go_enter Try.func7, Try.ntmps7
  go_wp2_with fail
  refine (newi_nil m m m _ (by rw [if_neg]; omega) (by rw [if_neg]; omega)).mono ?_; rintro e w1 ⟨rfl, b1, k1⟩
  have r1 := RA.out.nob k1
  generalize w.heap.size = p1 at *
  go_wp2_with fail
  refine (newi_is m m m _ _ _ _ _ _ _ (by rw [if_neg]; omega) (by rw [if_neg]; omega)).mono ?_; rintro e w2 ⟨rfl, b2, k2⟩
  have b1' := b1.nob k2
  have r2 := r1.nob k2
  have K2 := k1.nobt k2
  generalize w1.heap.size = p2 at *
  clear b1 k1 k2 r1
  go_wp2_with fail
  refine (enci_nil p1 m a1 w2 b1' (by omega)).mono ?_; rintro e w3 ⟨rfl, k3⟩
  have b1 := b1'.nob k3
  have b2' := b2.nob k3
  have K3 := K2.nobt k3
  have r3 := r2.nob k3
  clear b1' b2 k3 K2 r2
  go_wp2_with fail
  refine (enci_none p2 m a1 _ _ _ w3 b2' (by omega)).mono ?_; rintro e w4 ⟨rfl, k4⟩
  have b1' := b1.nob k4
  have b2 := b2'.nob k4
  have K4 := K3.nobt k4
  have r4 := r3.nob k4
  clear b1 b2' k4 K3 r3
  go_wp2_with fail
  refine (deci_nil p1 m A n c w4 b1').mono ?_; rintro e w5 ⟨rfl, rfl⟩
  go_wp2_with fail
  refine (dec_any p2 m A n c l w4 b2 (by omega) r4).mono ?_; rintro e w5 ⟨rfl, k5⟩
  have K5 := K4.nobt k5
  clear b1' b2 K4 k5 r4
  go_wp2_with fail
  refine (awake_is w5).mono ?_; rintro e w6 ⟨rfl, k6⟩
  go_wp2
  go_ret
  exact ⟨rfl, ((Keep.refl (From w.heap.size) w).nob (K5.nobt k6)).done⟩
set_option maxRecDepth 100000 in
theorem CodecNone_out (w : World) (A : Option Addr) (n c : Nat) (h : 100 < n) (a0 a1 : Int) :
    Calls Try.prog 7 #[.int .i64 a0, .int .i64 a1, .slice A n c] w fun e w' => e = .returned (.bool true) ∧ Below w.heap.size w w' := by
  have h1 : (100 : Int) < (n : Int) := by omega
  go_enter Try.func7, Try.ntmps7
  go_wp2_with fail
  refine (awake_is _).mono ?_; rintro e w7 ⟨rfl, hk7⟩
  go_wp2
  go_ret
  exact ⟨rfl, ((Keep.refl (From w.heap.size) w).nob hk7).done⟩
theorem CodecNone_walk (w : World) (a0 : Int) (_ : (Lit.int .i64 a0).wf = true) (a1 : Int) (_ : (Lit.int .i64 a1).wf = true) (A2 : Option Addr) (n2 c2 : Nat) (x2 : Ty.den (.sl 1 .byte)) (w2 : Holds w (.sl 1 .byte) x2 [.slice A2 n2 c2]) :
    Calls Try.prog 7 #[.int .i64 a0, .int .i64 a1, .slice A2 n2 c2] w fun e w' => e = .returned (.bool true) ∧ Below w.heap.size w w' := by
  obtain ⟨_, r0, _, _⟩ := holds_bytes w2
  by_cases h : 100 < n2
  · exact CodecNone_out w A2 n2 c2 h a0 a1
  · exact CodecNone_in w A2 n2 c2 x2 r0 (by omega) a0 a1 (a0 % 64).toNat (by rw [i64_and63]; omega) (by omega)
end Go.Proofs.Ytcamgelnkjghbaa
