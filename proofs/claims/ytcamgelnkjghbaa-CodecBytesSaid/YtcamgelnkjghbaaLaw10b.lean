/- The walk of CodecBytes. -/
import Derived.Test.YtcamgelnkjghbaaCod0
import Derived.Deep.DeepCutAuto
import Derived.Deep.CutBlock
import Derived.Deep.RegionLaw
import Derived.Deep.RegionHeld3
namespace Go.Proofs.Ytcamgelnkjghbaa
open Go.RowKit
set_option linter.unusedVariables false
set_option linter.unusedSimpArgs false
theorem splice_len2 (l : List UInt8) (a : Nat) (v : Int) (h : a + 2 ≤ l.length) : (splice l a (two v)).length = l.length := length_splice l a (two v) h
theorem quiet_ {f : FuncId} {args : Array Value} {w : World} {n : Nat} {v : Value} (h : Calls Try.prog f args (w.drewN n) fun e w' => e = .returned v ∧ w.drewN n = w') : Calls Try.prog f args (w.drewN n) fun e w'' => e = .returned v ∧ ∃ m, w'' = w.drewN m :=
  h.mono fun _ _ ⟨he, hm⟩ => ⟨he, n, hm.symm⟩
set_option maxRecDepth 100000 in
set_option maxHeartbeats 4000000 in
theorem CodecBytes_yes (w : World) (A : Option Addr) (n c : Nat) (l : List UInt8) (ra : Reads w A n (bytes l)) (h500 : n ≤ 500) (a : Nat) (v : Int) (ha : a + 2 ≤ n) (h0 : 0 ≤ v) (h1 : v ≤ 65535) :
    Calls Try.prog 4 #[.slice A n c, .int .i64 (a : Int), .int .i64 v] w fun e w' => e = .returned (.bool true) ∧ Below w.heap.size w w' := by
  have hl : l.length = n := by simpa using ra.1
  have hn : (n : Int) ≤ 500 := by omega
  have s1 := fun c W (k : Keep Nob w W) => run_str (P := Try.prog) W 22 9 5 A n c l Try.underlying22 Try.underlying5 Try.underlying9 (ra.nob k)
  have s2 := fun c (m : Nat) => s1 c (w.drewN m) ((Keep.refl Nob w).drewN m)
  have s3 := fun c => s1 c w (Keep.refl Nob w)
  obtain ⟨sv, hsv⟩ : ∃ sv : Int, ((tot l % 256 : Nat) : Int) = sv := ⟨_, rfl⟩
  obtain ⟨bv, hbv⟩ : ∃ bv, allNought l = bv := ⟨_, rfl⟩
  have RA := Lib.hid ra
  have HL := Lib.hid hl
  have HS := Lib.hid hsv
  have HB := Lib.hid hbv
  have S1 := Lib.hid s1
  clear ra hl hsv hbv s1
  go_enter Try.func4, Try.ntmps4
  go_wp2_with fail
  go_quiet (first | (go_at_call 9; exact quiet_ (sum_is (RA.out.nob ((Keep.refl Nob w).drewN _)) (by omega) sv HS.out)) | (go_at_call 10; exact quiet_ (rsum_is (by rw [HL.out]; omega) sv HS.out)) | (go_at_call 11; exact quiet_ (blank_is (RA.out.nob ((Keep.refl Nob w).drewN _)) (by omega) bv HB.out)) | (go_at_call 12; exact quiet_ (rblank_is (by rw [HL.out]; omega) bv HB.out)))
  have k1 : Keep Nob w (w.drewN nq) := (Keep.refl Nob w).drewN nq
  generalize w.drewN nq = w1 at k1
  clear s2 s3
  go_wp2_with (at_builtin; go_loud (refine wpList_ap rfl _ _ 22 rfl 5 1 1 (.int .u8 0) Try.underlying22 Try.info5 rfl (by decide) (some ⟨w1.heap.size, 0, none⟩) 0 0 [] rfl (Vec.of_blk (Blk.new w1 5 []) rfl (by decide)) A n c (bytes l) rfl _ (Nat.mul_one _) ((RA.out.nob k1).nob ((Keep.refl Nob w1).alloc _)) (bytes_one l) (by unfold maxLen; omega) (by omega) ?_); intro F dF wF hvF hkF hoF; obtain ⟨vF, kF, oF⟩ := ap_new hvF hkF hoF; clear hvF hkF hoF)
  refine (within_is true _ _ _ _ (by omega) (by omega) (by simp; omega)).mono ?_; rintro e w2 ⟨rfl, rfl⟩
  go_wp2_with fail
  refine (put_yes F n dF a v l _ vF (by omega) ha h0 h1).mono ?_; rintro e w2 ⟨rfl, v2, k2⟩
  have hb : ∀ b, Own F b → w.heap.size ≤ b := fun b hb => Nat.le_trans k1.size (oF b hb)
  have K2 : Keep (From w.heap.size) w w2 := (((Keep.refl (From w.heap.size) w).nob k1).nob kF).from_ k2 hb
  have s4 := fun c => run_str (P := Try.prog) w2 22 9 5 A n c l Try.underlying22 Try.underlying5 Try.underlying9 (RA.out.from_ K2)
  clear vF kF k1 k2
  go_wp2_with fail
  obtain ⟨g, cur, rfl, hcur, _, _, hct⟩ := v2.at_ (by omega)
  obtain ⟨u, hu⟩ : ∃ u, w2.drew.cell? ⟨g, a, none⟩ = some u := ⟨_, by
    show w2.cell? _ = _
    rw [hcur.cell, ← List.getElem?_take_of_lt (j := n * 1) (by omega), hct, bytes_getD (by rw [splice_len2 _ _ _ (by rw [HL.out]; exact ha), HL.out]; omega)]⟩
  have uk : ∀ w3, Keep Nob w2.drew w3 → w3.cell? ⟨g, a, none⟩ = some u := fun w3 k => by
    rw [← hu]; exact World.cell?_of_block (w := w2.drew) (k.block _ (block_lt_of_cell hu) (fun f => f))
  clear hcur hct
  have UK := Lib.hid uk
  clear uk
  have hll : l.length = n := HL.out
  have hw2 : IntKind.i64.wrap ((a : Int) + 2) = (a : Int) + 2 := wrap_small_i64 _ (by omega) (by omega)
  obtain ⟨S, hS⟩ : ∃ S, str l = S := ⟨_, rfl⟩
  obtain ⟨S1, hS1⟩ : ∃ S, str (l.take a) = S := ⟨_, rfl⟩
  obtain ⟨S2, hS2⟩ : ∃ S, str (l.drop (a + 2)) = S := ⟨_, rfl⟩
  obtain ⟨T, hT⟩ : ∃ S, str (two v) = S := ⟨_, rfl⟩
  obtain ⟨U, hU⟩ : ∃ S, str (l.take a ++ two v) = S := ⟨_, rfl⟩
  obtain ⟨V, hV⟩ : ∃ S, str (splice l a (two v)) = S := ⟨_, rfl⟩
  have e1 := str_take l a (by omega)
  have e2 := str_drop l (a + 2) ((a : Int) + 2) (by omega) (by omega)
  have e3 := str_add (l.take a) (two v) (by simp [two_len]; omega)
  have e4 := str_add (l.take a ++ two v) (l.drop (a + 2)) (by simp [two_len]; omega)
  have ht := rtwo_is v
  rw [show l.take a ++ two v ++ l.drop (a + 2) = splice l a (two v) from by simp [splice, two_len], hV, hS2, hU] at e4
  rw [hS1, hT, hU] at e3
  rw [hS, hS2] at e2
  rw [hS, hS1] at e1
  rw [hT] at ht
  rw [hS]
  go_region_held3 (fun w' => w'.cell? ⟨g, a, none⟩ = some u ∧ w'.cell? ⟨g, a, none⟩ = some u) (first | exact ⟨hu, hu⟩ | exact ⟨UK.out _ k3, UK.out _ k3⟩) (first | (go_at_call 15; refine (ht _ h0 h1).mono ?_; rintro e w3 ⟨rfl, k3⟩))
  have k3' : Keep Nob w2 w3 := ⟨k3.os, k3.tape, k3.output, k3.size, k3.block⟩
  have r3 := v2.reads.nob k3'
  rw [Nat.mul_one] at r3
  have K3 := K2.nob k3'
  have hVl : V.size = n := by rw [← hV, str_size, splice_len2 _ _ _ (by omega), hll]
  have hVa : a < V.size := by omega
  have hVb : a + 1 < V.size := by omega
  have hi0 : V[a] = (splice l a (two v)).getD a 0 := by subst hV; exact str_at _ _ hVa
  have hi1 : V[a + 1] = (splice l a (two v)).getD (a + 1) 0 := by subst hV; exact str_at _ _ hVb
  have hor := or_two ((splice l a (two v)).getD a 0) ((splice l a (two v)).getD (a + 1) 0)
  obtain ⟨q, hq⟩ : ∃ q, num (splice l a (two v)) a = q := ⟨_, rfl⟩
  have hqs := hq
  unfold num at hqs
  rw [hqs] at hor
  have hx := u8_lt ((splice l a (two v)).getD a 0)
  have hy := u8_lt ((splice l a (two v)).getD (a + 1) 0)
  have R3 := Lib.hid r3
  have HQ := Lib.hid hq
  have HV := Lib.hid hV
  have HVl := Lib.hid hVl
  clear e1 e2 e3 e4 hS hS1 hS2 hT hU hV ht hqs hq r3 k3' k3 v2 K2 s4 hVl hll
  generalize (splice l a (two v)).getD a 0 = x at *
  generalize (splice l a (two v)).getD (a + 1) 0 = y at *
  go_wp2_with fail
  refine (get_yes _ n dF a _ _ R3.out (by omega) ha q HQ.out).mono ?_; rintro e w4 ⟨rfl, k4⟩
  have r4 := R3.out.nob k4
  have K4 := K3.nob k4
  clear K3
  go_wp2_with fail
  go_quiet (fail)
  have k5 : Keep Nob w4 (w4.drewN nq) := (Keep.refl Nob w4).drewN nq
  have s5 := fun c => run_str (P := Try.prog) (w4.drewN nq) 22 9 5 _ n c _ Try.underlying22 Try.underlying5 Try.underlying9 (r4.nob k5)
  rw [HV.out] at s5
  have K5 := K4.nob k5
  clear r4 K4 k5
  generalize w4.drewN nq = w5 at *
  go_wp2_with fail
  refine (awake_is _).mono ?_; rintro e w6 ⟨rfl, k6⟩
  go_wp2
  go_ret
  exact ⟨rfl, (K5.nob k6).done⟩
set_option maxRecDepth 100000 in
set_option maxHeartbeats 4000000 in
theorem CodecBytes_wide (w : World) (A : Option Addr) (n c : Nat) (l : List UInt8) (ra : Reads w A n (bytes l)) (h500 : n ≤ 500) (a : Nat) (v : Int) (ha : a + 2 ≤ n) (h0 : v < 0 ∨ (0 ≤ v ∧ 65535 < v)) :
    Calls Try.prog 4 #[.slice A n c, .int .i64 (a : Int), .int .i64 v] w fun e w' => e = .returned (.bool true) ∧ Below w.heap.size w w' := by
  rcases h0 with h0 | ⟨h0, h1⟩
  all_goals
    have hl : l.length = n := by simpa using ra.1
    have hn : (n : Int) ≤ 500 := by omega
    have s1 := fun c W (k : Keep Nob w W) => run_str (P := Try.prog) W 22 9 5 A n c l Try.underlying22 Try.underlying5 Try.underlying9 (ra.nob k)
    have s2 := fun c (m : Nat) => s1 c (w.drewN m) ((Keep.refl Nob w).drewN m)
    have s3 := fun c => s1 c w (Keep.refl Nob w)
    obtain ⟨sv, hsv⟩ : ∃ sv : Int, ((tot l % 256 : Nat) : Int) = sv := ⟨_, rfl⟩
    obtain ⟨bv, hbv⟩ : ∃ bv, allNought l = bv := ⟨_, rfl⟩
    have RA := Lib.hid ra
    have HL := Lib.hid hl
    have HS := Lib.hid hsv
    have HB := Lib.hid hbv
    have S1 := Lib.hid s1
    clear ra hl hsv hbv s1
    go_enter Try.func4, Try.ntmps4
    go_wp2_with fail
    go_quiet (first | (go_at_call 9; exact quiet_ (sum_is (RA.out.nob ((Keep.refl Nob w).drewN _)) (by omega) sv HS.out)) | (go_at_call 10; exact quiet_ (rsum_is (by rw [HL.out]; omega) sv HS.out)) | (go_at_call 11; exact quiet_ (blank_is (RA.out.nob ((Keep.refl Nob w).drewN _)) (by omega) bv HB.out)) | (go_at_call 12; exact quiet_ (rblank_is (by rw [HL.out]; omega) bv HB.out)))
    have k1 : Keep Nob w (w.drewN nq) := (Keep.refl Nob w).drewN nq
    generalize w.drewN nq = w1 at k1
    clear s2 s3
    go_wp2_with (at_builtin; go_loud (refine wpList_ap rfl _ _ 22 rfl 5 1 1 (.int .u8 0) Try.underlying22 Try.info5 rfl (by decide) (some ⟨w1.heap.size, 0, none⟩) 0 0 [] rfl (Vec.of_blk (Blk.new w1 5 []) rfl (by decide)) A n c (bytes l) rfl _ (Nat.mul_one _) ((RA.out.nob k1).nob ((Keep.refl Nob w1).alloc _)) (bytes_one l) (by unfold maxLen; omega) (by omega) ?_); intro F dF wF hvF hkF hoF; obtain ⟨vF, kF, oF⟩ := ap_new hvF hkF hoF; clear hvF hkF hoF)
    refine (within_is true _ _ _ _ (by omega) (by omega) (by simp; omega)).mono ?_; rintro e w2 ⟨rfl, rfl⟩
    have hb : ∀ b, Own F b → w.heap.size ≤ b := fun b hb => Nat.le_trans k1.size (oF b hb)
    have K2 : Keep (From w.heap.size) w wF := ((Keep.refl (From w.heap.size) w).nob k1).nob kF
    have s4 := fun c => run_str (P := Try.prog) wF 22 9 5 A n c l Try.underlying22 Try.underlying5 Try.underlying9 (RA.out.from_ K2)
    have r3 := vF.reads
    rw [Nat.mul_one] at r3
    clear kF k1 vF
    obtain ⟨V, hV⟩ : ∃ S, str l = S := ⟨_, rfl⟩
    rw [hV] at s4
    have hVl : V.size = n := by rw [← hV, str_size]; exact HL.out
    have hVa : a < V.size := by omega
    have hVb : a + 1 < V.size := by omega
    have hi0 : V[a] = l.getD a 0 := by subst hV; exact str_at _ _ hVa
    have hi1 : V[a + 1] = l.getD (a + 1) 0 := by subst hV; exact str_at _ _ hVb
    have hor := or_two (l.getD a 0) (l.getD (a + 1) 0)
    obtain ⟨q, hq⟩ : ∃ q, num l a = q := ⟨_, rfl⟩
    have hqs := hq
    unfold num at hqs
    rw [hqs] at hor
    have hx := u8_lt (l.getD a 0)
    have hy := u8_lt (l.getD (a + 1) 0)
    have R3 := Lib.hid r3
    have HQ := Lib.hid hq
    have HV := Lib.hid hV
    have HVl := Lib.hid hVl
    clear hV hqs hq r3 hVl
    generalize l.getD a 0 = x at *
    generalize l.getD (a + 1) 0 = y at *
    go_wp2_with fail
    refine (put_no F n dF a v _ (by omega) (by omega)).mono ?_; rintro e w3 ⟨rfl, rfl⟩
    go_wp2_with fail
    refine (get_yes _ n dF a _ _ R3.out (by omega) ha q HQ.out).mono ?_; rintro e w4 ⟨rfl, k4⟩
    have r4 := R3.out.nob k4
    have K4 := K2.nob k4
    clear K2 s4
    go_wp2_with fail
    go_quiet (fail)
    have k5 : Keep Nob w4 (w4.drewN nq) := (Keep.refl Nob w4).drewN nq
    have s5 := fun c => run_str (P := Try.prog) (w4.drewN nq) 22 9 5 _ n c _ Try.underlying22 Try.underlying5 Try.underlying9 (r4.nob k5)
    rw [HV.out] at s5
    have K5 := K4.nob k5
    clear r4 K4 k5
    generalize w4.drewN nq = w5 at *
    go_wp2_with fail
    refine (awake_is _).mono ?_; rintro e w6 ⟨rfl, k6⟩
    go_wp2
    go_ret
    exact ⟨rfl, (K5.nob k6).done⟩
set_option maxRecDepth 100000 in
set_option maxHeartbeats 4000000 in
theorem CodecBytes_no (w : World) (A : Option Addr) (n c : Nat) (l : List UInt8) (ra : Reads w A n (bytes l)) (h500 : n ≤ 500) (a v : Int) (ha : ¬ (0 ≤ a ∧ a + 2 ≤ n)) :
    Calls Try.prog 4 #[.slice A n c, .int .i64 a, .int .i64 v] w fun e w' => e = .returned (.bool true) ∧ Below w.heap.size w w' := by
  have hl : l.length = n := by simpa using ra.1
  have hn : (n : Int) ≤ 500 := by omega
  have s1 := fun c W (k : Keep Nob w W) => run_str (P := Try.prog) W 22 9 5 A n c l Try.underlying22 Try.underlying5 Try.underlying9 (ra.nob k)
  have s2 := fun c (m : Nat) => s1 c (w.drewN m) ((Keep.refl Nob w).drewN m)
  have s3 := fun c => s1 c w (Keep.refl Nob w)
  obtain ⟨sv, hsv⟩ : ∃ sv : Int, ((tot l % 256 : Nat) : Int) = sv := ⟨_, rfl⟩
  obtain ⟨bv, hbv⟩ : ∃ bv, allNought l = bv := ⟨_, rfl⟩
  have RA := Lib.hid ra
  have HL := Lib.hid hl
  have HS := Lib.hid hsv
  have HB := Lib.hid hbv
  have S1 := Lib.hid s1
  clear ra hl hsv hbv s1
  go_enter Try.func4, Try.ntmps4
  go_wp2_with fail
  go_quiet (first | (go_at_call 9; exact quiet_ (sum_is (RA.out.nob ((Keep.refl Nob w).drewN _)) (by omega) sv HS.out)) | (go_at_call 10; exact quiet_ (rsum_is (by rw [HL.out]; omega) sv HS.out)) | (go_at_call 11; exact quiet_ (blank_is (RA.out.nob ((Keep.refl Nob w).drewN _)) (by omega) bv HB.out)) | (go_at_call 12; exact quiet_ (rblank_is (by rw [HL.out]; omega) bv HB.out)))
  have k1 : Keep Nob w (w.drewN nq) := (Keep.refl Nob w).drewN nq
  generalize w.drewN nq = w1 at k1
  clear s2 s3
  go_wp2_with (at_builtin; go_loud (refine wpList_ap rfl _ _ 22 rfl 5 1 1 (.int .u8 0) Try.underlying22 Try.info5 rfl (by decide) (some ⟨w1.heap.size, 0, none⟩) 0 0 [] rfl (Vec.of_blk (Blk.new w1 5 []) rfl (by decide)) A n c (bytes l) rfl _ (Nat.mul_one _) ((RA.out.nob k1).nob ((Keep.refl Nob w1).alloc _)) (bytes_one l) (by unfold maxLen; omega) (by omega) ?_); intro F dF wF hvF hkF hoF; obtain ⟨vF, kF, oF⟩ := ap_new hvF hkF hoF; clear hvF hkF hoF)
  refine (within_is false _ _ _ _ (by omega) (by omega) (by simp; omega)).mono ?_; rintro e w2 ⟨rfl, rfl⟩
  have hb : ∀ b, Own F b → w.heap.size ≤ b := fun b hb => Nat.le_trans k1.size (oF b hb)
  have K2 : Keep (From w.heap.size) w wF := ((Keep.refl (From w.heap.size) w).nob k1).nob kF
  have s4 := fun c => run_str (P := Try.prog) wF 22 9 5 A n c l Try.underlying22 Try.underlying5 Try.underlying9 (RA.out.from_ K2)
  have r3 := vF.reads
  rw [Nat.mul_one] at r3
  have s5 := fun c => run_str (P := Try.prog) wF 22 9 5 F n c l Try.underlying22 Try.underlying5 Try.underlying9 r3
  clear kF k1 vF r3
  generalize str l = V at *
  have HA := Lib.hid ha
  clear ha
  go_wp2_with fail
  refine (put_no F n dF a v _ (by omega) (by have := HA.out; omega)).mono ?_; rintro e w3 ⟨rfl, rfl⟩
  go_wp2_with fail
  refine (get_no F n dF a _ (by omega) HA.out).mono ?_; rintro e w4 ⟨rfl, rfl⟩
  go_wp2_with fail
  refine (awake_is _).mono ?_; rintro e w6 ⟨rfl, k6⟩
  go_wp2
  go_ret
  exact ⟨rfl, (K2.nob k6).done⟩
set_option maxRecDepth 100000 in
theorem CodecBytes_long (w : World) (A : Option Addr) (n c : Nat) (h : 500 < n) (a v : Int) :
    Calls Try.prog 4 #[.slice A n c, .int .i64 a, .int .i64 v] w fun e w' => e = .returned (.bool true) ∧ Below w.heap.size w w' := by
  have h1 : (500 : Int) < (n : Int) := by omega
  go_enter Try.func4, Try.ntmps4
  go_wp2_with fail
  refine (awake_is _).mono ?_; rintro e w7 ⟨rfl, hk7⟩
  go_wp2
  go_ret
  exact ⟨rfl, ((Keep.refl (From w.heap.size) w).nob hk7).done⟩
theorem CodecBytes_walk (w : World) (A0 : Option Addr) (n0 c0 : Nat) (x0 : Ty.den (.sl 1 .byte)) (w0 : Holds w (.sl 1 .byte) x0 [.slice A0 n0 c0]) (a1 : Int) (_ : (Lit.int .i64 a1).wf = true) (a2 : Int) (_ : (Lit.int .i64 a2).wf = true) :
    Calls Try.prog 4 #[.slice A0 n0 c0, .int .i64 a1, .int .i64 a2] w fun e w' => e = .returned (.bool true) ∧ Below w.heap.size w w' := by
  obtain ⟨_, r0, _, _⟩ := holds_bytes w0
  by_cases h : 500 < n0
  · exact CodecBytes_long w A0 n0 c0 h a1 a2
  · by_cases h1 : 0 ≤ a1 ∧ a1 + 2 ≤ n0
    · obtain ⟨a, rfl⟩ := Int.eq_ofNat_of_zero_le h1.1
      by_cases h2 : 0 ≤ a2 ∧ a2 ≤ 65535
      · exact CodecBytes_yes w A0 n0 c0 x0 r0 (by omega) a a2 (by omega) h2.1 h2.2
      · exact CodecBytes_wide w A0 n0 c0 x0 r0 (by omega) a a2 (by omega) (by omega)
    · exact CodecBytes_no w A0 n0 c0 x0 r0 (by omega) a1 a2 h1
end Go.Proofs.Ytcamgelnkjghbaa
