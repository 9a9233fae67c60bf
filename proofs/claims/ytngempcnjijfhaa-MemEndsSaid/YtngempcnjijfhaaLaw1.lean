/- The walks of the statements of layer 1 (frames of bytes): each returns true, and nothing that was there has turned. -/
import Derived.Test.YtngempcnjijfhaaMem
import Derived.Test.YtngempcnjijfhaaRead
namespace Go.Proofs.Ytngempcnjijfhaa
open Go.RowKit
theorem word_is (v : Int) (a : Int) (p r at' : Nat) (ha : a = at') (xs : List UInt8) (w : World) (h : IsMem w p r xs) (h1 : at' + 4 ≤ xs.length) (hv : wordOf (xs.getD at' 0) (xs.getD (at' + 1) 0) (xs.getD (at' + 2) 0) (xs.getD (at' + 3) 0) = v) :
    Calls Try.prog 14 #[.pointer (some ⟨p, 0, none⟩), .int .i64 a] w fun e w' => e = .returned (.tuple #[.int .u32 v, .int .i64 0]) ∧ Keep Nob w w' := by
  subst hv ha
  exact word_yes p r at' xs w h h1
theorem new_is (n : Int) (k : Nat) (hk : (min (max n 0) 256).toNat = k) (w : World) : Calls Try.prog 9 #[.int .i64 n] w (Made k w) := by
  subst hk
  exact new_any n w
theorem store_is (a : Int) (p r at' n cap : Nat) (ha : a = at') (A : Option Addr) (xs bs ys : List UInt8) (w : World) (h : IsMem w p r xs) (hn : bs.length = n) (hb : Reads w A n (bytes bs)) (h1 : at' + n ≤ xs.length) (hy : splice xs at' bs = ys) :
    Calls Try.prog 11 #[.pointer (some ⟨p, 0, none⟩), .int .i64 a, .slice A n cap] w fun e w' => e = .returned (.int .i64 0) ∧ IsMem w' p r ys ∧ Keep (· = r) w w' ∧ w'.heap.size = w.heap.size := by
  subst hy ha
  exact store_yes p r at' n cap A xs bs w h hn hb h1
theorem size_is (n : Int) (p r : Nat) (xs : List UInt8) (w : World) (h : IsMem w p r xs) (hn : (xs.length : Int) = n) :
    Calls Try.prog 16 #[.pointer (some ⟨p, 0, none⟩)] w fun e w' => e = .returned (.int .i64 n) ∧ w = w' := by
  subst hn
  exact size_any p r xs w h
theorem load_is (a m : Int) (p r at' n : Nat) (ha : a = at') (hm : m = n) (xs ys : List UInt8) (w : World) (h : IsMem w p r xs) (h1 : at' + n ≤ xs.length) (hy : (xs.drop at').take n = ys) :
    Calls Try.prog 12 #[.pointer (some ⟨p, 0, none⟩), .int .i64 a, .int .i64 m] w (GotBytes ys w) := by
  subst hy ha hm
  exact load_yes p r at' n xs w h h1
theorem reads_new (w : World) (t : TypeId) (g : Nat) (hg : g = w.heap.size) (bs : List UInt8) (cs : Array Value) (hc : cs = (bytes bs).toArray) : Reads (w.alloc (.cells cs t)) (some ⟨g, 0, none⟩) bs.length (bytes bs) := by
  subst hg hc
  have R := Reads.of_blk (A := some ⟨w.heap.size, 0, none⟩) (off := 0) (n := bs.length) (Blk.new w t (bytes bs)) (fun _ => rfl) (by simp)
  rwa [List.drop_zero, List.take_of_length_le (by simp)] at R
set_option maxHeartbeats 1000000 in
theorem awake_true (w : World) : Calls Try.prog 10 #[] w fun e w' => e = .returned (.bool true) ∧ Keep Nob w w' := by
  go_enter Try.func10, Try.ntmps10
  go_wp2_with (first | (go_at_call 9; refine (new_is _ 1 (by omega) _).mono ?_; rintro e w1 ⟨p, r, rfl, hm1, hp1, hr1, hk1⟩) | (go_at_call 11; refine (store_is _ p r 2 2 2 rfl _ _ [1, 2] _ _ (hm1.alloc _) rfl (reads_new w1 5 _ rfl [1, 2] _ rfl) (by decide) rfl).mono ?_; rintro e w2 ⟨rfl, hm2, hk2, _⟩) | (go_at_call_of 14 (Value.int .i64 0); refine (word_is 258 _ p r 0 rfl _ _ hm2 (by decide) (by decide)).mono ?_; rintro e w3 ⟨rfl, hk3⟩; have hm3 := hm2.keep hk3 (fun f => f) (fun f => f)) | (go_at_call 14; refine (word_no p r _ _ _ hm3 (by decide)).mono ?_; rintro e w4 ⟨rfl, rfl⟩) | (go_at_call 16; refine (size_is 64 p r _ _ hm3 (by decide)).mono ?_; rintro e w4 ⟨rfl, rfl⟩))
  go_ret
  exact ⟨rfl, ((((hk1.alloc _).mono (M' := (· = r)) (fun _ _ f => f.elim)).trans hk2 (fun _ _ e => e)).mono (M' := Nob) (fun k hk e => by omega)).trans hk3 (fun _ _ f => f)⟩
set_option maxHeartbeats 400000 in
theorem within_any (a n z : Int) (w : World) (hz0 : 0 ≤ z) (hz : z ≤ 1000000) : Calls Try.prog 15 #[.int .i64 a, .int .i64 n, .int .i64 z] w fun e w' => e = .returned (.bool (decide (0 ≤ a ∧ 0 ≤ n ∧ a + n ≤ z))) ∧ w = w' := by
  by_cases h0 : 0 ≤ a
  · by_cases h1 : 0 ≤ n
    · by_cases h2 : a ≤ z
      all_goals
        go_enter Try.func15, Try.ntmps15
        go_wp2
        go_ret
        exact ⟨by simp [*]; try omega, rfl⟩
    · go_enter Try.func15, Try.ntmps15
      go_wp2
      go_ret
      exact ⟨by simp; try omega, rfl⟩
  · go_enter Try.func15, Try.ntmps15
    go_wp2
    go_ret
    exact ⟨by simp; try omega, rfl⟩
theorem reads_rep {w : World} {g n : Nat} (h : Blk w g 5 (List.replicate n (Value.int .u8 0))) : Reads w (some ⟨g, 0, none⟩) n (bytes (List.replicate n 0)) := by
  have R := Reads.of_blk (A := some ⟨g, 0, none⟩) (off := 0) (n := n) h (fun _ => rfl) (by simp)
  rw [List.drop_zero, List.take_of_length_le (by simp)] at R
  rw [bytes_replicate]
  exact R
theorem IsMem.nob {w w' : World} {p r : Nat} {xs : List UInt8} (h : IsMem w p r xs) (k : Keep Nob w w') : IsMem w' p r xs := h.keep k (fun f => f) (fun f => f)
/-- Blocks from B on may have turned. -/
def From (B : Nat) : Nat → Prop := fun k => B ≤ k
theorem Keep.from_ {M : Nat → Prop} {w0 w w' : World} (h : Keep (From w0.heap.size) w0 w) (k : Keep M w w') (hm : ∀ b, M b → w0.heap.size ≤ b) : Keep (From w0.heap.size) w0 w' := h.trans k (fun b _ m => hm b m)
theorem Keep.nob {w0 w w' : World} (h : Keep (From w0.heap.size) w0 w) (k : Keep Nob w w') : Keep (From w0.heap.size) w0 w' := h.from_ k (fun _ f => f.elim)
theorem Keep.at_ {w0 w w' : World} {r : Nat} (h : Keep (From w0.heap.size) w0 w) (k : Keep (· = r) w w') (hr : w0.heap.size ≤ r) : Keep (From w0.heap.size) w0 w' := h.from_ k (fun _ e => e ▸ hr)
theorem Keep.done {w0 w : World} (h : Keep (From w0.heap.size) w0 w) : Below w0.heap.size w0 w := h.below (Nat.le_refl _) (fun k hk m => by have : w0.heap.size ≤ k := m; omega)
set_option maxHeartbeats 2000000 in
theorem MemEnds_in (a n : Nat) (A N : Int) (ha : a < 64) (hn : n < 128) (hA : bits .and .i64 A 63 = a) (hN : bits .and .i64 N 127 = n) (hin : a + n ≤ 64) (w : World) : Calls Try.prog 4 #[.int .i64 A, .int .i64 N] w fun e w' => e = .returned (.bool true) ∧ Below w.heap.size w w' := by
  have hd : decide ((n : Int) ≤ 64 - (a : Int)) = true := by simp; omega
  have hw : decide ((0 : Int) ≤ a ∧ (0 : Int) ≤ n ∧ (a : Int) + n ≤ 64) = true := by simp; omega
  go_enter Try.func4, Try.ntmps4
  go_wp2_with fail
  refine (new_is _ 1 (by omega) _).mono ?_; rintro e w1 ⟨p, r, rfl, hm1, hp1, hr1, hk1⟩
  have K1 := (Keep.refl (From w.heap.size) w).nob hk1
  go_wp2_with (refine wpList_mk rfl _ _ 22 rfl 5 (.int .u8 0) 1 Try.underlying22 Try.info5 rfl .i64 .i64 n rfl rfl (by omega) (by omega) ?_; intro w2 hb2 hk2 hs2; have hm2 := hm1.nob hk2)
  have K2 := K1.nob hk2
  refine (store_is _ p r a n n rfl _ _ (List.replicate n 0) _ _ hm2 (by simp) (reads_rep hb2) (by rw [zeros_len]; omega) rfl).mono ?_; rintro e w3 ⟨rfl, hm3, hk3, _⟩
  have K3 := K2.at_ hk3 hr1
  have hl : (splice (zeros 1) a (List.replicate n 0)).length = 64 := by rw [splice_len _ _ _ (by rw [zeros_len]; simp; omega), zeros_len]
  generalize splice (zeros 1) a (List.replicate n 0) = xs at hm3 hl
  have HL := Lib.hid hl; clear hl
  go_wp2_with fail
  refine (load_is _ _ p r a n rfl rfl _ _ _ hm3 (by rw [HL.out]; omega) rfl).mono ?_; rintro e w4 ⟨g4, rfl, hb4, hg4, hk4⟩
  have K4 := K3.nob hk4
  have hm4 := hm3.nob hk4
  go_wp2_with fail
  refine (word_no p r _ _ _ hm4 (by rw [HL.out]; decide)).mono ?_; rintro e w5 ⟨rfl, rfl⟩
  go_wp2_with fail
  refine (word_is _ _ p r 60 rfl _ _ hm4 (by rw [HL.out]; decide) rfl).mono ?_; rintro e w6 ⟨rfl, hk6⟩
  have K6 := K4.nob hk6
  have hm6 := hm4.nob hk6
  generalize wordOf (xs.getD 60 0) (xs.getD (60 + 1) 0) (xs.getD (60 + 2) 0) (xs.getD (60 + 3) 0) = v
  go_wp2_with fail
  refine (load_is _ _ p r 64 0 rfl rfl _ _ _ hm6 (by rw [HL.out]; decide) rfl).mono ?_; rintro e w7 ⟨g7, rfl, hb7, hg7, hk7⟩
  have K7 := K6.nob hk7
  have hm7 := hm6.nob hk7
  go_wp2_with fail
  refine (load_no p r _ _ _ _ hm7 (by rw [HL.out]; decide)).mono ?_; rintro e w8 ⟨rfl, rfl⟩
  go_wp2_with fail
  refine (store_is _ p r 64 0 0 rfl _ _ [] _ _ hm7 rfl (Reads.nil_ _ _) (by rw [HL.out]; decide) rfl).mono ?_; rintro e w9 ⟨rfl, hm9, hk9, _⟩
  have K9 := K7.at_ hk9 hr1
  go_wp2_with fail
  refine (within_any _ _ _ _ (by decide) (by decide)).mono ?_; rintro e wx ⟨rfl, rfl⟩
  go_wp2_with fail
  refine (awake_true _).mono ?_; rintro e w10 ⟨rfl, hk10⟩
  go_wp2
  go_ret
  exact ⟨rfl, (K9.nob hk10).done⟩
set_option maxHeartbeats 2000000 in
theorem MemEnds_out (a n : Nat) (A N : Int) (ha : a < 64) (hn : n < 128) (hA : bits .and .i64 A 63 = a) (hN : bits .and .i64 N 127 = n) (hin : 64 < a + n) (w : World) : Calls Try.prog 4 #[.int .i64 A, .int .i64 N] w fun e w' => e = .returned (.bool true) ∧ Below w.heap.size w w' := by
  have hd : decide ((n : Int) ≤ 64 - (a : Int)) = false := by simp; omega
  have hw : decide ((0 : Int) ≤ a ∧ (0 : Int) ≤ n ∧ (a : Int) + n ≤ 64) = false := by simp; omega
  go_enter Try.func4, Try.ntmps4
  go_wp2_with fail
  refine (new_is _ 1 (by omega) _).mono ?_; rintro e w1 ⟨p, r, rfl, hm1, hp1, hr1, hk1⟩
  have K1 := (Keep.refl (From w.heap.size) w).nob hk1
  go_wp2_with (refine wpList_mk rfl _ _ 22 rfl 5 (.int .u8 0) 1 Try.underlying22 Try.info5 rfl .i64 .i64 n rfl rfl (by omega) (by omega) ?_; intro w2 hb2 hk2 hs2; have hm2 := hm1.nob hk2)
  have K2 := K1.nob hk2
  refine (store_no p r _ n n _ _ _ hm2 (by rw [zeros_len]; omega)).mono ?_; rintro e w3 ⟨rfl, rfl⟩
  have hl : (zeros 1).length = 64 := zeros_len 1
  generalize zeros 1 = xs at hm2 hl
  have HL := Lib.hid hl; clear hl
  go_wp2_with fail
  refine (load_no p r _ _ _ _ hm2 (by rw [HL.out]; omega)).mono ?_; rintro e w4 ⟨rfl, rfl⟩
  go_wp2_with fail
  refine (word_no p r _ _ _ hm2 (by rw [HL.out]; decide)).mono ?_; rintro e w5 ⟨rfl, rfl⟩
  go_wp2_with fail
  refine (word_is _ _ p r 60 rfl _ _ hm2 (by rw [HL.out]; decide) rfl).mono ?_; rintro e w6 ⟨rfl, hk6⟩
  have K6 := K2.nob hk6
  have hm6 := hm2.nob hk6
  generalize wordOf (xs.getD 60 0) (xs.getD (60 + 1) 0) (xs.getD (60 + 2) 0) (xs.getD (60 + 3) 0) = v
  go_wp2_with fail
  refine (load_is _ _ p r 64 0 rfl rfl _ _ _ hm6 (by rw [HL.out]; decide) rfl).mono ?_; rintro e w7 ⟨g7, rfl, hb7, hg7, hk7⟩
  have K7 := K6.nob hk7
  have hm7 := hm6.nob hk7
  go_wp2_with fail
  refine (load_no p r _ _ _ _ hm7 (by rw [HL.out]; decide)).mono ?_; rintro e w8 ⟨rfl, rfl⟩
  go_wp2_with fail
  refine (store_is _ p r 64 0 0 rfl _ _ [] _ _ hm7 rfl (Reads.nil_ _ _) (by rw [HL.out]; decide) rfl).mono ?_; rintro e w9 ⟨rfl, hm9, hk9, _⟩
  have K9 := K7.at_ hk9 hr1
  go_wp2_with fail
  refine (within_any _ _ _ _ (by decide) (by decide)).mono ?_; rintro e wx ⟨rfl, rfl⟩
  go_wp2_with fail
  refine (awake_true _).mono ?_; rintro e w10 ⟨rfl, hk10⟩
  go_wp2
  go_ret
  exact ⟨by simp; omega, (K9.nob hk10).done⟩
theorem MemEnds_walk (w : World) (a0 : Int) (_ : (Lit.int .i64 a0).wf = true) (a1 : Int) (_ : (Lit.int .i64 a1).wf = true) :
    Calls Try.prog 4 #[.int .i64 a0, .int .i64 a1] w fun e w' => e = .returned (.bool true) ∧ Below w.heap.size w w' := by
  have hA : bits .and .i64 a0 63 = ((a0 % 64).toNat : Int) := by rw [i64_and63]; omega
  have hN : bits .and .i64 a1 127 = ((a1 % 128).toNat : Int) := by rw [i64_and127]; omega
  by_cases h : (a0 % 64).toNat + (a1 % 128).toNat ≤ 64
  · exact MemEnds_in _ _ a0 a1 (by omega) (by omega) hA hN h w
  · exact MemEnds_out _ _ a0 a1 (by omega) (by omega) hA hN (by omega) w
end Go.Proofs.Ytngempcnjijfhaa
