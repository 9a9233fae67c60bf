/- The walks of the statements of layer 1 (frames of bytes): each returns true, and nothing that was there has turned. -/
import Derived.Test.YtngempcnjijfhaaMem
import Derived.Test.YtngempcnjijfhaaRead
namespace Go.Proofs.Ytngempcnjijfhaa
open Go.RowKit
theorem word_is (v : Int) (a : Int) (p r at' : Nat) (ha : a = at') (xs : List UInt8) (w : World) (h : IsMem w p r xs) (h1 : at' + 4 ≤ xs.length) (hv : wordOf (xs.getD at' 0) (xs.getD (at' + 1) 0) (xs.getD (at' + 2) 0) (xs.getD (at' + 3) 0) = v) :
    Calls Try.prog 14 #[.pointer (some ⟨p, 0, none⟩), .int .i64 a] w fun e w' => e = .returned (.tuple #[.int .u32 v, .int .i64 0]) ∧ Keep Nob w w' := by
  subst hv ha
  exact word_yes p r at' xs w h h1
theorem new_is (n : Int) (k : Nat) (hk : (min (max n 0) 256).toNat = k) (w : World) : Calls Try.prog 9 #[.int .i64 n] w (Made k w) := by
  subst hk
  exact new_any n w
theorem store_is (a : Int) (p r at' n cap : Nat) (ha : a = at') (A : Option Addr) (xs bs ys : List UInt8) (w : World) (h : IsMem w p r xs) (hn : bs.length = n) (hb : Reads w A n (bytes bs)) (h1 : at' + n ≤ xs.length) (hy : splice xs at' bs = ys) :
    Calls Try.prog 11 #[.pointer (some ⟨p, 0, none⟩), .int .i64 a, .slice A n cap] w fun e w' => e = .returned (.int .i64 0) ∧ IsMem w' p r ys ∧ Keep (· = r) w w' ∧ w'.heap.size = w.heap.size := by
  subst hy ha
  exact store_yes p r at' n cap A xs bs w h hn hb h1
theorem size_is (n : Int) (p r : Nat) (xs : List UInt8) (w : World) (h : IsMem w p r xs) (hn : (xs.length : Int) = n) :
    Calls Try.prog 16 #[.pointer (some ⟨p, 0, none⟩)] w fun e w' => e = .returned (.int .i64 n) ∧ w = w' := by
  subst hn
  exact size_any p r xs w h
theorem load_is (a m : Int) (p r at' n : Nat) (ha : a = at') (hm : m = n) (xs ys : List UInt8) (w : World) (h : IsMem w p r xs) (h1 : at' + n ≤ xs.length) (hy : (xs.drop at').take n = ys) :
    Calls Try.prog 12 #[.pointer (some ⟨p, 0, none⟩), .int .i64 a, .int .i64 m] w (GotBytes ys w) := by
  subst hy ha hm
  exact load_yes p r at' n xs w h h1
theorem reads_new (w : World) (t : TypeId) (g : Nat) (hg : g = w.heap.size) (bs : List UInt8) (cs : Array Value) (hc : cs = (bytes bs).toArray) : Reads (w.alloc (.cells cs t)) (some ⟨g, 0, none⟩) bs.length (bytes bs) := by
  subst hg hc
  have R := Reads.of_blk (A := some ⟨w.heap.size, 0, none⟩) (off := 0) (n := bs.length) (Blk.new w t (bytes bs)) (fun _ => rfl) (by simp)
  rwa [List.drop_zero, List.take_of_length_le (by simp)] at R
set_option maxHeartbeats 1000000 in
theorem awake_true (w : World) : Calls Try.prog 10 #[] w fun e w' => e = .returned (.bool true) ∧ Keep Nob w w' := by
  go_enter Try.func10, Try.ntmps10
  go_wp2_with (first | (go_at_call 9; refine (new_is _ 1 (by omega) _).mono ?_; rintro e w1 ⟨p, r, rfl, hm1, hp1, hr1, hk1⟩) | (go_at_call 11; refine (store_is _ p r 2 2 2 rfl _ _ [1, 2] _ _ (hm1.alloc _) rfl (reads_new w1 5 _ rfl [1, 2] _ rfl) (by decide) rfl).mono ?_; rintro e w2 ⟨rfl, hm2, hk2, _⟩) | (go_at_call_of 14 (Value.int .i64 0); refine (word_is 258 _ p r 0 rfl _ _ hm2 (by decide) (by decide)).mono ?_; rintro e w3 ⟨rfl, hk3⟩; have hm3 := hm2.keep hk3 (fun f => f) (fun f => f)) | (go_at_call 14; refine (word_no p r _ _ _ hm3 (by decide)).mono ?_; rintro e w4 ⟨rfl, rfl⟩) | (go_at_call 16; refine (size_is 64 p r _ _ hm3 (by decide)).mono ?_; rintro e w4 ⟨rfl, rfl⟩))
  go_ret
  exact ⟨rfl, ((((hk1.alloc _).mono (M' := (· = r)) (fun _ _ f => f.elim)).trans hk2 (fun _ _ e => e)).mono (M' := Nob) (fun k hk e => by omega)).trans hk3 (fun _ _ f => f)⟩
set_option maxHeartbeats 400000 in
theorem within_any (a n z : Int) (w : World) (hz0 : 0 ≤ z) (hz : z ≤ 1000000) : Calls Try.prog 15 #[.int .i64 a, .int .i64 n, .int .i64 z] w fun e w' => e = .returned (.bool (decide (0 ≤ a ∧ 0 ≤ n ∧ a + n ≤ z))) ∧ w = w' := by
  by_cases h0 : 0 ≤ a
  · by_cases h1 : 0 ≤ n
    · by_cases h2 : a ≤ z
      all_goals
        go_enter Try.func15, Try.ntmps15
        go_wp2
        go_ret
        exact ⟨by simp [*]; try omega, rfl⟩
    · go_enter Try.func15, Try.ntmps15
      go_wp2
      go_ret
      exact ⟨by simp; try omega, rfl⟩
  · go_enter Try.func15, Try.ntmps15
    go_wp2
    go_ret
    exact ⟨by simp; try omega, rfl⟩
theorem reads_rep {w : World} {g n : Nat} (h : Blk w g 5 (List.replicate n (Value.int .u8 0))) : Reads w (some ⟨g, 0, none⟩) n (bytes (List.replicate n 0)) := by
  have R := Reads.of_blk (A := some ⟨g, 0, none⟩) (off := 0) (n := n) h (fun _ => rfl) (by simp)
  rw [List.drop_zero, List.take_of_length_le (by simp)] at R
  rw [bytes_replicate]
  exact R
theorem IsMem.nob {w w' : World} {p r : Nat} {xs : List UInt8} (h : IsMem w p r xs) (k : Keep Nob w w') : IsMem w' p r xs := h.keep k (fun f => f) (fun f => f)
/-- Blocks from B on may have turned. -/
def From (B : Nat) : Nat → Prop := fun k => B ≤ k
theorem Keep.from_ {M : Nat → Prop} {w0 w w' : World} (h : Keep (From w0.heap.size) w0 w) (k : Keep M w w') (hm : ∀ b, M b → w0.heap.size ≤ b) : Keep (From w0.heap.size) w0 w' := h.trans k (fun b _ m => hm b m)
theorem Keep.nob {w0 w w' : World} (h : Keep (From w0.heap.size) w0 w) (k : Keep Nob w w') : Keep (From w0.heap.size) w0 w' := h.from_ k (fun _ f => f.elim)
theorem Keep.at_ {w0 w w' : World} {r : Nat} (h : Keep (From w0.heap.size) w0 w) (k : Keep (· = r) w w') (hr : w0.heap.size ≤ r) : Keep (From w0.heap.size) w0 w' := h.from_ k (fun _ e => e ▸ hr)
theorem Keep.done {w0 w : World} (h : Keep (From w0.heap.size) w0 w) : Below w0.heap.size w0 w := h.below (Nat.le_refl _) (fun k hk m => by have : w0.heap.size ≤ k := m; omega)
set_option maxHeartbeats 2000000 in
theorem MemEnds_in (a n : Nat) (A N : Int) (ha : a < 64) (hn : n < 128) (hA : bits .and .i64 A 63 = a) (hN : bits .and .i64 N 127 = n) (hin : a + n ≤ 64) (w : World) : Calls Try.prog 4 #[.int .i64 A, .int .i64 N] w fun e w' => e = .returned (.bool true) ∧ Below w.heap.size w w' := by
  have hd : decide ((n : Int) ≤ 64 - (a : Int)) = true := by simp; omega
  have hw : decide ((0 : Int) ≤ a ∧ (0 : Int) ≤ n ∧ (a : Int) + n ≤ 64) = true := by simp; omega
  go_enter Try.func4, Try.ntmps4
  go_wp2_with fail
  refine (new_is _ 1 (by omega) _).mono ?_; rintro e w1 ⟨p, r, rfl, hm1, hp1, hr1, hk1⟩
  have K1 := (Keep.refl (From w.heap.size) w).nob hk1
  go_wp2_with (refine wpList_mk rfl _ _ 22 rfl 5 (.int .u8 0) 1 Try.underlying22 Try.info5 rfl .i64 .i64 n _ rfl rfl rfl (by omega) (by omega) ?_; intro w2 hb2 hk2 hs2; have hm2 := hm1.nob hk2)
  have K2 := K1.nob hk2
  refine (store_is _ p r a n n rfl _ _ (List.replicate n 0) _ _ hm2 (by simp) (reads_rep hb2) (by rw [zeros_len]; omega) rfl).mono ?_; rintro e w3 ⟨rfl, hm3, hk3, _⟩
  have K3 := K2.at_ hk3 hr1
  have hl : (splice (zeros 1) a (List.replicate n 0)).length = 64 := by rw [splice_len _ _ _ (by rw [zeros_len]; simp; omega), zeros_len]
  generalize splice (zeros 1) a (List.replicate n 0) = xs at hm3 hl
  have HL := Lib.hid hl; clear hl
  go_wp2_with fail
  refine (load_is _ _ p r a n rfl rfl _ _ _ hm3 (by rw [HL.out]; omega) rfl).mono ?_; rintro e w4 ⟨g4, rfl, hb4, hg4, hk4⟩
  have K4 := K3.nob hk4
  have hm4 := hm3.nob hk4
  go_wp2_with fail
  refine (word_no p r _ _ _ hm4 (by rw [HL.out]; decide)).mono ?_; rintro e w5 ⟨rfl, rfl⟩
  go_wp2_with fail
  refine (word_is _ _ p r 60 rfl _ _ hm4 (by rw [HL.out]; decide) rfl).mono ?_; rintro e w6 ⟨rfl, hk6⟩
  have K6 := K4.nob hk6
  have hm6 := hm4.nob hk6
  generalize wordOf (xs.getD 60 0) (xs.getD (60 + 1) 0) (xs.getD (60 + 2) 0) (xs.getD (60 + 3) 0) = v
  go_wp2_with fail
  refine (load_is _ _ p r 64 0 rfl rfl _ _ _ hm6 (by rw [HL.out]; decide) rfl).mono ?_; rintro e w7 ⟨g7, rfl, hb7, hg7, hk7⟩
  have K7 := K6.nob hk7
  have hm7 := hm6.nob hk7
  go_wp2_with fail
  refine (load_no p r _ _ _ _ hm7 (by rw [HL.out]; decide)).mono ?_; rintro e w8 ⟨rfl, rfl⟩
  go_wp2_with fail
  refine (store_is _ p r 64 0 0 rfl _ _ [] _ _ hm7 rfl (Reads.nil_ _ _) (by rw [HL.out]; decide) rfl).mono ?_; rintro e w9 ⟨rfl, hm9, hk9, _⟩
  have K9 := K7.at_ hk9 hr1
  go_wp2_with fail
  refine (within_any _ _ _ _ (by decide) (by decide)).mono ?_; rintro e wx ⟨rfl, rfl⟩
  go_wp2_with fail
  refine (awake_true _).mono ?_; rintro e w10 ⟨rfl, hk10⟩
  go_wp2
  go_ret
  exact ⟨rfl, (K9.nob hk10).done⟩
set_option maxHeartbeats 2000000 in
theorem MemEnds_out (a n : Nat) (A N : Int) (ha : a < 64) (hn : n < 128) (hA : bits .and .i64 A 63 = a) (hN : bits .and .i64 N 127 = n) (hin : 64 < a + n) (w : World) : Calls Try.prog 4 #[.int .i64 A, .int .i64 N] w fun e w' => e = .returned (.bool true) ∧ Below w.heap.size w w' := by
  have hd : decide ((n : Int) ≤ 64 - (a : Int)) = false := by simp; omega
  have hw : decide ((0 : Int) ≤ a ∧ (0 : Int) ≤ n ∧ (a : Int) + n ≤ 64) = false := by simp; omega
  go_enter Try.func4, Try.ntmps4
  go_wp2_with fail
  refine (new_is _ 1 (by omega) _).mono ?_; rintro e w1 ⟨p, r, rfl, hm1, hp1, hr1, hk1⟩
  have K1 := (Keep.refl (From w.heap.size) w).nob hk1
  go_wp2_with (refine wpList_mk rfl _ _ 22 rfl 5 (.int .u8 0) 1 Try.underlying22 Try.info5 rfl .i64 .i64 n _ rfl rfl rfl (by omega) (by omega) ?_; intro w2 hb2 hk2 hs2; have hm2 := hm1.nob hk2)
  have K2 := K1.nob hk2
  refine (store_no p r _ n n _ _ _ hm2 (by rw [zeros_len]; omega)).mono ?_; rintro e w3 ⟨rfl, rfl⟩
  have hl : (zeros 1).length = 64 := zeros_len 1
  generalize zeros 1 = xs at hm2 hl
  have HL := Lib.hid hl; clear hl
  go_wp2_with fail
  refine (load_no p r _ _ _ _ hm2 (by rw [HL.out]; omega)).mono ?_; rintro e w4 ⟨rfl, rfl⟩
  go_wp2_with fail
  refine (word_no p r _ _ _ hm2 (by rw [HL.out]; decide)).mono ?_; rintro e w5 ⟨rfl, rfl⟩
  go_wp2_with fail
  refine (word_is _ _ p r 60 rfl _ _ hm2 (by rw [HL.out]; decide) rfl).mono ?_; rintro e w6 ⟨rfl, hk6⟩
  have K6 := K2.nob hk6
  have hm6 := hm2.nob hk6
  generalize wordOf (xs.getD 60 0) (xs.getD (60 + 1) 0) (xs.getD (60 + 2) 0) (xs.getD (60 + 3) 0) = v
  go_wp2_with fail
  refine (load_is _ _ p r 64 0 rfl rfl _ _ _ hm6 (by rw [HL.out]; decide) rfl).mono ?_; rintro e w7 ⟨g7, rfl, hb7, hg7, hk7⟩
  have K7 := K6.nob hk7
  have hm7 := hm6.nob hk7
  go_wp2_with fail
  refine (load_no p r _ _ _ _ hm7 (by rw [HL.out]; decide)).mono ?_; rintro e w8 ⟨rfl, rfl⟩
  go_wp2_with fail
  refine (store_is _ p r 64 0 0 rfl _ _ [] _ _ hm7 rfl (Reads.nil_ _ _) (by rw [HL.out]; decide) rfl).mono ?_; rintro e w9 ⟨rfl, hm9, hk9, _⟩
  have K9 := K7.at_ hk9 hr1
  go_wp2_with fail
  refine (within_any _ _ _ _ (by decide) (by decide)).mono ?_; rintro e wx ⟨rfl, rfl⟩
  go_wp2_with fail
  refine (awake_true _).mono ?_; rintro e w10 ⟨rfl, hk10⟩
  go_wp2
  go_ret
  exact ⟨by simp; omega, (K9.nob hk10).done⟩
theorem MemEnds_walk (w : World) (a0 : Int) (_ : (Lit.int .i64 a0).wf = true) (a1 : Int) (_ : (Lit.int .i64 a1).wf = true) :
    Calls Try.prog 4 #[.int .i64 a0, .int .i64 a1] w fun e w' => e = .returned (.bool true) ∧ Below w.heap.size w w' := by
  have hA : bits .and .i64 a0 63 = ((a0 % 64).toNat : Int) := by rw [i64_and63]; omega
  have hN : bits .and .i64 a1 127 = ((a1 % 128).toNat : Int) := by rw [i64_and127]; omega
  by_cases h : (a0 % 64).toNat + (a1 % 128).toNat ≤ 64
  · exact MemEnds_in _ _ a0 a1 (by omega) (by omega) hA hN h w
  · exact MemEnds_out _ _ a0 a1 (by omega) (by omega) hA hN (by omega) w
theorem wordBytes_back (n : Int) (h0 : 0 ≤ n) (h1 : n < 4294967296) : wordOf (UInt8.ofNat (n / 16777216 % 256).toNat) (UInt8.ofNat (n / 65536 % 256).toNat) (UInt8.ofNat (n / 256 % 256).toNat) (UInt8.ofNat (n % 256).toNat) = n := by
  unfold wordOf
  rw [byte_back, byte_back, byte_back, byte_back]
  omega
theorem wf_u32 {n : Int} (h : (Lit.int .u32 n).wf = true) : 0 ≤ n ∧ n < 4294967296 := by
  have e1 : IntKind.u32.min = 0 := by decide
  have e2 : IntKind.u32.max = 4294967295 := by decide
  simp [Lit.wf, e1, e2] at h
  omega
theorem setword_is (a n : Int) (p r at' : Nat) (ha : a = at') (xs ys : List UInt8) (w : World) (h : IsMem w p r xs) (h1 : at' + 4 ≤ xs.length) (hy : splice xs at' (wordBytes n) = ys) :
    Calls Try.prog 19 #[.pointer (some ⟨p, 0, none⟩), .int .i64 a, .int .u32 n] w fun e w' => e = .returned (.int .i64 0) ∧ IsMem w' p r ys ∧ Keep (· = r) w w' := by
  subst ha hy
  exact setword_yes p r at' n xs w h h1
theorem high_half (u : Int) (h0 : 0 ≤ u) (h1 : u < 4294967296) : bits .and .u32 u 4294901760 = u / 65536 * 65536 := by
  obtain ⟨n, rfl⟩ := Int.eq_ofNat_of_zero_le h0
  have hn : n < 4294967296 := by omega
  have e := (bits_nat .u32 32 (by decide) wrap_small_u32 n 4294901760 (by simpa using hn) (by decide)).1
  have e2 : n &&& 4294901760 = n / 65536 * 65536 := by
    have h3 : (4294901760 : Nat) = (2 ^ 16 - 1) * 2 ^ 16 := by decide
    have h4 : n = (n / 65536) * 2 ^ 16 + n % 65536 := by omega
    apply Nat.eq_of_testBit_eq
    intro i
    rw [Nat.testBit_and, h3]
    simp only [Nat.testBit_mul_two_pow, Nat.testBit_two_pow_sub_one]
    rw [show n / 65536 * 65536 = (n / 65536) * 2 ^ 16 from by omega, Nat.testBit_mul_two_pow]
    rw [show n / 65536 = n >>> 16 from by rw [Nat.shiftRight_eq_div_pow], Nat.testBit_shiftRight]
    by_cases hi : 16 ≤ i
    · rw [show 16 + (i - 16) = i from by omega]
      by_cases h32 : i - 16 < 16
      · simp [hi, h32]
      · have : n.testBit i = false := Nat.testBit_lt_two_pow (Nat.lt_of_lt_of_le hn (by
          have : (2 : Nat) ^ 32 ≤ 2 ^ i := Nat.pow_le_pow_right (by decide) (by omega)
          simpa using this))
        simp [this]
    · simp [hi]
  have e3 : bits .and .u32 (n : Int) 4294901760 = ((n &&& 4294901760 : Nat) : Int) := e
  rw [e3, e2]
  omega
theorem half_of (u v : Int) (hu0 : 0 ≤ u) (hu1 : u < 4294967296) (hv0 : 0 ≤ v) (hv1 : v < 4294967296) :
    wordOf (UInt8.ofNat (u / 16777216 % 256).toNat) (UInt8.ofNat (u / 65536 % 256).toNat) (UInt8.ofNat (v / 16777216 % 256).toNat) (UInt8.ofNat (v / 65536 % 256).toNat) = bits .or .u32 (bits .and .u32 u 4294901760) (v / 65536) := by
  rw [high_half u hu0 hu1, or_u32 16 (u / 65536 * 65536) (v / 65536) (by omega) (by omega) (by omega) (by omega) (by omega) (by omega)]
  unfold wordOf
  rw [byte_back, byte_back, byte_back, byte_back]
  omega
theorem wb_len (n : Int) : (wordBytes n).length = 4 := rfl
set_option maxHeartbeats 2000000 in
theorem MemWords_core (u v at' : Int) (a : Nat) (ha : a < 64) (hA : bits .and .i64 at' 63 = a) (hu0 : 0 ≤ u) (hu1 : u < 4294967296) (hv0 : 0 ≤ v) (hv1 : v < 4294967296) (w : World) :
    Calls Try.prog 7 #[.int .u32 u, .int .u32 v, .int .i64 at'] w fun e w' => e = .returned (.bool true) ∧ Below w.heap.size w w' := by
  have l1 : (splice (zeros 2) a (wordBytes u)).length = 128 := by rw [splice_len _ _ _ (by rw [zeros_len, wb_len]; omega), zeros_len]
  have l2 : (splice (splice (zeros 2) a (wordBytes u)) (a + 2) (wordBytes v)).length = 128 := by rw [splice_len _ _ _ (by rw [l1, wb_len]; omega), l1]
  have x1 : wordOf ((splice (splice (zeros 2) a (wordBytes u)) (a + 2) (wordBytes v)).getD a 0) ((splice (splice (zeros 2) a (wordBytes u)) (a + 2) (wordBytes v)).getD (a + 1) 0) ((splice (splice (zeros 2) a (wordBytes u)) (a + 2) (wordBytes v)).getD (a + 2) 0) ((splice (splice (zeros 2) a (wordBytes u)) (a + 2) (wordBytes v)).getD (a + 3) 0) = bits .or .u32 (bits .and .u32 u 4294901760) (v / 65536) := by
    rw [← half_of u v hu0 hu1 hv0 hv1]
    have f1 := splice_getD (zeros 2) a (wordBytes u) (by rw [zeros_len, wb_len]; omega)
    have f2 := splice_getD (splice (zeros 2) a (wordBytes u)) (a + 2) (wordBytes v) (by rw [l1, wb_len]; omega)
    have e0 : (splice (splice (zeros 2) a (wordBytes u)) (a + 2) (wordBytes v)).getD a 0 = (wordBytes u).getD 0 0 := by rw [f2, if_neg (by omega), f1, wb_len, if_pos (by omega), Nat.sub_self]
    have e1 : (splice (splice (zeros 2) a (wordBytes u)) (a + 2) (wordBytes v)).getD (a + 1) 0 = (wordBytes u).getD 1 0 := by rw [f2, if_neg (by omega), f1, wb_len, if_pos (by omega), show a + 1 - a = 1 from by omega]
    have e2 : (splice (splice (zeros 2) a (wordBytes u)) (a + 2) (wordBytes v)).getD (a + 2) 0 = (wordBytes v).getD 0 0 := by rw [f2, wb_len, if_pos (by omega), Nat.sub_self]
    have e3 : (splice (splice (zeros 2) a (wordBytes u)) (a + 2) (wordBytes v)).getD (a + 3) 0 = (wordBytes v).getD 1 0 := by rw [f2, wb_len, if_pos (by omega), show a + 3 - (a + 2) = 1 from by omega]
    rw [e0, e1, e2, e3]
    rfl
  have x2 : wordOf ((splice (splice (zeros 2) a (wordBytes u)) (a + 2) (wordBytes v)).getD (a + 2) 0) ((splice (splice (zeros 2) a (wordBytes u)) (a + 2) (wordBytes v)).getD (a + 2 + 1) 0) ((splice (splice (zeros 2) a (wordBytes u)) (a + 2) (wordBytes v)).getD (a + 2 + 2) 0) ((splice (splice (zeros 2) a (wordBytes u)) (a + 2) (wordBytes v)).getD (a + 2 + 3) 0) = v := by
    have f2 := splice_getD (splice (zeros 2) a (wordBytes u)) (a + 2) (wordBytes v) (by rw [l1, wb_len]; omega)
    rw [f2 (a + 2) 0, f2 (a + 2 + 1) 0, f2 (a + 2 + 2) 0, f2 (a + 2 + 3) 0, wb_len]
    rw [if_pos (by omega), if_pos (by omega), if_pos (by omega), if_pos (by omega)]
    rw [Nat.sub_self, show a + 2 + 1 - (a + 2) = 1 from by omega, show a + 2 + 2 - (a + 2) = 2 from by omega, show a + 2 + 3 - (a + 2) = 3 from by omega]
    exact wordBytes_back v hv0 hv1
  have L1 := Lib.hid l1
  have L2 := Lib.hid l2
  have X1 := Lib.hid x1
  have X2 := Lib.hid x2
  clear l1 l2 x1 x2
  go_enter Try.func7, Try.ntmps7
  go_wp2_with fail
  refine (new_is _ 2 (by omega) _).mono ?_; rintro e w1 ⟨p, r, rfl, hm1, hp1, hr1, hk1⟩
  have K1 := (Keep.refl (From w.heap.size) w).nob hk1
  go_wp2_with fail
  refine (setword_is _ _ p r a rfl _ _ _ hm1 (by rw [zeros_len]; omega) rfl).mono ?_; rintro e w2 ⟨rfl, hm2, hk2⟩
  have K2 := K1.at_ hk2 hr1
  go_wp2_with fail
  refine (load_is _ _ p r a 4 rfl rfl _ (wordBytes u) _ hm2 (by rw [L1.out]; omega) (splice_mid _ _ (wordBytes u) (by rw [zeros_len]; simp [wordBytes]; omega))).mono ?_; rintro e w3 ⟨g3, rfl, hb3, hg3, hk3⟩
  have K3 := K2.nob hk3
  have hm3 := hm2.nob hk3
  have hne : g3 ≠ r := by have := hm2.row_lt; omega
  go_wp2_with fail
  refine (setword_is _ _ p r (a + 2) (by omega) _ _ _ hm3 (by rw [L1.out]; omega) rfl).mono ?_; rintro e w4 ⟨rfl, hm4, hk4⟩
  have K4 := K3.at_ hk4 hr1
  have hb4 := hb3.keep hk4 hne
  go_wp2_with fail
  refine (word_is _ _ p r a rfl _ _ hm4 (by rw [L2.out]; omega) X1.out).mono ?_; rintro e w5 ⟨rfl, hk5⟩
  have K5 := K4.nob hk5
  have hb5 := hb4.keep hk5 (fun f => f)
  have hm5 := hm4.nob hk5
  go_wp2_with fail
  refine (word_is _ _ p r (a + 2) (by omega) _ _ hm5 (by rw [L2.out]; omega) X2.out).mono ?_; rintro e w6 ⟨rfl, hk6⟩
  have K6 := K5.nob hk6
  have hb6 := hb5.keep hk6 (fun f => f)
  rw [wordBytes_cells] at hb6
  have c0 : w6.cell? ⟨g3, 0, none⟩ = some (.int .u8 (u / 16777216 % 256)) := hb6.cell 0
  have c3 : w6.cell? ⟨g3, 3, none⟩ = some (.int .u8 (u % 256)) := hb6.cell 3
  have wl := wb_len u
  go_wp2_with fail
  refine (awake_true _).mono ?_; rintro e w7 ⟨rfl, hk7⟩
  go_wp2
  go_ret
  exact ⟨rfl, (K6.nob hk7).done⟩
theorem MemWords_walk (w : World) (a0 : Int) (w0 : (Lit.int .u32 a0).wf = true) (a1 : Int) (w1 : (Lit.int .u32 a1).wf = true) (a2 : Int) (_ : (Lit.int .i64 a2).wf = true) :
    Calls Try.prog 7 #[.int .u32 a0, .int .u32 a1, .int .i64 a2] w fun e w' => e = .returned (.bool true) ∧ Below w.heap.size w w' :=
  MemWords_core a0 a1 a2 (a2 % 64).toNat (by omega) (by rw [i64_and63]; omega) (wf_u32 w0).1 (wf_u32 w0).2 (wf_u32 w1).1 (wf_u32 w1).2 w
theorem blank_any (l : List UInt8) (w : World) (h : ∀ b ∈ l, b = 0) (hl : l.length ≤ 100000) : Calls Try.prog 21 #[.string (str l)] w fun e w' => e = .returned (.bool true) ∧ w = w' := by
  have hs := str_size l
  have hz : ∀ k (hk : k < (str l).size), (str l)[k] = 0 := by
    intro k hk
    have hk' : k < l.length := by omega
    show l.toArray[k] = 0
    simp
    exact h _ (List.getElem_mem hk')
  generalize str l = s at hs hz
  have hsl : s.size ≤ 100000 := by omega
  clear hs
  go_enter Try.func21, Try.ntmps21
  go_wp2
  go_loop [3] (fun i => ∃ k : Nat, k ≤ s.size ∧ i = .int .i64 k) (fun i => s.size - (intOf i).toNat)
  case atStart => exact ⟨0, Nat.zero_le _, rfl⟩
  case round =>
    obtain ⟨k, hk, rfl⟩ := hrel
    by_cases hlt : k < s.size
    · have hzk := hz k hlt
      go_wp2
      go_round
      case rel => exact ⟨k + 1, by omega, by go_num⟩
      case measure => simp [intOf]; omega
    · go_wp2
      go_ret
      exact ⟨rfl, rfl⟩
theorem zeros_part (k i n : Nat) : ∀ b ∈ ((zeros k).drop i).take n, b = 0 := by
  intro b hb
  have := List.mem_of_mem_drop (List.mem_of_mem_take hb)
  unfold zeros at this
  exact List.eq_of_mem_replicate this
theorem Reads.nob {w w' : World} {A : Option Addr} {n : Nat} {xs : List Value} (h : Reads w A n xs) (k : Keep Nob w w') : Reads w' A n xs := h.keep k (fun _ _ f => f)
theorem Reads.from_ {w w' : World} {A : Option Addr} {n : Nat} {xs : List Value} (h : Reads w A n xs) (k : Keep (From w.heap.size) w w') : Reads w' A n xs := by
  refine ⟨h.1, fun h0 => ?_⟩
  obtain ⟨ad, rfl, hc⟩ := h.2 h0
  refine ⟨ad, rfl, fun j u hu => ?_⟩
  have hcu := hc j u hu
  rw [← hcu]
  have hlt := block_lt_of_cell hcu
  exact World.cell?_of_block (w := w) (k.block _ hlt (fun m => by have : w.heap.size ≤ (ad.add j).block := m; omega))
theorem reads_all {w : World} {g : Nat} {t : TypeId} {cs : List Value} {n : Nat} (h : Blk w g t cs) (hn : cs.length = n) : Reads w (some ⟨g, 0, none⟩) n cs := by
  have R := Reads.of_blk (A := some ⟨g, 0, none⟩) (off := 0) (n := n) h (fun _ => rfl) (by omega)
  rwa [List.drop_zero, List.take_of_length_le (by omega)] at R
set_option maxHeartbeats 2000000 in
theorem MemApart_short (w : World) (A B : Option Addr) (ca cb : Nat) (a b : List UInt8) (ra : Reads w A a.length (bytes a)) (rb : Reads w B b.length (bytes b)) (ha : a.length ≤ 60) (hb : b.length ≤ 60)
    (at' on' : Int) (x y : Nat) (hx : x < 64) (hy : y < 64) (hX : bits .and .i64 at' 63 = x) (hY : bits .and .i64 on' 63 = y) :
    Calls Try.prog 6 #[.slice A a.length ca, .slice B b.length cb, .int .i64 at', .int .i64 on'] w fun e w' => e = .returned (.bool true) ∧ Below w.heap.size w w' := by
  have l0 := zeros_len 4
  have l1 : (splice (zeros 4) x a).length = 256 := by rw [splice_len _ _ _ (by omega), l0]
  have l2 : (splice (splice (zeros 4) x a) (128 + y) b).length = 256 := by rw [splice_len _ _ _ (by omega), l1]
  have p1 : ((splice (splice (zeros 4) x a) (128 + y) b).drop x).take a.length = a := by rw [splice_before _ _ _ (by omega) _ _ (by omega)]; exact splice_mid _ _ _ (by omega)
  have p2 : ((splice (splice (zeros 4) x a) (128 + y) b).drop (128 + y)).take b.length = b := splice_mid _ _ _ (by omega)
  have p3 : ((splice (splice (zeros 4) x a) (128 + y) b).drop (x + a.length)).take (128 + y - x - a.length) = ((zeros 4).drop (x + a.length)).take (128 + y - x - a.length) := by
    rw [splice_before _ _ _ (by omega) _ _ (by omega), splice_behind _ _ _ (by omega) _ _ (by omega)]
  have zl : (((zeros 4).drop (x + a.length)).take (128 + y - x - a.length)).length = 128 + y - x - a.length := by simp; omega
  have zz := zeros_part 4 (x + a.length) (128 + y - x - a.length)
  generalize ((zeros 4).drop (x + a.length)).take (128 + y - x - a.length) = Z at p3 zl zz
  have L1 := Lib.hid l1
  have L2 := Lib.hid l2
  have P1 := Lib.hid p1
  have P2 := Lib.hid p2
  have P3 := Lib.hid p3
  have ZL := Lib.hid zl
  clear l0 l1 l2 p1 p2 p3 zl
  have ra' : (a.length : Int) ≤ 60 := by omega
  have rb' : (b.length : Int) ≤ 60 := by omega
  go_enter Try.func6, Try.ntmps6
  go_wp2_with fail
  refine (new_is _ 4 (by omega) _).mono ?_; rintro e w1 ⟨p, r, rfl, hm1, hp1, hr1, hk1⟩
  have K1 := (Keep.refl (From w.heap.size) w).nob hk1
  go_wp2_with fail
  refine (store_is _ p r x a.length ca rfl _ _ a _ _ hm1 rfl (ra.from_ K1) (by rw [zeros_len]; omega) rfl).mono ?_; rintro e w2 ⟨rfl, hm2, hk2, _⟩
  have K2 := K1.at_ hk2 hr1
  go_wp2_with fail
  refine (store_is _ p r (128 + y) b.length cb (by omega) _ _ b _ _ hm2 rfl (rb.from_ K2) (by rw [L1.out]; omega) rfl).mono ?_; rintro e w3 ⟨rfl, hm3, hk3, _⟩
  have K3 := K2.at_ hk3 hr1
  go_wp2_with fail
  refine (load_is _ _ p r x a.length rfl rfl _ _ _ hm3 (by rw [L2.out]; omega) P1.out).mono ?_; rintro e w4 ⟨g4, rfl, hb4, hg4, hk4⟩
  have K4 := K3.nob hk4
  have hm4 := hm3.nob hk4
  go_wp2_with fail
  refine (load_is _ _ p r (128 + y) b.length (by omega) rfl _ _ _ hm4 (by rw [L2.out]; omega) P2.out).mono ?_; rintro e w5 ⟨g5, rfl, hb5, hg5, hk5⟩
  have K5 := K4.nob hk5
  have hm5 := hm4.nob hk5
  go_wp2_with fail
  refine (load_is _ _ p r (x + a.length) (128 + y - x - a.length) (by omega) (by omega) _ _ _ hm5 (by rw [L2.out]; omega) P3.out).mono ?_; rintro e w6 ⟨g6, rfl, hb6, hg6, hk6⟩
  have K6 := K5.nob hk6
  have s1 := fun c => run_str (P := Try.prog) w6 22 9 5 (some ⟨g4, 0, none⟩) a.length c a Try.underlying22 Try.underlying5 Try.underlying9 (((reads_all hb4 (by simp)).nob hk5).nob hk6)
  have s2 := fun c => run_str (P := Try.prog) w6 22 9 5 A a.length c a Try.underlying22 Try.underlying5 Try.underlying9 (ra.from_ K6)
  have s3 := fun c => run_str (P := Try.prog) w6 22 9 5 (some ⟨g5, 0, none⟩) b.length c b Try.underlying22 Try.underlying5 Try.underlying9 ((reads_all hb5 (by simp)).nob hk6)
  have s4 := fun c => run_str (P := Try.prog) w6 22 9 5 B b.length c b Try.underlying22 Try.underlying5 Try.underlying9 (rb.from_ K6)
  have s5 := fun c => run_str (P := Try.prog) w6 22 9 5 (some ⟨g6, 0, none⟩) Z.length c Z Try.underlying22 Try.underlying5 Try.underlying9 (reads_all hb6 (by simp))
  go_wp2_with fail
  refine (blank_any Z _ zz (by have := ZL.out; omega)).mono ?_; rintro e w7 ⟨rfl, rfl⟩
  go_wp2_with fail
  refine (awake_true _).mono ?_; rintro e w7 ⟨rfl, hk7⟩
  go_wp2
  go_ret
  exact ⟨rfl, (K6.nob hk7).done⟩
set_option maxHeartbeats 2000000 in
theorem MemApart_long (w : World) (A B : Option Addr) (na nb ca cb : Nat) (h : 60 < na ∨ 60 < nb) (at' on' : Int) :
    Calls Try.prog 6 #[.slice A na ca, .slice B nb cb, .int .i64 at', .int .i64 on'] w fun e w' => e = .returned (.bool true) ∧ Below w.heap.size w w' := by
  rcases (show 60 < na ∨ (na ≤ 60 ∧ 60 < nb) from by omega) with h1 | ⟨h1, h2⟩
  · have h3 : (60 : Int) < (na : Int) := by omega
    go_enter Try.func6, Try.ntmps6
    go_wp2_with fail
    refine (awake_true _).mono ?_; rintro e w7 ⟨rfl, hk7⟩
    go_wp2
    go_ret
    exact ⟨rfl, ((Keep.refl (From w.heap.size) w).nob hk7).done⟩
  · have h3 : (na : Int) ≤ 60 := by omega
    have h4 : (60 : Int) < (nb : Int) := by omega
    go_enter Try.func6, Try.ntmps6
    go_wp2_with fail
    refine (awake_true _).mono ?_; rintro e w7 ⟨rfl, hk7⟩
    go_wp2
    go_ret
    exact ⟨rfl, ((Keep.refl (From w.heap.size) w).nob hk7).done⟩
theorem MemApart_walk (w : World) (A0 : Option Addr) (n0 c0 : Nat) (x0 : Ty.den (.sl 1 .byte)) (w0 : Holds w (.sl 1 .byte) x0 [.slice A0 n0 c0]) (A1 : Option Addr) (n1 c1 : Nat) (x1 : Ty.den (.sl 1 .byte)) (w1 : Holds w (.sl 1 .byte) x1 [.slice A1 n1 c1])
    (a2 : Int) (_ : (Lit.int .i64 a2).wf = true) (a3 : Int) (_ : (Lit.int .i64 a3).wf = true) :
    Calls Try.prog 6 #[.slice A0 n0 c0, .slice A1 n1 c1, .int .i64 a2, .int .i64 a3] w fun e w' => e = .returned (.bool true) ∧ Below w.heap.size w w' := by
  obtain ⟨rfl, r0, _, _⟩ := holds_bytes w0
  obtain ⟨rfl, r1, _, _⟩ := holds_bytes w1
  by_cases h : 60 < List.length (α := UInt8) x0 ∨ 60 < List.length (α := UInt8) x1
  · exact MemApart_long w A0 A1 _ _ c0 c1 h a2 a3
  · exact MemApart_short w A0 A1 c0 c1 x0 x1 r0 r1 (by omega) (by omega) a2 a3 (a2 % 64).toNat (a3 % 64).toNat (by omega) (by omega) (by rw [i64_and63]; omega) (by rw [i64_and63]; omega)
end Go.Proofs.Ytngempcnjijfhaa
