/- The walks of MemZeroes and MemLent. -/
import Derived.Test.YtngempcnjijfhaaLaw1
namespace Go.Proofs.Ytngempcnjijfhaa
open Go.RowKit
theorem zero_is (a : Int) (k p r : Nat) (ha : a = k) (xs ys : List UInt8) (w : World) (h : IsMem w p r xs) (h1 : 64 * k + 64 ≤ xs.length) (hy : splice xs (64 * k) (List.replicate 64 0) = ys) :
    Calls Try.prog 13 #[.pointer (some ⟨p, 0, none⟩), .int .i64 a] w fun e w' => e = .returned (.int .i64 0) ∧ IsMem w' p r ys ∧ Keep (· = r) w w' ∧ w'.heap.size = w.heap.size := by
  subst ha hy
  exact zero_yes p r k xs w h h1
set_option maxRecDepth 100000 in
set_option maxHeartbeats 2000000 in
theorem MemZeroes_short (w : World) (A : Option Addr) (ca : Nat) (a : List UInt8) (ra : Reads w A a.length (bytes a)) (ha : a.length ≤ 192) (k' : Int) (m : Nat) (hm : m < 256) (hK : bits .and .i64 k' 255 = m) :
    Calls Try.prog 3 #[.slice A a.length ca, .int .i64 k'] w fun e w' => e = .returned (.bool true) ∧ Below w.heap.size w w' := by
  have l1 : (splice (zeros 3) 0 a).length = 192 := by rw [splice_len _ _ _ (by rw [zeros_len]; omega), zeros_len]
  have l2 : (splice (splice (zeros 3) 0 a) (64 * (m % 3)) (List.replicate 64 0)).length = 192 := by rw [splice_len _ _ _ (by rw [l1, List.length_replicate]; omega), l1]
  have g2 := splice_getD (splice (zeros 3) 0 a) (64 * (m % 3)) (List.replicate 64 0) (by rw [l1, List.length_replicate]; omega)
  have G2 := Lib.hid g2
  clear g2
  have ra' : (a.length : Int) ≤ 192 := by omega
  generalize hxs : splice (zeros 3) 0 a = xs at *
  have X := Lib.hid hxs
  have L1 := Lib.hid l1
  have L2 := Lib.hid l2
  clear hxs l1 l2
  go_enter Try.func3, Try.ntmps3
  go_wp2_with fail
  refine (new_is _ 3 (by omega) _).mono ?_; rintro e w1 ⟨p, r, rfl, hm1, hp1, hr1, hk1⟩
  have K1 := (Keep.refl (From w.heap.size) w).nob hk1
  go_wp2_with fail
  refine (store_is _ p r 0 a.length ca rfl _ _ a _ _ hm1 rfl (ra.from_ K1) (by rw [zeros_len]; omega) X.out).mono ?_; rintro e w2 ⟨rfl, hm2, hk2, _⟩
  have K2 := K1.at_ hk2 hr1
  go_wp2_with fail
  refine (load_is _ _ p r 0 192 rfl rfl _ xs _ hm2 (by rw [L1.out]; omega) (by rw [List.drop_zero, List.take_of_length_le (by rw [L1.out]; omega)])).mono ?_; rintro e w3 ⟨g3, rfl, hb3, hg3, hk3⟩
  have K3 := K2.nob hk3
  have hm3 := hm2.nob hk3
  have hne : g3 ≠ r := by have := hm2.row_lt; omega
  rw [L1.out]
  go_wp2_with fail
  refine (zero_is _ (m % 3) p r (by omega) _ _ _ hm3 (by rw [L1.out]; omega) rfl).mono ?_; rintro e w4 ⟨rfl, hm4, hk4, _⟩
  have K4 := K3.at_ hk4 hr1
  have hb4 := hb3.keep hk4 hne
  go_wp2_with fail
  refine (load_is _ _ p r 0 192 rfl rfl _ _ _ hm4 (by rw [L2.out]; omega) (by rw [List.drop_zero, List.take_of_length_le (by rw [L2.out]; omega)])).mono ?_; rintro e w5 ⟨g5, rfl, hb5, hg5, hk5⟩
  have K5 := K4.nob hk5
  have hb6 := hb4.keep hk5 (fun f => f)
  have hm5 := hm4.nob hk5
  rw [L2.out]
  have Hm := Lib.hid hK
  clear hK
  go_wp2
  go_loop [12, 13] (fun i _ => ∃ k : Nat, k ≤ 192 ∧ i = .int .i64 k) (fun i _ => 192 - (intOf i).toNat)
  case atStart => exact ⟨0, Nat.zero_le _, rfl⟩
  case round =>
    obtain ⟨k, hk, rfl⟩ := hrel
    by_cases hlt : k < 192
    · have cA : w5.cell? ⟨g3, k, none⟩ = some (.int .u8 ((xs.getD k 0).toNat : Int)) := by rw [hb6.cell, bytes_getD (by rw [L1.out]; exact hlt)]
      have cB : w5.cell? ⟨g5, k, none⟩ = some (.int .u8 (((splice xs (64 * (m % 3)) (List.replicate 64 0)).getD k 0).toNat : Int)) := by rw [hb5.cell, bytes_getD (by rw [L2.out]; exact hlt)]
      rw [G2.out, List.length_replicate] at cB
      have hu := u8_lt (xs.getD k 0)
      by_cases hq : k / 64 = m % 3
      · have hb : ((k : Int) / 64 == (m : Int) % 3) = true := by simp; omega
        rw [if_pos (by omega), List.getD_eq_getElem?_getD, List.getElem?_replicate, if_pos (by omega)] at cB
        have cB' : w5.cell? ⟨g5, k, none⟩ = some (.int .u8 0) := cB
        clear cB
        go_wp2
        all_goals
          go_round
          case rel => exact ⟨k + 1, by omega, by go_num⟩
          case measure => simp [intOf]; omega
      · have hb : ((k : Int) / 64 == (m : Int) % 3) = false := by simp; omega
        rw [if_neg (by omega)] at cB
        go_wp2
        all_goals
          go_round
          case rel => exact ⟨k + 1, by omega, by go_num⟩
          case measure => simp [intOf]; omega
    · go_wp2_with fail
      refine (zero_no p r _ _ _ hm5 (by rw [L2.out]; decide)).mono ?_; rintro e w6 ⟨rfl, rfl⟩
      go_wp2_with fail
      refine (zero_no p r _ _ _ hm5 (by rw [L2.out]; decide)).mono ?_; rintro e w6 ⟨rfl, rfl⟩
      go_wp2_with fail
      refine (awake_true _).mono ?_; rintro e w7 ⟨rfl, hk7⟩
      go_wp2
      go_ret
      exact ⟨rfl, (K5.nob hk7).done⟩
set_option maxHeartbeats 2000000 in
theorem MemZeroes_long (w : World) (A : Option Addr) (na ca : Nat) (h : 192 < na) (k' : Int) :
    Calls Try.prog 3 #[.slice A na ca, .int .i64 k'] w fun e w' => e = .returned (.bool true) ∧ Below w.heap.size w w' := by
  have h1 : (192 : Int) < (na : Int) := by omega
  go_enter Try.func3, Try.ntmps3
  go_wp2_with fail
  refine (new_is _ 3 (by omega) _).mono ?_; rintro e w1 ⟨p, r, rfl, hm1, hp1, hr1, hk1⟩
  have K1 := (Keep.refl (From w.heap.size) w).nob hk1
  go_wp2_with fail
  refine (awake_true _).mono ?_; rintro e w7 ⟨rfl, hk7⟩
  go_wp2
  go_ret
  exact ⟨rfl, (K1.nob hk7).done⟩
theorem MemZeroes_walk (w : World) (A0 : Option Addr) (n0 c0 : Nat) (x0 : Ty.den (.sl 1 .byte)) (w0 : Holds w (.sl 1 .byte) x0 [.slice A0 n0 c0]) (a1 : Int) (_ : (Lit.int .i64 a1).wf = true) :
    Calls Try.prog 3 #[.slice A0 n0 c0, .int .i64 a1] w fun e w' => e = .returned (.bool true) ∧ Below w.heap.size w w' := by
  obtain ⟨rfl, r0, _, _⟩ := holds_bytes w0
  by_cases h : 192 < List.length (α := UInt8) x0
  · exact MemZeroes_long w A0 _ c0 h a1
  · exact MemZeroes_short w A0 c0 x0 r0 (by omega) a1 (a1 % 256).toNat (by omega) (by rw [i64_and255]; omega)
set_option maxRecDepth 100000 in
set_option maxHeartbeats 2000000 in
theorem MemLent_in (w : World) (A : Option Addr) (ca : Nat) (a : List UInt8) (ra : Reads w A a.length (bytes a)) (h0 : 0 < a.length) (h60 : a.length ≤ 60) (at' : Int) (m : Nat) (hK : bits .and .i64 at' 65535 = m) :
    Calls Try.prog 8 #[.slice A a.length ca, .int .i64 at'] w fun e w' => e = .returned (.bool true) ∧ Below w.heap.size w w' := by
  have ha1 : (0 : Int) < a.length := by omega
  have ha2 : (a.length : Int) ≤ 60 := by omega
  have ha3 : ((a.length : Int) == 0) = false := by rw [beq_eq_false_iff_ne]; omega
  go_enter Try.func8, Try.ntmps8
  go_wp2_with fail
  refine (new_is _ 2 (by omega) _).mono ?_; rintro e w1 ⟨p, r, rfl, hm1, hp1, hr1, hk1⟩
  have K1 := (Keep.refl (From w.heap.size) w).nob hk1
  go_wp2_with (at_builtin; go_loud (refine wpList_ap rfl _ _ 22 rfl 5 1 1 (.int .u8 0) Try.underlying22 Try.info5 rfl (by decide) (some ⟨w1.heap.size, 0, none⟩) 0 0 [] rfl (Vec.of_blk (Blk.new w1 5 []) rfl (by decide)) A a.length ca (bytes a) rfl _ (Nat.mul_one _) ((ra.from_ K1).nob ((Keep.refl Nob w1).alloc _)) (bytes_one a) (by unfold maxLen; omega) (by omega) ?_); intro A' cap' w2 hv2 hk2 ho2)
  have A2 : ∀ g, Own A' g → w1.heap.size ≤ g := by
    intro g hg
    rcases ho2 g hg with ⟨b, hb1, hb2⟩ | h
    · simp only [Option.some.injEq] at hb1
      rw [← hb1] at hb2
      exact Nat.le_of_eq hb2
    · rw [h]; simp
  have K2 : Keep (From w.heap.size) w w2 := (K1.alloc _).trans hk2 (fun k hk ⟨b, hb1, hb2⟩ => by
    simp only [Option.some.injEq] at hb1
    rw [← hb1] at hb2
    have e : w1.heap.size = k := hb2
    have := hk1.size
    show w.heap.size ≤ k
    omega)
  have hm2 : IsMem w2 p r (zeros 2) := (hm1.alloc _).keep hk2 (fun ⟨b, hb1, hb2⟩ => by
      simp only [Option.some.injEq] at hb1
      rw [← hb1] at hb2
      have e : w1.heap.size = p := hb2
      have := hm1.obj.lt
      omega) (fun ⟨b, hb1, hb2⟩ => by
      simp only [Option.some.injEq] at hb1
      rw [← hb1] at hb2
      have e : w1.heap.size = r := hb2
      have := hm1.row.lt
      omega)
  simp only [Nat.zero_add, List.nil_append] at hv2
  obtain ⟨g', cur, rfl, hcur, _, hcl, hct⟩ := hv2.at_ h0
  have hg' : w1.heap.size ≤ g' := A2 g' ⟨_, rfl, rfl⟩
  have hne' : g' ≠ r := by have := hm1.row.lt; omega
  have hnp' : g' ≠ p := by have := hm1.obj.lt; omega
  have hwg : w.heap.size ≤ g' := by have := hk1.size; omega
  have rv := hv2.reads
  rw [Nat.mul_one] at rv hcl hct
  obtain ⟨k, hkm, hkl⟩ : ∃ k : Nat, (m : Int) % (a.length : Int) = k ∧ k < a.length := ⟨m % a.length, by simp, Nat.mod_lt _ h0⟩
  rw [hkm]
  clear hkm
  have l1 : (splice (zeros 2) 3 a).length = 128 := by rw [splice_len _ _ _ (by rw [zeros_len]; omega), zeros_len]
  have p1 : ((splice (zeros 2) 3 a).drop 3).take a.length = a := splice_mid _ _ _ (by rw [zeros_len]; omega)
  have L1 := Lib.hid l1
  have P1 := Lib.hid p1
  clear l1 p1
  refine (store_is _ p r 3 a.length cap' rfl _ _ a _ _ hm2 rfl rv (by rw [zeros_len]; omega) rfl).mono ?_; rintro e w3 ⟨rfl, hm3, hk3, _⟩
  have K3 := K2.at_ hk3 hr1
  have hc3 := hcur.keep hk3 hne'
  have ck : w3.cell? ⟨g', k, none⟩ = some (.int .u8 ((a.getD k 0).toNat : Int)) := by
    rw [hc3.cell, ← bytes_getD hkl, ← hct, List.getElem?_take, if_pos hkl]
  have fk := hc3.frozen k
  have hu := u8_lt (a.getD k 0)
  have hki : (k : Int) < (a.length : Int) := by omega
  go_wp2_with fail
  generalize Value.int .u8 _ = u1
  have K3' := K3.setCell ⟨g', k, none⟩ u1 (fun h => absurd h (by show ¬ g' < w.heap.size; omega))
  have hm3' : IsMem (w3.setCell ⟨g', k, none⟩ u1) p r (splice (zeros 2) 3 a) := hm3.keep ((Keep.refl (· = g') w3).setCell ⟨g', k, none⟩ u1 (fun _ => rfl)) (fun e => hnp' e.symm) (fun e => hne' e.symm)
  refine (load_is _ _ p r 3 a.length rfl rfl _ a _ hm3' (by rw [L1.out]; omega) P1.out).mono ?_; rintro e w4 ⟨g4, rfl, hb4, hg4, hk4⟩
  have K4 := K3'.nob hk4
  have hm4 := hm3'.nob hk4
  have hne4 : g4 ≠ r := by have := hm3'.row.lt; omega
  have hnp4 : g4 ≠ p := by have := hm3'.obj.lt; omega
  have hwg4 : w.heap.size ≤ g4 := by have := K3'.size; omega
  have s1 := fun c => run_str (P := Try.prog) w4 22 9 5 (some ⟨g4, 0, none⟩) a.length c a Try.underlying22 Try.underlying5 Try.underlying9 (reads_all hb4 (by simp))
  have s2 := fun c => run_str (P := Try.prog) w4 22 9 5 A a.length c a Try.underlying22 Try.underlying5 Try.underlying9 (ra.from_ K4)
  have c4 : w4.cell? ⟨g4, k, none⟩ = some (.int .u8 ((a.getD k 0).toNat : Int)) := by rw [hb4.cell, bytes_getD hkl]
  have f4 := hb4.frozen k
  go_wp2_with fail
  generalize Value.int .u8 _ = u2
  have K5 := K4.setCell ⟨g4, k, none⟩ u2 (fun h => absurd h (by show ¬ g4 < w.heap.size; omega))
  have hm5 : IsMem (w4.setCell ⟨g4, k, none⟩ u2) p r (splice (zeros 2) 3 a) := hm4.keep ((Keep.refl (· = g4) w4).setCell ⟨g4, k, none⟩ u2 (fun _ => rfl)) (fun e => hnp4 e.symm) (fun e => hne4 e.symm)
  refine (load_is _ _ p r 3 a.length rfl rfl _ a _ hm5 (by rw [L1.out]; omega) P1.out).mono ?_; rintro e w6 ⟨g6, rfl, hb6, hg6, hk6⟩
  have K6 := K5.nob hk6
  have s3 := fun c => run_str (P := Try.prog) w6 22 9 5 (some ⟨g6, 0, none⟩) a.length c a Try.underlying22 Try.underlying5 Try.underlying9 (reads_all hb6 (by simp))
  have s4 := fun c => run_str (P := Try.prog) w6 22 9 5 A a.length c a Try.underlying22 Try.underlying5 Try.underlying9 (ra.from_ K6)
  go_wp2_with fail
  refine (awake_true _).mono ?_; rintro e w7 ⟨rfl, hk7⟩
  go_wp2
  go_ret
  exact ⟨rfl, (K6.nob hk7).done⟩
set_option maxRecDepth 100000 in
set_option maxHeartbeats 2000000 in
theorem MemLent_out (w : World) (A : Option Addr) (na ca : Nat) (h : na = 0 ∨ 60 < na) (at' : Int) :
    Calls Try.prog 8 #[.slice A na ca, .int .i64 at'] w fun e w' => e = .returned (.bool true) ∧ Below w.heap.size w w' := by
  rcases h with rfl | h
  · go_enter Try.func8, Try.ntmps8
    go_wp2_with fail
    refine (new_is _ 2 (by omega) _).mono ?_; rintro e w1 ⟨p, r, rfl, hm1, hp1, hr1, hk1⟩
    have K1 := (Keep.refl (From w.heap.size) w).nob hk1
    go_wp2_with fail
    refine (awake_true _).mono ?_; rintro e w7 ⟨rfl, hk7⟩
    go_wp2
    go_ret
    exact ⟨rfl, (K1.nob hk7).done⟩
  · have h1 : (60 : Int) < (na : Int) := by omega
    have ha3 : ((na : Int) == 0) = false := by rw [beq_eq_false_iff_ne]; omega
    go_enter Try.func8, Try.ntmps8
    go_wp2_with fail
    refine (new_is _ 2 (by omega) _).mono ?_; rintro e w1 ⟨p, r, rfl, hm1, hp1, hr1, hk1⟩
    have K1 := (Keep.refl (From w.heap.size) w).nob hk1
    go_wp2_with fail
    refine (awake_true _).mono ?_; rintro e w7 ⟨rfl, hk7⟩
    go_wp2
    go_ret
    exact ⟨rfl, (K1.nob hk7).done⟩
theorem MemLent_walk (w : World) (A0 : Option Addr) (n0 c0 : Nat) (x0 : Ty.den (.sl 1 .byte)) (w0 : Holds w (.sl 1 .byte) x0 [.slice A0 n0 c0]) (a1 : Int) (_ : (Lit.int .i64 a1).wf = true) :
    Calls Try.prog 8 #[.slice A0 n0 c0, .int .i64 a1] w fun e w' => e = .returned (.bool true) ∧ Below w.heap.size w w' := by
  obtain ⟨rfl, r0, _, _⟩ := holds_bytes w0
  by_cases h : List.length (α := UInt8) x0 = 0 ∨ 60 < List.length (α := UInt8) x0
  · exact MemLent_out w A0 _ c0 h a1
  · exact MemLent_in w A0 c0 x0 r0 (by omega) (by omega) a1 (a1 % 65536).toNat (by rw [i64_and65535]; omega)
end Go.Proofs.Ytngempcnjijfhaa
