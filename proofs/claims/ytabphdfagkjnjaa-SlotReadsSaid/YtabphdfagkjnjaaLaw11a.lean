/- The walk of SlotByte. -/
import Derived.Test.YtabphdfagkjnjaaSltN
namespace Go.Proofs.Ytabphdfagkjnjaa
open Go.RowKit
set_option linter.unusedVariables false
set_option linter.unusedSimpArgs false
theorem holds_ints {w : World} {A : Option Addr} {n c : Nat} {xs : List Int} (h : Holds w (.sl 8 (.int .i64)) xs [.slice A n c]) : Reads w A n (ints xs) := by
  have hl := (holds_len h).1
  have hl' : List.length (α := Int) xs = n := hl
  refine ⟨by rw [ints_len]; exact hl', fun h0 => ?_⟩
  obtain ⟨b0, off0, _, hA, _⟩ := holds_at (e := .int .i64) h (by decide) h0
  refine ⟨_, hA, fun j u hu => ?_⟩
  have hj : j < n := by
    rcases Nat.lt_or_ge j n with h1 | h1
    · exact h1
    · rw [List.getElem?_eq_none (by rw [ints_len]; omega)] at hu; cases hu
  obtain ⟨b, off, cs', rfl, _, hc, hk', hh⟩ := holds_at (e := .int .i64) h (by decide) hj
  cases hA
  obtain ⟨rfl, _⟩ := hh
  have := hc 0 _ rfl
  rw [show (Ty.int .i64).size = 1 from rfl, Nat.mul_one, Nat.add_zero] at this
  rw [add_lit, this]
  rw [ints_get] at hu
  have hk2 : j < List.length (α := Int) xs := hk'
  rw [List.getElem?_eq_getElem hk2] at hu
  rw [← hu]
  rfl
theorem byte_turns (x : UInt8) (b : Int) (h0 : 0 < b) (h1 : b ≤ 255) : x ≠ x + UInt8.ofNat b.toNat := by
  intro e
  have := congrArg UInt8.toNat e
  rw [UInt8.toNat_add, UInt8.toNat_ofNat'] at this
  have hx := x.toNat_lt
  omega
theorem byte_sum (x : UInt8) (b : Int) (h0 : 0 ≤ b) (h1 : b ≤ 255) : (((x + UInt8.ofNat b.toNat).toNat : Nat) : Int) = ((x.toNat : Int) + b) % 256 := by
  rw [UInt8.toNat_add, UInt8.toNat_ofNat']
  omega
set_option maxHeartbeats 2000000 in
set_option maxRecDepth 100000 in
theorem SlotByte_in (w : World) (A : Option Addr) (n c : Nat) (l : List Int) (hr : Reads w A n (ints l)) (hn : n ≤ 9000000000000000000) (a1 b y : Int) (hb0 : 0 ≤ b) (hb1 : b ≤ 255) (hy : (if b = 0 then 1 else b) = y) :
    Calls Try.prog 7 #[.slice A n c, .int .i64 a1, .int .u8 b] w fun e w' => e = .returned (.bool true) ∧ Below w.heap.size w w' := by
  have hP := made_is A n c l w hr hn (made l) rfl
  have hl := made_len l
  have ho := made_ok l
  have hw := made_wf l
  generalize made l = P at *
  have HE := Lib.hid (fun w => encode_is P hl hw w true ho)
  have HP := Lib.hid hP
  obtain ⟨i, hi, hi2⟩ : ∃ i : Nat, i < 24 ∧ a1 % 65536 % 24 = (i : Int) := ⟨(a1 % 65536 % 24).toNat, by omega, by omega⟩
  have y0 : 0 < y := by rw [← hy]; split <;> omega
  have y1 : y ≤ 255 := by rw [← hy]; split <;> omega
  have hT := turned hl ho hi (byte_turns ((enc P).getD i 0) y y0 y1)
  have hS := byte_sum ((enc P).getD i 0) y (by omega) y1
  have hel := enc_len hl
  have HT := Lib.hid hT
  clear hP hT hw ho hr
  have tail : ∀ (w2 : World), Keep Nob w w2 → ∀ (g m : Nat), Vec w2 5 1 (some ⟨g, 0, none⟩) 24 m (bytes (enc P)) → w.heap.size ≤ g → ∃ xx : Int, w2.cell? ⟨g, i, none⟩ = some (.int .u8 xx) ∧ xx = (((enc P).getD i 0).toNat : Int) ∧ w2.frozen? ⟨g, i, none⟩ = false ∧
      (Reads (w2.setCell ⟨g, i, none⟩ (.int .u8 (((((enc P).getD i 0).toNat : Int) + y) % 256))) (some ⟨g, 0, none⟩) 24 (bytes ((enc P).set i ((enc P).getD i 0 + UInt8.ofNat y.toNat)))) ∧ Keep Nob w (w2.setCell ⟨g, i, none⟩ (.int .u8 (((((enc P).getD i 0).toNat : Int) + y) % 256))) := by
    intro w2 k2 g m v2 hg
    have hv := v2.setCell i (.int .u8 (((((enc P).getD i 0).toNat : Int) + y) % 256))
    rw [bytes_set (enc P) i _ _ hS] at hv
    obtain ⟨g', cur, h1, h2, _, _, _⟩ := v2.at_ (by decide)
    cases h1
    exact ⟨_, reads_at (show Reads w2 (some ⟨g, 0, none⟩) 24 (bytes (enc P)) from v2.reads) hi, rfl, h2.frozen i, hv.reads, k2.setCell ⟨g, i, none⟩ _ (fun h => absurd h (by show ¬ g < _; omega))⟩
  have HTL := Lib.hid tail
  clear tail hS
  have hu := u8_lt ((enc P).getD i 0)
  by_cases hz : b = 0
  · subst hz
    rw [if_pos rfl] at hy
    subst hy
    go_enter Try.func7, Try.ntmps7
    go_wp2_with fail
    refine (HP.out).mono ?_; rintro e w1 ⟨rfl, k1⟩
    go_wp2_with fail
    refine (HE.out _).mono ?_; rintro e w2 ⟨x, rfl, ⟨B, m, rfl, v2, o2⟩, k2⟩
    obtain ⟨g, cur, rfl, _, _, _, _⟩ := v2.at_ (by decide)
    obtain ⟨xx, cc, hxx, fr, r3, K3⟩ := HTL.out w2 (k1.nobt k2) g m v2 (Nat.le_trans k1.size (o2 g ⟨_, rfl, rfl⟩))
    rw [← hxx] at r3 K3 hu
    clear v2 o2 hxx
    go_wp2_with fail
    refine (decode_is _ 24 m _ _ r3 (by decide) noP 2 HT.out).mono ?_; rintro e w4 ⟨rfl, k4⟩
    have K4 := K3.nobt k4
    unfold pv
    have ka := (Keep.refl Nob w4).alloc (.cells #[.int .i64 0, .int .i64 0, .int .i64 0, .int .i64 0, .int .i64 0, .int .i64 0, .int .i64 0, .int .i64 0, .int .i64 0, .int .i64 0, .int .i64 0, .int .i64 0, .int .i64 0, .int .i64 0, .int .i64 0, .int .i64 0] 24)
    go_wp2_with (refine wpList_st rfl _ _ rfl _ noP noP rfl rfl rfl rfl (Blk.new w4 24 (ints noP)) ?_; intro w5 hb5 hk5 hs5; clear hs5)
    refine (awake_is _).mono ?_; rintro e w6 ⟨rfl, k6⟩
    have K6 := ((K4.nobt ka).trans hk5 (fun b hb e => by have h3 : b = w4.heap.size := e; have := K4.size; omega)).nobt k6
    go_wp2
    go_ret
    exact ⟨rfl, K6.below (Nat.le_refl _) (fun _ _ f => f)⟩
  · rw [if_neg hz] at hy
    subst hy
    have hz2 : (b == 0) = false := by simpa using hz
    go_enter Try.func7, Try.ntmps7
    go_wp2_with fail
    refine (HP.out).mono ?_; rintro e w1 ⟨rfl, k1⟩
    go_wp2_with fail
    refine (HE.out _).mono ?_; rintro e w2 ⟨x, rfl, ⟨B, m, rfl, v2, o2⟩, k2⟩
    obtain ⟨g, cur, rfl, _, _, _, _⟩ := v2.at_ (by decide)
    obtain ⟨xx, cc, hxx, fr, r3, K3⟩ := HTL.out w2 (k1.nobt k2) g m v2 (Nat.le_trans k1.size (o2 g ⟨_, rfl, rfl⟩))
    rw [← hxx] at r3 K3 hu
    clear v2 o2 hxx
    go_wp2_with fail
    refine (decode_is _ 24 m _ _ r3 (by decide) noP 2 HT.out).mono ?_; rintro e w4 ⟨rfl, k4⟩
    have K4 := K3.nobt k4
    unfold pv
    have ka := (Keep.refl Nob w4).alloc (.cells #[.int .i64 0, .int .i64 0, .int .i64 0, .int .i64 0, .int .i64 0, .int .i64 0, .int .i64 0, .int .i64 0, .int .i64 0, .int .i64 0, .int .i64 0, .int .i64 0, .int .i64 0, .int .i64 0, .int .i64 0, .int .i64 0] 24)
    go_wp2_with (refine wpList_st rfl _ _ rfl _ noP noP rfl rfl rfl rfl (Blk.new w4 24 (ints noP)) ?_; intro w5 hb5 hk5 hs5; clear hs5)
    refine (awake_is _).mono ?_; rintro e w6 ⟨rfl, k6⟩
    have K6 := ((K4.nobt ka).trans hk5 (fun b hb e => by have h3 : b = w4.heap.size := e; have := K4.size; omega)).nobt k6
    go_wp2
    go_ret
    exact ⟨rfl, K6.below (Nat.le_refl _) (fun _ _ f => f)⟩
theorem SlotByte_walk (w : World) (A0 : Option Addr) (n0 c0 : Nat) (x0 : Ty.den (.sl 8 (.int .i64))) (w0 : Holds w (.sl 8 (.int .i64)) x0 [.slice A0 n0 c0]) (a1 : Int) (w1 : (Lit.int .i64 a1).wf = true) (a2 : Int) (w2 : (Lit.int .u8 a2).wf = true) :
    Calls Try.prog 7 #[.slice A0 n0 c0, .int .i64 a1, .int .u8 a2] w fun e w' => e = .returned (.bool true) ∧ Below w.heap.size w w' := by
  have hl := holds_len w0
  have hb := u8_of_wf w2
  have hu := (UInt8.ofNat a2.toNat).toNat_lt
  exact SlotByte_in w A0 n0 c0 x0 (holds_ints w0) (by omega) a1 a2 _ (by omega) (by omega) rfl
end Go.Proofs.Ytabphdfagkjnjaa
