/- The document's in, what, Next, Wakes, SameInts. -/
import Derived.Test.YtaeiigniakjbpaaDoorSigD
namespace Go.Proofs.YtaeiigniakjbpaaDoor.Sg
open Go.RowKit
set_option linter.unusedVariables false
set_option linter.unusedSimpArgs false
theorem rin_is (n lo hi : Int) (w : World) (v : Bool) (hv : decide (lo ≤ n ∧ n ≤ hi) = v) : Calls Tryd.prog 28 #[.int .i64 n, .int .i64 lo, .int .i64 hi] w fun e w' => e = .returned (.bool v) ∧ w = w' := by
  subst hv
  by_cases h1 : lo ≤ n
  · by_cases h2 : n ≤ hi
    · have e : decide (lo ≤ n ∧ n ≤ hi) = true := decide_eq_true ⟨h1, h2⟩
      rw [e]
      go_enter Tryd.func28, Tryd.ntmps28
      go_wp2
      go_ret
      exact ⟨rfl, rfl⟩
    · have e : decide (lo ≤ n ∧ n ≤ hi) = false := decide_eq_false (by omega)
      rw [e]
      go_enter Tryd.func28, Tryd.ntmps28
      go_wp2
      go_ret
      exact ⟨rfl, rfl⟩
  · have e : decide (lo ≤ n ∧ n ≤ hi) = false := decide_eq_false (by omega)
    rw [e]
    go_enter Tryd.func28, Tryd.ntmps28
    go_wp2
    go_ret
    exact ⟨rfl, rfl⟩
theorem rwhat_is (p : Ps) (hl : p.f.length = 8) (n : Int) (h0 : 0 ≤ n) (h : n ≤ 15) (w : World) (v : Int) (hv : fate p.ca n = v) :
    Calls Tryd.prog 31 #[pv p, .int .i64 n] w fun e w' => e = .returned (.int .i64 v) ∧ Keep Nob w w' := by
  unfold pv
  have HL := Lib.hid hl
  clear hl
  unfold fate at hv
  cases hb : bt p.ca n with
  | true =>
    rw [hb, if_pos rfl] at hv
    subst hv
    have hb2 : (p.ca / 2 ^ n.toNat % 2 == 1) = true := hb
    clear hb
    go_enter Tryd.func31, Tryd.ntmps31
    go_wp2_with (refine wpList_box rfl 25 _ rfl _ rfl ?_; intro w1 hb hk hs; clear hs; have hb : Blk w1 w.heap.size 25 (pc p) := hb; have c7 := (cells hb).2.2.2.2; have K1 := hk.nobt (Keep.refl Nob w1))
    go_ret
    exact ⟨rfl, K1⟩
  | false =>
    rw [hb, if_neg (by simp)] at hv
    have hb2 : (p.ca / 2 ^ n.toNat % 2 == 1) = false := hb
    clear hb
    by_cases h15 : n = 15
    · rw [if_pos h15] at hv
      subst hv
      have e15 : (n == 15) = true := by simpa using h15
      clear h15
      go_enter Tryd.func31, Tryd.ntmps31
      go_wp2_with (refine wpList_box rfl 25 _ rfl _ rfl ?_; intro w1 hb hk hs; clear hs; have hb : Blk w1 w.heap.size 25 (pc p) := hb; have c7 := (cells hb).2.2.2.2; have K1 := hk.nobt (Keep.refl Nob w1))
      go_ret
      exact ⟨rfl, K1⟩
    · rw [if_neg h15] at hv
      by_cases h14 : n = 14
      · rw [if_pos h14] at hv
        subst hv
        have e14 : (n == 14) = true := by simpa using h14
        have e15 : (n == 15) = false := by simpa using h15
        clear h14 h15
        go_enter Tryd.func31, Tryd.ntmps31
        go_wp2_with (refine wpList_box rfl 25 _ rfl _ rfl ?_; intro w1 hb hk hs; clear hs; have hb : Blk w1 w.heap.size 25 (pc p) := hb; have c7 := (cells hb).2.2.2.2; have K1 := hk.nobt (Keep.refl Nob w1))
        go_ret
        exact ⟨rfl, K1⟩
      · rw [if_neg h14] at hv
        subst hv
        go_enter Tryd.func31, Tryd.ntmps31
        go_wp2_with (refine wpList_box rfl 25 _ rfl _ rfl ?_; intro w1 hb hk hs; clear hs; have hb : Blk w1 w.heap.size 25 (pc p) := hb; have c7 := (cells hb).2.2.2.2; have K1 := hk.nobt (Keep.refl Nob w1))
        go_ret
        exact ⟨rfl, K1⟩
set_option maxHeartbeats 2000000 in
theorem rnext_is (p : Ps) (hl : p.f.length = 8) (w : World) (n g : Int) (hv : next p = (n, g)) :
    Calls Tryd.prog 21 #[pv p] w fun e w' => e = .returned (.tuple #[.int .i64 n, .int .i64 g]) ∧ Keep Nob w w' := by
  have hf := fun n (h : 0 ≤ n ∧ n ≤ 15) w => rwhat_is p hl n h.1 h.2 w _ rfl
  have hrd : bits .and .i64 (bits .andNot .i64 p.pe p.m) 65534 = rdy p := rfl
  have hrk := fun h => rdl_kill (p := p) h
  have hrl := fun h9 n hn hb hl => rdl_least (p := p) (n := n) h9 hn hb hl
  have hrn := fun h => rdl_none (p := p) h
  unfold next at hv
  generalize rdy p = r at *
  unfold pv at *
  have HL := Lib.hid hl
  have HF := Lib.hid hf
  have HRK := Lib.hid hrk
  have HRL := Lib.hid hrl
  have HRN := Lib.hid hrn
  clear hl hf hrk hrl hrn
  by_cases hs : p.s = 1
  rotate_left
  · rw [if_neg hs] at hv
    cases hv
    have hs2 : (p.s != 1) = true := by simpa using hs
    go_enter Tryd.func21, Tryd.ntmps21
    go_wp2_with (refine wpList_box rfl 25 _ rfl _ rfl ?_; intro w1 hb hk hs; clear hs; have hb : Blk w1 w.heap.size 25 (pc p) := hb; obtain ⟨c0, c4, c5, c6, c7⟩ := cells hb; have K1 := hk.nobt (Keep.refl Nob w1))
    go_ret2
    exact ⟨rfl, K1⟩
  rw [if_pos hs] at hv
  cases h9 : bt r 9 with
  | true =>
    obtain ⟨l, hl⟩ := HRK.out h9
    rw [hl] at hv
    have hv : ((9 : Int), fate p.ca 9) = (n, g) := hv
    obtain ⟨rfl, rfl⟩ := Prod.mk.inj hv
    have h92 : (r / 512 % 2 == 1) = true := h9
    clear hv h9 hl HRK HRL HRN
    go_enter Tryd.func21, Tryd.ntmps21
    go_wp2_with (first | (refine wpList_box rfl 25 _ rfl _ rfl ?_; intro w1 hb hk hs; clear hs; have hb : Blk w1 w.heap.size 25 (pc p) := hb; obtain ⟨c0, c4, c5, c6, c7⟩ := cells hb; have K1 := hk.nobt (Keep.refl Nob w1)) | (refine wpList_ld rfl (.tmp 1) rfl w.heap.size p rfl HL.out hb ?_))
    refine (HF.out 9 (by decide) _).mono ?_; rintro e w' ⟨rfl, k2⟩
    have K2 := K1.nobt k2
    go_wp2
    go_ret2
    exact ⟨rfl, K2⟩
  | false =>
    have HV := Lib.hid hv
    have H9 := Lib.hid h9
    have h92 : (r / 512 % 2 == 1) = false := h9
    clear hv h9 HRK
    go_enter Tryd.func21, Tryd.ntmps21
    go_wp2_with (first | (refine wpList_box rfl 25 _ rfl _ rfl ?_; intro w1 hb hk hs; clear hs; have hb : Blk w1 w.heap.size 25 (pc p) := hb; obtain ⟨c0, c4, c5, c6, c7⟩ := cells hb; have K1 := hk.nobt (Keep.refl Nob w1)))
    go_loopw [5] (fun s5 wx => ∃ k : Nat, 1 ≤ k ∧ k ≤ 16 ∧ s5 = .int .i64 k ∧ wx = w1 ∧ ∀ j : Int, 1 ≤ j → j < k → bt r j = false) (fun s5 _ => 16 - (intOf s5).toNat)
    case atStart => exact ⟨1, by decide, by decide, rfl, (by first | rfl | trivial), fun j h1 h2 => by omega⟩
    case round =>
      obtain ⟨k, hk1, hk2, rfl, rfl, hj⟩ := hrel
      have HJ := Lib.hid hj
      clear hj h92
      by_cases h15 : k ≤ 15
      · cases hb5 : bt r (k : Int) with
        | true =>
          obtain ⟨l, hl⟩ := HRL.out H9.out k ⟨by omega, by omega⟩ hb5 HJ.out
          have hv := HV.out
          rw [hl] at hv
          have hv : ((k : Int), fate p.ca k) = (n, g) := hv
          obtain ⟨rfl, rfl⟩ := Prod.mk.inj hv
          have hb6 : (r / 2 ^ k % 2 == 1) = true := hb5
          clear hv hl hb5 HV
          go_wp2_with (refine wpList_ld rfl (.tmp 1) rfl w.heap.size p rfl HL.out hb ?_)
          refine (HF.out (k : Int) ⟨by omega, by omega⟩ _).mono ?_; rintro e w' ⟨rfl, k2⟩
          have K2 := K1.nobt k2
          go_wp2
          go_ret2
          exact ⟨rfl, K2⟩
        | false =>
          have hb6 : (r / 2 ^ k % 2 == 1) = false := hb5
          have HB5 := Lib.hid hb5
          clear hb5
          go_wp2_with fail
          go_roundw
          case rel => exact ⟨k + 1, by omega, by omega, by go_num, (by first | rfl | trivial), fun j h1 h2 => by
            by_cases e : j = k
            · rw [e]; exact HB5.out
            · exact HJ.out j h1 (by omega)⟩
          case measure => simp [intOf]; omega
      · have hl := HRN.out (fun j h1 h2 => HJ.out j h1 (by omega))
        have hv := HV.out
        rw [hl] at hv
        cases hv
        go_wp2_with fail
        go_ret2
        exact ⟨rfl, K1⟩
theorem rwakes_is (p : Ps) (hl : p.f.length = 8) (w : World) (v : Bool) (hv : wakes p = v) :
    Calls Tryd.prog 22 #[pv p] w fun e w' => e = .returned (.bool v) ∧ Keep Nob w w' := by
  have hn := fun w => rnext_is p hl w (next p).1 (next p).2 rfl
  unfold wakes at hv
  generalize next p = ng at *
  obtain ⟨n, g⟩ := ng
  unfold pv at *
  have HL := Lib.hid hl
  have HN := Lib.hid hn
  have HV := Lib.hid hv
  clear hl hn hv
  dsimp only at HV HN
  go_enter Tryd.func22, Tryd.ntmps22
  go_wp2_with (first | (refine wpList_box rfl 25 _ rfl _ rfl ?_; intro w1 hb hk hs; clear hs; have hb : Blk w1 w.heap.size 25 (pc p) := hb; have K1 := hk.nobt (Keep.refl Nob w1)) | (refine wpList_ld rfl (.tmp 1) rfl w.heap.size p rfl HL.out hb ?_))
  refine (HN.out _).mono ?_; rintro e w' ⟨rfl, k2⟩
  have K2 := K1.nobt k2
  by_cases h0 : n = 0
  · subst h0
    have hv := HV.out
    simp at hv
    subst hv
    go_wp2
    go_ret
    exact ⟨rfl, K2⟩
  · have h1 : (n != 0) = true := by simpa using h0
    have h2 : (n == 0) = false := by simpa using h0
    have hv := HV.out
    rw [h2] at hv
    have hv : (g != 1) = v := hv
    clear HV
    go_wp2
    go_ret
    exact ⟨rfl, K2⟩
theorem ints_at {w : World} {b off n k : Nat} {l : List Int} (hr : Reads w (some ⟨b, off, none⟩) n (ints l)) (hk : k < n) : w.cell? ⟨b, off + k, none⟩ = some (.int .i64 (l.getD k 0)) := by
  have hl : l.length = n := by simpa using hr.1
  obtain ⟨ad, h1, h2⟩ := hr.2 (by omega)
  cases h1
  have := h2 k (.int .i64 (l.getD k 0)) (by rw [ints_get, List.getD_eq_getElem?_getD, List.getElem?_eq_getElem (by omega)]; rfl)
  rwa [add_lit] at this
theorem ints_lit {w : World} {A : Option Addr} {n : Nat} {l : List Int} (hr : Reads w A n (ints l)) (hn : 0 < n) : ∃ b off, A = some ⟨b, off, none⟩ := by
  have hl : l.length = n := by simpa using hr.1
  obtain ⟨ad, h1, h2⟩ := hr.2 hn
  have := World.cell?_spot (h2 0 (.int .i64 (l.getD 0 0)) (by rw [ints_get, List.getD_eq_getElem?_getD, List.getElem?_eq_getElem (by omega)]; rfl))
  obtain ⟨b, off, spot⟩ := ad
  refine ⟨b, off, ?_⟩
  simp [Addr.add] at this
  rw [h1, this]
set_option maxHeartbeats 2000000 in
/-- Two rows of the same numbers are the same. -/
theorem same_is (A B : Option Addr) (n ca cb : Nat) (l : List Int) (w : World) (hA : Reads w A n (ints l)) (hB : Reads w B n (ints l)) (hn : n ≤ 1000) :
    Calls Tryd.prog 16 #[.slice A n ca, .slice B n cb] w fun e w' => e = .returned (.bool true) ∧ Keep Nob w w' := by
  have HA := Lib.hid hA
  have HB := Lib.hid hB
  clear hA hB
  go_enter Tryd.func16, Tryd.ntmps16
  go_wp2_with fail
  go_loopw [5] (fun s5 wx => ∃ (k m : Nat), k ≤ n ∧ s5 = .int .i64 k ∧ wx = w.drewN m) (fun s5 _ => n - (intOf s5).toNat)
  case atStart => exact ⟨0, 0, Nat.zero_le _, rfl, rfl⟩
  case round =>
    obtain ⟨k, m, hk, rfl, rfl⟩ := hrel
    by_cases hlt : k < n
    · obtain ⟨b, off, rfl⟩ := ints_lit HA.out (by omega)
      obtain ⟨b2, off2, rfl⟩ := ints_lit HB.out (by omega)
      have h1 := ints_at HA.out hlt
      have h2 := ints_at HB.out hlt
      generalize l.getD k 0 = v at *
      go_upto_region 6 with fail
      go_region
      go_wp2_with fail
      go_roundw
      case rel => exact ⟨k + 1, m + 1, by omega, by go_num, rfl⟩
      case measure => simp [intOf]; omega
    · go_wp2_with fail
      go_ret
      exact ⟨rfl, (Keep.refl Nob w).drewN m⟩
end Go.Proofs.YtaeiigniakjbpaaDoor.Sg
