/- Package sig: isSignal, has, with, without, first, fate, Next, Wakes. -/
import Derived.Test.YtaeiigniakjbpaaDoorSigQ
import Derived.Shelf.Spec.TrailingZeros
import Derived.Deep.QuietTactic
namespace Go.Proofs.YtaeiigniakjbpaaDoor.Sg
open Go.RowKit
set_option linter.unusedVariables false
set_option linter.unusedSimpArgs false
/-- The table that math/bits looks into. -/
def Tb (w : World) : Prop := TabAt 1 Lib.deBruijn64tab w
theorem Tb.keep {M : Nat → Prop} {w w' : World} (h : Tb w) (k : Keep M w w') (hm : ¬ M 1) : Tb w' := fun j hj => by
  have hc := h j hj
  rw [← hc]
  exact World.cell?_of_block (w := w) (k.block _ (block_lt_of_cell hc) hm)
theorem Tb.nob {w w' : World} (h : Tb w) (k : Keep Nob w w') : Tb w' := h.keep k (fun f => f)
theorem issig_is (n : Int) (w : World) : Calls Tryd.prog 24 #[.int .i64 n] w fun e w' => e = .returned (.bool (sign n)) ∧ w = w' := by
  by_cases h1 : 0 < n
  · by_cases h2 : n ≤ 15
    · have e : sign n = true := decide_eq_true ⟨h1, h2⟩
      rw [e]
      go_enter Tryd.func24, Tryd.ntmps24
      go_wp2
      go_ret
      exact ⟨rfl, rfl⟩
    · have e : sign n = false := decide_eq_false (by omega)
      rw [e]
      go_enter Tryd.func24, Tryd.ntmps24
      go_wp2
      go_ret
      exact ⟨rfl, rfl⟩
  · have e : sign n = false := decide_eq_false (by omega)
    rw [e]
    go_enter Tryd.func24, Tryd.ntmps24
    go_wp2
    go_ret
    exact ⟨rfl, rfl⟩
theorem has_is (s n : Int) (h0 : 0 ≤ n) (h : n ≤ 15) (w : World) (v : Bool) (hv : bt s n = v) : Calls Tryd.prog 25 #[.int .i64 s, .int .i64 n] w fun e w' => e = .returned (.bool v) ∧ w = w' := by
  have hv2 : (s / 2 ^ n.toNat % 2 == 1) = v := hv
  clear hv
  go_enter Tryd.func25, Tryd.ntmps25
  go_wp2
  go_ret
  exact ⟨rfl, rfl⟩
theorem wrap_pw {n : Int} (h0 : 0 ≤ n) (h : n ≤ 15) : wrap64 (2 ^ n.toNat) = pw n := by
  rcases in15 h0 h with rfl | rfl | rfl | rfl | rfl | rfl | rfl | rfl | rfl | rfl | rfl | rfl | rfl | rfl | rfl | rfl <;> decide +kernel
theorem with_is (s n : Int) (h0 : 0 ≤ n) (h : n ≤ 15) (w : World) (v : Int) (hv : wi s n = v) : Calls Tryd.prog 26 #[.int .i64 s, .int .i64 n] w fun e w' => e = .returned (.int .i64 v) ∧ w = w' := by
  have hw := wrap_pw h0 h
  have hv2 : bits .or .i64 s (pw n) = v := hv
  clear hv
  go_enter Tryd.func26, Tryd.ntmps26
  go_wp2
  go_ret
  exact ⟨rfl, rfl⟩
theorem without_is (s n : Int) (h0 : 0 ≤ n) (h : n ≤ 15) (w : World) (v : Int) (hv : wo s n = v) : Calls Tryd.prog 27 #[.int .i64 s, .int .i64 n] w fun e w' => e = .returned (.int .i64 v) ∧ w = w' := by
  have hw := wrap_pw h0 h
  have hv2 : bits .andNot .i64 s (pw n) = v := hv
  clear hv
  go_enter Tryd.func27, Tryd.ntmps27
  go_wp2
  go_ret
  exact ⟨rfl, rfl⟩
theorem tz64_core (x k idx : Nat) (w : World) (hx0 : ((x : Int) == 0) = false)
    (key : IntKind.u64.wrap (bits BinOp.and IntKind.u64 (x : Int) (IntKind.u64.wrap (-(x : Int))) * 285870213051353865) / 288230376151711744 = (idx : Int))
    (hi : idx < 64) (hk : k < 64) (hcell : w.cell? ⟨1, idx, none⟩ = some (.int .u8 k)) :
    Calls Tryd.prog 34 #[.int .u64 x] w fun e w' => e = .returned (.int .i64 k) ∧ w = w' := by
  go_enter Tryd.func34, Tryd.ntmps34
  go_wp2_with (simp only [key])
  go_ret
  exact ⟨rfl, rfl⟩
theorem tz_is (x : Nat) (hx : x < 18446744073709551616) (hx0 : x ≠ 0) (w : World) (hT : Tb w) (c : Nat) (hc : Lib.ctz 64 x = c) :
    Calls Tryd.prog 32 #[.int .u64 x] w fun e w' => e = .returned (.int .i64 c) ∧ w = w' := by
  have c64 : Calls Tryd.prog 34 #[.int .u64 x] w fun e w' => e = .returned (.int .i64 c) ∧ w = w' := by
    obtain ⟨hlow, hk⟩ := Lib.lowest_bit 64 x hx0 hx
    obtain ⟨hi, htab⟩ := Lib.deBruijn64_at _ hk
    have hcell := hT _ hi
    rw [htab] at hcell
    rw [hc] at hlow hk hcell hi
    exact tz64_core x _ _ w (by simp; omega) (tz64_key x _ hx hx0 hlow) hi hk hcell
  have hw : IntKind.u64.wrap (x : Int) = (x : Int) := by rw [IntKind.wrap_u64]; omega
  clear hc
  go_enter Tryd.func32, Tryd.ntmps32
  go_wp2_with fail
  refine c64.mono ?_; rintro e w' ⟨rfl, rfl⟩
  go_wp2
  go_ret
  exact ⟨rfl, rfl⟩
def low (r : Int) : Int := if bt r 9 then 9 else (Lib.ctz 64 r.toNat : Int)
theorem first_is (r : Int) (h0 : 0 < r) (h1 : r ≤ 65534) (w : World) (hT : Tb w) : Calls Tryd.prog 29 #[.int .i64 r] w fun e w' => e = .returned (.int .i64 (low r)) ∧ w = w' := by
  have hh := fun v hv => has_is r 9 (by decide) (by decide) w v hv
  obtain ⟨x, rfl⟩ : ∃ x : Nat, r = x := ⟨r.toNat, by omega⟩
  have htz := tz_is x (by omega) (by omega) w hT _ rfl
  unfold low
  rw [Int.toNat_natCast]
  generalize Lib.ctz 64 x = c at *
  have hw : IntKind.u64.wrap (x : Int) = (x : Int) := by rw [IntKind.wrap_u64]; omega
  cases hb : bt (x : Int) 9 with
  | true =>
    have hh := hh true hb
    clear hb
    go_enter Tryd.func29, Tryd.ntmps29
    go_wp2_with fail
    refine hh.mono ?_; rintro e w' ⟨rfl, rfl⟩
    go_wp2
    go_ret
    exact ⟨rfl, rfl⟩
  | false =>
    have hh := hh false hb
    clear hb
    go_enter Tryd.func29, Tryd.ntmps29
    go_wp2_with fail
    refine hh.mono ?_; rintro e w' ⟨rfl, rfl⟩
    go_wp2_with fail
    refine htz.mono ?_; rintro e w' ⟨rfl, rfl⟩
    go_wp2
    go_ret
    exact ⟨rfl, rfl⟩
theorem low_is {r : Int} (h0 : 0 < r) (h1 : r ≤ 65534) (h2 : r % 2 = 0) : 1 ≤ low r ∧ low r ≤ 15 := by
  obtain ⟨c, hc, c1, c15, _, _⟩ := ctz_is h0 h1 h2
  unfold low
  split
  · omega
  · rw [hc]; omega
theorem rdl_low {p : Ps} (h0 : 0 < rdy p) : ∃ l, rdl p = low (rdy p) :: l := by
  obtain ⟨a, b, c⟩ := mask_lo (bits .andNot .i64 p.pe p.m)
  obtain ⟨k, hc, c1, c15, hb, hl⟩ := ctz_is (r := rdy p) h0 b c
  unfold low
  split
  · rename_i h9; exact rdl_kill h9
  · rename_i h9
    rw [hc]
    exact rdl_least (by simpa using h9) (by omega) hb hl
theorem rdl_nought {p : Ps} (h0 : rdy p = 0) : rdl p = [] := rdl_none fun k k1 k2 => by
  rw [h0]; unfold bt; simp
theorem fate_is (p : Ps) (hl : p.f.length = 8) (n : Int) (h0 : 0 ≤ n) (h : n ≤ 15) (w : World) (v : Int) (hv : fate p.ca n = v) :
    Calls Tryd.prog 30 #[pv p, .int .i64 n] w fun e w' => e = .returned (.int .i64 v) ∧ Keep Nob w w' := by
  have hh := fun w v hv => has_is p.ca n h0 h w v hv
  unfold pv
  have HL := Lib.hid hl
  clear hl
  unfold fate at hv
  cases hb : bt p.ca n with
  | true =>
    rw [hb, if_pos rfl] at hv
    subst hv
    have hh := fun w => hh w true hb
    have HH := Lib.hid hh
    clear hb hh
    go_enter Tryd.func30, Tryd.ntmps30
    go_wp2_with (refine wpList_box rfl 25 _ rfl _ rfl ?_; intro w1 hb hk hs; clear hs; have hb : Blk w1 w.heap.size 25 (pc p) := hb; have c7 := (cells hb).2.2.2.2; have K1 := hk.nobt (Keep.refl Nob w1))
    refine (HH.out _).mono ?_; rintro e w' ⟨rfl, rfl⟩
    go_wp2
    go_ret
    exact ⟨rfl, K1⟩
  | false =>
    rw [hb, if_neg (by simp)] at hv
    have hh := fun w => hh w false hb
    have HH := Lib.hid hh
    clear hb hh
    by_cases h15 : n = 15
    · rw [if_pos h15] at hv
      subst hv
      subst h15
      go_enter Tryd.func30, Tryd.ntmps30
      go_wp2_with (refine wpList_box rfl 25 _ rfl _ rfl ?_; intro w1 hb hk hs; clear hs; have hb : Blk w1 w.heap.size 25 (pc p) := hb; have c7 := (cells hb).2.2.2.2; have K1 := hk.nobt (Keep.refl Nob w1))
      refine (HH.out _).mono ?_; rintro e w' ⟨rfl, rfl⟩
      go_wp2
      go_ret
      exact ⟨rfl, K1⟩
    · rw [if_neg h15] at hv
      by_cases h14 : n = 14
      · rw [if_pos h14] at hv
        subst hv
        subst h14
        go_enter Tryd.func30, Tryd.ntmps30
        go_wp2_with (refine wpList_box rfl 25 _ rfl _ rfl ?_; intro w1 hb hk hs; clear hs; have hb : Blk w1 w.heap.size 25 (pc p) := hb; have c7 := (cells hb).2.2.2.2; have K1 := hk.nobt (Keep.refl Nob w1))
        refine (HH.out _).mono ?_; rintro e w' ⟨rfl, rfl⟩
        go_wp2
        go_ret
        exact ⟨rfl, K1⟩
      · rw [if_neg h14] at hv
        subst hv
        go_enter Tryd.func30, Tryd.ntmps30
        go_wp2_with (refine wpList_box rfl 25 _ rfl _ rfl ?_; intro w1 hb hk hs; clear hs; have hb : Blk w1 w.heap.size 25 (pc p) := hb; have c7 := (cells hb).2.2.2.2; have K1 := hk.nobt (Keep.refl Nob w1))
        refine (HH.out _).mono ?_; rintro e w' ⟨rfl, rfl⟩
        go_wp2
        go_ret
        exact ⟨rfl, K1⟩
set_option maxHeartbeats 1000000 in
theorem next_is (p : Ps) (hl : p.f.length = 8) (w : World) (hT : Tb w) (n g : Int) (hv : next p = (n, g)) :
    Calls Tryd.prog 20 #[pv p] w fun e w' => e = .returned (.tuple #[.int .i64 n, .int .i64 g]) ∧ Keep Nob w w' := by
  have hf := fun n (h : 0 ≤ n ∧ n ≤ 15) w => fate_is p hl n h.1 h.2 w _ rfl
  obtain ⟨r0, r1, r2⟩ := mask_lo (bits .andNot .i64 p.pe p.m)
  have hlow := fun h0 => low_is (r := rdy p) h0 r1 r2
  have hfi := fun w hT h0 => first_is (rdy p) h0 r1 w hT
  have hrd : bits .and .i64 (bits .andNot .i64 p.pe p.m) 65534 = rdy p := rfl
  rw [hrd] at r0
  have hT2 := Lib.hid hT
  have hrl := fun h => rdl_low (p := p) h
  have hrn := fun h => rdl_nought (p := p) h
  unfold next at hv
  generalize rdy p = r at *
  unfold pv at *
  have HL := Lib.hid hl
  have HF := Lib.hid hf
  have HFI := Lib.hid hfi
  clear hl hf hfi hT
  by_cases hs : p.s = 1
  · rw [if_pos hs] at hv
    by_cases hr : r = 0
    · rw [hrn hr] at hv
      cases hv
      clear hrl hrn hlow
      subst hr
      clear r1 r2 r0
      go_enter Tryd.func20, Tryd.ntmps20
      go_wp2_with (refine wpList_box rfl 25 _ rfl _ rfl ?_; intro w1 hb hk hs; clear hs; have hb : Blk w1 w.heap.size 25 (pc p) := hb; obtain ⟨c0, c4, c5, c6, c7⟩ := cells hb; have K1 := hk.nobt (Keep.refl Nob w1))
      go_ret2
      exact ⟨rfl, K1⟩
    · obtain ⟨l, hl⟩ := hrl (by omega)
      have hlo := hlow (by omega)
      rw [hl] at hv
      have HR : 0 < r := by omega
      generalize low r = k at *
      have hv : (k, fate p.ca k) = (n, g) := hv
      obtain ⟨rfl, rfl⟩ := Prod.mk.inj hv
      have HR2 := Lib.hid HR
      clear hrl hrn hlow hl hv r1 r2 r0 HR
      go_enter Tryd.func20, Tryd.ntmps20
      go_wp2_with (first | (refine wpList_box rfl 25 _ rfl _ rfl ?_; intro w1 hb hk hs; clear hs; have hb : Blk w1 w.heap.size 25 (pc p) := hb; obtain ⟨c0, c4, c5, c6, c7⟩ := cells hb; have K1 := hk.nobt (Keep.refl Nob w1)) | (refine wpList_ld rfl (.tmp 1) rfl w.heap.size p rfl HL.out hb ?_))
      refine (HFI.out _ (hT2.out.nob K1) HR2.out).mono ?_; rintro e w' ⟨rfl, rfl⟩
      go_wp2_with (refine wpList_ld rfl (.tmp 1) rfl w.heap.size p rfl HL.out hb ?_)
      refine (HF.out k ⟨by omega, by omega⟩ _).mono ?_; rintro e w' ⟨rfl, k2⟩
      have K2 := K1.nobt k2
      go_wp2
      go_ret2
      exact ⟨rfl, K2⟩
  · rw [if_neg hs] at hv
    cases hv
    clear hrl hrn hlow r1 r2 r0 HFI HF
    have hs2 : (p.s != 1) = true := by simpa using hs
    go_enter Tryd.func20, Tryd.ntmps20
    go_wp2_with (refine wpList_box rfl 25 _ rfl _ rfl ?_; intro w1 hb hk hs; clear hs; have hb : Blk w1 w.heap.size 25 (pc p) := hb; obtain ⟨c0, c4, c5, c6, c7⟩ := cells hb; have K1 := hk.nobt (Keep.refl Nob w1))
    go_ret2
    exact ⟨rfl, K1⟩
theorem wakes_is (p : Ps) (hl : p.f.length = 8) (w : World) (hT : Tb w) (v : Bool) (hv : wakes p = v) :
    Calls Tryd.prog 13 #[pv p] w fun e w' => e = .returned (.bool v) ∧ Keep Nob w w' := by
  have hn := fun w hT => next_is p hl w hT (next p).1 (next p).2 rfl
  unfold wakes at hv
  generalize next p = ng at *
  obtain ⟨n, g⟩ := ng
  have hT2 := Lib.hid hT
  unfold pv at *
  have HL := Lib.hid hl
  have HN := Lib.hid hn
  have HV := Lib.hid hv
  clear hl hn hT hv
  dsimp only at HV HN
  go_enter Tryd.func13, Tryd.ntmps13
  go_wp2_with (first | (refine wpList_box rfl 25 _ rfl _ rfl ?_; intro w1 hb hk hs; clear hs; have hb : Blk w1 w.heap.size 25 (pc p) := hb; have K1 := hk.nobt (Keep.refl Nob w1)) | (refine wpList_ld rfl (.tmp 1) rfl w.heap.size p rfl HL.out hb ?_))
  refine (HN.out _ (hT2.out.nob K1)).mono ?_; rintro e w' ⟨rfl, k2⟩
  have K2 := K1.nobt k2
  by_cases h0 : n = 0
  · subst h0
    have hv := HV.out
    simp at hv
    subst hv
    go_wp2
    go_ret
    exact ⟨rfl, K2⟩
  · have h1 : (n != 0) = true := by simpa using h0
    have h2 : (n == 0) = false := by simpa using h0
    have hv := HV.out
    rw [h2] at hv
    have hv : (g != 1) = v := hv
    clear HV
    go_wp2
    go_ret
    exact ⟨rfl, K2⟩
end Go.Proofs.YtaeiigniakjbpaaDoor.Sg
