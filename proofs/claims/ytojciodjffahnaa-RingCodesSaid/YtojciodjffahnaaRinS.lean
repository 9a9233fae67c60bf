/- The document's PipeBytes. -/
import Derived.Test.YtojciodjffahnaaRinQ
namespace Go.Proofs.Ytojciodjffahnaa.Ri
open Go.RowKit
set_option linter.unusedVariables false
set_option linter.unusedSimpArgs false
theorem take_one {l : List UInt8} {k : Nat} (h : k < l.length) : l.take (k + 1) = l.take k ++ [l.getD k 0] := by
  rw [List.take_succ_eq_append_getElem h, List.getD_eq_getElem?_getD, List.getElem?_eq_getElem h]; rfl
set_option maxHeartbeats 4000000 in
theorem pipebytes_is (p : Pp) (hl : p.d.length = 32) (w : World) :
    Calls Try.prog 14 #[pv p] w fun e w' => e = .returned (.string (str (enc p))) ∧ Keep Nob w w' := by
  have HL := Lib.hid hl
  have hen : enc p = pre p ++ [sumb (pre p), 0] ++ p.d := rfl
  have hpl := pre_len p
  obtain ⟨y0, hy0⟩ : ∃ y, IntKind.u8.wrap p.h = y := ⟨_, rfl⟩
  obtain ⟨y1, hy1⟩ : ∃ y, IntKind.u8.wrap p.c = y := ⟨_, rfl⟩
  obtain ⟨y2, hy2⟩ : ∃ y, IntKind.u8.wrap p.r = y := ⟨_, rfl⟩
  obtain ⟨y3, hy3⟩ : ∃ y, IntKind.u8.wrap p.s = y := ⟨_, rfl⟩
  have hcv := fun (W : World) c => conv_new W (pre p) [.int .u8 1, .int .u8 y0, .int .u8 y1, .int .u8 y2, .int .u8 y3, .int .u8 197] 6 c (by subst hy0 hy1 hy2 hy3; simp only [wrap_byt]; rfl) rfl
  generalize hE : enc p = E at *
  generalize hQ : pre p = Q0 at *
  have sb := fun W => str_add Q0 [sumb Q0, 0] (by rw [hpl]; exact (by decide : 6 + 2 ≤ 100000)) W
  have hbl : (Q0 ++ [sumb Q0, 0]).length = 8 := by rw [List.length_append, hpl]; rfl
  have hq : (((sumb Q0).toNat : Nat) : Int) = ((tot Q0 % 256 : Nat) : Int) := by
    rw [sumb, UInt8.toNat_ofNat', Nat.mod_mod]
  have HR := Lib.hid (fun W => rsum_is (l := Q0) (w := W) (by omega) ((tot Q0 % 256 : Nat) : Int) rfl)
  generalize ((tot Q0 % 256 : Nat) : Int) = q at *
  have HCW := Lib.hid (fun (W : World) c => conv_new W [sumb Q0, 0] [.int .u8 q, .int .u8 0] 2 c (by rw [← hq]; rfl) rfl)
  have HCV := Lib.hid hcv
  generalize hB0 : Q0 ++ [sumb Q0, 0] = B0 at *
  generalize str [sumb Q0, 0] = z at *
  have HEN := Lib.hid hen
  have HBL := Lib.hid hbl
  clear hpl hE hQ hl hcv hq hen hbl hB0
  generalize str Q0 = S0 at *
  unfold pv
  go_enter Try.func14, Try.ntmps14
  go_wp2_with (refine wpList_box rfl 26 _ rfl _ rfl ?_; intro w1 hb hk hs; clear hs; have hb : Blk w1 w.heap.size 26 (pc p) := hb; have hcv := HCV.out w1; obtain ⟨c0, c1, c2, c3⟩ := cells4 hb)
  have hb2 := hb.alloc (.cells #[.int .u8 1, .int .u8 y0, .int .u8 y1, .int .u8 y2, .int .u8 y3, .int .u8 197] 5)
  have hk2 := hk.alloc (.cells #[.int .u8 1, .int .u8 y0, .int .u8 y1, .int .u8 y2, .int .u8 y3, .int .u8 197] 5)
  clear hb hk hcv HCV c0 c1 c2 c3 hy0 hy1 hy2 hy3
  generalize w1.alloc (.cells #[.int .u8 1, .int .u8 y0, .int .u8 y1, .int .u8 y2, .int .u8 y3, .int .u8 197] 5) = w2 at *
  refine (HR.out _).mono ?_; rintro e w9 ⟨rfl, rfl⟩
  have cv := HCW.out w2
  have hb9 := hb2.alloc (.cells #[.int .u8 q, .int .u8 0] 5)
  have hk9 := hk2.alloc (.cells #[.int .u8 q, .int .u8 0] 5)
  clear hb2 hk2 HCW
  go_wp2_with fail
  clear cv sb
  go_loopw [4, 3] (fun s4 s3 wx => ∃ k : Nat, k ≤ 32 ∧ s4 = .int .i64 k ∧ s3 = .string (str (B0 ++ p.d.take k)) ∧ Blk wx w.heap.size 26 (pc p) ∧ Keep Nob w wx) (fun s4 _ _ => 32 - (intOf s4).toNat)
  case atStart => exact ⟨0, Nat.zero_le _, rfl, by simp, hb9, hk9⟩
  case round =>
    obtain ⟨k, hk, rfl, rfl, hb3, hk3⟩ := hrel
    clear hb9 hk9
    by_cases hlt : k < 32
    · have ck := cellD hb3 (k := k) (by rw [HL.out]; exact hlt)
      have ht := take_one (l := p.d) (k := k) (by rw [HL.out]; exact hlt)
      have hlen : (B0 ++ p.d.take k).length + 1 ≤ 100000 := by rw [List.length_append, HBL.out, List.length_take]; omega
      obtain ⟨y, hy⟩ : ∃ y, p.d.getD k 0 = y := ⟨_, rfl⟩
      rw [hy] at ck ht
      have sa := fun W => str_add (B0 ++ p.d.take k) [y] hlen W
      rw [show B0 ++ p.d.take k ++ [y] = B0 ++ p.d.take (k + 1) from by rw [ht, List.append_assoc]] at sa
      clear ht hlen hy
      generalize str (B0 ++ p.d.take k) = S at *
      obtain ⟨S', hS'⟩ : ∃ S', str (B0 ++ p.d.take (k + 1)) = S' := ⟨_, rfl⟩
      rw [hS'] at sa
      have HS' := Lib.hid hS'
      clear hS'
      obtain ⟨u, hu⟩ : ∃ u, ((y.toNat : Nat) : Int) = u := ⟨_, rfl⟩
      rw [hu] at ck
      have cv := fun c => conv_new wr [y] [.int .u8 u] 1 c (by rw [← hu]; rfl) rfl
      have hb4 := hb3.alloc (.cells #[.int .u8 u] 5)
      have hk4 := hk3.alloc (.cells #[.int .u8 u] 5)
      clear hb3 hk3 hu
      generalize str [y] = z at *
      go_wp2_with fail
      go_round
      case rel => exact ⟨k + 1, by omega, by go_num, by rw [HS'.out], hb4, hk4⟩
      case measure => simp [intOf]; omega
    · obtain rfl : k = 32 := by omega
      rw [List.take_of_length_le (by rw [HL.out]; exact Nat.le_refl _), ← HEN.out]
      go_wp2
      go_ret
      exact ⟨rfl, hk3⟩
end Go.Proofs.Ytojciodjffahnaa.Ri
