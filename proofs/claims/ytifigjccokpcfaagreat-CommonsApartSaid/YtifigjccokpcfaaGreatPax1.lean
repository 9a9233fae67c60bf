/- Texts SltS, packed. -/
import Derived.Deep.RegionHeld3
import Derived.Deep.CutBlock
import Derived.Test.YtifigjccokpcfaaGreatPk0
import Derived.Test.YtifigjccokpcfaaGreatPk3
import Derived.Test.YtifigjccokpcfaaGreatPk5
import Derived.Test.YtifigjccokpcfaaGreatPax0
import Derived.Test.YtifigjccokpcfaaGreatPk6
import Derived.Test.YtifigjccokpcfaaGreatPk9
namespace Go.Proofs.YtifigjccokpcfaaGreat.Cd
open Go.RowKit
set_option linter.unusedVariables false
set_option linter.unusedSimpArgs false
theorem wrap_byt_ (n : Int) : IntKind.u8.wrap n = ((byt n).toNat : Int) := by
  rw [byt, byte_back, IntKind.wrap_u8']
set_option maxHeartbeats 4000000 in
set_option maxRecDepth 100000 in
theorem procbytes_is (p : List Int) (hl : p.length = 16) (ok : okd p = true) (w : World) :
    Calls Tryz.prog 26 #[pv p] w fun e w' => e = .returned (.string (str (enc p))) ∧ Keep Nob w w' := by
  have B := okd_bounds ok
  have T4 := fun w => rtwo_is (p.getD 4 0) w B.pe.1 B.pe.2
  have T5 := fun w => rtwo_is (p.getD 5 0) w B.m.1 B.m.2
  have T6 := fun w => rtwo_is (p.getD 6 0) w B.i.1 B.i.2
  have T7 := fun w => rtwo_is (p.getD 7 0) w B.ca.1 B.ca.2
  have hpe : pre p = head p ++ (p.drop 8).map byt ++ [167] := rfl
  have hen : enc p = pre p ++ [sumb (pre p), 0, 0] := rfl
  have hhl : (head p).length = 12 := rfl
  clear B ok
  obtain ⟨a0, a1, a2, a3, a4, a5, a6, a7, f0, f1, f2, f3, f4, f5, f6, f7, rfl⟩ := split16 hl
  simp only [List.getD_cons_succ, List.getD_cons_zero, List.drop_succ_cons, List.drop_zero] at T4 T5 T6 T7 hpe
  have s4 := fun W => str_add ([byt a0, byt a1, byt a2, byt a3]) (two a4) (by simp [two]) W
  have s5 := fun W => str_add ([byt a0, byt a1, byt a2, byt a3] ++ two a4) (two a5) (by simp [two]) W
  have s6 := fun W => str_add ([byt a0, byt a1, byt a2, byt a3] ++ two a4 ++ two a5) (two a6) (by simp [two]) W
  have s7 := fun W => str_add ([byt a0, byt a1, byt a2, byt a3] ++ two a4 ++ two a5 ++ two a6) (two a7) (by simp [two]) W
  rw [show [byt a0, byt a1, byt a2, byt a3] ++ two a4 ++ two a5 ++ two a6 ++ two a7 = head [a0, a1, a2, a3, a4, a5, a6, a7, f0, f1, f2, f3, f4, f5, f6, f7] from rfl] at s7
  obtain ⟨y0, hy0⟩ : ∃ y, IntKind.u8.wrap a0 = y := ⟨_, rfl⟩
  obtain ⟨y1, hy1⟩ : ∃ y, IntKind.u8.wrap a1 = y := ⟨_, rfl⟩
  obtain ⟨y2, hy2⟩ : ∃ y, IntKind.u8.wrap a2 = y := ⟨_, rfl⟩
  obtain ⟨y3, hy3⟩ : ∃ y, IntKind.u8.wrap a3 = y := ⟨_, rfl⟩
  have hcv := fun (W : World) c => conv_new W [byt a0, byt a1, byt a2, byt a3] [.int .u8 y0, .int .u8 y1, .int .u8 y2, .int .u8 y3] 4 c (by subst hy0 hy1 hy2 hy3; simp only [wrap_byt_]; rfl) rfl
  generalize hS3 : str ([byt a0, byt a1, byt a2, byt a3]) = S3 at *
  generalize hS4 : str ([byt a0, byt a1, byt a2, byt a3] ++ two a4) = S4 at *
  generalize hS5 : str ([byt a0, byt a1, byt a2, byt a3] ++ two a4 ++ two a5) = S5 at *
  generalize hS6 : str ([byt a0, byt a1, byt a2, byt a3] ++ two a4 ++ two a5 ++ two a6) = S6 at *
  generalize hH : head [a0, a1, a2, a3, a4, a5, a6, a7, f0, f1, f2, f3, f4, f5, f6, f7] = H at *
  generalize hE : enc [a0, a1, a2, a3, a4, a5, a6, a7, f0, f1, f2, f3, f4, f5, f6, f7] = E at *
  generalize hQ : pre [a0, a1, a2, a3, a4, a5, a6, a7, f0, f1, f2, f3, f4, f5, f6, f7] = Q0 at *
  generalize str (two a4) = t4 at *
  generalize str (two a5) = t5 at *
  generalize str (two a6) = t6 at *
  generalize str (two a7) = t7 at *
  clear hS3 hS4 hS5 hS6 hH hE hQ hl
  have HT4 := Lib.hid T4
  have HT5 := Lib.hid T5
  have HT6 := Lib.hid T6
  have HT7 := Lib.hid T7
  have HPE := Lib.hid hpe
  have HEN := Lib.hid hen
  have HHL := Lib.hid hhl
  clear T4 T5 T6 T7 hpe hen hhl
  have HCV := Lib.hid hcv
  clear hcv
  simp only [pv, ints, List.map_cons, List.map_nil]
  go_enter Tryz.func26, Tryz.ntmps26
  go_wp2_with (refine wpList_box rfl 39 _ rfl _ rfl ?_; intro w1 hb hk hs; clear hs; have hb : Blk w1 w.heap.size 39 (ints [a0, a1, a2, a3, a4, a5, a6, a7, f0, f1, f2, f3, f4, f5, f6, f7]) := hb; have hcv := HCV.out w1; obtain ⟨c0, c1, c2, c3, c4, c5, c6, c7, c8, c9, c10, c11, c12, c13, c14, c15⟩ := cells16 hb)
  have hb2 := hb.alloc (.cells #[.int .u8 y0, .int .u8 y1, .int .u8 y2, .int .u8 y3] 5)
  have hk2 := hk.alloc (.cells #[.int .u8 y0, .int .u8 y1, .int .u8 y2, .int .u8 y3] 5)
  clear hb hk hcv HCV c0 c1 c2 c3 c4 c5 c6 c7 c8 c9 c10 c11 c12 c13 c14 c15
  generalize w1.alloc (.cells #[.int .u8 y0, .int .u8 y1, .int .u8 y2, .int .u8 y3] 5) = w2 at *
  have hbd := hb2.drew
  have hkd := hk2.drew
  clear hb2 hk2
  go_region_held3 (fun w' => w'.cell? ⟨w.heap.size, 4, none⟩ = some (.int .i64 a4) ∧ w'.cell? ⟨w.heap.size, 5, none⟩ = some (.int .i64 a5) ∧ w'.cell? ⟨w.heap.size, 6, none⟩ = some (.int .i64 a6) ∧ w'.cell? ⟨w.heap.size, 7, none⟩ = some (.int .i64 a7))
    (first | with_reducible_and_instances exact cells4 hbd | with_reducible_and_instances exact cells4 hb4 | with_reducible_and_instances exact cells4 hb5 | with_reducible_and_instances exact cells4 hb6 | with_reducible_and_instances exact cells4 hb7)
    (first | (go_at_call 75; with_reducible_and_instances apply Calls.mono (HT4.out _); rintro e w4 ⟨rfl, k4⟩; have hb4 := hbd.nob k4; have hk4 := hkd.nobt k4) | (go_at_call 75; with_reducible_and_instances apply Calls.mono (HT5.out _); rintro e w5 ⟨rfl, k5⟩; have hb5 := hb4.nob k5; have hk5 := hk4.nobt k5) | (go_at_call 75; with_reducible_and_instances apply Calls.mono (HT6.out _); rintro e w6 ⟨rfl, k6⟩; have hb6 := hb5.nob k6; have hk6 := hk5.nobt k6) | (go_at_call 75; with_reducible_and_instances apply Calls.mono (HT7.out _); rintro e w7 ⟨rfl, k7⟩; have hb7 := hb6.nob k7; have hk7 := hk6.nobt k7))
  clear s4 s5 s6 s7 HT4 HT5 HT6 HT7 hy0 hy1 hy2 hy3
  have hcF : ∀ (W : World) g (hb : Blk W g 39 (ints [a0, a1, a2, a3, a4, a5, a6, a7, f0, f1, f2, f3, f4, f5, f6, f7])) k, k < 8 → W.cell? ⟨g, 8 + k, none⟩ = some (.int .i64 (([f0, f1, f2, f3, f4, f5, f6, f7] : List Int).getD k 0)) := fun W g hb k hk => by
    rw [hb.cell, show ints [a0, a1, a2, a3, a4, a5, a6, a7, f0, f1, f2, f3, f4, f5, f6, f7] = ints [a0, a1, a2, a3, a4, a5, a6, a7] ++ ints [f0, f1, f2, f3, f4, f5, f6, f7] from rfl, List.getElem?_append_right (by simp), ints_len]
    show (ints [f0, f1, f2, f3, f4, f5, f6, f7])[8 + k - 8]? = _
    rw [Nat.add_sub_cancel_left, ints_get, List.getD_eq_getElem?_getD, List.getElem?_eq_getElem hk]; rfl
  have HCF := Lib.hid hcF
  have htk : ∀ k, k < 8 → ([f0, f1, f2, f3, f4, f5, f6, f7] : List Int).take (k + 1) = [f0, f1, f2, f3, f4, f5, f6, f7].take k ++ [([f0, f1, f2, f3, f4, f5, f6, f7] : List Int).getD k 0] := fun k hk => by
    rw [List.take_succ_eq_append_getElem hk, List.getD_eq_getElem?_getD, List.getElem?_eq_getElem hk]; rfl
  have HTK := Lib.hid htk
  clear hcF htk
  go_wp2_with fail
  go_loopw [4, 3] (fun s4 s3 wx => ∃ k : Nat, k ≤ 8 ∧ s4 = .int .i64 k ∧ s3 = .string (str (H ++ (([f0, f1, f2, f3, f4, f5, f6, f7] : List Int).take k).map byt)) ∧ Blk wx w.heap.size 39 (ints [a0, a1, a2, a3, a4, a5, a6, a7, f0, f1, f2, f3, f4, f5, f6, f7]) ∧ Keep Nob w wx) (fun s4 _ _ => 8 - (intOf s4).toNat)
  case atStart => exact ⟨0, Nat.zero_le _, rfl, by simp, hb7, hk7⟩
  case round =>
    obtain ⟨k, hk, rfl, rfl, hb8, hk8⟩ := hrel
    clear hb7 hk7
    by_cases hlt : k < 8
    · have ck := HCF.out _ _ hb8 k hlt
      have ht := HTK.out k hlt
      have hlen : (H ++ (([f0, f1, f2, f3, f4, f5, f6, f7] : List Int).take k).map byt).length + 1 ≤ 100000 := by rw [List.length_append, HHL.out]; simp; omega
      generalize ([f0, f1, f2, f3, f4, f5, f6, f7] : List Int).getD k 0 = u at *
      have sa := fun W => str_add (H ++ (([f0, f1, f2, f3, f4, f5, f6, f7] : List Int).take k).map byt) [byt u] hlen W
      rw [show H ++ (([f0, f1, f2, f3, f4, f5, f6, f7] : List Int).take k).map byt ++ [byt u] = H ++ (([f0, f1, f2, f3, f4, f5, f6, f7] : List Int).take (k + 1)).map byt from by rw [ht]; simp] at sa
      clear ht hlen
      generalize str (H ++ (([f0, f1, f2, f3, f4, f5, f6, f7] : List Int).take k).map byt) = S at *
      obtain ⟨S', hS'⟩ : ∃ S', str (H ++ (([f0, f1, f2, f3, f4, f5, f6, f7] : List Int).take (k + 1)).map byt) = S' := ⟨_, rfl⟩
      rw [hS'] at sa
      have HS' := Lib.hid hS'
      clear hS'
      obtain ⟨y, hy⟩ : ∃ y, IntKind.u8.wrap u = y := ⟨_, rfl⟩
      have cv := fun c => conv_new wr [byt u] [.int .u8 y] 1 c (by rw [← hy, wrap_byt_]; rfl) rfl
      have hb9 := hb8.alloc (.cells #[.int .u8 y] 5)
      have hk9 := hk8.alloc (.cells #[.int .u8 y] 5)
      clear hb8 hk8
      generalize str [byt u] = z at *
      go_wp2_with fail
      go_round
      case rel => exact ⟨k + 1, by omega, by go_num, by rw [HS'.out], hb9, hk9⟩
      case measure => simp [intOf]; omega
    · obtain rfl : k = 8 := by omega
      clear HCF HTK hlt hk hb8
      have hlen : (H ++ [f0, f1, f2, f3, f4, f5, f6, f7].map byt).length = 20 := by rw [List.length_append, HHL.out]; rfl
      have hql : Q0.length = 21 := by rw [HPE.out, List.length_append, hlen]; rfl
      have sa := fun W => str_add (H ++ [f0, f1, f2, f3, f4, f5, f6, f7].map byt) [167] (by rw [hlen]; decide) W
      rw [← HPE.out, show str [167] = { data := #[167] } from rfl] at sa
      have hw8 : H ++ (([f0, f1, f2, f3, f4, f5, f6, f7] : List Int).take 8).map byt = H ++ [f0, f1, f2, f3, f4, f5, f6, f7].map byt := rfl
      rw [hw8]
      clear hw8 hlen
      generalize str (H ++ [f0, f1, f2, f3, f4, f5, f6, f7].map byt) = S at *
      have sb := fun W => str_add Q0 [sumb Q0, 0, 0] (by rw [hql]; show 21 + 3 ≤ 100000; decide) W
      rw [← HEN.out] at sb
      have hq : (((sumb Q0).toNat : Nat) : Int) = ((tot Q0 % 256 : Nat) : Int) := by
        rw [sumb, UInt8.toNat_ofNat', Nat.mod_mod]
      have HR := Lib.hid (fun W => rsum_is (l := Q0) (w := W) (by omega) ((tot Q0 % 256 : Nat) : Int) rfl)
      clear hql HPE HEN
      generalize ((tot Q0 % 256 : Nat) : Int) = q at *
      have cv := fun c => conv_new wr [sumb Q0, 0, 0] [.int .u8 q, .int .u8 0, .int .u8 0] 3 c (by rw [← hq]; rfl) rfl
      clear hq
      have hk9 := hk8.alloc (.cells #[.int .u8 q, .int .u8 0, .int .u8 0] 5)
      clear hk8
      generalize str [sumb Q0, 0, 0] = z at *
      generalize str Q0 = S0 at *
      go_wp2_with fail
      refine (HR.out _).mono ?_; rintro e w9 ⟨rfl, rfl⟩
      go_wp2
      go_ret
      exact ⟨rfl, hk9⟩
end Go.Proofs.YtifigjccokpcfaaGreat.Cd
