/- Contracts of the document's answer for bytes (commonageref1: Within, Load, Store, Blank). -/
import Derived.Test.YtngempcnjijfhaaLaw1
namespace Go.Proofs.Ytngempcnjijfhaa
open Go.RowKit
theorem within_is (v : Bool) (a n z : Int) (w : World) (hz0 : 0 ≤ z) (hz : z ≤ 1000000) (hv : decide (0 ≤ a ∧ 0 ≤ n ∧ a + n ≤ z) = v) : Calls Try.prog 15 #[.int .i64 a, .int .i64 n, .int .i64 z] w fun e w' => e = .returned (.bool v) ∧ w = w' := by
  subst hv
  exact within_any a n z w hz0 hz
set_option maxHeartbeats 1000000 in
theorem rload_yes (q a n z : Nat) (xs : List UInt8) (w : World) (hb : Blk w q 5 (bytes xs)) (hx : xs.length = z) (hz : z ≤ 16384) (h1 : a + n ≤ z) :
    Calls Try.prog 17 #[.slice (some ⟨q, 0, none⟩) z z, .int .i64 a, .int .i64 n] w fun e w' => e = .returned (.tuple #[.string (str ((xs.drop a).take n)), .int .i64 0]) ∧ w = w' := by
  have hz' : (z : Int) ≤ 1000000 := by omega
  have hs : ∀ A' c, (a < z → A' = some ⟨q, a, none⟩) → (convert 22 9 (.slice A' n c)).run Try.prog w = .ok (.string (str ((xs.drop a).take n))) w := fun A' c hA =>
    run_str (P := Try.prog) w 22 9 5 A' n c _ Try.underlying22 Try.underlying5 Try.underlying9 (by
      have R := Reads.of_blk (A := A') (off := a) (n := n) hb (fun h0 => hA (by omega)) (by simp; omega)
      rwa [← bytes_drop, ← bytes_take] at R)
  have HX := Lib.hid hx
  clear hx
  go_enter Try.func17, Try.ntmps17
  go_wp2_with fail
  refine (within_is true _ _ _ _ (by omega) hz' (by simp; omega)).mono ?_; rintro e w' ⟨rfl, rfl⟩
  go_wp2_with (refine wpList_cut_lh rfl 22 _ _ _ rfl 5 1 Try.underlying22 Try.size5 _ _ _ a (a + n) .i64 .i64 rfl rfl rfl (by omega) (by omega) ?_; intro A' hA'; have hs2 := fun c => hs A' c (fun hh => by rw [hA' hh]; simp [add_lit]))
  go_ret2
  exact ⟨rfl, rfl⟩
set_option maxHeartbeats 1000000 in
theorem rload_no (q z : Nat) (a n : Int) (w : World) (hz : z ≤ 16384) (h1 : ¬ (0 ≤ a ∧ 0 ≤ n ∧ a + n ≤ z)) :
    Calls Try.prog 17 #[.slice (some ⟨q, 0, none⟩) z z, .int .i64 a, .int .i64 n] w fun e w' => e = .returned (.tuple #[.string (str []), .int .i64 1]) ∧ w = w' := by
  have H1 := Lib.hid h1
  clear h1
  go_enter Try.func17, Try.ntmps17
  go_wp2_with fail
  refine (within_is false _ _ _ _ (by omega) (by omega) (by simpa using H1.out)).mono ?_; rintro e w' ⟨rfl, rfl⟩
  go_wp2
  go_ret2
  exact ⟨rfl, rfl⟩
set_option maxHeartbeats 1000000 in
theorem rstore_yes (q a z : Nat) (xs l : List UInt8) (w : World) (hb : Blk w q 5 (bytes xs)) (hx : xs.length = z) (hz : z ≤ 16384) (h1 : a + l.length ≤ z) :
    Calls Try.prog 18 #[.slice (some ⟨q, 0, none⟩) z z, .int .i64 a, .string (str l)] w fun e w' => e = .returned (.int .i64 0) ∧ Blk w' q 5 (bytes (splice xs a l)) ∧ Keep (· = q) w w' ∧ w'.heap.size = w.heap.size := by
  have hz' : (z : Int) ≤ 1000000 := by omega
  have hls := str_size l
  have hfit : ∀ A' : Option Addr, (a < z → A' = Option.map (fun x : Addr => x.add (a * 1)) (some ⟨q, 0, none⟩)) → (0 < z - a → A' = some ⟨q, a, none⟩) := fun A' h h0 => by rw [h (by omega)]; simp [add_lit]
  have hcl : a + (z - a) ≤ (bytes xs).length := by rw [bytes_length]; omega
  have HX := Lib.hid hx
  have HS := Lib.hid hls
  clear hx hls
  go_enter Try.func18, Try.ntmps18
  go_wp2_with fail
  rw [HS.out]
  refine (within_is true _ _ _ _ (by omega) hz' (by simp; omega)).mono ?_; rintro e w' ⟨rfl, rfl⟩
  go_wp2_with (first | (refine wpList_cut_l rfl 22 _ _ rfl 5 1 Try.underlying22 Try.size5 _ _ _ a .i64 rfl rfl (by omega) ?_; intro A' hA'; have hA2 := hfit A' hA') | (refine wpList_cps rfl _ _ 22 9 rfl 5 Try.underlying22 Try.size5 _ _ _ l rfl rfl q a _ 5 hb hA2 hcl (by omega) ?_; intro w2 hb2 hk2 hs2))
  go_ret
  exact ⟨rfl, by rw [← splice_bytes]; exact hb2, hk2, hs2⟩
set_option maxHeartbeats 1000000 in
theorem rstore_no (q z : Nat) (a : Int) (l : List UInt8) (w : World) (hz : z ≤ 16384) (h1 : ¬ (0 ≤ a ∧ a + l.length ≤ z)) :
    Calls Try.prog 18 #[.slice (some ⟨q, 0, none⟩) z z, .int .i64 a, .string (str l)] w fun e w' => e = .returned (.int .i64 1) ∧ w = w' := by
  have H1 := Lib.hid h1
  have HS := Lib.hid (str_size l)
  clear h1
  go_enter Try.func18, Try.ntmps18
  go_wp2_with fail
  rw [HS.out]
  refine (within_is false _ _ _ _ (by omega) (by omega) (by have := H1.out; simp; omega)).mono ?_; rintro e w' ⟨rfl, rfl⟩
  go_wp2
  go_ret
  exact ⟨rfl, rfl⟩
end Go.Proofs.Ytngempcnjijfhaa
