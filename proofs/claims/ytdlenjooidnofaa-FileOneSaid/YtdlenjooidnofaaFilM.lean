/- A file made of a number: the laws' File, and what it makes; awake. -/
import Derived.Test.YtdlenjooidnofaaFil5
import Derived.Test.YtdlenjooidnofaaFilT
namespace Go.Proofs.Ytdlenjooidnofaa.Fi
open Go.RowKit
set_option linter.unusedVariables false
set_option linter.unusedSimpArgs false
/-- What is made of a number. -/
def made (n : Int) : List Int :=
  [n % 16777216 % 3 + 1, (if n % 16777216 % 3 + 1 = 3 then 0 else n % 16777216 / 16 % 8), n % 16777216 / 256 % 64 + 1, n % 16777216 / 32768 % 2]
theorem made_len (n : Int) : (made n).length = 4 := rfl
theorem made_ok (n : Int) : okd (made n) = true := by
  have h0 : 0 ≤ n % 16777216 := by omega
  unfold made okd
  generalize n % 16777216 = x at *
  simp only [List.getD_cons_succ, List.getD_cons_zero]
  rw [show inn (x % 3 + 1) 1 3 = true from decide_eq_true (by omega), show inn (x / 256 % 64 + 1) 1 64 = true from decide_eq_true (by omega), show inn (x / 32768 % 2) 0 1 = true from decide_eq_true (by omega), Bool.and_true, Bool.and_true, Bool.true_and]
  unfold last
  split
  · rfl
  · exact decide_eq_true (by omega)
set_option maxHeartbeats 4000000 in
theorem made_is (n : Int) (w : World) (R : List Int) (hR : made n = R) :
    Calls Try.prog 12 #[.int .i64 n] w fun e w' => e = .returned (pv R) ∧ Keep Nob w w' := by
  have hm : bits .and .i64 n 16777215 = n % 16777216 := i64_mask n 24 (by decide)
  have x0 : 0 ≤ n % 16777216 := by omega
  have x1 : n % 16777216 < 16777216 := by omega
  unfold made at hR
  generalize n % 16777216 = x at *
  have hr0 : Blk (w.alloc (.cells #[.int .i64 0, .int .i64 0, .int .i64 0, .int .i64 0] 23)) w.heap.size 23 (ints noP) := Blk.new w 23 (ints noP)
  have hk0 : Keep Nob w (w.alloc (.cells #[.int .i64 0, .int .i64 0, .int .i64 0, .int .i64 0] 23)) := (Keep.refl Nob w).alloc _
  have s1 : (w.alloc (.cells #[.int .i64 0, .int .i64 0, .int .i64 0, .int .i64 0] 23)).heap.size = w.heap.size + 1 := by simp
  have hne : w.heap.size ≠ w.heap.size + 1 := by omega
  have hle : w.heap.size ≤ w.heap.size + 1 := by omega
  have hp1 : Blk ((w.alloc (.cells #[.int .i64 0, .int .i64 0, .int .i64 0, .int .i64 0] 23)).alloc (.cells #[.int .i64 (x % 3 + 1), .int .i64 (x / 16 % 8), .int .i64 (x / 256 % 64 + 1), .int .i64 (x / 32768 % 2)] 23)) (w.heap.size + 1) 23 (ints [x % 3 + 1, x / 16 % 8, x / 256 % 64 + 1, x / 32768 % 2]) := by
    rw [← s1]; exact Blk.new _ _ _
  have hr1 := hr0.alloc (.cells #[.int .i64 (x % 3 + 1), .int .i64 (x / 16 % 8), .int .i64 (x / 256 % 64 + 1), .int .i64 (x / 32768 % 2)] 23)
  have hk1 := hk0.alloc (.cells #[.int .i64 (x % 3 + 1), .int .i64 (x / 16 % 8), .int .i64 (x / 256 % 64 + 1), .int .i64 (x / 32768 % 2)] 23)
  by_cases h3 : x % 3 + 1 = 3
  · rw [if_pos h3, h3] at hR
    rw [h3] at hp1
    have hp2 : Blk ((w.alloc (.cells #[.int .i64 0, .int .i64 0, .int .i64 0, .int .i64 0] 23)).alloc (.cells #[.int .i64 3, .int .i64 0, .int .i64 (x / 256 % 64 + 1), .int .i64 (x / 32768 % 2)] 23)) (w.heap.size + 1) 23 (ints R) := by
      rw [← s1, ← hR]; exact Blk.new _ _ _
    have hr2 := hr0.alloc (.cells #[.int .i64 3, .int .i64 0, .int .i64 (x / 256 % 64 + 1), .int .i64 (x / 32768 % 2)] 23)
    have hk2 := hk0.alloc (.cells #[.int .i64 3, .int .i64 0, .int .i64 (x / 256 % 64 + 1), .int .i64 (x / 32768 % 2)] 23)
    have hRl : R.length = 4 := by rw [← hR]; rfl
    have fr := hp1.frozen 1
    have cc : ((w.alloc (.cells #[.int .i64 0, .int .i64 0, .int .i64 0, .int .i64 0] 23)).alloc (.cells #[.int .i64 3, .int .i64 (x / 16 % 8), .int .i64 (x / 256 % 64 + 1), .int .i64 (x / 32768 % 2)] 23)).cell? ⟨w.heap.size + 1, 1, none⟩ = some (.int .i64 (x / 16 % 8)) := hp1.cell 1
    have c0 : ((w.alloc (.cells #[.int .i64 0, .int .i64 0, .int .i64 0, .int .i64 0] 23)).alloc (.cells #[.int .i64 3, .int .i64 (x / 16 % 8), .int .i64 (x / 256 % 64 + 1), .int .i64 (x / 32768 % 2)] 23)).cell? ⟨w.heap.size + 1, 0, none⟩ = some (.int .i64 3) := hp1.cell 0
    clear hR hr0 hk0 s1
    go_enter Try.func12, Try.ntmps12
    go_wp2_with (first | (refine wpList_ld rfl (.tmp 3) rfl (w.heap.size + 1) R rfl hRl hp2 ?_) | (refine wpList_st rfl (.tmp 2) _ rfl w.heap.size R noP rfl rfl hRl rfl hr2 ?_; intro w3 hr3 hk3 hs3; clear hs3))
    (try simp only [Exit.inBlock, Exit.then])
    refine bodyPost_ret (v := pv R) (results_one rfl _ _ w.heap.size R hRl rfl hr3) rfl ?_
    exact ⟨rfl, hk2.trans hk3 (fun b hb e => by have h4 : b = w.heap.size := e; omega)⟩
  · rw [if_neg h3] at hR
    have e3 : (x % 3 + 1 == 3) = false := by simpa using h3
    rw [hR] at hp1
    have hRl : R.length = 4 := by rw [← hR]; rfl
    have c0 : ((w.alloc (.cells #[.int .i64 0, .int .i64 0, .int .i64 0, .int .i64 0] 23)).alloc (.cells #[.int .i64 (x % 3 + 1), .int .i64 (x / 16 % 8), .int .i64 (x / 256 % 64 + 1), .int .i64 (x / 32768 % 2)] 23)).cell? ⟨w.heap.size + 1, 0, none⟩ = some (.int .i64 (x % 3 + 1)) := by rw [hp1.cell, ← hR]; rfl
    clear hR hr0 hk0 s1
    go_enter Try.func12, Try.ntmps12
    go_wp2_with (first | (refine wpList_ld rfl (.tmp 3) rfl (w.heap.size + 1) R rfl hRl hp1 ?_) | (refine wpList_st rfl (.tmp 2) _ rfl w.heap.size R noP rfl rfl hRl rfl hr1 ?_; intro w3 hr3 hk3 hs3; clear hs3))
    (try simp only [Exit.inBlock, Exit.then])
    refine bodyPost_ret (v := pv R) (results_one rfl _ _ w.heap.size R hRl rfl hr3) rfl ?_
    exact ⟨rfl, hk1.trans hk3 (fun b hb e => by have h4 : b = w.heap.size := e; omega)⟩
def termP : List Int := [3, 0, 1, 0]
theorem term_ok : okd termP = true := by decide
set_option maxHeartbeats 2000000 in
set_option maxRecDepth 100000 in
theorem awake_is (w : World) : Calls Try.prog 13 #[] w fun e w' => e = .returned (.bool true) ∧ Keep Nob w w' := by
  have h1 := encode_is termP rfl w true term_ok
  go_enter Try.func13, Try.ntmps13
  go_wp2_with fail
  refine h1.mono ?_; rintro e w1 ⟨x, rfl, ⟨A, m, rfl, v1, o1⟩, k1⟩
  clear h1
  have r1 : Reads w1 A 8 (bytes (enc termP)) := v1.reads
  clear v1 o1
  go_wp2_with (refine wpList_mk rfl _ _ 24 rfl 5 (.int .u8 0) 1 Try.underlying24 Try.info5 rfl .i64 .i64 8 _ rfl rfl rfl (by omega) (by omega) ?_; intro w2 hb2 hk2 hs2; clear hs2)
  rw [← bytes_replicate] at hb2
  have r2 := r1.nob hk2
  have K2 := k1.nobt hk2
  refine (decode_is _ 8 8 (List.replicate 8 0) _ (reads_all hb2 rfl) (by decide) noP 0 (by decide)).mono ?_; rintro e w3 ⟨rfl, k3⟩
  have r3 := r2.nob k3
  have K3 := K2.nobt k3
  clear r1 r2 hb2 K2 k1 k3 hk2
  unfold pv
  have ka := (Keep.refl Nob w3).alloc (.cells #[.int .i64 0, .int .i64 0, .int .i64 0, .int .i64 0] 23)
  go_wp2_with (refine wpList_st rfl _ _ rfl _ noP noP rfl rfl rfl rfl (Blk.new w3 23 (ints noP)) ?_; intro w4 hb4 hk4 hs4; clear hs4)
  have r4 : Reads w4 A 8 (bytes (enc termP)) := (r3.nob ka).keep hk4 (fun ad e e2 => by
    obtain ⟨ad', e1, e3⟩ := r3.2 (by decide)
    rw [e1] at e; cases e
    have h3 := block_lt_of_cell (e3 0 _ (bytes_getD (by decide)))
    rw [block_of_add] at h3
    have h4 : ad.block = w3.heap.size := e2
    omega)
  have K4 : Keep Nob w w4 := (K3.nobt ka).trans hk4 (fun b hb e => by have h3 : b = w3.heap.size := e; have := K3.size; omega)
  refine (decode_is _ 8 m (enc termP) _ r4 (by decide) termP 1 (dcd_enc rfl term_ok)).mono ?_; rintro e w5 ⟨rfl, k5⟩
  have K5 := K4.nobt k5
  unfold pv
  have kb := (Keep.refl Nob w5).alloc (.cells #[.int .i64 0, .int .i64 0, .int .i64 0, .int .i64 0] 23)
  go_wp2_with (refine wpList_st rfl _ _ rfl _ termP noP rfl rfl rfl rfl (Blk.new w5 23 (ints noP)) ?_; intro w6 hb6 hk6 hs6; clear hs6; have c0 : w6.cell? ⟨w5.heap.size, 0, none⟩ = some (.int .i64 3) := hb6.cell 0)
  go_ret
  exact ⟨rfl, (K5.nobt kb).trans hk6 (fun b hb e => by have h3 : b = w5.heap.size := e; have := K5.size; omega)⟩
end Go.Proofs.Ytdlenjooidnofaa.Fi
