/- What is made of numbers is a process; awake. -/
import Derived.Test.YtabphdfagkjnjaaSltM
import Derived.Test.YtabphdfagkjnjaaSlt5
namespace Go.Proofs.Ytabphdfagkjnjaa
open Go.RowKit
set_option linter.unusedVariables false
set_option linter.unusedSimpArgs false
section
variable (a b m h g : BitVec 64)
theorem bvA : (a &&& m &&& ~~~h) &&& ~~~m = 0#64 := by
  apply BitVec.eq_of_getLsbD_eq
  intro i hi
  simp only [BitVec.getLsbD_and, BitVec.getLsbD_not, BitVec.getLsbD_zero, hi, decide_true, Bool.true_and]
  cases a.getLsbD i <;> cases m.getLsbD i <;> cases h.getLsbD i <;> rfl
theorem bvB : (a &&& m) &&& ~~~m = 0#64 := by
  apply BitVec.eq_of_getLsbD_eq
  intro i hi
  simp only [BitVec.getLsbD_and, BitVec.getLsbD_not, BitVec.getLsbD_zero, hi, decide_true, Bool.true_and]
  cases a.getLsbD i <;> cases m.getLsbD i <;> rfl
theorem bvC : ((a &&& m &&& ~~~h) &&& ~~~g) &&& ~~~m = 0#64 := by
  apply BitVec.eq_of_getLsbD_eq
  intro i hi
  simp only [BitVec.getLsbD_and, BitVec.getLsbD_not, BitVec.getLsbD_zero, hi, decide_true, Bool.true_and]
  cases a.getLsbD i <;> cases m.getLsbD i <;> cases h.getLsbD i <;> cases g.getLsbD i <;> rfl
theorem bvD : (a &&& m &&& ~~~h) &&& h = 0#64 := by
  apply BitVec.eq_of_getLsbD_eq
  intro i hi
  simp only [BitVec.getLsbD_and, BitVec.getLsbD_not, BitVec.getLsbD_zero, hi, decide_true, Bool.true_and]
  cases a.getLsbD i <;> cases m.getLsbD i <;> cases h.getLsbD i <;> rfl
theorem bvE : ((a &&& m &&& ~~~h) &&& ~~~g) &&& h = 0#64 := by
  apply BitVec.eq_of_getLsbD_eq
  intro i hi
  simp only [BitVec.getLsbD_and, BitVec.getLsbD_not, BitVec.getLsbD_zero, hi, decide_true, Bool.true_and]
  cases a.getLsbD i <;> cases m.getLsbD i <;> cases h.getLsbD i <;> cases g.getLsbD i <;> rfl
theorem bvF : g &&& (b &&& ~~~g) = 0#64 := by
  apply BitVec.eq_of_getLsbD_eq
  intro i hi
  simp only [BitVec.getLsbD_and, BitVec.getLsbD_not, BitVec.getLsbD_zero, hi, decide_true, Bool.true_and]
  cases b.getLsbD i <;> cases g.getLsbD i <;> rfl
end
theorem off_bv (y : Int) : off y = (BitVec.ofInt 64 y &&& BitVec.ofInt 64 65534 &&& ~~~ BitVec.ofInt 64 16896).toInt := by
  rw [off, off_i64, and_i64, BitVec.ofInt_toInt]
theorem sig_of {n : Int} (hw : Wf n) (h : bits .andNot .i64 n 65534 = 0) : sig n = true := by rw [← sig_off hw, h]; rfl
theorem sig_offs (y : Int) : sig (off y) = true := by
  refine sig_of (wf_bits64 _ _ _) ?_
  rw [off_i64, off_bv, BitVec.ofInt_toInt, toInt_nought]
  exact bvA _ _ _
theorem sig_mask (y : Int) : sig (bits .and .i64 y 65534) = true := by
  refine sig_of (wf_bits64 _ _ _) ?_
  rw [off_i64, and_i64, BitVec.ofInt_toInt, toInt_nought]
  exact bvB _ _
theorem sig_less (y z : Int) : sig (bits .andNot .i64 (off y) z) = true := by
  refine sig_of (wf_bits64 _ _ _) ?_
  rw [off_i64, off_i64, off_bv, BitVec.ofInt_toInt, BitVec.ofInt_toInt, toInt_nought]
  exact bvC _ _ _ _
theorem ruled_none (x y z u : Int) : bits .and .i64 (ruled (off x) (off y) (bits .andNot .i64 (off z) u)) 16896 = 0 := by
  rw [ruled, and_i64, or_i64, or_i64, off_i64, off_bv, off_bv, off_bv, BitVec.ofInt_toInt, BitVec.ofInt_toInt, BitVec.ofInt_toInt, BitVec.ofInt_toInt, BitVec.ofInt_toInt, BitVec.ofInt_toInt, toInt_nought, bv_or_and, bv_or_and]
  exact ⟨⟨bvD _ _ _, bvD _ _ _⟩, bvE _ _ _ _⟩
theorem both_none (y z : Int) : bits .and .i64 (off y) (bits .andNot .i64 (off z) (off y)) = 0 := by
  rw [and_i64, off_i64, BitVec.ofInt_toInt, toInt_nought]
  exact bvF _ _
theorem made_sets (x y z pe : Int) (hp : sig pe = true) : setsOk pe (off x) (off y) (bits .andNot .i64 (off z) (off y)) = true := by
  unfold setsOk
  rw [hp, sig_offs, sig_offs, sig_less, ruled_none, both_none]; rfl
theorem fd_in (n : Int) (h : 0 ≤ n) : inn (fdOf n) 0 12 = true := by
  unfold fdOf inn
  split
  · decide
  · exact decide_eq_true (by omega)
theorem made_ok (l : List Int) : okd (made l) = true := by
  have x0 := nxt_lo l 0
  generalize hx : nxt l 0 = x at x0
  unfold made
  rw [hx]
  split
  · rename_i hs
    unfold okd
    simp only [List.getD_cons_succ, List.getD_cons_zero, List.drop_succ_cons, List.drop_zero]
    rw [made_sets _ _ _ 0 (by decide)]
    have e2 : inn (x / 4 % 16 % 9) 0 8 = true := decide_eq_true (by omega)
    have e3 : inn (x / 64 % 8) 0 7 = true := decide_eq_true (by omega)
    have e4 : inn (x / 512 % 256) 0 255 = true := decide_eq_true (by omega)
    rw [e2, e3, e4]
    rfl
  · rename_i hs
    unfold okd
    simp only [List.getD_cons_succ, List.getD_cons_zero, List.drop_succ_cons, List.drop_zero]
    rw [made_sets _ _ _ _ (sig_mask _)]
    have e1 : inn (stOf x) 1 3 = true := by unfold stOf; split; rfl; split; rfl; rfl
    have e2 : inn (x / 4 % 16 % 9) 0 8 = true := decide_eq_true (by omega)
    have e3 : inn (x / 64 % 8) 0 7 = true := decide_eq_true (by omega)
    have e5 : (stOf x == 2) = false := by simpa using hs
    have hf : fdsOk (fds8 l) = true := by
      simp only [fdsOk, fds8, List.all_cons, List.all_nil, fd_in _ (nxt_lo _ _), Bool.and_true]
    rw [e1, e2, e3, e5, show [fdOf (nxt l 7), fdOf (nxt l 8), fdOf (nxt l 9), fdOf (nxt l 10), fdOf (nxt l 11), fdOf (nxt l 12), fdOf (nxt l 13), fdOf (nxt l 14)] = fds8 l from rfl, hf]
    rfl
theorem wf_ok {p : List Int} (hl : p.length = 16) (h : okd p = true) : ∀ x ∈ p, Wf x := by
  have B := okd_bounds h
  obtain ⟨a0, a1, a2, a3, a4, a5, a6, a7, f0, f1, f2, f3, f4, f5, f6, f7, rfl⟩ := split16 hl
  have b0 := B.s; have b1 := B.pa; have b2 := B.g; have b3 := B.c; have b4 := B.pe; have b5 := B.m; have b6 := B.i; have b7 := B.ca
  simp only [List.getD_cons_succ, List.getD_cons_zero] at b0 b1 b2 b3 b4 b5 b6 b7
  intro x hx
  have hx2 : x ∈ [a0, a1, a2, a3, a4, a5, a6, a7] ++ [f0, f1, f2, f3, f4, f5, f6, f7] := hx
  rw [List.mem_append] at hx2
  rcases hx2 with h1 | h1
  · simp only [List.mem_cons, List.not_mem_nil, or_false] at h1
    rcases h1 with rfl | rfl | rfl | rfl | rfl | rfl | rfl | rfl <;> exact ⟨by omega, by omega⟩
  · have := B.f x h1
    exact ⟨by omega, by omega⟩
theorem made_wf (l : List Int) : ∀ x ∈ made l, Wf x := wf_ok (made_len l) (made_ok l)
def liveP : List Int := [1, 0, 0, 0, 0, 0, 0, 0, 0, 0, 0, 0, 0, 0, 0, 0]
theorem live_ok : okd liveP = true := by decide
set_option maxHeartbeats 2000000 in
set_option maxRecDepth 100000 in
theorem awake_is (w : World) : Calls Try.prog 11 #[] w fun e w' => e = .returned (.bool true) ∧ Keep Nob w w' := by
  have h1 := encode_is liveP rfl (wf_ok rfl live_ok) w true live_ok
  go_enter Try.func11, Try.ntmps11
  go_wp2_with fail
  refine h1.mono ?_; rintro e w1 ⟨x, rfl, ⟨A, m, rfl, v1, o1⟩, k1⟩
  clear h1
  have r1 : Reads w1 A 24 (bytes (enc liveP)) := v1.reads
  clear v1 o1
  go_wp2_with (refine wpList_mk rfl _ _ 26 rfl 5 (.int .u8 0) 1 Try.underlying26 Try.info5 rfl .i64 .i64 24 _ rfl rfl rfl (by omega) (by omega) ?_; intro w2 hb2 hk2 hs2; clear hs2)
  rw [← bytes_replicate] at hb2
  have r2 := r1.nob hk2
  have K2 := k1.nobt hk2
  refine (decode_is _ 24 24 (List.replicate 24 0) _ (reads_all hb2 rfl) (by decide) noP 0 (by decide)).mono ?_; rintro e w3 ⟨rfl, k3⟩
  have r3 := r2.nob k3
  have K3 := K2.nobt k3
  clear r1 r2 hb2 K2 k1 k3 hk2
  unfold pv
  have ka := (Keep.refl Nob w3).alloc (.cells #[.int .i64 0, .int .i64 0, .int .i64 0, .int .i64 0, .int .i64 0, .int .i64 0, .int .i64 0, .int .i64 0, .int .i64 0, .int .i64 0, .int .i64 0, .int .i64 0, .int .i64 0, .int .i64 0, .int .i64 0, .int .i64 0] 24)
  go_wp2_with (refine wpList_st rfl _ _ rfl _ noP noP rfl rfl rfl rfl (Blk.new w3 24 (ints noP)) ?_; intro w4 hb4 hk4 hs4; clear hs4)
  have r4 : Reads w4 A 24 (bytes (enc liveP)) := (r3.nob ka).keep hk4 (fun ad e e2 => by
    obtain ⟨ad', e1, e3⟩ := r3.2 (by decide)
    rw [e1] at e; cases e
    have h3 := block_lt_of_cell (e3 0 _ (bytes_getD (by decide)))
    rw [block_of_add] at h3
    have h4 : ad.block = w3.heap.size := e2
    omega)
  have K4 : Keep Nob w w4 := (K3.nobt ka).trans hk4 (fun b hb e => by have h3 : b = w3.heap.size := e; have := K3.size; omega)
  refine (decode_is _ 24 m (enc liveP) _ r4 (by decide) liveP 1 (dcd_enc rfl live_ok)).mono ?_; rintro e w5 ⟨rfl, k5⟩
  have K5 := K4.nobt k5
  unfold pv
  have kb := (Keep.refl Nob w5).alloc (.cells #[.int .i64 0, .int .i64 0, .int .i64 0, .int .i64 0, .int .i64 0, .int .i64 0, .int .i64 0, .int .i64 0, .int .i64 0, .int .i64 0, .int .i64 0, .int .i64 0, .int .i64 0, .int .i64 0, .int .i64 0, .int .i64 0] 24)
  go_wp2_with (refine wpList_st rfl _ _ rfl _ liveP noP rfl rfl rfl rfl (Blk.new w5 24 (ints noP)) ?_; intro w6 hb6 hk6 hs6; clear hs6; have c0 : w6.cell? ⟨w5.heap.size, 0, none⟩ = some (.int .i64 1) := hb6.cell 0)
  go_ret
  exact ⟨rfl, (K5.nobt kb).trans hk6 (fun b hb e => by have h3 : b = w5.heap.size := e; have := K5.size; omega)⟩
end Go.Proofs.Ytabphdfagkjnjaa
