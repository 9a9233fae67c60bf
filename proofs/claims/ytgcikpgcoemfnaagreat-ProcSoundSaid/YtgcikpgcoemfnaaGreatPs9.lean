import Derived.Deep.DeepCutAuto
import Derived.Test.YtgcikpgcoemfnaaGreatPs8
set_option maxRecDepth 100000
set_option maxHeartbeats 8000000
set_option linter.unusedVariables false
set_option linter.unusedSimpArgs false
namespace Go.Proofs.YtgcikpgcoemfnaaGreat.Cd
open Go.RowKit
theorem aV (n lo hi : Int) (w : World) (v : Bool) (hv : inn n lo hi = v) : Calls Tryz.prog 329 #[.int .i64 n, .int .i64 lo, .int .i64 hi] w fun e w' => e = .returned (.bool v) ∧ w = w' := by
 subst hv
 by_cases h0 : lo ≤ n
 ·go_enter Tryz.func329, Tryz.ntmps329
  go_wp2
  go_ret
  exact ⟨by simp [inn, h0], rfl⟩
 ·go_enter Tryz.func329, Tryz.ntmps329
  go_wp2
  go_ret
  exact ⟨by simp [inn, h0]; try omega, rfl⟩
theorem jQ {p : List Int} (h : ∀ x ∈ p, Wf x) (k : Nat) : Wf (p.getD k 0) := by
 rw [List.getD_eq_getElem?_getD]
 rcases Nat.lt_or_ge k p.length with h1 | h1
 ·rw [List.getElem?_eq_getElem h1]; exact h _ (List.getElem_mem h1)
 ·rw [List.getElem?_eq_none h1]; exact ⟨by decide, by decide⟩
theorem sets_is (p : List Int) (hl : p.length = 16) (hw : ∀ x ∈ p, Wf x) (w : World) (v : Bool) (hv : eK (p.getD 4 0) (p.getD 5 0) (p.getD 6 0) (p.getD 7 0) = v) :
  Calls Tryz.prog 330 #[pv p] w fun e w' => e = .returned (.bool v) ∧ Keep Nob w w' := by
 rw [← setsOk_is (jQ hw 4) (jQ hw 5) (jQ hw 6) (jQ hw 7)] at hv
 clear hw
 obtain ⟨a0, a1, a2, a3, a4, a5, a6, a7, f0, f1, f2, f3, f4, f5, f6, f7, rfl⟩ := aD hl
 simp only [List.getD_cons_succ, List.getD_cons_zero, ruled] at hv
 simp only [pv, ab, List.map_cons, List.map_nil]
 by_cases h1 : bits .andNot .i64 (bits .or .i64 a4 (bits .or .i64 (bits .or .i64 a5 a6) a7)) 65534 = 0
 ·rw [h1, beq_self_eq_true, Bool.true_and] at hv
  by_cases h2 : bits .and .i64 (bits .or .i64 (bits .or .i64 a5 a6) a7) 16896 = 0
  ·rw [h2, beq_self_eq_true, Bool.true_and] at hv
   go_enter Tryz.func330, Tryz.ntmps330
   go_wp2
   go_ret
   exact ⟨by subst hv; rfl, (Keep.refl Nob w).alloc _⟩
  ·have e2 : (bits .and .i64 (bits .or .i64 (bits .or .i64 a5 a6) a7) 16896 == 0) = false := by simpa using h2
   rw [e2, Bool.false_and] at hv
   subst hv
   go_enter Tryz.func330, Tryz.ntmps330
   go_wp2
   go_ret
   exact ⟨rfl, (Keep.refl Nob w).alloc _⟩
 ·have e1 : (bits .andNot .i64 (bits .or .i64 a4 (bits .or .i64 (bits .or .i64 a5 a6) a7)) 65534 == 0) = false := by simpa using h1
  rw [e1, Bool.false_and, Bool.false_and] at hv
  subst hv
  go_enter Tryz.func330, Tryz.ntmps330
  go_wp2
  go_ret
  exact ⟨rfl, (Keep.refl Nob w).alloc _⟩
theorem suits_is (p : List Int) (hl : p.length = 16) (w : World) (v : Bool) (hv : (if p.getD 0 0 == 2 then fm (p.drop 8) && p.getD 4 0 == 0 else p.getD 3 0 == 0) = v) :
  Calls Tryz.prog 332 #[pv p] w fun e w' => e = .returned (.bool v) ∧ Keep Nob w w' := by
 have he := eq_fds (p.drop 8) (by simp [hl])
 obtain ⟨a0, a1, a2, a3, a4, a5, a6, a7, f0, f1, f2, f3, f4, f5, f6, f7, rfl⟩ := aD hl
 simp only [List.getD_cons_succ, List.getD_cons_zero, List.drop_succ_cons, List.drop_zero] at hv he
 generalize fm _ = d at *
 simp only [pv, ab, List.map_cons, List.map_nil] at he ⊢
 by_cases h1 : a0 = 2
 ·subst h1
  rw [beq_self_eq_true, if_pos rfl] at hv
  cases d with
  | true =>
   rw [Bool.true_and] at hv
   go_enter Tryz.func332, Tryz.ntmps332
   go_wp2
   go_ret
   exact ⟨by subst hv; rfl, (Keep.refl Nob w).alloc _⟩
  | false =>
   rw [Bool.false_and] at hv
   subst hv
   go_enter Tryz.func332, Tryz.ntmps332
   go_wp2
   go_ret
   exact ⟨rfl, (Keep.refl Nob w).alloc _⟩
 ·have e1 : (a0 == 2) = false := by simpa using h1
  rw [e1, if_neg (by simp)] at hv
  clear he
  go_enter Tryz.func332, Tryz.ntmps332
  go_wp2
  go_ret
  exact ⟨by subst hv; rfl, (Keep.refl Nob w).alloc _⟩
theorem jt (f : List Int) (hf : f.length = 8) (k : Nat) (hk : k < 8) (W : World) : (Instr.index 35 (.agg (ab f).toArray) (.int .i64 (k : Int))).run Tryz.prog W = .ok (.int .i64 (f.getD k 0)) W := by
 have hg := Tryz.isAgg3
 have hs := Tryz.sizeOf3
 have h0 : (0 : Int) ≤ (k : Int) := by omega
 have h8 : ((k : Nat) : Int) < ((8 : Nat) : Int) := by omega
 have hc : ((ab f).toArray)[k]? = some (.int .i64 (f.getD k 0)) := by
  rw [List.getElem?_toArray, bg, List.getD_eq_getElem?_getD, List.getElem?_eq_getElem (by omega)]; rfl
 generalize (ab f).toArray = A at *
 simp [Instr.index, asIntOf, run_underlying Tryz.underlying35, Go.part, hg, hs, h8, hc, Sem.run_bind, Result.andThen]
 intro h; omega
theorem fds_take {f : List Int} {k : Nat} (h : k < f.length) : fA (f.take (k + 1)) = (fA (f.take k) && inn (f.getD k 0) 0 12) := by
 unfold fA
 rw [List.take_succ_eq_append_getElem h, List.all_append, List.getD_eq_getElem?_getD, List.getElem?_eq_getElem h]
 simp
theorem fds_off {f : List Int} {k : Nat} (h : k < f.length) (hu : inn (f.getD k 0) 0 12 = false) : fA f = false := by
 unfold fA
 rw [List.all_eq_false]
 refine ⟨f[k], List.getElem_mem h, ?_⟩
 rw [List.getD_eq_getElem?_getD, List.getElem?_eq_getElem h] at hu
 simpa using hu
theorem fds_is (p : List Int) (hl : p.length = 16) (w : World) (v : Bool) (hv : fA (p.drop 8) = v) :
  Calls Tryz.prog 331 #[pv p] w fun e w' => e = .returned (.bool v) ∧ Keep Nob w w' := by
 obtain ⟨a0, a1, a2, a3, a4, a5, a6, a7, f0, f1, f2, f3, f4, f5, f6, f7, rfl⟩ := aD hl
 simp only [List.drop_succ_cons, List.drop_zero] at hv
 have HV := aa hv
 clear hv hl
 have kb := (Keep.refl Nob w).alloc (.cells #[.int .i64 a0, .int .i64 a1, .int .i64 a2, .int .i64 a3, .int .i64 a4, .int .i64 a5, .int .i64 a6, .int .i64 a7, .int .i64 f0, .int .i64 f1, .int .i64 f2, .int .i64 f3, .int .i64 f4, .int .i64 f5, .int .i64 f6, .int .i64 f7] 37)
 simp only [pv, ab, List.map_cons, List.map_nil]
 go_enter Tryz.func331, Tryz.ntmps331
 go_wp2_with fail
 go_loop [7] (fun s7 => ∃ (k : Nat), k ≤ 8 ∧ s7 = .int .i64 k ∧ fA (([f0, f1, f2, f3, f4, f5, f6, f7] : List Int).take k) = true) (fun s7 => 8 - (intOf s7).toNat)
 case atStart => exact ⟨0, Nat.zero_le _, rfl, rfl⟩
 case round =>
  obtain ⟨k, hk, rfl, hx⟩ := hrel
  have HX2 := aa hx
  clear hx
  by_cases hlt : k < 8
  ·have hkl : k < (([f0, f1, f2, f3, f4, f5, f6, f7] : List Int) : List Int).length := hlt
   have hix := jt [f0, f1, f2, f3, f4, f5, f6, f7] rfl k hlt
   simp only [ab, List.map_cons, List.map_nil] at hix
   cases hb : inn (([f0, f1, f2, f3, f4, f5, f6, f7] : List Int).getD k 0) 0 12 with
   | true =>
    have hs := aa (fds_take hkl)
    have hb := aa hb
    generalize ([f0, f1, f2, f3, f4, f5, f6, f7] : List Int).getD k 0 = u at *
    go_wp2_with fail
    refine (aV _ _ _ _ _ hb.out).mono ?_; rintro e w1 ⟨rfl, rfl⟩
    go_wp2_with fail
    go_round
    case rel => exact ⟨k + 1, by omega, by go_num, by rw [hs.out, HX2.out, hb.out]; rfl⟩
    case measure => simp [intOf]; omega
   | false =>
    have hs := aa (fds_off hkl hb)
    have hb := aa hb
    generalize ([f0, f1, f2, f3, f4, f5, f6, f7] : List Int).getD k 0 = u at *
    go_wp2_with fail
    refine (aV _ _ _ _ _ hb.out).mono ?_; rintro e w1 ⟨rfl, rfl⟩
    go_wp2_with fail
    go_ret
    obtain rfl : v = false := by rw [← HV.out, hs.out]
    exact ⟨rfl, kb⟩
  ·obtain rfl : k = 8 := by omega
   obtain rfl : v = true := by rw [← HV.out, ← HX2.out]; rfl
   go_wp2
   go_ret
   exact ⟨rfl, kb⟩
end Go.Proofs.YtgcikpgcoemfnaaGreat.Cd
namespace Go.Proofs.YtgcikpgcoemfnaaGreat.Cd
open Go.RowKit
theorem fj {w : World} {g : Nat} {t : TypeId} {a0 a1 a2 a3 a4 a5 a6 a7 f0 f1 f2 f3 f4 f5 f6 f7 : Int} (hb : Blk w g t (ab [a0, a1, a2, a3, a4, a5, a6, a7, f0, f1, f2, f3, f4, f5, f6, f7])) :
  w.cell? ⟨g, 0, none⟩ = some (.int .i64 a0) ∧ w.cell? ⟨g, 1, none⟩ = some (.int .i64 a1) ∧ w.cell? ⟨g, 2, none⟩ = some (.int .i64 a2) ∧ w.cell? ⟨g, 3, none⟩ = some (.int .i64 a3) ∧ w.cell? ⟨g, 4, none⟩ = some (.int .i64 a4) ∧ w.cell? ⟨g, 5, none⟩ = some (.int .i64 a5) ∧ w.cell? ⟨g, 6, none⟩ = some (.int .i64 a6) ∧ w.cell? ⟨g, 7, none⟩ = some (.int .i64 a7) ∧ w.cell? ⟨g, 8, none⟩ = some (.int .i64 f0) ∧ w.cell? ⟨g, 9, none⟩ = some (.int .i64 f1) ∧ w.cell? ⟨g, 10, none⟩ = some (.int .i64 f2) ∧ w.cell? ⟨g, 11, none⟩ = some (.int .i64 f3) ∧ w.cell? ⟨g, 12, none⟩ = some (.int .i64 f4) ∧ w.cell? ⟨g, 13, none⟩ = some (.int .i64 f5) ∧ w.cell? ⟨g, 14, none⟩ = some (.int .i64 f6) ∧ w.cell? ⟨g, 15, none⟩ = some (.int .i64 f7) := by
 refine ⟨?_, ?_, ?_, ?_, ?_, ?_, ?_, ?_, ?_, ?_, ?_, ?_, ?_, ?_, ?_, ?_⟩ <;> rw [hb.cell] <;> rfl
theorem ok_is (p : List Int) (hl : p.length = 16) (hw : ∀ x ∈ p, Wf x) (w : World) (v : Bool) (hv : okd p = v) :
  Calls Tryz.prog 288 #[pv p] w fun e w' => e = .returned (.bool v) ∧ Keep Nob w w' := by
 have q5 := fun w b h => sets_is p hl hw w b h
 have q6 := fun w b h => fds_is p hl w b h
 have q7 := fun w b h => suits_is p hl w b h
 unfold okd at hv
 have ha : ∀ (w1 : World) g, Blk w1 g 37 (ab p) → _ := fun w1 g h => h
 obtain ⟨a0, a1, a2, a3, a4, a5, a6, a7, f0, f1, f2, f3, f4, f5, f6, f7, rfl⟩ := aD hl
 simp only [List.getD_cons_succ, List.getD_cons_zero, List.drop_succ_cons, List.drop_zero] at hv q5 q6 q7
 clear hl hw ha
 generalize hb1 : inn a0 1 3 = b1 at hv
 generalize hb2 : inn a1 0 8 = b2 at hv
 generalize hb3 : inn a2 0 7 = b3 at hv
 generalize hb4 : inn a3 0 255 = b4 at hv
 generalize hb5 : eK a4 a5 a6 a7 = b5 at hv
 generalize hb6 : fA [f0, f1, f2, f3, f4, f5, f6, f7] = b6 at hv
 generalize hb7 : (if a0 == 2 then fm [f0, f1, f2, f3, f4, f5, f6, f7] && a4 == 0 else a3 == 0) = b7 at hv
 have HB1 := aa hb1
 have HB2 := aa hb2
 have HB3 := aa hb3
 have HB4 := aa hb4
 have Q5 := aa (fun w => q5 w b5 hb5)
 have Q6 := aa (fun w => q6 w b6 hb6)
 have Q7 := aa (fun w => q7 w b7 hb7)
 have HV := aa hv
 clear hb1 hb2 hb3 hb4 hb5 hb6 hb7 hv q5 q6 q7
 simp only [pv, ab, List.map_cons, List.map_nil]
 go_enter Tryz.func288, Tryz.ntmps288
 go_wp2_with (refine af rfl 37 _ rfl _ rfl ?_; intro w1 hb hk hs; clear hs; obtain ⟨c0, c1, c2, c3, c4, c5, c6, c7, c8, c9, c10, c11, c12, c13, c14, c15⟩ := fj hb)
 refine (aV _ _ _ _ b1 HB1.out).mono ?_; rintro e w2 ⟨rfl, rfl⟩
 cases b1 with
 | false =>
  go_wp2
  go_ret
  obtain rfl : v = false := by have := HV.out; simpa using this.symm
  exact ⟨rfl, hk⟩
 | true =>
 go_wp2_with fail
 refine (aV _ _ _ _ b2 HB2.out).mono ?_; rintro e w2 ⟨rfl, rfl⟩
 cases b2 with
 | false =>
  go_wp2
  go_ret
  obtain rfl : v = false := by have := HV.out; simpa using this.symm
  exact ⟨rfl, hk⟩
 | true =>
 go_wp2_with fail
 refine (aV _ _ _ _ b3 HB3.out).mono ?_; rintro e w2 ⟨rfl, rfl⟩
 cases b3 with
 | false =>
  go_wp2
  go_ret
  obtain rfl : v = false := by have := HV.out; simpa using this.symm
  exact ⟨rfl, hk⟩
 | true =>
 go_wp2_with fail
 refine (aV _ _ _ _ b4 HB4.out).mono ?_; rintro e w2 ⟨rfl, rfl⟩
 cases b4 with
 | false =>
  go_wp2
  go_ret
  obtain rfl : v = false := by have := HV.out; simpa using this.symm
  exact ⟨rfl, hk⟩
 | true =>
 go_wp2_with fail
 refine (Q5.out _).mono ?_; rintro e w5 ⟨rfl, k5⟩
 replace hk := hk.nobt k5
 replace hb := hb.nob k5
 clear c0 c1 c2 c3 c4 c5 c6 c7 c8 c9 c10 c11 c12 c13 c14 c15 k5
 obtain ⟨c0, c1, c2, c3, c4, c5, c6, c7, c8, c9, c10, c11, c12, c13, c14, c15⟩ := fj hb
 cases b5 with
 | false =>
  go_wp2
  go_ret
  obtain rfl : v = false := by have := HV.out; simpa using this.symm
  exact ⟨rfl, hk⟩
 | true =>
 go_wp2_with fail
 refine (Q6.out _).mono ?_; rintro e w6 ⟨rfl, k6⟩
 replace hk := hk.nobt k6
 replace hb := hb.nob k6
 clear c0 c1 c2 c3 c4 c5 c6 c7 c8 c9 c10 c11 c12 c13 c14 c15 k6
 obtain ⟨c0, c1, c2, c3, c4, c5, c6, c7, c8, c9, c10, c11, c12, c13, c14, c15⟩ := fj hb
 cases b6 with
 | false =>
  go_wp2
  go_ret
  obtain rfl : v = false := by have := HV.out; simpa using this.symm
  exact ⟨rfl, hk⟩
 | true =>
 go_wp2_with fail
 refine (Q7.out _).mono ?_; rintro e w7 ⟨rfl, k7⟩
 replace hk := hk.nobt k7
 replace hb := hb.nob k7
 clear c0 c1 c2 c3 c4 c5 c6 c7 c8 c9 c10 c11 c12 c13 c14 c15 k7
 obtain ⟨c0, c1, c2, c3, c4, c5, c6, c7, c8, c9, c10, c11, c12, c13, c14, c15⟩ := fj hb
 obtain rfl : b7 = v := by have := HV.out; simpa using this
 go_wp2
 go_ret
 exact ⟨rfl, hk⟩
end Go.Proofs.YtgcikpgcoemfnaaGreat.Cd
namespace Go.Proofs.YtgcikpgcoemfnaaGreat.Cd
open Go.RowKit
def prt (p : List Int) (j : Nat) : List UInt8 := (enc p).take j ++ List.replicate (24 - j) 0
theorem jp {l : List Int} {k : Nat} (h : k < l.length) : (ab l)[k]? = some (.int .i64 (l.getD k 0)) := by
 rw [bg, List.getD_eq_getElem?_getD, List.getElem?_eq_getElem h]; rfl
theorem iW {p : List Int} (hp : p.length = 16) {j : Nat} (hj : j ≤ 24) : (prt p j).length = 24 := by
 simp [prt, aJ hp]; omega
theorem eH (n : Int) : IntKind.u8.wrap n = ((byt n).toNat : Int) := by
 rw [byt, cj, IntKind.wrap_u8']
theorem vec_blk {w : World} {g : Nat} {l : List UInt8} (h : Vec w 5 1 (some ⟨g, 0, none⟩) 24 24 (bytes l)) : Blk w g 5 (bytes l) := by
 obtain ⟨g', cur, h1, h2, _, h3, h4⟩ := h.at_ (by decide)
 cases h1
 rw [List.take_of_length_le (by rw [h3]; exact Nat.le_refl _)] at h4
 rw [← h4]; exact h2
theorem aM (l : List UInt8) (k : Nat) (n v : Int) (hv : IntKind.u8.wrap n = v) : (bytes l).set k (.int .u8 v) = bytes (l.set k (byt n)) :=
 cm l k (byt n) v (by rw [← hv, eH])
theorem prt_4 {p : List Int} (hp : p.length = 16) : ((((List.replicate 24 (0 : UInt8)).set 0 (byt (p.getD 0 0))).set 1 (byt (p.getD 1 0))).set 2 (byt (p.getD 2 0))).set 3 (byt (p.getD 3 0)) = prt p 4 := by
 obtain ⟨a0, a1, a2, a3, a4, a5, a6, a7, f0, f1, f2, f3, f4, f5, f6, f7, rfl⟩ := aD hp
 rfl
theorem prt_two {p : List Int} (hp : p.length = 16) {k : Nat} (hk : k < 4) : splice (prt p (4 + 2 * k)) (4 + 2 * k) (two (p.getD (4 + k) 0)) = prt p (4 + 2 * (k + 1)) := by
 obtain ⟨a0, a1, a2, a3, a4, a5, a6, a7, f0, f1, f2, f3, f4, f5, f6, f7, rfl⟩ := aD hp
 rcases (show k = 0 ∨ k = 1 ∨ k = 2 ∨ k = 3 from by omega) with rfl | rfl | rfl | rfl <;> rfl
theorem prt_one {p : List Int} (hp : p.length = 16) {k : Nat} (hk : k < 8) : (prt p (12 + k)).set (12 + k) (byt (p.getD (8 + k) 0)) = prt p (12 + (k + 1)) := by
 obtain ⟨a0, a1, a2, a3, a4, a5, a6, a7, f0, f1, f2, f3, f4, f5, f6, f7, rfl⟩ := aD hp
 rcases (show k = 0 ∨ k = 1 ∨ k = 2 ∨ k = 3 ∨ k = 4 ∨ k = 5 ∨ k = 6 ∨ k = 7 from by omega) with rfl | rfl | rfl | rfl | rfl | rfl | rfl | rfl <;> rfl
theorem gm {p : List Int} (hp : p.length = 16) : (prt p 20).set 20 167 = prt p 21 := by
 obtain ⟨a0, a1, a2, a3, a4, a5, a6, a7, f0, f1, f2, f3, f4, f5, f6, f7, rfl⟩ := aD hp
 rfl
theorem iU {p : List Int} (hp : p.length = 16) : (prt p 21).set 21 (bK (pre p)) = enc p := by
 obtain ⟨a0, a1, a2, a3, a4, a5, a6, a7, f0, f1, f2, f3, f4, f5, f6, f7, rfl⟩ := aD hp
 rfl
theorem jd {p : List Int} (hp : p.length = 16) : (prt p 21).take 21 = pre p := by
 obtain ⟨a0, a1, a2, a3, a4, a5, a6, a7, f0, f1, f2, f3, f4, f5, f6, f7, rfl⟩ := aD hp
 rfl
theorem fZ (p : List Int) (hl : p.length = 16) (hw : ∀ x ∈ p, Wf x) (g : Nat) (w : World) (hz : Blk w g 5 (bytes (List.replicate 24 0))) (v : Bool) (hv : okd p = v) :
  Calls Tryz.prog 203 #[pv p, .slice (some ⟨g, 0, none⟩) 24 24] w fun e w' => e = .returned (.bool v) ∧ Blk w' g 5 (bytes (if v then enc p else List.replicate 24 0)) ∧ Keep (· = g) w w' := by
 have q1 := ok_is p hl hw
 have B : v = true → ft p := fun e => aH (by rw [hv, e])
 have z4 := prt_4 hl
 have HB := aa B
 have HL := aa hl
 obtain ⟨a0, a1, a2, a3, a4, a5, a6, a7, f0, f1, f2, f3, f4, f5, f6, f7, rfl⟩ := aD hl
 simp only [List.getD_cons_succ, List.getD_cons_zero] at z4
 have Q1 := aa (fun w => q1 w v hv)
 have Z4 := aa z4
 clear q1 hv z4 B hw hl
 generalize hP : ([a0, a1, a2, a3, a4, a5, a6, a7, f0, f1, f2, f3, f4, f5, f6, f7] : List Int) = Pp at *
 have hpv : pv Pp = .agg #[.int .i64 a0, .int .i64 a1, .int .i64 a2, .int .i64 a3, .int .i64 a4, .int .i64 a5, .int .i64 a6, .int .i64 a7, .int .i64 f0, .int .i64 f1, .int .i64 f2, .int .i64 f3, .int .i64 f4, .int .i64 f5, .int .i64 f6, .int .i64 f7] := by rw [← hP]; rfl
 rw [hpv]
 go_enter Tryz.func203, Tryz.ntmps203
 go_wp2_with (refine af rfl 37 _ rfl _ rfl ?_; intro w1 hb hk hs; clear hs; rw [show (Value.agg #[.int .i64 a0, .int .i64 a1, .int .i64 a2, .int .i64 a3, .int .i64 a4, .int .i64 a5, .int .i64 a6, .int .i64 a7, .int .i64 f0, .int .i64 f1, .int .i64 f2, .int .i64 f3, .int .i64 f4, .int .i64 f5, .int .i64 f6, .int .i64 f7]).cells.toList = ab Pp from by rw [← hP]; rfl] at hb; have hb' := hb; rw [← hP] at hb'; obtain ⟨c0, c1, c2, c3, c4, c5, c6, c7, c8, c9, c10, c11, c12, c13, c14, c15⟩ := fj hb'; clear hb')
 have hne : w.heap.size ≠ g := by have := hz.lt; omega
 have hz1 := hz.nob hk
 rw [← hpv]
 refine (Q1.out _).mono ?_; rintro e w2 ⟨rfl, k2⟩
 have hb2 := hb.nob k2
 have hz2 := hz1.nob k2
 have hk2 := hk.nobt k2
 clear c0 c1 c2 c3 c4 c5 c6 c7 c8 c9 c10 c11 c12 c13 c14 c15 hb hz1 hk k2 hz
 cases v with
 | false =>
  go_wp2
  go_ret
  exact ⟨rfl, hz2, hk2.mono (fun _ _ f => f.elim)⟩
 | true =>
 have BB := aa (HB.out rfl)
 clear HB Q1
 have hb' := hb2; rw [← hP] at hb'; obtain ⟨c0, c1, c2, c3, c4, c5, c6, c7, c8, c9, c10, c11, c12, c13, c14, c15⟩ := fj hb'; clear hb'
 obtain ⟨y0, hy0⟩ : ∃ y, IntKind.u8.wrap a0 = y := ⟨_, rfl⟩
 obtain ⟨y1, hy1⟩ : ∃ y, IntKind.u8.wrap a1 = y := ⟨_, rfl⟩
 obtain ⟨y2, hy2⟩ : ∃ y, IntKind.u8.wrap a2 = y := ⟨_, rfl⟩
 obtain ⟨y3, hy3⟩ : ∃ y, IntKind.u8.wrap a3 = y := ⟨_, rfl⟩
 have fr0 := hz2.frozen 0
 have fr1 := hz2.frozen 1
 have fr2 := hz2.frozen 2
 have fr3 := hz2.frozen 3
 have q0 := hz2.cell 0
 have q1 := hz2.cell 1
 have q2 := hz2.cell 2
 have q3 := hz2.cell 3
 simp only [ao, List.getElem?_replicate] at q0 q1 q2 q3
 have HP := aa hP
 clear hP
 go_wp2_with fail
 go_region
 have hz3 : Blk (((((w2.setCell ⟨g, 0, none⟩ (.int .u8 y0)).setCell ⟨g, 1, none⟩ (.int .u8 y1)).setCell ⟨g, 2, none⟩ (.int .u8 y2)).setCell ⟨g, 3, none⟩ (.int .u8 y3)).drew) g 5 (bytes (prt Pp 4)) := by
  have := ((((hz2.setCell 0 (.int .u8 y0)).setCell 1 (.int .u8 y1)).setCell 2 (.int .u8 y2)).setCell 3 (.int .u8 y3)).drew
  rw [aM _ 0 a0 y0 hy0, aM _ 1 a1 y1 hy1, aM _ 2 a2 y2 hy2, aM _ 3 a3 y3 hy3, Z4.out] at this
  exact this
 have hb3 : Blk (((((w2.setCell ⟨g, 0, none⟩ (.int .u8 y0)).setCell ⟨g, 1, none⟩ (.int .u8 y1)).setCell ⟨g, 2, none⟩ (.int .u8 y2)).setCell ⟨g, 3, none⟩ (.int .u8 y3)).drew) w.heap.size 37 (ab Pp) := ((((hb2.far (p := ⟨g, 0, none⟩) hne _).far (p := ⟨g, 1, none⟩) hne _).far (p := ⟨g, 2, none⟩) hne _).far (p := ⟨g, 3, none⟩) hne _).drew
 have hk3 : Keep (· = g) w (((((w2.setCell ⟨g, 0, none⟩ (.int .u8 y0)).setCell ⟨g, 1, none⟩ (.int .u8 y1)).setCell ⟨g, 2, none⟩ (.int .u8 y2)).setCell ⟨g, 3, none⟩ (.int .u8 y3)).drew) := ((((hk2.mono (M' := (· = g)) (fun _ _ f => f.elim)).setCell ⟨g, 0, none⟩ _ (fun _ => rfl)).setCell ⟨g, 1, none⟩ _ (fun _ => rfl)).setCell ⟨g, 2, none⟩ _ (fun _ => rfl)).setCell ⟨g, 3, none⟩ _ (fun _ => rfl) |>.drew
 clear c0 c1 c2 c3 c4 c5 c6 c7 c8 c9 c10 c11 c12 c13 c14 c15 hy0 hy1 hy2 hy3 fr0 fr1 fr2 fr3 q0 q1 q2 q3 hz2 hb2 hk2 Z4
 generalize (((((w2.setCell ⟨g, 0, none⟩ (.int .u8 y0)).setCell ⟨g, 1, none⟩ (.int .u8 y1)).setCell ⟨g, 2, none⟩ (.int .u8 y2)).setCell ⟨g, 3, none⟩ (.int .u8 y3)).drew) = w3 at *
 have e0 := hb3.cell 4
 have e1 := hb3.cell 5
 have e2 := hb3.cell 6
 have e3 := hb3.cell 7
 have hX : ∀ k, k < 4 → ([a4, a5, a6, a7] : List Int).getD k 0 = Pp.getD (4 + k) 0 := fun k hk => by
  rw [← HP.out]
  rcases (show k = 0 ∨ k = 1 ∨ k = 2 ∨ k = 3 from by omega) with rfl | rfl | rfl | rfl <;> rfl
 have HX := aa hX
 have hY : ∀ k, k < 8 → ([f0, f1, f2, f3, f4, f5, f6, f7] : List Int).getD k 0 = Pp.getD (8 + k) 0 := fun k hk => by
  rw [← HP.out]
  rcases (show k = 0 ∨ k = 1 ∨ k = 2 ∨ k = 3 ∨ k = 4 ∨ k = 5 ∨ k = 6 ∨ k = 7 from by omega) with rfl | rfl | rfl | rfl | rfl | rfl | rfl | rfl <;> rfl
 have HY := aa hY
 have hV : ∀ k, k < 4 → 0 ≤ Pp.getD (4 + k) 0 ∧ Pp.getD (4 + k) 0 ≤ 65535 := fun k hk => by
  rcases (show k = 0 ∨ k = 1 ∨ k = 2 ∨ k = 3 from by omega) with rfl | rfl | rfl | rfl
  ·exact BB.out.pe
  ·exact BB.out.m
  ·exact BB.out.i
  ·exact BB.out.ca
 have HVV := aa hV
 clear hX hY hV
 have hlt3 := hz3.lt
 have hlp3 := hb3.lt
 have hs3 : Blk (w3.alloc (.cells #[.int .i64 a4, .int .i64 a5, .int .i64 a6, .int .i64 a7] 3)) w3.heap.size 3 (ab [a4, a5, a6, a7]) := Blk.new w3 _ _
 have hz4 := hz3.alloc (.cells #[.int .i64 a4, .int .i64 a5, .int .i64 a6, .int .i64 a7] 3)
 have hb4 := hb3.alloc (.cells #[.int .i64 a4, .int .i64 a5, .int .i64 a6, .int .i64 a7] 3)
 have hk4 := hk3.alloc (.cells #[.int .i64 a4, .int .i64 a5, .int .i64 a6, .int .i64 a7] 3)
 rw [← HP.out] at e0 e1 e2 e3
 simp only [ab, List.map_cons, List.map_nil, List.getElem?_cons_succ, List.getElem?_cons_zero] at e0 e1 e2 e3
 go_wp2_with fail
 clear e0 e1 e2 e3
 go_loopw [42] (fun s42 wx => ∃ k : Nat, k ≤ 4 ∧ s42 = .int .i64 k ∧ Blk wx g 5 (bytes (prt Pp (4 + 2 * k))) ∧ Blk wx w.heap.size 37 (ab Pp) ∧ Blk wx w3.heap.size 3 (ab [a4, a5, a6, a7]) ∧ Keep (· = g) w wx) (fun s42 _ => 4 - (intOf s42).toNat)
 case atStart => exact ⟨0, Nat.zero_le _, rfl, hz4, hb4, hs3, hk4⟩
 case round =>
  obtain ⟨k, hk, rfl, hz5, hb5, hs5, hk5⟩ := hrel
  clear hz4 hb4 hs3 hk4 hz3 hb3 hk3
  by_cases hlt : k < 4
  ·have c4 := hs5.cell k
   rw [jp (show k < ([a4, a5, a6, a7] : List Int).length from hlt), HX.out k hlt] at c4
   have hvv := HVV.out k hlt
   have hpt := aa (prt_two HL.out hlt)
   generalize Pp.getD (4 + k) 0 = u at *
   go_wp2_with fail
   refine (put_is (some ⟨g, 0, none⟩) 24 24 _ u (prt Pp (4 + 2 * k)) (prt Pp (4 + 2 * (k + 1))) _ (Vec.of_blk hz5 (by rw [am, iW HL.out (by omega)]) (by decide)) (by decide) true (decide_eq_true ⟨by omega, by omega, hvv.1, hvv.2⟩) (by rw [if_pos rfl, ← hpt.out]; congr 1 <;> omega)).mono ?_; rintro e wy ⟨rfl, vy, ky⟩
   have ky' : Keep (· = g) _ wy := ky.mono (M' := (· = g)) (fun b _ ⟨a, h1, h2⟩ => by cases h1; exact h2.symm)
   have hz6 := vec_blk vy
   have hb6 := hb5.keep ky' hne
   have hs6 := hs5.keep ky' (show ¬ w3.heap.size = g from by omega)
   have hk6 := hk5.trans ky' (fun _ _ e => e)
   clear vy ky ky' hz5 hb5 hs5 hk5 c4
   go_wp2_with fail
   go_round
   case rel => exact ⟨k + 1, by omega, by go_num, hz6, hb6, hs6, hk6⟩
   case measure => simp [intOf]; omega
  ·obtain rfl : k = 4 := by omega
   clear hlt hk hs5 HX HVV
   have hb' := hb5; rw [← HP.out] at hb'; obtain ⟨c0, c1, c2, c3, c4, c5, c6, c7, c8, c9, c10, c11, c12, c13, c14, c15⟩ := fj hb'; clear hb'
   go_wp2_with fail
   clear c0 c1 c2 c3 c4 c5 c6 c7 c8 c9 c10 c11 c12 c13 c14 c15
   go_loopw [56] (fun s56 wx => ∃ k : Nat, k ≤ 8 ∧ s56 = .int .i64 k ∧ Blk wx g 5 (bytes (prt Pp (12 + k))) ∧ Keep (· = g) w wx) (fun s56 _ => 8 - (intOf s56).toNat)
   case atStart => exact ⟨0, Nat.zero_le _, rfl, hz5, hk5⟩
   case round =>
    obtain ⟨k, hk, rfl, hz6, hk6⟩ := hrel
    clear hz5 hb5 hk5
    by_cases hlt : k < 8
    ·have hix := jt [f0, f1, f2, f3, f4, f5, f6, f7] rfl k hlt
     rw [HY.out k hlt] at hix
     simp only [ab, List.map_cons, List.map_nil] at hix
     have hpo := aa (prt_one HL.out hlt)
     generalize Pp.getD (8 + k) 0 = u at *
     obtain ⟨y, hy⟩ : ∃ y, IntKind.u8.wrap u = y := ⟨_, rfl⟩
     have fr := hz6.frozen (12 + k)
     have cc : ∃ x, _ = some x := ⟨_, (hz6.cell (12 + k)).trans (aB (by rw [iW HL.out (by omega)]; omega))⟩
     obtain ⟨x, cc⟩ := cc
     have hz7 : Blk (wr.setCell ⟨g, 12 + k, none⟩ (.int .u8 y)) g 5 (bytes (prt Pp (12 + (k + 1)))) := by
      have := hz6.setCell (12 + k) (.int .u8 y)
      rw [aM _ _ u y hy, hpo.out] at this
      exact this
     have hk7 : Keep (· = g) w (wr.setCell ⟨g, 12 + k, none⟩ (.int .u8 y)) := hk6.setCell ⟨g, 12 + k, none⟩ _ (fun _ => rfl)
     clear hz6 hk6
     go_wp2_with fail
     go_round
     case rel => exact ⟨k + 1, by omega, by go_num, hz7, hk7⟩
     case measure => simp [intOf]; omega
    ·obtain rfl : k = 8 := by omega
     clear hlt hk HY
     have fr := hz6.frozen 20
     have cc : ∃ x, _ = some x := ⟨_, (hz6.cell 20).trans (aB (by rw [iW HL.out (by omega)]; omega))⟩
     obtain ⟨x, cc⟩ := cc
     have hz7 : Blk (wr.setCell ⟨g, 20, none⟩ (.int .u8 167)) g 5 (bytes (prt Pp 21)) := by
      have := hz6.setCell 20 (.int .u8 167)
      rw [cm _ 20 167 167 rfl, gm HL.out] at this
      exact this
     have hk7 : Keep (· = g) w (wr.setCell ⟨g, 20, none⟩ (.int .u8 167)) := hk6.setCell ⟨g, 20, none⟩ _ (fun _ => rfl)
     clear hz6 hk6
     go_wp2_with fail
     have hr : ae (wr.setCell ⟨g, 20, none⟩ (.int .u8 167)) (some ⟨g, 0, none⟩) 21 (bytes (pre Pp)) := by
      have := ae.of_blk (A := some ⟨g, 0, none⟩) (off := 0) (n := 21) hz7 (fun _ => rfl) (by rw [am, iW HL.out (by omega)]; omega)
      rw [List.drop_zero, ← eI, jd HL.out] at this
      exact this
     refine (sum_is hr (by decide) _ rfl).mono ?_; rintro e wy ⟨rfl, rfl⟩
     have hq : (((bK (pre Pp)).toNat : Nat) : Int) = ((tot (pre Pp) % 256 : Nat) : Int) := by
      rw [bK, UInt8.toNat_ofNat', Nat.mod_mod]
     generalize ((tot (pre Pp) % 256 : Nat) : Int) = q at *
     generalize wr.setCell ⟨g, 20, none⟩ (.int .u8 167) = wz at *
     have fr := hz7.frozen 21
     have cc : ∃ x, _ = some x := ⟨_, (hz7.cell 21).trans (aB (by rw [iW HL.out (by omega)]; omega))⟩
     obtain ⟨x, cc⟩ := cc
     have hz8 : Blk (wz.setCell ⟨g, 21, none⟩ (.int .u8 q)) g 5 (bytes (enc Pp)) := by
      have := hz7.setCell 21 (.int .u8 q)
      rw [cm _ 21 (bK (pre Pp)) q hq, iU HL.out] at this
      exact this
     have hk8 : Keep (· = g) w (wz.setCell ⟨g, 21, none⟩ (.int .u8 q)) := hk7.setCell ⟨g, 21, none⟩ _ (fun _ => rfl)
     clear hz7 hk7
     go_wp2
     go_ret
     exact ⟨rfl, hz8, hk8⟩
end Go.Proofs.YtgcikpgcoemfnaaGreat.Cd
namespace Go.Proofs.YtgcikpgcoemfnaaGreat.Ri
open Go.RowKit Cd
theorem aV (n hi : Int) (w : World) (v : Bool) (hv : inn n 0 hi = v) : Calls Tryz.prog 355 #[.int .i64 n, .int .i64 hi] w fun e w' => e = .returned (.bool v) ∧ w = w' := by
 subst hv
 by_cases h0 : 0 ≤ n
 ·go_enter Tryz.func355, Tryz.ntmps355
  go_wp2
  go_ret
  exact ⟨by simp [inn, h0], rfl⟩
 ·go_enter Tryz.func355, Tryz.ntmps355
  go_wp2
  go_ret
  exact ⟨by simp [inn, h0]; try omega, rfl⟩
theorem dD {w : World} {g : Nat} {t : TypeId} {p : Pp} (hb : Blk w g t (pc p)) :
  w.cell? ⟨g, 0, none⟩ = some (.int .i64 p.h) ∧ w.cell? ⟨g, 1, none⟩ = some (.int .i64 p.c) ∧ w.cell? ⟨g, 2, none⟩ = some (.int .i64 p.r) ∧ w.cell? ⟨g, 3, none⟩ = some (.int .i64 p.s) := by
 refine ⟨?_, ?_, ?_, ?_⟩ <;> rw [hb.cell] <;> rfl
theorem cellD {w : World} {g : Nat} {t : TypeId} {p : Pp} (hb : Blk w g t (pc p)) {k : Nat} (hk : k < p.d.length) :
  w.cell? ⟨g, 4 + k, none⟩ = some (.int .u8 ((p.d.getD k 0).toNat : Int)) := by
 rw [hb.cell, Nat.add_comm]
 exact aB hk
theorem ok_is (p : Pp) (w : World) (v : Bool) (hv : okd p = v) :
  Calls Tryz.prog 351 #[pv p] w fun e w' => e = .returned (.bool v) ∧ Keep Nob w w' := by
 unfold okd at hv
 generalize hb1 : inn p.h 0 31 = b1 at hv
 generalize hb2 : inn p.c 0 32 = b2 at hv
 generalize hb3 : inn p.r 0 8 = b3 at hv
 generalize hb4 : inn p.s 0 8 = b4 at hv
 have HB1 := aa hb1
 have HB2 := aa hb2
 have HB3 := aa hb3
 have HB4 := aa hb4
 have HV := aa hv
 clear hb1 hb2 hb3 hb4 hv
 unfold pv
 go_enter Tryz.func351, Tryz.ntmps351
 go_wp2_with (refine af rfl 83 _ rfl _ rfl ?_; intro w1 hb hk hs; clear hs; obtain ⟨c0, c1, c2, c3⟩ := dD hb; clear hb)
 refine (aV _ _ _ b1 HB1.out).mono ?_; rintro e w2 ⟨rfl, rfl⟩
 cases b1 with
 | false =>
  go_wp2
  go_ret
  obtain rfl : v = false := by have := HV.out; simpa using this.symm
  exact ⟨rfl, hk⟩
 | true =>
 go_wp2_with fail
 refine (aV _ _ _ b2 HB2.out).mono ?_; rintro e w2 ⟨rfl, rfl⟩
 cases b2 with
 | false =>
  go_wp2
  go_ret
  obtain rfl : v = false := by have := HV.out; simpa using this.symm
  exact ⟨rfl, hk⟩
 | true =>
 go_wp2_with fail
 refine (aV _ _ _ b3 HB3.out).mono ?_; rintro e w2 ⟨rfl, rfl⟩
 cases b3 with
 | false =>
  go_wp2
  go_ret
  obtain rfl : v = false := by have := HV.out; simpa using this.symm
  exact ⟨rfl, hk⟩
 | true =>
 go_wp2_with fail
 refine (aV _ _ _ b4 HB4.out).mono ?_; rintro e w2 ⟨rfl, rfl⟩
 obtain rfl : b4 = v := by have := HV.out; simpa using this
 go_wp2
 go_ret
 exact ⟨rfl, hk⟩
end Go.Proofs.YtgcikpgcoemfnaaGreat.Ri
namespace Go.Proofs.YtgcikpgcoemfnaaGreat.Ri
open Go.RowKit Cd
theorem bz : (Tryz.prog.info? 83).map (·.size) = some 36 := by kernel_rfl
theorem results_pair {fn : Func} {p u : Tmp} (h : fn.results = #[.cell p 83, .tmp u]) (tmps : Array Value) (w : World) (g : Nat) (q : Pp) (hq : q.d.length = 32)
  (hp : tmps.getD p undef = .pointer (some ⟨g, 0, none⟩)) (hg : Blk w g 83 (pc q)) (v : Value) (hv : tmps.getD u undef = v) :
  (results fn tmps).run Tryz.prog w = .ok (.tuple #[.agg (pc q).toArray, v]) w := by
 rw [results_cell_tmp h, hp, hv]
 have := run_loadVar_row (P := Tryz.prog) w g 83 83 (pc q).toArray (0, 0) _ hg Tryz.underlying83 rfl (by rw [bz]; simp [bQ hq])
 simp [asAddr, Result.andThen, this]
theorem df (W : World) (l : List UInt8) (cs : List Value) (n c : Nat) (hcs : cs = bytes l) (hn : l.length = n) :
  (convert 28 9 (.slice (some ⟨W.heap.size, 0, none⟩) n c)).run Tryz.prog (W.alloc (.cells cs.toArray 5)) = .ok (.string (str l)) (W.alloc (.cells cs.toArray 5)) := by
 subst hcs
 exact cw (P := Tryz.prog) _ 28 9 5 _ n c _ Tryz.underlying28 Tryz.underlying5 Tryz.underlying9 (aj (Blk.new W 5 (bytes l)) (by rw [am, hn]))
theorem gC (l : List UInt8) : (str l).toList = l := by
 rw [ByteArray.toList_eq]; simp [str]
theorem eH (n : Int) : IntKind.u8.wrap n = ((byt n).toNat : Int) := by
 rw [byt, cj, IntKind.wrap_u8']
section
variable {ρ : Operand → Value} {o : Oper} {x y : Operand} {w : World} {g : Nat} {q old : Pp}
theorem aG (ho : o.op = .load 83 x) (hx : ρ x = .pointer (some ⟨g, 0, none⟩)) (hq : q.d.length = 32) (hb : Blk w g 83 (pc q)) : (execOp ρ o).run Tryz.prog w = .ok (.value (.agg (pc q).toArray)) w := by
 have := run_loadVar_row (P := Tryz.prog) w g 83 83 (pc q).toArray (0, 0) _ hb Tryz.underlying83 rfl (by rw [bz]; simp [bQ hq])
 simp [execOp, ho, hx, Instr.loadAt, Instr.sureAddr, this, Result.andThen]
theorem ea (ho : o.op = .store 83 x y) (hx : ρ x = .pointer (some ⟨g, 0, none⟩)) (hy : ρ y = .agg (pc q).toArray) (hq : q.d.length = 32) (hd : old.d.length = 32) (hb : Blk w g 83 (pc old)) :
  (execOp ρ o).run Tryz.prog w = .ok .skip (w.setRow g (pc q).toArray) := by
 have := run_storeVar_row (P := Tryz.prog) w g 83 83 (pc old).toArray (pc q).toArray hb (by rw [bz]; simp [bQ hq]) (by simp [bQ hq, bQ hd]) (by rw [Array.all_eq_true_iff_forall_mem]; intro v hv; exact jl q v (by simpa using hv))
 simp [execOp, ho, hx, hy, Instr.storeAt, Instr.sureAddr, this, Result.andThen]
theorem aU {a : Act} {K : Act → World → Prop} {Q : Exit → Act → World → Prop} (ho : o.op = .store 83 x y) (hx : a.eval x = .pointer (some ⟨g, 0, none⟩)) (hy : a.eval y = .agg (pc q).toArray) (hq : q.d.length = 32) (hd : old.d.length = 32) (hb : Blk w g 83 (pc old))
  (h : K (a.put o.dst undef) (w.setRow g (pc q).toArray)) : Oper.wp Tryz.prog o a w K Q := by
 unfold Oper.wp
 rw [ea ho hx hy hq hd hb]
 exact h
end
section
variable {ops : Array Oper} {rest : List Oper} {o : Oper} {a : Act} {Q : Exit → Act → World → Prop} {w : World}
theorem wpList_st (hgd : o.guard = none) (x y : Operand) (ho : o.op = .store 83 x y) (g : Nat) (q old : Pp) (hx : a.eval x = .pointer (some ⟨g, 0, none⟩)) (hy : a.eval y = .agg (pc q).toArray) (hq : q.d.length = 32) (hd : old.d.length = 32) (hb : Blk w g 83 (pc old))
  (h : ∀ w', Blk w' g 83 (pc q) → Keep (· = g) w w' → w'.heap.size = w.heap.size → wpList Tryz.prog ops Q rest (a.put o.dst undef) w') : wpList Tryz.prog ops Q (o :: rest) a w := by
 refine wpList_plain hgd fun K hK => ?_
 have hrun := run_storeVar_row (P := Tryz.prog) w g 83 83 (pc old).toArray (pc q).toArray hb (by rw [bz]; simp [bQ hq]) (by simp [bQ hq, bQ hd]) (by rw [Array.all_eq_true_iff_forall_mem]; intro v hv; exact jl q v (by simpa using hv))
 have hh := h (w.setRow g (pc q).toArray) (hb.setRow _) ((Keep.refl _ w).setRow g _ (fun _ => rfl)) (by simp)
 unfold Oper.wp
 simp [execOp, ho, hx, hy, Instr.storeAt, Instr.sureAddr, hrun, Result.andThen]
 exact hK _ _ hh
theorem wpList_ld (hgd : o.guard = none) (x : Operand) (ho : o.op = .load 83 x) (g : Nat) (q : Pp) (hx : a.eval x = .pointer (some ⟨g, 0, none⟩)) (hq : q.d.length = 32) (hb : Blk w g 83 (pc q))
  (h : wpList Tryz.prog ops Q rest (a.put o.dst (.agg (pc q).toArray)) w) : wpList Tryz.prog ops Q (o :: rest) a w := by
 refine wpList_plain hgd fun K hK => ?_
 have hrun := run_loadVar_row (P := Tryz.prog) w g 83 83 (pc q).toArray (0, 0) _ hb Tryz.underlying83 rfl (by rw [bz]; simp [bQ hq])
 unfold Oper.wp
 simp [execOp, ho, hx, Instr.loadAt, Instr.sureAddr, hrun, Result.andThen]
 exact hK _ _ h
end
theorem aW {w : World} {g n : Nat} {l : List UInt8} (hr : ae w (some ⟨g, 0, none⟩) n (bytes l)) {k : Nat} (hk : k < n) : w.cell? ⟨g, k, none⟩ = some (.int .u8 ((l.getD k 0).toNat : Int)) := by
 have hl : l.length = n := by simpa using hr.1
 obtain ⟨ad, h1, h2⟩ := hr.2 (by omega)
 cases h1
 have := h2 k _ (aB (by omega))
 rwa [cR, Nat.zero_add] at this
theorem fR (A B : Option Addr) (n m c d : Nat) (x y : List UInt8) (w : World) (hx : ae w A n (bytes x)) (hy : ae w B m (bytes y)) (v : Bool) (hv : (x == y) = v) :
  Calls Tryz.prog 292 #[.slice A n c, .slice B m d] w fun e w' => e = .returned (.bool v) ∧ w = w' := by
 have s1 := fun c => cw (P := Tryz.prog) w 28 9 5 A n c x Tryz.underlying28 Tryz.underlying5 Tryz.underlying9 hx
 have s2 := fun c => cw (P := Tryz.prog) w 28 9 5 B m c y Tryz.underlying28 Tryz.underlying5 Tryz.underlying9 hy
 have s3 : ((str x).toList == (str y).toList) = v := by rw [gC, gC, hv]
 clear hv hx hy
 generalize str x = X at *
 generalize str y = Y at *
 go_enter Tryz.func292, Tryz.ntmps292
 go_wp2
 go_ret
 exact ⟨rfl, rfl⟩
theorem run_al (W : World) : (Instr.alloc 83 true (.tuple #[])).run Tryz.prog W = .ok (.pointer (some ⟨W.heap.size, 0, none⟩)) (W.alloc (.cells (pc noP).toArray 83)) := by
 go_simp
 rfl
theorem run_bu (a b c d : Int) (W : World) : (Instr.build 83 #[(0, .int .i64 a), (1, .int .i64 b), (2, .int .i64 c), (3, .int .i64 d)]).run Tryz.prog W = .ok (pv ⟨a, b, c, d, nod⟩) W := by
 go_simp
 rfl
theorem run_bu0 (W : World) : (Instr.build 83 #[]).run Tryz.prog W = .ok (pv noP) W := by
 go_simp
 rfl
section
variable {ρ : Operand → Value} {ops : Array Oper} {rest : List Oper} {o : Oper} {a : Act} {K : Act → World → Prop} {Q : Exit → Act → World → Prop} {w : World}
theorem wpList_al (hgd : o.guard = none) (ho : o.op = .alloc 83)
  (h : ∀ w', Blk w' w.heap.size 83 (pc noP) → Keep Nob w w' → w'.heap.size = w.heap.size + 1 → wpList Tryz.prog ops Q rest (a.put o.dst (.pointer (some ⟨w.heap.size, 0, none⟩))) w') : wpList Tryz.prog ops Q (o :: rest) a w := by
 refine wpList_plain hgd fun K hK => ?_
 have hh := h _ (Blk.new w 83 (pc noP)) ((Keep.refl Nob w).alloc _) (by simp)
 have hr := run_al w
 unfold Oper.wp
 simp [execOp, ho, hr, Result.andThen]
 exact hK _ _ hh
theorem wp_al (ho : o.op = .alloc 83)
  (h : ∀ w', Blk w' w.heap.size 83 (pc noP) → Keep Nob w w' → w'.heap.size = w.heap.size + 1 → K (a.put o.dst (.pointer (some ⟨w.heap.size, 0, none⟩))) w') : Oper.wp Tryz.prog o a w K Q := by
 have hh := h _ (Blk.new w 83 (pc noP)) ((Keep.refl Nob w).alloc _) (by simp)
 have hr := run_al w
 unfold Oper.wp
 simp [execOp, ho, hr, Result.andThen]
 exact hh
theorem exec_bu (x0 x1 x2 x3 : Operand) (ho : o.op = .build 83 #[(0, x0), (1, x1), (2, x2), (3, x3)]) (n0 n1 n2 n3 : Int) (h0 : ρ x0 = .int .i64 n0) (h1 : ρ x1 = .int .i64 n1) (h2 : ρ x2 = .int .i64 n2) (h3 : ρ x3 = .int .i64 n3) :
  (execOp ρ o).run Tryz.prog w = .ok (.value (pv ⟨n0, n1, n2, n3, nod⟩)) w := by
 have hr := run_bu n0 n1 n2 n3 w
 simp [execOp, ho, h0, h1, h2, h3, hr, Result.andThen]
theorem ib (hgd : o.guard = none) (ho : o.op = .build 83 #[])
  (h : wpList Tryz.prog ops Q rest (a.put o.dst (.agg (pc noP).toArray)) w) : wpList Tryz.prog ops Q (o :: rest) a w := by
 refine wpList_plain hgd fun K hK => ?_
 have hr := run_bu0 w
 unfold Oper.wp
 simp [execOp, ho, hr, Result.andThen]
 exact hK _ _ h
end
section
variable {ops : Array Oper} {rest : List Oper} {o : Oper} {a : Act} {Q : Exit → Act → World → Prop} {w : World}
end
end Go.Proofs.YtgcikpgcoemfnaaGreat.Ri
namespace Go.Proofs.YtgcikpgcoemfnaaGreat.Fi
open Go.RowKit Cd
theorem dM {f : FuncId} {args : Array Value} {w : World} {n : Nat} {v : Value} (h : Calls Tryz.prog f args (w.drewN n) fun e w' => e = .returned v ∧ w.drewN n = w') : Calls Tryz.prog f args (w.drewN n) fun e w'' => e = .returned v ∧ ∃ m, w'' = w.drewN m :=
 h.mono fun _ _ ⟨he, hm⟩ => ⟨he, n, hm.symm⟩
theorem aV (n lo hi : Int) (w : World) (v : Bool) (hv : inn n lo hi = v) : Calls Tryz.prog 340 #[.int .i64 n, .int .i64 lo, .int .i64 hi] w fun e w' => e = .returned (.bool v) ∧ w = w' := by
 subst hv
 by_cases h0 : lo ≤ n
 ·go_enter Tryz.func340, Tryz.ntmps340
  go_wp2
  go_ret
  exact ⟨by simp [inn, h0], rfl⟩
 ·go_enter Tryz.func340, Tryz.ntmps340
  go_wp2
  go_ret
  exact ⟨by simp [inn, h0]; try omega, rfl⟩
theorem last_is (n : Int) (w : World) (v : Int) (hv : last n = v) : Calls Tryz.prog 341 #[.int .i64 n] w fun e w' => e = .returned (.int .i64 v) ∧ w = w' := by
 unfold last at hv
 by_cases h0 : n = 3
 ·rw [if_pos h0] at hv
  subst h0 hv
  go_enter Tryz.func341, Tryz.ntmps341
  go_wp2
  go_ret
  exact ⟨rfl, rfl⟩
 ·rw [if_neg h0] at hv
  subst hv
  go_enter Tryz.func341, Tryz.ntmps341
  go_wp2
  go_ret
  exact ⟨rfl, rfl⟩
theorem dD {w : World} {g : Nat} {t : TypeId} {a0 a1 a2 a3 : Int} (hb : Blk w g t (ab [a0, a1, a2, a3])) :
  w.cell? ⟨g, 0, none⟩ = some (.int .i64 a0) ∧ w.cell? ⟨g, 1, none⟩ = some (.int .i64 a1) ∧ w.cell? ⟨g, 2, none⟩ = some (.int .i64 a2) ∧ w.cell? ⟨g, 3, none⟩ = some (.int .i64 a3) := by
 refine ⟨?_, ?_, ?_, ?_⟩ <;> rw [hb.cell] <;> rfl
theorem ok_is (p : List Int) (hl : p.length = 4) (w : World) (v : Bool) (hv : okd p = v) :
  Calls Tryz.prog 317 #[pv p] w fun e w' => e = .returned (.bool v) ∧ Keep Nob w w' := by
 unfold okd at hv
 obtain ⟨a0, a1, a2, a3, rfl⟩ := gA hl
 simp only [List.getD_cons_succ, List.getD_cons_zero] at hv
 clear hl
 obtain ⟨L, hL⟩ : ∃ L, last a0 = L := ⟨_, rfl⟩
 rw [hL] at hv
 generalize hb1 : inn a0 1 3 = b1 at hv
 generalize hb2 : inn a1 0 L = b2 at hv
 generalize hb3 : inn a2 1 64 = b3 at hv
 generalize hb4 : inn a3 0 1 = b4 at hv
 have HL := aa hL
 have HB1 := aa hb1
 have HB2 := aa hb2
 have HB3 := aa hb3
 have HB4 := aa hb4
 have HV := aa hv
 clear hb1 hb2 hb3 hb4 hv hL
 simp only [pv, ab, List.map_cons, List.map_nil]
 go_enter Tryz.func317, Tryz.ntmps317
 go_wp2_with (refine af rfl 64 _ rfl _ rfl ?_; intro w1 hb hk hs; clear hs; obtain ⟨c0, c1, c2, c3⟩ := dD hb; clear hb)
 cases b1 with
 | false =>
  go_quiet (first | (go_at_call 340; exact dM (aV _ _ _ _ false HB1.out)))
  go_wp2
  go_ret
  obtain rfl : v = false := by have := HV.out; simpa using this.symm
  exact ⟨rfl, hk.nobt ((Keep.refl Nob w1).drewN _)⟩
 | true =>
 cases b2 with
 | false =>
  go_quiet (first | (go_at_call 340; exact dM (aV _ _ _ _ true HB1.out)) | (go_at_call 341; exact dM (last_is _ _ L HL.out)) | (go_at_call 340; exact dM (aV _ _ _ _ false HB2.out)))
  go_wp2
  go_ret
  obtain rfl : v = false := by have := HV.out; simpa using this.symm
  exact ⟨rfl, hk.nobt ((Keep.refl Nob w1).drewN _)⟩
 | true =>
 cases b3 with
 | false =>
  go_quiet (first | (go_at_call 340; exact dM (aV _ _ _ _ true HB1.out)) | (go_at_call 341; exact dM (last_is _ _ L HL.out)) | (go_at_call 340; exact dM (aV _ _ _ _ true HB2.out)) | (go_at_call 340; exact dM (aV _ _ _ _ false HB3.out)))
  go_wp2
  go_ret
  obtain rfl : v = false := by have := HV.out; simpa using this.symm
  exact ⟨rfl, hk.nobt ((Keep.refl Nob w1).drewN _)⟩
 | true =>
 obtain rfl : b4 = v := by have := HV.out; simpa using this
 go_quiet (first | (go_at_call 340; exact dM (aV _ _ _ _ true HB1.out)) | (go_at_call 341; exact dM (last_is _ _ L HL.out)) | (go_at_call 340; exact dM (aV _ _ _ _ true HB2.out)) | (go_at_call 340; exact dM (aV _ _ _ _ true HB3.out)) | (go_at_call 340; exact dM (aV _ _ _ _ b4 HB4.out)))
 go_wp2
 go_ret
 exact ⟨rfl, hk.nobt ((Keep.refl Nob w1).drewN _)⟩
theorem okd_doc (a0 a1 a2 a3 : Int) : okd [a0, a1, a2, a3] = (inn a0 1 3 && (inn a1 0 7 && ((a0 != 3 || a1 == 0) && (inn a2 1 64 && inn a3 0 1)))) := by
 unfold okd last
 simp only [List.getD_cons_succ, List.getD_cons_zero, Bool.and_assoc]
 by_cases h : a0 = 3
 ·subst h
  have : inn a1 0 0 = (inn a1 0 7 && a1 == 0) := by
   unfold inn
   by_cases h1 : a1 = 0
   ·subst h1; rfl
   ·rw [show (a1 == 0) = false from by simpa using h1, Bool.and_false]
    exact decide_eq_false (by omega)
  rw [if_pos rfl, this]
  simp only [bne_self_eq_false, Bool.false_or, Bool.and_assoc]
 ·rw [if_neg h, show (a0 != 3) = true from by simpa using h]
  simp only [Bool.true_or, Bool.true_and]
end Go.Proofs.YtgcikpgcoemfnaaGreat.Fi
namespace Go.Proofs.YtgcikpgcoemfnaaGreat.Fi
open Go.RowKit Cd
theorem aM (l : List UInt8) (k : Nat) (n v : Int) (hv : IntKind.u8.wrap n = v) : (bytes l).set k (.int .u8 v) = bytes (l.set k (byt n)) :=
 cm l k (byt n) v (by rw [← hv, eH])
def prt (p : List Int) (j : Nat) : List UInt8 := (enc p).take j ++ List.replicate (8 - j) 0
theorem prt_4 (p : List Int) : ((((List.replicate 8 (0 : UInt8)).set 0 (byt (p.getD 0 0))).set 1 (byt (p.getD 1 0))).set 2 (byt (p.getD 2 0))).set 3 (byt (p.getD 3 0)) = prt p 4 := rfl
theorem gm (p : List Int) : (prt p 4).set 4 179 = prt p 5 := rfl
theorem iU (p : List Int) : (prt p 5).set 5 (bK (pre p)) = enc p := rfl
theorem jd (p : List Int) : (prt p 5).take 5 = pre p := rfl
theorem fZ (p : List Int) (hl : p.length = 4) (g : Nat) (w : World) (hz : Blk w g 5 (bytes (List.replicate 8 0))) (v : Bool) (hv : okd p = v) :
  Calls Tryz.prog 253 #[pv p, .slice (some ⟨g, 0, none⟩) 8 8] w fun e w' => e = .returned (.bool v) ∧ Blk w' g 5 (bytes (if v then enc p else List.replicate 8 0)) ∧ Keep (· = g) w w' := by
 have q1 := ok_is p hl
 have z4 := prt_4 p
 obtain ⟨a0, a1, a2, a3, rfl⟩ := gA hl
 simp only [List.getD_cons_succ, List.getD_cons_zero] at z4
 have Q1 := aa (fun w => q1 w v hv)
 have Z4 := aa z4
 clear q1 hv z4 hl
 generalize hP : ([a0, a1, a2, a3] : List Int) = Pp at *
 have hpv : pv Pp = .agg #[.int .i64 a0, .int .i64 a1, .int .i64 a2, .int .i64 a3] := by rw [← hP]; rfl
 rw [hpv]
 go_enter Tryz.func253, Tryz.ntmps253
 go_wp2_with (refine af rfl 64 _ rfl _ rfl ?_; intro w1 hb hk hs; clear hs; rw [show (Value.agg #[.int .i64 a0, .int .i64 a1, .int .i64 a2, .int .i64 a3]).cells.toList = ab Pp from by rw [← hP]; rfl] at hb; have hb' := hb; rw [← hP] at hb'; obtain ⟨c0, c1, c2, c3⟩ := dD hb'; clear hb')
 have hne : w.heap.size ≠ g := by have := hz.lt; omega
 have hz1 := hz.nob hk
 rw [← hpv]
 refine (Q1.out _).mono ?_; rintro e w2 ⟨rfl, k2⟩
 have hb2 := hb.nob k2
 have hz2 := hz1.nob k2
 have hk2 := hk.nobt k2
 clear c0 c1 c2 c3 hb hz1 hk k2 hz
 cases v with
 | false =>
  go_wp2
  go_ret
  exact ⟨rfl, hz2, hk2.mono (fun _ _ f => f.elim)⟩
 | true =>
 clear Q1
 have hb' := hb2; rw [← hP] at hb'; obtain ⟨c0, c1, c2, c3⟩ := dD hb'; clear hb'
 obtain ⟨y0, hy0⟩ : ∃ y, IntKind.u8.wrap a0 = y := ⟨_, rfl⟩
 obtain ⟨y1, hy1⟩ : ∃ y, IntKind.u8.wrap a1 = y := ⟨_, rfl⟩
 obtain ⟨y2, hy2⟩ : ∃ y, IntKind.u8.wrap a2 = y := ⟨_, rfl⟩
 obtain ⟨y3, hy3⟩ : ∃ y, IntKind.u8.wrap a3 = y := ⟨_, rfl⟩
 have fr0 := hz2.frozen 0
 have fr1 := hz2.frozen 1
 have fr2 := hz2.frozen 2
 have fr3 := hz2.frozen 3
 have q0 := hz2.cell 0
 have q1 := hz2.cell 1
 have q2 := hz2.cell 2
 have q3 := hz2.cell 3
 simp only [ao, List.getElem?_replicate] at q0 q1 q2 q3
 clear hP
 go_wp2_with fail
 go_region
 have hz3 : Blk (((((w2.setCell ⟨g, 0, none⟩ (.int .u8 y0)).setCell ⟨g, 1, none⟩ (.int .u8 y1)).setCell ⟨g, 2, none⟩ (.int .u8 y2)).setCell ⟨g, 3, none⟩ (.int .u8 y3)).drew) g 5 (bytes (prt Pp 4)) := by
  have := ((((hz2.setCell 0 (.int .u8 y0)).setCell 1 (.int .u8 y1)).setCell 2 (.int .u8 y2)).setCell 3 (.int .u8 y3)).drew
  rw [aM _ 0 a0 y0 hy0, aM _ 1 a1 y1 hy1, aM _ 2 a2 y2 hy2, aM _ 3 a3 y3 hy3, Z4.out] at this
  exact this
 have hk3 : Keep (· = g) w (((((w2.setCell ⟨g, 0, none⟩ (.int .u8 y0)).setCell ⟨g, 1, none⟩ (.int .u8 y1)).setCell ⟨g, 2, none⟩ (.int .u8 y2)).setCell ⟨g, 3, none⟩ (.int .u8 y3)).drew) := ((((hk2.mono (M' := (· = g)) (fun _ _ f => f.elim)).setCell ⟨g, 0, none⟩ _ (fun _ => rfl)).setCell ⟨g, 1, none⟩ _ (fun _ => rfl)).setCell ⟨g, 2, none⟩ _ (fun _ => rfl)).setCell ⟨g, 3, none⟩ _ (fun _ => rfl) |>.drew
 clear c0 c1 c2 c3 hy0 hy1 hy2 hy3 fr0 fr1 fr2 fr3 q0 q1 q2 q3 hz2 hb2 hk2 Z4
 generalize (((((w2.setCell ⟨g, 0, none⟩ (.int .u8 y0)).setCell ⟨g, 1, none⟩ (.int .u8 y1)).setCell ⟨g, 2, none⟩ (.int .u8 y2)).setCell ⟨g, 3, none⟩ (.int .u8 y3)).drew) = w3 at *
 have fr := hz3.frozen 4
 have cc : ∃ x, _ = some x := ⟨_, (hz3.cell 4).trans (aB (show 4 < (prt Pp 4).length from (by decide : 4 < 8)))⟩
 obtain ⟨x, cc⟩ := cc
 have hz7 : Blk (w3.setCell ⟨g, 4, none⟩ (.int .u8 179)) g 5 (bytes (prt Pp 5)) := by
  have := hz3.setCell 4 (.int .u8 179)
  rw [cm _ 4 179 179 rfl, gm] at this
  exact this
 have hk7 : Keep (· = g) w (w3.setCell ⟨g, 4, none⟩ (.int .u8 179)) := hk3.setCell ⟨g, 4, none⟩ _ (fun _ => rfl)
 clear hz3 hk3
 go_wp2_with fail
 have hr : ae (w3.setCell ⟨g, 4, none⟩ (.int .u8 179)) (some ⟨g, 0, none⟩) 5 (bytes (pre Pp)) := by
  have := ae.of_blk (A := some ⟨g, 0, none⟩) (off := 0) (n := 5) hz7 (fun _ => rfl) (by rw [am]; exact (by decide : 0 + 5 ≤ 8))
  rw [List.drop_zero, ← eI, jd] at this
  exact this
 refine (sum_is hr (by decide) _ rfl).mono ?_; rintro e wy ⟨rfl, rfl⟩
 have hq : (((bK (pre Pp)).toNat : Nat) : Int) = ((tot (pre Pp) % 256 : Nat) : Int) := by
  rw [bK, UInt8.toNat_ofNat', Nat.mod_mod]
 generalize ((tot (pre Pp) % 256 : Nat) : Int) = q at *
 generalize w3.setCell ⟨g, 4, none⟩ (.int .u8 179) = wz at *
 have fr := hz7.frozen 5
 have cc : ∃ x, _ = some x := ⟨_, (hz7.cell 5).trans (aB (show 5 < (prt Pp 5).length from (by decide : 5 < 8)))⟩
 obtain ⟨x, cc⟩ := cc
 have hz8 : Blk (wz.setCell ⟨g, 5, none⟩ (.int .u8 q)) g 5 (bytes (enc Pp)) := by
  have := hz7.setCell 5 (.int .u8 q)
  rw [cm _ 5 (bK (pre Pp)) q hq, iU] at this
  exact this
 have hk8 : Keep (· = g) w (wz.setCell ⟨g, 5, none⟩ (.int .u8 q)) := hk7.setCell ⟨g, 5, none⟩ _ (fun _ => rfl)
 clear hz7 hk7
 go_wp2
 go_ret
 exact ⟨rfl, hz8, hk8⟩
end Go.Proofs.YtgcikpgcoemfnaaGreat.Fi
namespace Go.Proofs.YtgcikpgcoemfnaaGreat.Ri
open Go.RowKit Cd
theorem aM (l : List UInt8) (k : Nat) (n v : Int) (hv : IntKind.u8.wrap n = v) : (bytes l).set k (.int .u8 v) = bytes (l.set k (byt n)) :=
 cm l k (byt n) v (by rw [← hv, eH])
theorem prt_5 (p : Pp) : (((((List.replicate 40 (0 : UInt8)).set 0 1).set 1 (byt p.h)).set 2 (byt p.c)).set 3 (byt p.r)).set 4 (byt p.s) = [1, byt p.h, byt p.c, byt p.r, byt p.s] ++ List.replicate 35 0 := rfl
theorem gm (p : Pp) : ([1, byt p.h, byt p.c, byt p.r, byt p.s] ++ List.replicate 35 (0 : UInt8)).set 5 197 = pre p ++ List.replicate 34 0 := rfl
theorem iU (p : Pp) : (pre p ++ List.replicate 34 (0 : UInt8)).set 6 (bK (pre p)) = pre p ++ [bK (pre p)] ++ List.replicate 33 0 := rfl
theorem jd (p : Pp) : (pre p ++ List.replicate 34 (0 : UInt8)).take 6 = pre p := rfl
theorem prt_all {p : Pp} (h : p.d.length = 32) : splice (pre p ++ [bK (pre p)] ++ List.replicate 33 (0 : UInt8)) 8 p.d = enc p := by
 unfold splice
 rw [h]
 show _ ++ (p.d ++ []) = _
 rw [List.append_nil]; rfl
theorem readsD {w : World} {g : Nat} {t : TypeId} {p : Pp} (hl : p.d.length = 32) (hb : Blk w g t (pc p)) : ae w (some ⟨g, 4, none⟩) 32 (bytes p.d) := by
 have := ae.of_blk (A := some ⟨g, 4, none⟩) (off := 4) (n := 32) hb (fun _ => rfl) (by rw [bQ hl]; exact Nat.le_refl _)
 rwa [show ((pc p).drop 4).take 32 = bytes p.d from List.take_of_length_le (by rw [show (pc p).drop 4 = bytes p.d from rfl, am, hl]; exact Nat.le_refl _)] at this
theorem li (p : Pp) (hl : p.d.length = 32) (g : Nat) (w : World) (hz : Blk w g 5 (bytes (List.replicate 40 0))) (v : Bool) (hv : okd p = v) :
  Calls Tryz.prog 337 #[pv p, .slice (some ⟨g, 0, none⟩) 40 40] w fun e w' => e = .returned (.bool v) ∧ Blk w' g 5 (bytes (if v then enc p else List.replicate 40 0)) ∧ Keep (· = g) w w' := by
 have HL := aa hl
 have q1 := fun w => ok_is p w v hv
 unfold pv at q1 ⊢
 have Q1 := aa q1
 clear q1 hv hl
 go_enter Tryz.func337, Tryz.ntmps337
 go_wp2_with (first | (refine af rfl 83 _ rfl _ rfl ?_; intro w1 hb hk hs; clear hs; have hb : Blk w1 w.heap.size 83 (pc p) := hb) | (refine wpList_ld rfl (.tmp 2) rfl w.heap.size p rfl HL.out hb ?_))
 have hne : w.heap.size ≠ g := by have := hz.lt; omega
 have hz1 := hz.nob hk
 refine (Q1.out _).mono ?_; rintro e w2 ⟨rfl, k2⟩
 have hb2 := hb.nob k2
 have hz2 := hz1.nob k2
 have hk2 := hk.nobt k2
 clear hb hz1 hk k2 hz
 cases v with
 | false =>
  go_wp2
  go_ret
  exact ⟨rfl, hz2, hk2.mono (fun _ _ f => f.elim)⟩
 | true =>
 clear Q1
 obtain ⟨c0, c1, c2, c3⟩ := dD hb2
 obtain ⟨y1, hy1⟩ : ∃ y, IntKind.u8.wrap p.h = y := ⟨_, rfl⟩
 obtain ⟨y2, hy2⟩ : ∃ y, IntKind.u8.wrap p.c = y := ⟨_, rfl⟩
 obtain ⟨y3, hy3⟩ : ∃ y, IntKind.u8.wrap p.r = y := ⟨_, rfl⟩
 obtain ⟨y4, hy4⟩ : ∃ y, IntKind.u8.wrap p.s = y := ⟨_, rfl⟩
 have fr0 := hz2.frozen 0
 have fr1 := hz2.frozen 1
 have fr2 := hz2.frozen 2
 have fr3 := hz2.frozen 3
 have fr4 := hz2.frozen 4
 have q0 := hz2.cell 0
 have q1 := hz2.cell 1
 have q2 := hz2.cell 2
 have q3 := hz2.cell 3
 have q4 := hz2.cell 4
 simp only [ao, List.getElem?_replicate] at q0 q1 q2 q3 q4
 go_upto_region 4 with fail
 have hz3 : Blk (((((w2.setCell ⟨g, 0, none⟩ (.int .u8 1)).setCell ⟨g, 1, none⟩ (.int .u8 y1)).setCell ⟨g, 2, none⟩ (.int .u8 y2)).setCell ⟨g, 3, none⟩ (.int .u8 y3)).setCell ⟨g, 4, none⟩ (.int .u8 y4)) g 5 (bytes ([1, byt p.h, byt p.c, byt p.r, byt p.s] ++ List.replicate 35 0)) := by
  have := ((((hz2.setCell 0 (.int .u8 1)).setCell 1 (.int .u8 y1)).setCell 2 (.int .u8 y2)).setCell 3 (.int .u8 y3)).setCell 4 (.int .u8 y4)
  rw [cm _ 0 1 1 rfl, aM _ 1 p.h y1 hy1, aM _ 2 p.c y2 hy2, aM _ 3 p.r y3 hy3, aM _ 4 p.s y4 hy4, prt_5] at this
  exact this
 have hb3 := ((((hb2.far (p := ⟨g, 0, none⟩) hne (.int .u8 1)).far (p := ⟨g, 1, none⟩) hne (.int .u8 y1)).far (p := ⟨g, 2, none⟩) hne (.int .u8 y2)).far (p := ⟨g, 3, none⟩) hne (.int .u8 y3)).far (p := ⟨g, 4, none⟩) hne (.int .u8 y4)
 have hk3 := (((((hk2.mono (M' := (· = g)) (fun _ _ f => f.elim)).setCell ⟨g, 0, none⟩ (.int .u8 1) (fun _ => rfl)).setCell ⟨g, 1, none⟩ (.int .u8 y1) (fun _ => rfl)).setCell ⟨g, 2, none⟩ (.int .u8 y2) (fun _ => rfl)).setCell ⟨g, 3, none⟩ (.int .u8 y3) (fun _ => rfl)).setCell ⟨g, 4, none⟩ (.int .u8 y4) (fun _ => rfl)
 clear c0 c1 c2 c3 hy1 hy2 hy3 hy4 fr0 fr1 fr2 fr3 fr4 q0 q1 q2 q3 q4 hz2 hb2 hk2
 generalize (((((w2.setCell ⟨g, 0, none⟩ (.int .u8 1)).setCell ⟨g, 1, none⟩ (.int .u8 y1)).setCell ⟨g, 2, none⟩ (.int .u8 y2)).setCell ⟨g, 3, none⟩ (.int .u8 y3)).setCell ⟨g, 4, none⟩ (.int .u8 y4)) = w3 at *
 have fr := hz3.frozen 5
 have cc : ∃ x, _ = some x := ⟨_, (hz3.cell 5).trans (aB (by simp))⟩
 obtain ⟨x, cc⟩ := cc
 have hz7 : Blk (w3.setCell ⟨g, 5, none⟩ (.int .u8 197)) g 5 (bytes (pre p ++ List.replicate 34 0)) := by
  have := hz3.setCell 5 (.int .u8 197)
  rw [cm _ 5 197 197 rfl, gm] at this
  exact this
 have hb7 := hb3.far (p := ⟨g, 5, none⟩) hne (.int .u8 197)
 have hk7 := hk3.setCell ⟨g, 5, none⟩ (.int .u8 197) (fun _ => rfl)
 clear hz3 hk3 hb3
 go_wp2_with fail
 have hr : ae (w3.setCell ⟨g, 5, none⟩ (.int .u8 197)) (some ⟨g, 0, none⟩) 6 (bytes (pre p)) := by
  have := ae.of_blk (A := some ⟨g, 0, none⟩) (off := 0) (n := 6) hz7 (fun _ => rfl) (by rw [am]; exact (by decide : 0 + 6 ≤ 40))
  rw [List.drop_zero, ← eI, jd] at this
  exact this
 refine (sum_is hr (by decide) _ rfl).mono ?_; rintro e wy ⟨rfl, rfl⟩
 have hq : (((bK (pre p)).toNat : Nat) : Int) = ((tot (pre p) % 256 : Nat) : Int) := by
  rw [bK, UInt8.toNat_ofNat', Nat.mod_mod]
 generalize ((tot (pre p) % 256 : Nat) : Int) = q at *
 clear hr cc fr
 generalize w3.setCell ⟨g, 5, none⟩ (.int .u8 197) = wz at *
 have fr := hz7.frozen 6
 have cc : ∃ x, _ = some x := ⟨_, (hz7.cell 6).trans (aB (show 6 < (pre p ++ List.replicate 34 (0 : UInt8)).length from (by decide : 6 < 40)))⟩
 obtain ⟨x, cc⟩ := cc
 have hz8 : Blk (wz.setCell ⟨g, 6, none⟩ (.int .u8 q)).drew g 5 (bytes (pre p ++ [bK (pre p)] ++ List.replicate 33 0)) := by
  have := (hz7.setCell 6 (.int .u8 q)).drew
  rw [cm _ 6 (bK (pre p)) q hq, iU] at this
  exact this
 have hb8 := (hb7.far (p := ⟨g, 6, none⟩) hne (.int .u8 q)).drew
 have hk8 := (hk7.setCell ⟨g, 6, none⟩ (.int .u8 q) (fun _ => rfl)).drew
 clear hz7 hk7 hb7
 obtain ⟨w9, hcp, hb9, hk9, _⟩ := run_cp (P := Tryz.prog) (wz.setCell ⟨g, 6, none⟩ (.int .u8 q)).drew 28 28 5 Tryz.underlying28 Tryz.size5 (some ⟨g, 8, none⟩) (some ⟨w.heap.size, 4, none⟩) 32 32 32 32 g 8 _ 5 hz8 (bytes p.d) (readsD HL.out hb8) (fun _ => rfl) (by simp [pre]) (dX _)
 rw [List.take_of_length_le (by rw [am, HL.out]; exact Nat.le_refl _), ev, prt_all HL.out] at hb9
 have hk9 := hk8.trans hk9 (fun b _ e => e)
 clear hz8 hb8 hk8
 go_upto_region 6 with fail
 go_region
 go_wp2
 go_ret
 exact ⟨rfl, hb9, hk9⟩
end Go.Proofs.YtgcikpgcoemfnaaGreat.Ri
namespace Go.Proofs.YtgcikpgcoemfnaaGreat.Ri
open Go.RowKit Cd
theorem take_one {l : List UInt8} {k : Nat} (h : k < l.length) : l.take (k + 1) = l.take k ++ [l.getD k 0] := by
 rw [List.take_succ_eq_append_getElem h, List.getD_eq_getElem?_getD, List.getElem?_eq_getElem h]; rfl
theorem iA (p : Pp) (hl : p.d.length = 32) (w : World) :
  Calls Tryz.prog 29 #[pv p] w fun e w' => e = .returned (.string (str (enc p))) ∧ Keep Nob w w' := by
 have HL := aa hl
 have hen : enc p = pre p ++ [bK (pre p), 0] ++ p.d := rfl
 have hpl := iV p
 obtain ⟨y0, hy0⟩ : ∃ y, IntKind.u8.wrap p.h = y := ⟨_, rfl⟩
 obtain ⟨y1, hy1⟩ : ∃ y, IntKind.u8.wrap p.c = y := ⟨_, rfl⟩
 obtain ⟨y2, hy2⟩ : ∃ y, IntKind.u8.wrap p.r = y := ⟨_, rfl⟩
 obtain ⟨y3, hy3⟩ : ∃ y, IntKind.u8.wrap p.s = y := ⟨_, rfl⟩
 have hcv := fun (W : World) c => df W (pre p) [.int .u8 1, .int .u8 y0, .int .u8 y1, .int .u8 y2, .int .u8 y3, .int .u8 197] 6 c (by subst hy0 hy1 hy2 hy3; simp only [eH]; rfl) rfl
 generalize hE : enc p = E at *
 generalize hQ : pre p = Q0 at *
 have sb := fun W => cT Q0 [bK Q0, 0] (by rw [hpl]; exact (by decide : 6 + 2 ≤ 100000)) W
 have hbl : (Q0 ++ [bK Q0, 0]).length = 8 := by rw [List.length_append, hpl]; rfl
 have hq : (((bK Q0).toNat : Nat) : Int) = ((tot Q0 % 256 : Nat) : Int) := by
  rw [bK, UInt8.toNat_ofNat', Nat.mod_mod]
 have HR := aa (fun W => jV (l := Q0) (w := W) (by omega) ((tot Q0 % 256 : Nat) : Int) rfl)
 generalize ((tot Q0 % 256 : Nat) : Int) = q at *
 have HCW := aa (fun (W : World) c => df W [bK Q0, 0] [.int .u8 q, .int .u8 0] 2 c (by rw [← hq]; rfl) rfl)
 have HCV := aa hcv
 generalize hB0 : Q0 ++ [bK Q0, 0] = B0 at *
 generalize str [bK Q0, 0] = z at *
 have HEN := aa hen
 have HBL := aa hbl
 clear hpl hE hQ hl hcv hq hen hbl hB0
 generalize str Q0 = S0 at *
 unfold pv
 go_enter Tryz.func29, Tryz.ntmps29
 go_wp2_with (refine af rfl 83 _ rfl _ rfl ?_; intro w1 hb hk hs; clear hs; have hb : Blk w1 w.heap.size 83 (pc p) := hb; have hcv := HCV.out w1; obtain ⟨c0, c1, c2, c3⟩ := dD hb)
 have hb2 := hb.alloc (.cells #[.int .u8 1, .int .u8 y0, .int .u8 y1, .int .u8 y2, .int .u8 y3, .int .u8 197] 5)
 have hk2 := hk.alloc (.cells #[.int .u8 1, .int .u8 y0, .int .u8 y1, .int .u8 y2, .int .u8 y3, .int .u8 197] 5)
 clear hb hk hcv HCV c0 c1 c2 c3 hy0 hy1 hy2 hy3
 generalize w1.alloc (.cells #[.int .u8 1, .int .u8 y0, .int .u8 y1, .int .u8 y2, .int .u8 y3, .int .u8 197] 5) = w2 at *
 refine (HR.out _).mono ?_; rintro e w9 ⟨rfl, rfl⟩
 have cv := HCW.out w2
 have hb9 := hb2.alloc (.cells #[.int .u8 q, .int .u8 0] 5)
 have hk9 := hk2.alloc (.cells #[.int .u8 q, .int .u8 0] 5)
 clear hb2 hk2 HCW
 go_wp2_with fail
 clear cv sb
 go_loopw [4, 3] (fun s4 s3 wx => ∃ k : Nat, k ≤ 32 ∧ s4 = .int .i64 k ∧ s3 = .string (str (B0 ++ p.d.take k)) ∧ Blk wx w.heap.size 83 (pc p) ∧ Keep Nob w wx) (fun s4 _ _ => 32 - (intOf s4).toNat)
 case atStart => exact ⟨0, Nat.zero_le _, rfl, by simp, hb9, hk9⟩
 case round =>
  obtain ⟨k, hk, rfl, rfl, hb3, hk3⟩ := hrel
  clear hb9 hk9
  by_cases hlt : k < 32
  ·have ck := cellD hb3 (k := k) (by rw [HL.out]; exact hlt)
   have ht := take_one (l := p.d) (k := k) (by rw [HL.out]; exact hlt)
   have hlen : (B0 ++ p.d.take k).length + 1 ≤ 100000 := by rw [List.length_append, HBL.out, List.length_take]; omega
   obtain ⟨y, hy⟩ : ∃ y, p.d.getD k 0 = y := ⟨_, rfl⟩
   rw [hy] at ck ht
   have sa := fun W => cT (B0 ++ p.d.take k) [y] hlen W
   rw [show B0 ++ p.d.take k ++ [y] = B0 ++ p.d.take (k + 1) from by rw [ht, List.append_assoc]] at sa
   clear ht hlen hy
   generalize str (B0 ++ p.d.take k) = S at *
   obtain ⟨S', hS'⟩ : ∃ S', str (B0 ++ p.d.take (k + 1)) = S' := ⟨_, rfl⟩
   rw [hS'] at sa
   have HS' := aa hS'
   clear hS'
   obtain ⟨u, hu⟩ : ∃ u, ((y.toNat : Nat) : Int) = u := ⟨_, rfl⟩
   rw [hu] at ck
   have cv := fun c => df wr [y] [.int .u8 u] 1 c (by rw [← hu]; rfl) rfl
   have hb4 := hb3.alloc (.cells #[.int .u8 u] 5)
   have hk4 := hk3.alloc (.cells #[.int .u8 u] 5)
   clear hb3 hk3 hu
   generalize str [y] = z at *
   go_wp2_with fail
   go_round
   case rel => exact ⟨k + 1, by omega, by go_num, by rw [HS'.out], hb4, hk4⟩
   case measure => simp [intOf]; omega
  ·obtain rfl : k = 32 := by omega
   rw [List.take_of_length_le (by rw [HL.out]; exact Nat.le_refl _), ← HEN.out]
   go_wp2
   go_ret
   exact ⟨rfl, hk3⟩
end Go.Proofs.YtgcikpgcoemfnaaGreat.Ri
namespace Go.Proofs.YtgcikpgcoemfnaaGreat.Fi
open Go.RowKit Cd
theorem filebytes_is (p : List Int) (hl : p.length = 4) (w : World) :
  Calls Tryz.prog 33 #[pv p] w fun e w' => e = .returned (.string (str (enc p))) ∧ Keep Nob w w' := by
 have hen : enc p = pre p ++ [bK (pre p), 0, 0] := rfl
 have hpl := iV p
 obtain ⟨a0, a1, a2, a3, rfl⟩ := gA hl
 obtain ⟨y0, hy0⟩ : ∃ y, IntKind.u8.wrap a0 = y := ⟨_, rfl⟩
 obtain ⟨y1, hy1⟩ : ∃ y, IntKind.u8.wrap a1 = y := ⟨_, rfl⟩
 obtain ⟨y2, hy2⟩ : ∃ y, IntKind.u8.wrap a2 = y := ⟨_, rfl⟩
 obtain ⟨y3, hy3⟩ : ∃ y, IntKind.u8.wrap a3 = y := ⟨_, rfl⟩
 have hcv := fun (W : World) c => df W (pre [a0, a1, a2, a3]) [.int .u8 y0, .int .u8 y1, .int .u8 y2, .int .u8 y3, .int .u8 179] 5 c (by subst hy0 hy1 hy2 hy3; simp only [eH]; rfl) rfl
 generalize hE : enc [a0, a1, a2, a3] = E at *
 generalize hQ : pre [a0, a1, a2, a3] = Q0 at *
 have sb := fun W => cT Q0 [bK Q0, 0, 0] (by rw [hpl]; exact (by decide : 5 + 3 ≤ 100000)) W
 rw [← hen] at sb
 have hq : (((bK Q0).toNat : Nat) : Int) = ((tot Q0 % 256 : Nat) : Int) := by
  rw [bK, UInt8.toNat_ofNat', Nat.mod_mod]
 have HR := aa (fun W => jV (l := Q0) (w := W) (by omega) ((tot Q0 % 256 : Nat) : Int) rfl)
 generalize ((tot Q0 % 256 : Nat) : Int) = q at *
 have HCW := aa (fun (W : World) c => df W [bK Q0, 0, 0] [.int .u8 q, .int .u8 0, .int .u8 0] 3 c (by rw [← hq]; rfl) rfl)
 have HCV := aa hcv
 clear hen hpl hE hQ hl hcv hq
 generalize str [bK Q0, 0, 0] = z at *
 generalize str Q0 = S0 at *
 simp only [pv, ab, List.map_cons, List.map_nil]
 go_enter Tryz.func33, Tryz.ntmps33
 go_wp2_with (refine af rfl 64 _ rfl _ rfl ?_; intro w1 hb hk hs; clear hs; have hb : Blk w1 w.heap.size 64 (ab [a0, a1, a2, a3]) := hb; have hcv := HCV.out w1; obtain ⟨c0, c1, c2, c3⟩ := dD hb)
 have hk2 := hk.alloc (.cells #[.int .u8 y0, .int .u8 y1, .int .u8 y2, .int .u8 y3, .int .u8 179] 5)
 clear hb hk hcv HCV c0 c1 c2 c3 hy0 hy1 hy2 hy3
 generalize w1.alloc (.cells #[.int .u8 y0, .int .u8 y1, .int .u8 y2, .int .u8 y3, .int .u8 179] 5) = w2 at *
 refine (HR.out _).mono ?_; rintro e w9 ⟨rfl, rfl⟩
 have cv := HCW.out w2
 have hk9 := hk2.alloc (.cells #[.int .u8 q, .int .u8 0, .int .u8 0] 5)
 clear hk2 HCW
 go_wp2
 go_ret
 exact ⟨rfl, hk9⟩
end Go.Proofs.YtgcikpgcoemfnaaGreat.Fi
