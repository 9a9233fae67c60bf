/- Texts Pl8, FilM, packed. -/
import Derived.BigRegion
import Derived.Test.YtifigjccokpcfaaGreatPk0
import Derived.Test.YtifigjccokpcfaaGreatPbx0
import Derived.Test.YtifigjccokpcfaaGreatPk3
import Derived.Test.YtifigjccokpcfaaGreatPk5
import Derived.Test.YtifigjccokpcfaaGreatPk6
import Derived.Test.YtifigjccokpcfaaGreatPk9
import Derived.Test.YtifigjccokpcfaaGreatPk11
import Derived.Test.YtifigjccokpcfaaGreatPk2
import Derived.Test.YtifigjccokpcfaaGreatPk10
namespace Go.Proofs.YtifigjccokpcfaaGreat.Pn
open Go.RowKit Co
set_option linter.unusedVariables false
set_option linter.unusedSimpArgs false
def fdl (l : List Int) : List Int := mk 8 fun j => l.getD j 0 % 256 % 13
def lv (l : List Int) (k : Nat) : List Int := Cd.fpt [1, 0, 0, 0, 0, 0, 0, 0] (fdl l) k
theorem fdl_len (l : List Int) : (fdl l).length = 8 := by simp [fdl]
theorem fdl_at (l : List Int) {k : Nat} (hk : k < 8) : (fdl l).getD k 0 = l.getD k 0 % 256 % 13 := by
  unfold fdl
  rw [List.getD_eq_getElem?_getD, mk_get hk]
  rfl
theorem lv_len (l : List Int) {k : Nat} (hk : k ≤ 8) : (lv l k).length = 16 := Cd.fpt_len _ _ rfl (fdl_len l) k hk
theorem lv_set (l : List Int) {k : Nat} (hk : k < 8) : (lv l k).set (8 + k) (l.getD k 0 % 256 % 13) = lv l (k + 1) := by
  rw [← fdl_at l hk]
  exact Cd.fpt_set _ _ rfl (fdl_len l) k hk
theorem lv_ok (l : List Int) (k : Nat) : Cd.okd (lv l k) = true := by
  have e : lv l k = 1 :: 0 :: 0 :: 0 :: 0 :: 0 :: 0 :: 0 :: ((fdl l).take k ++ List.replicate (8 - k) 0) := by
    unfold lv Cd.fpt
    rw [List.append_assoc]
    rfl
  have hf : Cd.fdsOk ((fdl l).take k ++ List.replicate (8 - k) 0) = true := by
    unfold Cd.fdsOk
    rw [List.all_eq_true]
    intro x hx
    rcases List.mem_append.1 hx with hx | hx
    · have := List.mem_of_mem_take hx
      unfold fdl at this
      obtain ⟨j, _, rfl⟩ := List.mem_map.1 this
      exact decide_eq_true (by omega)
    · rw [List.eq_of_mem_replicate hx]
      decide
  rw [e]
  generalize (fdl l).take k ++ List.replicate (8 - k) 0 = t at *
  have hs : Cd.setsOk 0 0 0 0 = true := by decide +kernel
  unfold Cd.okd
  show (Cd.inn 1 1 3 && Cd.inn 0 0 8 && Cd.inn 0 0 7 && Cd.inn 0 0 255 && Cd.setsOk 0 0 0 0 && Cd.fdsOk t && (if (1 : Int) == 2 then Cd.fdsNone t && (0 : Int) == 0 else (0 : Int) == 0)) = true
  rw [hs, hf]
  rfl
set_option maxRecDepth 100000 in
set_option maxHeartbeats 4000000 in
theorem lproc_is (A : Option Addr) (n c : Nat) (l : List Int) (w : World) (hr : Reads w A n (ints l)) :
    Calls Tryz.prog 12 #[.slice A n c] w fun e w' => ∃ k, k ≤ 8 ∧ e = .returned (.agg (ints (lv l k)).toArray) ∧ Keep Nob w w' := by
  have hl : l.length = n := by have := hr.1; rwa [ints_len] at this
  have hz0 : Blk ((w.alloc (.cells (ints Cd.noP).toArray 39)).alloc (.cells (ints (lv l 0)).toArray 39)) w.heap.size 39 (ints Cd.noP) := (Blk.new w 39 (ints Cd.noP)).alloc _
  have hp0 : Blk ((w.alloc (.cells (ints Cd.noP).toArray 39)).alloc (.cells (ints (lv l 0)).toArray 39)) (w.heap.size + 1) 39 (ints (lv l 0)) := by
    have := Blk.new (w.alloc (.cells (ints Cd.noP).toArray 39)) 39 (ints (lv l 0))
    rw [show (w.alloc (.cells (ints Cd.noP).toArray 39)).heap.size = w.heap.size + 1 from by simp] at this
    exact this
  have hk0 : Keep Nob w ((w.alloc (.cells (ints Cd.noP).toArray 39)).alloc (.cells (ints (lv l 0)).toArray 39)) := ((Keep.refl Nob w).alloc _).alloc _
  have HR := Lib.hid hr
  have HL := Lib.hid hl
  clear hr hl
  go_enter Tryz.func12, Tryz.ntmps12
  go_wp2_with fail
  have hne : w.heap.size ≠ w.heap.size + 1 := by omega
  rw [show (ints Cd.noP).toArray = #[.int .i64 0, .int .i64 0, .int .i64 0, .int .i64 0, .int .i64 0, .int .i64 0, .int .i64 0, .int .i64 0, .int .i64 0, .int .i64 0, .int .i64 0, .int .i64 0, .int .i64 0, .int .i64 0, .int .i64 0, .int .i64 0] from rfl, show (ints (lv l 0)).toArray = #[.int .i64 1, .int .i64 0, .int .i64 0, .int .i64 0, .int .i64 0, .int .i64 0, .int .i64 0, .int .i64 0, .int .i64 0, .int .i64 0, .int .i64 0, .int .i64 0, .int .i64 0, .int .i64 0, .int .i64 0, .int .i64 0] from rfl] at hz0 hp0 hk0
  generalize ((w.alloc (.cells #[.int .i64 0, .int .i64 0, .int .i64 0, .int .i64 0, .int .i64 0, .int .i64 0, .int .i64 0, .int .i64 0, .int .i64 0, .int .i64 0, .int .i64 0, .int .i64 0, .int .i64 0, .int .i64 0, .int .i64 0, .int .i64 0] 39)).alloc (.cells #[.int .i64 1, .int .i64 0, .int .i64 0, .int .i64 0, .int .i64 0, .int .i64 0, .int .i64 0, .int .i64 0, .int .i64 0, .int .i64 0, .int .i64 0, .int .i64 0, .int .i64 0, .int .i64 0, .int .i64 0, .int .i64 0] 39)) = w1 at *
  have hge : w.heap.size ≤ w.heap.size + 1 := by omega
  have hg0 : w.heap.size ≤ w.heap.size := Nat.le_refl _
  obtain ⟨g, hg⟩ : ∃ g, w.heap.size + 1 = g := ⟨_, rfl⟩
  obtain ⟨r, hr⟩ : ∃ r, w.heap.size = r := ⟨_, rfl⟩
  rw [hg] at hp0 hne hge ⊢
  rw [hr] at hz0 hne ⊢
  have HG := Lib.hid (And.intro hg hr)
  clear hg hr hg0
  go_loopw [4] (fun s4 wx => ∃ k : Nat, k ≤ 8 ∧ k ≤ n ∧ s4 = .int .i64 k ∧ Blk wx r 39 (ints Cd.noP) ∧ Blk wx g 39 (ints (lv l k)) ∧ Keep Nob w wx) (fun t _ => 8 - (intOf t).toNat)
  case atStart => exact ⟨0, by omega, by omega, rfl, hz0, hp0, hk0⟩
  case round =>
    clear hz0 hp0 hk0
    obtain ⟨k, h8, hkn, rfl, hz, hp, hK⟩ := hrel
    by_cases hlt : k < n
    · by_cases hl8 : k < 8
      · obtain ⟨b, off, hA⟩ := Cd.reads_int_lit (HR.out.nob hK) (by omega)
        subst hA
        have hc := Cd.reads_int (HR.out.nob hK) hlt
        obtain ⟨y, hy⟩ : ∃ y, l.getD k 0 = y := ⟨_, rfl⟩
        rw [hy] at hc
        obtain ⟨m, hm⟩ : ∃ m, bits .and .i64 y 255 = m := ⟨_, rfl⟩
        have hm2 : m = y % 256 := by rw [← hm]; exact i64_mask y 8 (by decide)
        obtain ⟨v, hv⟩ : ∃ v, m.tmod 13 = v := ⟨_, rfl⟩
        have hv2 : v = l.getD k 0 % 256 % 13 := by rw [← hv, hy, ← hm2, Int.tmod_eq_emod_of_nonneg (by omega)]
        obtain ⟨old, ho⟩ : ∃ old, (ints (lv l k))[8 + k]? = some old := ⟨_, List.getElem?_eq_getElem (by rw [ints_len, lv_len l h8]; omega)⟩
        have hcell := hp.cell (8 + k)
        rw [ho] at hcell
        have hfr := hp.frozen (8 + k)
        have hp2 : Blk (wr.setCell ⟨g, 8 + k, none⟩ (.int .i64 v)) g 39 (ints (lv l (k + 1))) := by
          have := hp.setCell (8 + k) (.int .i64 v)
          rw [← lv_set l hl8, ← hv2]
          unfold ints at this ⊢
          rw [List.map_set]
          exact this
        have ks : Keep (· = g) wr (wr.setCell ⟨g, 8 + k, none⟩ (.int .i64 v)) := (Keep.refl _ _).setCell _ _ (fun _ => rfl)
        have hz2 := hz.keep ks (by omega)
        have hK2 : Keep Nob w (wr.setCell ⟨g, 8 + k, none⟩ (.int .i64 v)) := hK.trans ks (fun b hb e => by have e : b = g := e; have := HG.out; omega)
        have HF := Lib.hid (And.intro hz2 (And.intro hp2 hK2))
        clear hz hp hK hm2 hv2 ho hp2 ks hz2 hK2 hy
        go_wp2_with fail
        go_roundw
        case rel => exact ⟨k + 1, by omega, by omega, by go_num, HF.out.1, HF.out.2.1, HF.out.2.2⟩
        case measure => simp [intOf]; omega
      · go_wp2_with (first
          | (refine flatP.wpList_ld rfl rfl rfl (cellsI (lv_len l h8)) hp ?_)
          | (refine flatP.wpList_st rfl rfl rfl rfl (cellsI (lv_len l h8)) (cellsI rfl) hz ?_; intro w4 hb4 hk4 hs4; clear hs4))
        refine bodyPost_ret (flatP.results_one rfl _ (cellsI (lv_len l h8)) rfl hb4) rfl ?_
        exact ⟨k, h8, rfl, hK.trans hk4 (fun b hb e => by have e : b = r := e; have := HG.out; omega)⟩
    · go_wp2_with (first
          | (refine flatP.wpList_ld rfl rfl rfl (cellsI (lv_len l h8)) hp ?_)
          | (refine flatP.wpList_st rfl rfl rfl rfl (cellsI (lv_len l h8)) (cellsI rfl) hz ?_; intro w4 hb4 hk4 hs4; clear hs4))
      refine bodyPost_ret (flatP.results_one rfl _ (cellsI (lv_len l h8)) rfl hb4) rfl ?_
      exact ⟨k, h8, rfl, hK.trans hk4 (fun b hb e => by have e : b = r := e; have := HG.out; omega)⟩
end Go.Proofs.YtifigjccokpcfaaGreat.Pn
namespace Go.Proofs.YtifigjccokpcfaaGreat.Fi
open Go.RowKit Cd
set_option linter.unusedVariables false
set_option linter.unusedSimpArgs false
/-- What is made of a number. -/
def made (n : Int) : List Int :=
  [n % 16777216 % 3 + 1, (if n % 16777216 % 3 + 1 = 3 then 0 else n % 16777216 / 16 % 8), n % 16777216 / 256 % 64 + 1, n % 16777216 / 32768 % 2]
theorem made_len (n : Int) : (made n).length = 4 := rfl
theorem made_ok (n : Int) : okd (made n) = true := by
  have h0 : 0 ≤ n % 16777216 := by omega
  unfold made okd
  generalize n % 16777216 = x at *
  simp only [List.getD_cons_succ, List.getD_cons_zero]
  rw [show inn (x % 3 + 1) 1 3 = true from decide_eq_true (by omega), show inn (x / 256 % 64 + 1) 1 64 = true from decide_eq_true (by omega), show inn (x / 32768 % 2) 0 1 = true from decide_eq_true (by omega), Bool.and_true, Bool.and_true, Bool.true_and]
  unfold last
  split
  · rfl
  · exact decide_eq_true (by omega)
set_option maxHeartbeats 4000000 in
theorem made_is (n : Int) (w : World) (R : List Int) (hR : made n = R) :
    Calls Tryz.prog 14 #[.int .i64 n] w fun e w' => e = .returned (pv R) ∧ Keep Nob w w' := by
  have hm : bits .and .i64 n 16777215 = n % 16777216 := i64_mask n 24 (by decide)
  have x0 : 0 ≤ n % 16777216 := by omega
  have x1 : n % 16777216 < 16777216 := by omega
  unfold made at hR
  generalize n % 16777216 = x at *
  have hr0 : Blk (w.alloc (.cells #[.int .i64 0, .int .i64 0, .int .i64 0, .int .i64 0] 43)) w.heap.size 43 (ints noP) := Blk.new w 43 (ints noP)
  have hk0 : Keep Nob w (w.alloc (.cells #[.int .i64 0, .int .i64 0, .int .i64 0, .int .i64 0] 43)) := (Keep.refl Nob w).alloc _
  have s1 : (w.alloc (.cells #[.int .i64 0, .int .i64 0, .int .i64 0, .int .i64 0] 43)).heap.size = w.heap.size + 1 := by simp
  have hne : w.heap.size ≠ w.heap.size + 1 := by omega
  have hle : w.heap.size ≤ w.heap.size + 1 := by omega
  have hp1 : Blk ((w.alloc (.cells #[.int .i64 0, .int .i64 0, .int .i64 0, .int .i64 0] 43)).alloc (.cells #[.int .i64 (x % 3 + 1), .int .i64 (x / 16 % 8), .int .i64 (x / 256 % 64 + 1), .int .i64 (x / 32768 % 2)] 43)) (w.heap.size + 1) 43 (ints [x % 3 + 1, x / 16 % 8, x / 256 % 64 + 1, x / 32768 % 2]) := by
    rw [← s1]; exact Blk.new _ _ _
  have hr1 := hr0.alloc (.cells #[.int .i64 (x % 3 + 1), .int .i64 (x / 16 % 8), .int .i64 (x / 256 % 64 + 1), .int .i64 (x / 32768 % 2)] 43)
  have hk1 := hk0.alloc (.cells #[.int .i64 (x % 3 + 1), .int .i64 (x / 16 % 8), .int .i64 (x / 256 % 64 + 1), .int .i64 (x / 32768 % 2)] 43)
  by_cases h3 : x % 3 + 1 = 3
  · rw [if_pos h3, h3] at hR
    rw [h3] at hp1
    have hp2 : Blk ((w.alloc (.cells #[.int .i64 0, .int .i64 0, .int .i64 0, .int .i64 0] 43)).alloc (.cells #[.int .i64 3, .int .i64 0, .int .i64 (x / 256 % 64 + 1), .int .i64 (x / 32768 % 2)] 43)) (w.heap.size + 1) 43 (ints R) := by
      rw [← s1, ← hR]; exact Blk.new _ _ _
    have hr2 := hr0.alloc (.cells #[.int .i64 3, .int .i64 0, .int .i64 (x / 256 % 64 + 1), .int .i64 (x / 32768 % 2)] 43)
    have hk2 := hk0.alloc (.cells #[.int .i64 3, .int .i64 0, .int .i64 (x / 256 % 64 + 1), .int .i64 (x / 32768 % 2)] 43)
    have hRl : R.length = 4 := by rw [← hR]; rfl
    have fr := hp1.frozen 1
    have cc : ((w.alloc (.cells #[.int .i64 0, .int .i64 0, .int .i64 0, .int .i64 0] 43)).alloc (.cells #[.int .i64 3, .int .i64 (x / 16 % 8), .int .i64 (x / 256 % 64 + 1), .int .i64 (x / 32768 % 2)] 43)).cell? ⟨w.heap.size + 1, 1, none⟩ = some (.int .i64 (x / 16 % 8)) := hp1.cell 1
    have c0 : ((w.alloc (.cells #[.int .i64 0, .int .i64 0, .int .i64 0, .int .i64 0] 43)).alloc (.cells #[.int .i64 3, .int .i64 (x / 16 % 8), .int .i64 (x / 256 % 64 + 1), .int .i64 (x / 32768 % 2)] 43)).cell? ⟨w.heap.size + 1, 0, none⟩ = some (.int .i64 3) := hp1.cell 0
    clear hR hr0 hk0 s1
    go_enter Tryz.func14, Tryz.ntmps14
    go_wp2_with (first | (refine wpList_ld rfl (.tmp 3) rfl (w.heap.size + 1) R rfl hRl hp2 ?_) | (refine wpList_st rfl (.tmp 2) _ rfl w.heap.size R noP rfl rfl hRl rfl hr2 ?_; intro w3 hr3 hk3 hs3; clear hs3))
    (try simp only [Exit.inBlock, Exit.then])
    refine bodyPost_ret (v := pv R) (results_one rfl _ _ w.heap.size R hRl rfl hr3) rfl ?_
    exact ⟨rfl, hk2.trans hk3 (fun b hb e => by have h4 : b = w.heap.size := e; omega)⟩
  · rw [if_neg h3] at hR
    have e3 : (x % 3 + 1 == 3) = false := by simpa using h3
    rw [hR] at hp1
    have hRl : R.length = 4 := by rw [← hR]; rfl
    have c0 : ((w.alloc (.cells #[.int .i64 0, .int .i64 0, .int .i64 0, .int .i64 0] 43)).alloc (.cells #[.int .i64 (x % 3 + 1), .int .i64 (x / 16 % 8), .int .i64 (x / 256 % 64 + 1), .int .i64 (x / 32768 % 2)] 43)).cell? ⟨w.heap.size + 1, 0, none⟩ = some (.int .i64 (x % 3 + 1)) := by rw [hp1.cell, ← hR]; rfl
    clear hR hr0 hk0 s1
    go_enter Tryz.func14, Tryz.ntmps14
    go_wp2_with (first | (refine wpList_ld rfl (.tmp 3) rfl (w.heap.size + 1) R rfl hRl hp1 ?_) | (refine wpList_st rfl (.tmp 2) _ rfl w.heap.size R noP rfl rfl hRl rfl hr1 ?_; intro w3 hr3 hk3 hs3; clear hs3))
    (try simp only [Exit.inBlock, Exit.then])
    refine bodyPost_ret (v := pv R) (results_one rfl _ _ w.heap.size R hRl rfl hr3) rfl ?_
    exact ⟨rfl, hk1.trans hk3 (fun b hb e => by have h4 : b = w.heap.size := e; omega)⟩
end Go.Proofs.YtifigjccokpcfaaGreat.Fi
