/- The walk of SlotFields. -/
import Derived.Test.YtabphdfagkjnjaaLaw11a
namespace Go.Proofs.Ytabphdfagkjnjaa
open Go.RowKit
set_option linter.unusedVariables false
set_option linter.unusedSimpArgs false
def baseP : List Int := [1, 8, 7, 0, 65534, 2, 4, 8, 0, 0, 0, 0, 0, 0, 0, 12]
def zeroP : List Int := [1, 8, 7, 0, 65534, 2, 4, 8, 0, 0, 0, 0, 0, 0, 0, 0]
theorem base_ok : okd baseP = true := by decide
set_option maxHeartbeats 16000000 in
set_option maxRecDepth 100000 in
theorem SlotFields_in (w : World) (a0 a1 : Int) :
    Calls Try.prog 3 #[.int .i64 a0, .int .i64 a1] w fun e w' => e = .returned (.bool true) ∧ Below w.heap.size w w' := by
  have hok := fun w => ok_is baseP rfl (wf_ok rfl base_ok) w true base_ok
  simp only [pv] at hok
  have HOK := Lib.hid hok
  have HENC := Lib.hid (fun P hl hw w h => encode_is P hl hw w false h)
  have HOK2 := Lib.hid (fun P hl hw w h => ok_is P hl hw w false h)
  clear hok
  obtain ⟨z, hz⟩ : ∃ z, a1 % 256 = z := ⟨_, rfl⟩
  obtain ⟨y, hy⟩ : ∃ y, z + 1 = y := ⟨_, rfl⟩
  have y0 : 1 ≤ y := by omega
  have y1 : y ≤ 256 := by omega
  obtain ⟨i, hi, hyi⟩ : ∃ i : Nat, i < 8 ∧ y % 8 = (i : Int) := ⟨(y % 8).toNat, by omega, by omega⟩
  have hj : a0 % 16 = 0 ∨ a0 % 16 = 1 ∨ a0 % 16 = 2 ∨ a0 % 16 = 3 ∨ a0 % 16 = 4 ∨ a0 % 16 = 5 ∨ a0 % 16 = 6 ∨ a0 % 16 = 7 ∨ a0 % 16 = 8 ∨ a0 % 16 = 9 ∨ a0 % 16 = 10 ∨ a0 % 16 = 11 ∨ a0 % 16 = 12 ∨ a0 % 16 = 13 ∨ a0 % 16 = 14 ∨ a0 % 16 = 15 := by omega
  have HJ := Lib.hid hj
  clear hj
  have hb0 : Blk (w.alloc (.cells #[.int .i64 0, .int .i64 0, .int .i64 0, .int .i64 0, .int .i64 0, .int .i64 0, .int .i64 0, .int .i64 0, .int .i64 0, .int .i64 0, .int .i64 0, .int .i64 0, .int .i64 0, .int .i64 0, .int .i64 0, .int .i64 0] 24)) w.heap.size 24 (ints noP) := Blk.new w 24 (ints noP)
  have K0 := (Keep.refl Nob w).alloc (.cells #[.int .i64 0, .int .i64 0, .int .i64 0, .int .i64 0, .int .i64 0, .int .i64 0, .int .i64 0, .int .i64 0, .int .i64 0, .int .i64 0, .int .i64 0, .int .i64 0, .int .i64 0, .int .i64 0, .int .i64 0, .int .i64 0] 24)
  go_enter Try.func3, Try.ntmps3
  go_wp2_with (first | (refine wpList_st rfl (.tmp 5) _ rfl w.heap.size zeroP noP rfl rfl rfl rfl hb0 ?_; intro w1 hp1 hk1 hs1; clear hs1; have fr := hp1.frozen 15; have cc : w1.cell? ⟨w.heap.size, 15, none⟩ = some (.int .i64 0) := hp1.cell 15; have hp2 : Blk (w1.setCell ⟨w.heap.size, 15, none⟩ (.int .i64 12)) w.heap.size 24 (ints baseP) := hp1.setCell 15 (.int .i64 12)) | (refine wpList_ld rfl (.tmp 5) rfl w.heap.size baseP rfl rfl hp2 ?_))
  have K2 : Keep Nob w (w1.setCell ⟨w.heap.size, 15, none⟩ (.int .i64 12)) := (K0.trans hk1 (fun b hb e => by have h3 : b = w.heap.size := e; omega)).setCell ⟨w.heap.size, 15, none⟩ _ (fun h => absurd h (Nat.lt_irrefl _))
  clear K0 hk1 hp1 fr cc hb0
  generalize w1.setCell ⟨w.heap.size, 15, none⟩ (.int .i64 12) = w2 at *
  refine (HOK.out _).mono ?_; rintro e w3 ⟨rfl, k3⟩
  have hp3 := hp2.nob k3
  have K3 := K2.nobt k3
  clear hp2 K2 k3 HOK
  have gl : w.heap.size ≤ w.heap.size := Nat.le_refl _
  generalize hgp : w.heap.size = gp at *
  have lt3 := hp3.lt
  have HN : ∀ c v, Keep Nob w (w3.setCell ⟨gp, c, none⟩ (.int .i64 v)) := fun c v => K3.setCell ⟨gp, c, none⟩ _ (fun h => absurd h (by show ¬ gp < w.heap.size; omega))
  clear K3
  rcases HJ.out with hj | hj | hj | hj | hj | hj | hj | hj | hj | hj | hj | hj | hj | hj | hj | hj
  · have hno : okd [3 + y, 8, 7, 0, 65534, 2, 4, 8, 0, 0, 0, 0, 0, 0, 0, 12] = false := by
      cases h : okd [3 + y, 8, 7, 0, 65534, 2, 4, 8, 0, 0, 0, 0, 0, 0, 0, 12] with
      | false => rfl
      | true =>
        exfalso
        have B := (okd_bounds h).s
        simp at B
        omega
    have hwf : ∀ x ∈ ([3 + y, 8, 7, 0, 65534, 2, 4, 8, 0, 0, 0, 0, 0, 0, 0, 12] : List Int), Wf x := fun x hx => by
      simp only [List.mem_cons, List.not_mem_nil, or_false] at hx
      rcases hx with rfl | rfl | rfl | rfl | rfl | rfl | rfl | rfl | rfl | rfl | rfl | rfl | rfl | rfl | rfl | rfl <;> exact ⟨by omega, by omega⟩
    have hlp : ([3 + y, 8, 7, 0, 65534, 2, 4, 8, 0, 0, 0, 0, 0, 0, 0, 12] : List Int).length = 16 := rfl
    have fr := hp3.frozen 0
    have cc : w3.cell? ⟨gp, 0, none⟩ = some (.int .i64 1) := hp3.cell 0
    have hp4 : Blk (w3.setCell ⟨gp, 0, none⟩ (.int .i64 (3 + y))) gp 24 (ints [3 + y, 8, 7, 0, 65534, 2, 4, 8, 0, 0, 0, 0, 0, 0, 0, 12]) := hp3.setCell 0 (.int .i64 (3 + y))
    have K4 := HN (0) (3 + y)
    have he := fun w => HENC.out [3 + y, 8, 7, 0, 65534, 2, 4, 8, 0, 0, 0, 0, 0, 0, 0, 12] hlp hwf w hno
    have ho := fun w => HOK2.out [3 + y, 8, 7, 0, 65534, 2, 4, 8, 0, 0, 0, 0, 0, 0, 0, 12] hlp hwf w hno
    simp only [pv] at he ho
    have HE := Lib.hid he
    have HO := Lib.hid ho
    have HLP := Lib.hid hlp
    clear he ho hno hwf hp3 HN hlp
    go_wp2_with (refine wpList_ld rfl (.tmp 5) rfl gp [3 + y, 8, 7, 0, 65534, 2, 4, 8, 0, 0, 0, 0, 0, 0, 0, 12] rfl HLP.out hp4 ?_)
    refine (HE.out _).mono ?_; rintro e w5 ⟨x, rfl, rfl, k5⟩
    have hp5 := hp4.nob k5
    have K5 := K4.nobt k5
    clear hp4 K4 k5 fr cc
    go_wp2_with (refine wpList_ld rfl (.tmp 5) rfl gp [3 + y, 8, 7, 0, 65534, 2, 4, 8, 0, 0, 0, 0, 0, 0, 0, 12] rfl HLP.out hp5 ?_)
    refine (HO.out _).mono ?_; rintro e w6 ⟨rfl, k6⟩
    have K6 := K5.nobt k6
    go_wp2_with fail
    refine (awake_is _).mono ?_; rintro e w7 ⟨rfl, k7⟩
    have K7 := K6.nobt k7
    go_wp2
    go_ret
    exact ⟨rfl, K7.below (by omega) (fun _ _ f => f)⟩
  · have hno : okd [0, 8, 7, 0, 65534, 2, 4, 8, 0, 0, 0, 0, 0, 0, 0, 12] = false := by
      decide
    have hwf : ∀ x ∈ ([0, 8, 7, 0, 65534, 2, 4, 8, 0, 0, 0, 0, 0, 0, 0, 12] : List Int), Wf x := fun x hx => by
      simp only [List.mem_cons, List.not_mem_nil, or_false] at hx
      rcases hx with rfl | rfl | rfl | rfl | rfl | rfl | rfl | rfl | rfl | rfl | rfl | rfl | rfl | rfl | rfl | rfl <;> exact ⟨by omega, by omega⟩
    have hlp : ([0, 8, 7, 0, 65534, 2, 4, 8, 0, 0, 0, 0, 0, 0, 0, 12] : List Int).length = 16 := rfl
    have fr := hp3.frozen 0
    have cc : w3.cell? ⟨gp, 0, none⟩ = some (.int .i64 1) := hp3.cell 0
    have hp4 : Blk (w3.setCell ⟨gp, 0, none⟩ (.int .i64 (0))) gp 24 (ints [0, 8, 7, 0, 65534, 2, 4, 8, 0, 0, 0, 0, 0, 0, 0, 12]) := hp3.setCell 0 (.int .i64 (0))
    have K4 := HN (0) (0)
    have he := fun w => HENC.out [0, 8, 7, 0, 65534, 2, 4, 8, 0, 0, 0, 0, 0, 0, 0, 12] hlp hwf w hno
    have ho := fun w => HOK2.out [0, 8, 7, 0, 65534, 2, 4, 8, 0, 0, 0, 0, 0, 0, 0, 12] hlp hwf w hno
    simp only [pv] at he ho
    have HE := Lib.hid he
    have HO := Lib.hid ho
    have HLP := Lib.hid hlp
    clear he ho hno hwf hp3 HN hlp
    go_wp2_with (refine wpList_ld rfl (.tmp 5) rfl gp [0, 8, 7, 0, 65534, 2, 4, 8, 0, 0, 0, 0, 0, 0, 0, 12] rfl HLP.out hp4 ?_)
    refine (HE.out _).mono ?_; rintro e w5 ⟨x, rfl, rfl, k5⟩
    have hp5 := hp4.nob k5
    have K5 := K4.nobt k5
    clear hp4 K4 k5 fr cc
    go_wp2_with (refine wpList_ld rfl (.tmp 5) rfl gp [0, 8, 7, 0, 65534, 2, 4, 8, 0, 0, 0, 0, 0, 0, 0, 12] rfl HLP.out hp5 ?_)
    refine (HO.out _).mono ?_; rintro e w6 ⟨rfl, k6⟩
    have K6 := K5.nobt k6
    go_wp2_with fail
    refine (awake_is _).mono ?_; rintro e w7 ⟨rfl, k7⟩
    have K7 := K6.nobt k7
    go_wp2
    go_ret
    exact ⟨rfl, K7.below (by omega) (fun _ _ f => f)⟩
  · have hno : okd [1, 8 + y, 7, 0, 65534, 2, 4, 8, 0, 0, 0, 0, 0, 0, 0, 12] = false := by
      cases h : okd [1, 8 + y, 7, 0, 65534, 2, 4, 8, 0, 0, 0, 0, 0, 0, 0, 12] with
      | false => rfl
      | true =>
        exfalso
        have B := (okd_bounds h).pa
        simp at B
        omega
    have hwf : ∀ x ∈ ([1, 8 + y, 7, 0, 65534, 2, 4, 8, 0, 0, 0, 0, 0, 0, 0, 12] : List Int), Wf x := fun x hx => by
      simp only [List.mem_cons, List.not_mem_nil, or_false] at hx
      rcases hx with rfl | rfl | rfl | rfl | rfl | rfl | rfl | rfl | rfl | rfl | rfl | rfl | rfl | rfl | rfl | rfl <;> exact ⟨by omega, by omega⟩
    have hlp : ([1, 8 + y, 7, 0, 65534, 2, 4, 8, 0, 0, 0, 0, 0, 0, 0, 12] : List Int).length = 16 := rfl
    have fr := hp3.frozen 1
    have cc : w3.cell? ⟨gp, 1, none⟩ = some (.int .i64 8) := hp3.cell 1
    have hp4 : Blk (w3.setCell ⟨gp, 1, none⟩ (.int .i64 (8 + y))) gp 24 (ints [1, 8 + y, 7, 0, 65534, 2, 4, 8, 0, 0, 0, 0, 0, 0, 0, 12]) := hp3.setCell 1 (.int .i64 (8 + y))
    have K4 := HN (1) (8 + y)
    have he := fun w => HENC.out [1, 8 + y, 7, 0, 65534, 2, 4, 8, 0, 0, 0, 0, 0, 0, 0, 12] hlp hwf w hno
    have ho := fun w => HOK2.out [1, 8 + y, 7, 0, 65534, 2, 4, 8, 0, 0, 0, 0, 0, 0, 0, 12] hlp hwf w hno
    simp only [pv] at he ho
    have HE := Lib.hid he
    have HO := Lib.hid ho
    have HLP := Lib.hid hlp
    clear he ho hno hwf hp3 HN hlp
    go_wp2_with (refine wpList_ld rfl (.tmp 5) rfl gp [1, 8 + y, 7, 0, 65534, 2, 4, 8, 0, 0, 0, 0, 0, 0, 0, 12] rfl HLP.out hp4 ?_)
    refine (HE.out _).mono ?_; rintro e w5 ⟨x, rfl, rfl, k5⟩
    have hp5 := hp4.nob k5
    have K5 := K4.nobt k5
    clear hp4 K4 k5 fr cc
    go_wp2_with (refine wpList_ld rfl (.tmp 5) rfl gp [1, 8 + y, 7, 0, 65534, 2, 4, 8, 0, 0, 0, 0, 0, 0, 0, 12] rfl HLP.out hp5 ?_)
    refine (HO.out _).mono ?_; rintro e w6 ⟨rfl, k6⟩
    have K6 := K5.nobt k6
    go_wp2_with fail
    refine (awake_is _).mono ?_; rintro e w7 ⟨rfl, k7⟩
    have K7 := K6.nobt k7
    go_wp2
    go_ret
    exact ⟨rfl, K7.below (by omega) (fun _ _ f => f)⟩
  · have hno : okd [1, 8, 7 + y, 0, 65534, 2, 4, 8, 0, 0, 0, 0, 0, 0, 0, 12] = false := by
      cases h : okd [1, 8, 7 + y, 0, 65534, 2, 4, 8, 0, 0, 0, 0, 0, 0, 0, 12] with
      | false => rfl
      | true =>
        exfalso
        have B := (okd_bounds h).g
        simp at B
        omega
    have hwf : ∀ x ∈ ([1, 8, 7 + y, 0, 65534, 2, 4, 8, 0, 0, 0, 0, 0, 0, 0, 12] : List Int), Wf x := fun x hx => by
      simp only [List.mem_cons, List.not_mem_nil, or_false] at hx
      rcases hx with rfl | rfl | rfl | rfl | rfl | rfl | rfl | rfl | rfl | rfl | rfl | rfl | rfl | rfl | rfl | rfl <;> exact ⟨by omega, by omega⟩
    have hlp : ([1, 8, 7 + y, 0, 65534, 2, 4, 8, 0, 0, 0, 0, 0, 0, 0, 12] : List Int).length = 16 := rfl
    have fr := hp3.frozen 2
    have cc : w3.cell? ⟨gp, 2, none⟩ = some (.int .i64 7) := hp3.cell 2
    have hp4 : Blk (w3.setCell ⟨gp, 2, none⟩ (.int .i64 (7 + y))) gp 24 (ints [1, 8, 7 + y, 0, 65534, 2, 4, 8, 0, 0, 0, 0, 0, 0, 0, 12]) := hp3.setCell 2 (.int .i64 (7 + y))
    have K4 := HN (2) (7 + y)
    have he := fun w => HENC.out [1, 8, 7 + y, 0, 65534, 2, 4, 8, 0, 0, 0, 0, 0, 0, 0, 12] hlp hwf w hno
    have ho := fun w => HOK2.out [1, 8, 7 + y, 0, 65534, 2, 4, 8, 0, 0, 0, 0, 0, 0, 0, 12] hlp hwf w hno
    simp only [pv] at he ho
    have HE := Lib.hid he
    have HO := Lib.hid ho
    have HLP := Lib.hid hlp
    clear he ho hno hwf hp3 HN hlp
    go_wp2_with (refine wpList_ld rfl (.tmp 5) rfl gp [1, 8, 7 + y, 0, 65534, 2, 4, 8, 0, 0, 0, 0, 0, 0, 0, 12] rfl HLP.out hp4 ?_)
    refine (HE.out _).mono ?_; rintro e w5 ⟨x, rfl, rfl, k5⟩
    have hp5 := hp4.nob k5
    have K5 := K4.nobt k5
    clear hp4 K4 k5 fr cc
    go_wp2_with (refine wpList_ld rfl (.tmp 5) rfl gp [1, 8, 7 + y, 0, 65534, 2, 4, 8, 0, 0, 0, 0, 0, 0, 0, 12] rfl HLP.out hp5 ?_)
    refine (HO.out _).mono ?_; rintro e w6 ⟨rfl, k6⟩
    have K6 := K5.nobt k6
    go_wp2_with fail
    refine (awake_is _).mono ?_; rintro e w7 ⟨rfl, k7⟩
    have K7 := K6.nobt k7
    go_wp2
    go_ret
    exact ⟨rfl, K7.below (by omega) (fun _ _ f => f)⟩
  · have hno : okd [1, 8, 7, y, 65534, 2, 4, 8, 0, 0, 0, 0, 0, 0, 0, 12] = false := by
      cases h : okd [1, 8, 7, y, 65534, 2, 4, 8, 0, 0, 0, 0, 0, 0, 0, 12] with
      | false => rfl
      | true =>
        exfalso
        unfold okd at h
        simp only [Bool.and_eq_true] at h
        have B := h.2
        simp at B
        omega
    have hwf : ∀ x ∈ ([1, 8, 7, y, 65534, 2, 4, 8, 0, 0, 0, 0, 0, 0, 0, 12] : List Int), Wf x := fun x hx => by
      simp only [List.mem_cons, List.not_mem_nil, or_false] at hx
      rcases hx with rfl | rfl | rfl | rfl | rfl | rfl | rfl | rfl | rfl | rfl | rfl | rfl | rfl | rfl | rfl | rfl <;> exact ⟨by omega, by omega⟩
    have hlp : ([1, 8, 7, y, 65534, 2, 4, 8, 0, 0, 0, 0, 0, 0, 0, 12] : List Int).length = 16 := rfl
    have fr := hp3.frozen 3
    have cc : w3.cell? ⟨gp, 3, none⟩ = some (.int .i64 0) := hp3.cell 3
    have hp4 : Blk (w3.setCell ⟨gp, 3, none⟩ (.int .i64 (y))) gp 24 (ints [1, 8, 7, y, 65534, 2, 4, 8, 0, 0, 0, 0, 0, 0, 0, 12]) := hp3.setCell 3 (.int .i64 (y))
    have K4 := HN (3) (y)
    have he := fun w => HENC.out [1, 8, 7, y, 65534, 2, 4, 8, 0, 0, 0, 0, 0, 0, 0, 12] hlp hwf w hno
    have ho := fun w => HOK2.out [1, 8, 7, y, 65534, 2, 4, 8, 0, 0, 0, 0, 0, 0, 0, 12] hlp hwf w hno
    simp only [pv] at he ho
    have HE := Lib.hid he
    have HO := Lib.hid ho
    have HLP := Lib.hid hlp
    clear he ho hno hwf hp3 HN hlp
    go_wp2_with (refine wpList_ld rfl (.tmp 5) rfl gp [1, 8, 7, y, 65534, 2, 4, 8, 0, 0, 0, 0, 0, 0, 0, 12] rfl HLP.out hp4 ?_)
    refine (HE.out _).mono ?_; rintro e w5 ⟨x, rfl, rfl, k5⟩
    have hp5 := hp4.nob k5
    have K5 := K4.nobt k5
    clear hp4 K4 k5 fr cc
    go_wp2_with (refine wpList_ld rfl (.tmp 5) rfl gp [1, 8, 7, y, 65534, 2, 4, 8, 0, 0, 0, 0, 0, 0, 0, 12] rfl HLP.out hp5 ?_)
    refine (HO.out _).mono ?_; rintro e w6 ⟨rfl, k6⟩
    have K6 := K5.nobt k6
    go_wp2_with fail
    refine (awake_is _).mono ?_; rintro e w7 ⟨rfl, k7⟩
    have K7 := K6.nobt k7
    go_wp2
    go_ret
    exact ⟨rfl, K7.below (by omega) (fun _ _ f => f)⟩
  · have hno : okd [1, 8, 7, 0, 65535 + y, 2, 4, 8, 0, 0, 0, 0, 0, 0, 0, 12] = false := by
      cases h : okd [1, 8, 7, 0, 65535 + y, 2, 4, 8, 0, 0, 0, 0, 0, 0, 0, 12] with
      | false => rfl
      | true =>
        exfalso
        have B := (okd_bounds h).pe
        simp at B
        omega
    have hwf : ∀ x ∈ ([1, 8, 7, 0, 65535 + y, 2, 4, 8, 0, 0, 0, 0, 0, 0, 0, 12] : List Int), Wf x := fun x hx => by
      simp only [List.mem_cons, List.not_mem_nil, or_false] at hx
      rcases hx with rfl | rfl | rfl | rfl | rfl | rfl | rfl | rfl | rfl | rfl | rfl | rfl | rfl | rfl | rfl | rfl <;> exact ⟨by omega, by omega⟩
    have hlp : ([1, 8, 7, 0, 65535 + y, 2, 4, 8, 0, 0, 0, 0, 0, 0, 0, 12] : List Int).length = 16 := rfl
    have fr := hp3.frozen 4
    have cc : w3.cell? ⟨gp, 4, none⟩ = some (.int .i64 65534) := hp3.cell 4
    have hp4 : Blk (w3.setCell ⟨gp, 4, none⟩ (.int .i64 (65535 + y))) gp 24 (ints [1, 8, 7, 0, 65535 + y, 2, 4, 8, 0, 0, 0, 0, 0, 0, 0, 12]) := hp3.setCell 4 (.int .i64 (65535 + y))
    have K4 := HN (4) (65535 + y)
    have he := fun w => HENC.out [1, 8, 7, 0, 65535 + y, 2, 4, 8, 0, 0, 0, 0, 0, 0, 0, 12] hlp hwf w hno
    have ho := fun w => HOK2.out [1, 8, 7, 0, 65535 + y, 2, 4, 8, 0, 0, 0, 0, 0, 0, 0, 12] hlp hwf w hno
    simp only [pv] at he ho
    have HE := Lib.hid he
    have HO := Lib.hid ho
    have HLP := Lib.hid hlp
    clear he ho hno hwf hp3 HN hlp
    go_wp2_with (refine wpList_ld rfl (.tmp 5) rfl gp [1, 8, 7, 0, 65535 + y, 2, 4, 8, 0, 0, 0, 0, 0, 0, 0, 12] rfl HLP.out hp4 ?_)
    refine (HE.out _).mono ?_; rintro e w5 ⟨x, rfl, rfl, k5⟩
    have hp5 := hp4.nob k5
    have K5 := K4.nobt k5
    clear hp4 K4 k5 fr cc
    go_wp2_with (refine wpList_ld rfl (.tmp 5) rfl gp [1, 8, 7, 0, 65535 + y, 2, 4, 8, 0, 0, 0, 0, 0, 0, 0, 12] rfl HLP.out hp5 ?_)
    refine (HO.out _).mono ?_; rintro e w6 ⟨rfl, k6⟩
    have K6 := K5.nobt k6
    go_wp2_with fail
    refine (awake_is _).mono ?_; rintro e w7 ⟨rfl, k7⟩
    have K7 := K6.nobt k7
    go_wp2
    go_ret
    exact ⟨rfl, K7.below (by omega) (fun _ _ f => f)⟩
  · have hno : okd [1, 8, 7, 0, 65534, 1, 4, 8, 0, 0, 0, 0, 0, 0, 0, 12] = false := by
      decide
    have hwf : ∀ x ∈ ([1, 8, 7, 0, 65534, 1, 4, 8, 0, 0, 0, 0, 0, 0, 0, 12] : List Int), Wf x := fun x hx => by
      simp only [List.mem_cons, List.not_mem_nil, or_false] at hx
      rcases hx with rfl | rfl | rfl | rfl | rfl | rfl | rfl | rfl | rfl | rfl | rfl | rfl | rfl | rfl | rfl | rfl <;> exact ⟨by omega, by omega⟩
    have hlp : ([1, 8, 7, 0, 65534, 1, 4, 8, 0, 0, 0, 0, 0, 0, 0, 12] : List Int).length = 16 := rfl
    have fr := hp3.frozen 5
    have cc : w3.cell? ⟨gp, 5, none⟩ = some (.int .i64 2) := hp3.cell 5
    have hp4 : Blk (w3.setCell ⟨gp, 5, none⟩ (.int .i64 (1))) gp 24 (ints [1, 8, 7, 0, 65534, 1, 4, 8, 0, 0, 0, 0, 0, 0, 0, 12]) := hp3.setCell 5 (.int .i64 (1))
    have K4 := HN (5) (1)
    have he := fun w => HENC.out [1, 8, 7, 0, 65534, 1, 4, 8, 0, 0, 0, 0, 0, 0, 0, 12] hlp hwf w hno
    have ho := fun w => HOK2.out [1, 8, 7, 0, 65534, 1, 4, 8, 0, 0, 0, 0, 0, 0, 0, 12] hlp hwf w hno
    simp only [pv] at he ho
    have HE := Lib.hid he
    have HO := Lib.hid ho
    have HLP := Lib.hid hlp
    clear he ho hno hwf hp3 HN hlp
    go_wp2_with (refine wpList_ld rfl (.tmp 5) rfl gp [1, 8, 7, 0, 65534, 1, 4, 8, 0, 0, 0, 0, 0, 0, 0, 12] rfl HLP.out hp4 ?_)
    refine (HE.out _).mono ?_; rintro e w5 ⟨x, rfl, rfl, k5⟩
    have hp5 := hp4.nob k5
    have K5 := K4.nobt k5
    clear hp4 K4 k5 fr cc
    go_wp2_with (refine wpList_ld rfl (.tmp 5) rfl gp [1, 8, 7, 0, 65534, 1, 4, 8, 0, 0, 0, 0, 0, 0, 0, 12] rfl HLP.out hp5 ?_)
    refine (HO.out _).mono ?_; rintro e w6 ⟨rfl, k6⟩
    have K6 := K5.nobt k6
    go_wp2_with fail
    refine (awake_is _).mono ?_; rintro e w7 ⟨rfl, k7⟩
    have K7 := K6.nobt k7
    go_wp2
    go_ret
    exact ⟨rfl, K7.below (by omega) (fun _ _ f => f)⟩
  · have hno : okd [1, 8, 7, 0, 65534, 512, 4, 8, 0, 0, 0, 0, 0, 0, 0, 12] = false := by
      decide
    have hwf : ∀ x ∈ ([1, 8, 7, 0, 65534, 512, 4, 8, 0, 0, 0, 0, 0, 0, 0, 12] : List Int), Wf x := fun x hx => by
      simp only [List.mem_cons, List.not_mem_nil, or_false] at hx
      rcases hx with rfl | rfl | rfl | rfl | rfl | rfl | rfl | rfl | rfl | rfl | rfl | rfl | rfl | rfl | rfl | rfl <;> exact ⟨by omega, by omega⟩
    have hlp : ([1, 8, 7, 0, 65534, 512, 4, 8, 0, 0, 0, 0, 0, 0, 0, 12] : List Int).length = 16 := rfl
    have fr := hp3.frozen 5
    have cc : w3.cell? ⟨gp, 5, none⟩ = some (.int .i64 2) := hp3.cell 5
    have hp4 : Blk (w3.setCell ⟨gp, 5, none⟩ (.int .i64 (512))) gp 24 (ints [1, 8, 7, 0, 65534, 512, 4, 8, 0, 0, 0, 0, 0, 0, 0, 12]) := hp3.setCell 5 (.int .i64 (512))
    have K4 := HN (5) (512)
    have he := fun w => HENC.out [1, 8, 7, 0, 65534, 512, 4, 8, 0, 0, 0, 0, 0, 0, 0, 12] hlp hwf w hno
    have ho := fun w => HOK2.out [1, 8, 7, 0, 65534, 512, 4, 8, 0, 0, 0, 0, 0, 0, 0, 12] hlp hwf w hno
    simp only [pv] at he ho
    have HE := Lib.hid he
    have HO := Lib.hid ho
    have HLP := Lib.hid hlp
    clear he ho hno hwf hp3 HN hlp
    go_wp2_with (refine wpList_ld rfl (.tmp 5) rfl gp [1, 8, 7, 0, 65534, 512, 4, 8, 0, 0, 0, 0, 0, 0, 0, 12] rfl HLP.out hp4 ?_)
    refine (HE.out _).mono ?_; rintro e w5 ⟨x, rfl, rfl, k5⟩
    have hp5 := hp4.nob k5
    have K5 := K4.nobt k5
    clear hp4 K4 k5 fr cc
    go_wp2_with (refine wpList_ld rfl (.tmp 5) rfl gp [1, 8, 7, 0, 65534, 512, 4, 8, 0, 0, 0, 0, 0, 0, 0, 12] rfl HLP.out hp5 ?_)
    refine (HO.out _).mono ?_; rintro e w6 ⟨rfl, k6⟩
    have K6 := K5.nobt k6
    go_wp2_with fail
    refine (awake_is _).mono ?_; rintro e w7 ⟨rfl, k7⟩
    have K7 := K6.nobt k7
    go_wp2
    go_ret
    exact ⟨rfl, K7.below (by omega) (fun _ _ f => f)⟩
  · have hno : okd [1, 8, 7, 0, 65534, 2, 16384, 8, 0, 0, 0, 0, 0, 0, 0, 12] = false := by
      decide
    have hwf : ∀ x ∈ ([1, 8, 7, 0, 65534, 2, 16384, 8, 0, 0, 0, 0, 0, 0, 0, 12] : List Int), Wf x := fun x hx => by
      simp only [List.mem_cons, List.not_mem_nil, or_false] at hx
      rcases hx with rfl | rfl | rfl | rfl | rfl | rfl | rfl | rfl | rfl | rfl | rfl | rfl | rfl | rfl | rfl | rfl <;> exact ⟨by omega, by omega⟩
    have hlp : ([1, 8, 7, 0, 65534, 2, 16384, 8, 0, 0, 0, 0, 0, 0, 0, 12] : List Int).length = 16 := rfl
    have fr := hp3.frozen 6
    have cc : w3.cell? ⟨gp, 6, none⟩ = some (.int .i64 4) := hp3.cell 6
    have hp4 : Blk (w3.setCell ⟨gp, 6, none⟩ (.int .i64 (16384))) gp 24 (ints [1, 8, 7, 0, 65534, 2, 16384, 8, 0, 0, 0, 0, 0, 0, 0, 12]) := hp3.setCell 6 (.int .i64 (16384))
    have K4 := HN (6) (16384)
    have he := fun w => HENC.out [1, 8, 7, 0, 65534, 2, 16384, 8, 0, 0, 0, 0, 0, 0, 0, 12] hlp hwf w hno
    have ho := fun w => HOK2.out [1, 8, 7, 0, 65534, 2, 16384, 8, 0, 0, 0, 0, 0, 0, 0, 12] hlp hwf w hno
    simp only [pv] at he ho
    have HE := Lib.hid he
    have HO := Lib.hid ho
    have HLP := Lib.hid hlp
    clear he ho hno hwf hp3 HN hlp
    go_wp2_with (refine wpList_ld rfl (.tmp 5) rfl gp [1, 8, 7, 0, 65534, 2, 16384, 8, 0, 0, 0, 0, 0, 0, 0, 12] rfl HLP.out hp4 ?_)
    refine (HE.out _).mono ?_; rintro e w5 ⟨x, rfl, rfl, k5⟩
    have hp5 := hp4.nob k5
    have K5 := K4.nobt k5
    clear hp4 K4 k5 fr cc
    go_wp2_with (refine wpList_ld rfl (.tmp 5) rfl gp [1, 8, 7, 0, 65534, 2, 16384, 8, 0, 0, 0, 0, 0, 0, 0, 12] rfl HLP.out hp5 ?_)
    refine (HO.out _).mono ?_; rintro e w6 ⟨rfl, k6⟩
    have K6 := K5.nobt k6
    go_wp2_with fail
    refine (awake_is _).mono ?_; rintro e w7 ⟨rfl, k7⟩
    have K7 := K6.nobt k7
    go_wp2
    go_ret
    exact ⟨rfl, K7.below (by omega) (fun _ _ f => f)⟩
  · have hno : okd [1, 8, 7, 0, 65534, 2, 4, 4, 0, 0, 0, 0, 0, 0, 0, 12] = false := by
      decide
    have hwf : ∀ x ∈ ([1, 8, 7, 0, 65534, 2, 4, 4, 0, 0, 0, 0, 0, 0, 0, 12] : List Int), Wf x := fun x hx => by
      simp only [List.mem_cons, List.not_mem_nil, or_false] at hx
      rcases hx with rfl | rfl | rfl | rfl | rfl | rfl | rfl | rfl | rfl | rfl | rfl | rfl | rfl | rfl | rfl | rfl <;> exact ⟨by omega, by omega⟩
    have hlp : ([1, 8, 7, 0, 65534, 2, 4, 4, 0, 0, 0, 0, 0, 0, 0, 12] : List Int).length = 16 := rfl
    have fr := hp3.frozen 7
    have cc : w3.cell? ⟨gp, 7, none⟩ = some (.int .i64 8) := hp3.cell 7
    have hp4 : Blk (w3.setCell ⟨gp, 7, none⟩ (.int .i64 (4))) gp 24 (ints [1, 8, 7, 0, 65534, 2, 4, 4, 0, 0, 0, 0, 0, 0, 0, 12]) := hp3.setCell 7 (.int .i64 (4))
    have K4 := HN (7) (4)
    have he := fun w => HENC.out [1, 8, 7, 0, 65534, 2, 4, 4, 0, 0, 0, 0, 0, 0, 0, 12] hlp hwf w hno
    have ho := fun w => HOK2.out [1, 8, 7, 0, 65534, 2, 4, 4, 0, 0, 0, 0, 0, 0, 0, 12] hlp hwf w hno
    simp only [pv] at he ho
    have HE := Lib.hid he
    have HO := Lib.hid ho
    have HLP := Lib.hid hlp
    clear he ho hno hwf hp3 HN hlp
    go_wp2_with (refine wpList_ld rfl (.tmp 5) rfl gp [1, 8, 7, 0, 65534, 2, 4, 4, 0, 0, 0, 0, 0, 0, 0, 12] rfl HLP.out hp4 ?_)
    refine (HE.out _).mono ?_; rintro e w5 ⟨x, rfl, rfl, k5⟩
    have hp5 := hp4.nob k5
    have K5 := K4.nobt k5
    clear hp4 K4 k5 fr cc
    go_wp2_with (refine wpList_ld rfl (.tmp 5) rfl gp [1, 8, 7, 0, 65534, 2, 4, 4, 0, 0, 0, 0, 0, 0, 0, 12] rfl HLP.out hp5 ?_)
    refine (HO.out _).mono ?_; rintro e w6 ⟨rfl, k6⟩
    have K6 := K5.nobt k6
    go_wp2_with fail
    refine (awake_is _).mono ?_; rintro e w7 ⟨rfl, k7⟩
    have K7 := K6.nobt k7
    go_wp2
    go_ret
    exact ⟨rfl, K7.below (by omega) (fun _ _ f => f)⟩
  · have hno : okd (baseP.set (8 + i) (12 + y)) = false := by
      cases h : okd (baseP.set (8 + i) (12 + y)) with
      | false => rfl
      | true =>
        exfalso
        have B := (okd_bounds h).f (12 + y) (by rcases (show i = 0 ∨ i = 1 ∨ i = 2 ∨ i = 3 ∨ i = 4 ∨ i = 5 ∨ i = 6 ∨ i = 7 from by omega) with rfl | rfl | rfl | rfl | rfl | rfl | rfl | rfl <;> simp [baseP])
        omega
    have hwf : ∀ x ∈ (baseP.set (8 + i) (12 + y)), Wf x := fun x hx => by
      rcases List.mem_or_eq_of_mem_set hx with h | rfl
      · exact wf_ok rfl base_ok x h
      · exact ⟨by omega, by omega⟩
    have hlp : (baseP.set (8 + i) (12 + y)).length = 16 := by rw [List.length_set]; rfl
    have fr := hp3.frozen (8 + i)
    have cc : ∃ x, _ = some x := ⟨_, (hp3.cell (8 + i)).trans (ints_getD_ (by show 8 + i < 16; omega))⟩
    obtain ⟨xx, cc⟩ := cc
    have hp4 := hp3.setCell (8 + i) (.int .i64 (12 + y))
    rw [ints_set] at hp4
    have K4 := HN (8 + i) (12 + y)
    have he := fun w => HENC.out (baseP.set (8 + i) (12 + y)) hlp hwf w hno
    have ho := fun w => HOK2.out (baseP.set (8 + i) (12 + y)) hlp hwf w hno
    simp only [pv] at he ho
    have HE := Lib.hid he
    have HO := Lib.hid ho
    have HLP := Lib.hid hlp
    clear he ho hno hwf hp3 HN hlp
    go_wp2_with (refine wpList_ld rfl (.tmp 5) rfl gp (baseP.set (8 + i) (12 + y)) rfl HLP.out hp4 ?_)
    refine (HE.out _).mono ?_; rintro e w5 ⟨x, rfl, rfl, k5⟩
    have hp5 := hp4.nob k5
    have K5 := K4.nobt k5
    clear hp4 K4 k5 fr cc
    go_wp2_with (refine wpList_ld rfl (.tmp 5) rfl gp (baseP.set (8 + i) (12 + y)) rfl HLP.out hp5 ?_)
    refine (HO.out _).mono ?_; rintro e w6 ⟨rfl, k6⟩
    have K6 := K5.nobt k6
    go_wp2_with fail
    refine (awake_is _).mono ?_; rintro e w7 ⟨rfl, k7⟩
    have K7 := K6.nobt k7
    go_wp2
    go_ret
    exact ⟨rfl, K7.below (by omega) (fun _ _ f => f)⟩
  · have hno : okd (baseP.set (8 + i) (-y)) = false := by
      cases h : okd (baseP.set (8 + i) (-y)) with
      | false => rfl
      | true =>
        exfalso
        have B := (okd_bounds h).f (-y) (by rcases (show i = 0 ∨ i = 1 ∨ i = 2 ∨ i = 3 ∨ i = 4 ∨ i = 5 ∨ i = 6 ∨ i = 7 from by omega) with rfl | rfl | rfl | rfl | rfl | rfl | rfl | rfl <;> simp [baseP])
        omega
    have hwf : ∀ x ∈ (baseP.set (8 + i) (-y)), Wf x := fun x hx => by
      rcases List.mem_or_eq_of_mem_set hx with h | rfl
      · exact wf_ok rfl base_ok x h
      · exact ⟨by omega, by omega⟩
    have hlp : (baseP.set (8 + i) (-y)).length = 16 := by rw [List.length_set]; rfl
    have fr := hp3.frozen (8 + i)
    have cc : ∃ x, _ = some x := ⟨_, (hp3.cell (8 + i)).trans (ints_getD_ (by show 8 + i < 16; omega))⟩
    obtain ⟨xx, cc⟩ := cc
    have hp4 := hp3.setCell (8 + i) (.int .i64 (-y))
    rw [ints_set] at hp4
    have K4 := HN (8 + i) (-y)
    have he := fun w => HENC.out (baseP.set (8 + i) (-y)) hlp hwf w hno
    have ho := fun w => HOK2.out (baseP.set (8 + i) (-y)) hlp hwf w hno
    simp only [pv] at he ho
    have HE := Lib.hid he
    have HO := Lib.hid ho
    have HLP := Lib.hid hlp
    clear he ho hno hwf hp3 HN hlp
    go_wp2_with (refine wpList_ld rfl (.tmp 5) rfl gp (baseP.set (8 + i) (-y)) rfl HLP.out hp4 ?_)
    refine (HE.out _).mono ?_; rintro e w5 ⟨x, rfl, rfl, k5⟩
    have hp5 := hp4.nob k5
    have K5 := K4.nobt k5
    clear hp4 K4 k5 fr cc
    go_wp2_with (refine wpList_ld rfl (.tmp 5) rfl gp (baseP.set (8 + i) (-y)) rfl HLP.out hp5 ?_)
    refine (HO.out _).mono ?_; rintro e w6 ⟨rfl, k6⟩
    have K6 := K5.nobt k6
    go_wp2_with fail
    refine (awake_is _).mono ?_; rintro e w7 ⟨rfl, k7⟩
    have K7 := K6.nobt k7
    go_wp2
    go_ret
    exact ⟨rfl, K7.below (by omega) (fun _ _ f => f)⟩
  · have hno : okd [1, -y, 7, 0, 65534, 2, 4, 8, 0, 0, 0, 0, 0, 0, 0, 12] = false := by
      cases h : okd [1, -y, 7, 0, 65534, 2, 4, 8, 0, 0, 0, 0, 0, 0, 0, 12] with
      | false => rfl
      | true =>
        exfalso
        have B := (okd_bounds h).pa
        simp at B
        omega
    have hwf : ∀ x ∈ ([1, -y, 7, 0, 65534, 2, 4, 8, 0, 0, 0, 0, 0, 0, 0, 12] : List Int), Wf x := fun x hx => by
      simp only [List.mem_cons, List.not_mem_nil, or_false] at hx
      rcases hx with rfl | rfl | rfl | rfl | rfl | rfl | rfl | rfl | rfl | rfl | rfl | rfl | rfl | rfl | rfl | rfl <;> exact ⟨by omega, by omega⟩
    have hlp : ([1, -y, 7, 0, 65534, 2, 4, 8, 0, 0, 0, 0, 0, 0, 0, 12] : List Int).length = 16 := rfl
    have fr := hp3.frozen 1
    have cc : w3.cell? ⟨gp, 1, none⟩ = some (.int .i64 8) := hp3.cell 1
    have hp4 : Blk (w3.setCell ⟨gp, 1, none⟩ (.int .i64 (-y))) gp 24 (ints [1, -y, 7, 0, 65534, 2, 4, 8, 0, 0, 0, 0, 0, 0, 0, 12]) := hp3.setCell 1 (.int .i64 (-y))
    have K4 := HN (1) (-y)
    have he := fun w => HENC.out [1, -y, 7, 0, 65534, 2, 4, 8, 0, 0, 0, 0, 0, 0, 0, 12] hlp hwf w hno
    have ho := fun w => HOK2.out [1, -y, 7, 0, 65534, 2, 4, 8, 0, 0, 0, 0, 0, 0, 0, 12] hlp hwf w hno
    simp only [pv] at he ho
    have HE := Lib.hid he
    have HO := Lib.hid ho
    have HLP := Lib.hid hlp
    clear he ho hno hwf hp3 HN hlp
    go_wp2_with (refine wpList_ld rfl (.tmp 5) rfl gp [1, -y, 7, 0, 65534, 2, 4, 8, 0, 0, 0, 0, 0, 0, 0, 12] rfl HLP.out hp4 ?_)
    refine (HE.out _).mono ?_; rintro e w5 ⟨x, rfl, rfl, k5⟩
    have hp5 := hp4.nob k5
    have K5 := K4.nobt k5
    clear hp4 K4 k5 fr cc
    go_wp2_with (refine wpList_ld rfl (.tmp 5) rfl gp [1, -y, 7, 0, 65534, 2, 4, 8, 0, 0, 0, 0, 0, 0, 0, 12] rfl HLP.out hp5 ?_)
    refine (HO.out _).mono ?_; rintro e w6 ⟨rfl, k6⟩
    have K6 := K5.nobt k6
    go_wp2_with fail
    refine (awake_is _).mono ?_; rintro e w7 ⟨rfl, k7⟩
    have K7 := K6.nobt k7
    go_wp2
    go_ret
    exact ⟨rfl, K7.below (by omega) (fun _ _ f => f)⟩
  · have hno : okd [1, 8, -y, 0, 65534, 2, 4, 8, 0, 0, 0, 0, 0, 0, 0, 12] = false := by
      cases h : okd [1, 8, -y, 0, 65534, 2, 4, 8, 0, 0, 0, 0, 0, 0, 0, 12] with
      | false => rfl
      | true =>
        exfalso
        have B := (okd_bounds h).g
        simp at B
        omega
    have hwf : ∀ x ∈ ([1, 8, -y, 0, 65534, 2, 4, 8, 0, 0, 0, 0, 0, 0, 0, 12] : List Int), Wf x := fun x hx => by
      simp only [List.mem_cons, List.not_mem_nil, or_false] at hx
      rcases hx with rfl | rfl | rfl | rfl | rfl | rfl | rfl | rfl | rfl | rfl | rfl | rfl | rfl | rfl | rfl | rfl <;> exact ⟨by omega, by omega⟩
    have hlp : ([1, 8, -y, 0, 65534, 2, 4, 8, 0, 0, 0, 0, 0, 0, 0, 12] : List Int).length = 16 := rfl
    have fr := hp3.frozen 2
    have cc : w3.cell? ⟨gp, 2, none⟩ = some (.int .i64 7) := hp3.cell 2
    have hp4 : Blk (w3.setCell ⟨gp, 2, none⟩ (.int .i64 (-y))) gp 24 (ints [1, 8, -y, 0, 65534, 2, 4, 8, 0, 0, 0, 0, 0, 0, 0, 12]) := hp3.setCell 2 (.int .i64 (-y))
    have K4 := HN (2) (-y)
    have he := fun w => HENC.out [1, 8, -y, 0, 65534, 2, 4, 8, 0, 0, 0, 0, 0, 0, 0, 12] hlp hwf w hno
    have ho := fun w => HOK2.out [1, 8, -y, 0, 65534, 2, 4, 8, 0, 0, 0, 0, 0, 0, 0, 12] hlp hwf w hno
    simp only [pv] at he ho
    have HE := Lib.hid he
    have HO := Lib.hid ho
    have HLP := Lib.hid hlp
    clear he ho hno hwf hp3 HN hlp
    go_wp2_with (refine wpList_ld rfl (.tmp 5) rfl gp [1, 8, -y, 0, 65534, 2, 4, 8, 0, 0, 0, 0, 0, 0, 0, 12] rfl HLP.out hp4 ?_)
    refine (HE.out _).mono ?_; rintro e w5 ⟨x, rfl, rfl, k5⟩
    have hp5 := hp4.nob k5
    have K5 := K4.nobt k5
    clear hp4 K4 k5 fr cc
    go_wp2_with (refine wpList_ld rfl (.tmp 5) rfl gp [1, 8, -y, 0, 65534, 2, 4, 8, 0, 0, 0, 0, 0, 0, 0, 12] rfl HLP.out hp5 ?_)
    refine (HO.out _).mono ?_; rintro e w6 ⟨rfl, k6⟩
    have K6 := K5.nobt k6
    go_wp2_with fail
    refine (awake_is _).mono ?_; rintro e w7 ⟨rfl, k7⟩
    have K7 := K6.nobt k7
    go_wp2
    go_ret
    exact ⟨rfl, K7.below (by omega) (fun _ _ f => f)⟩
  · have hno : okd [2, 8, 7, 0, 65534, 2, 4, 8, 0, 0, 0, 0, 0, 0, 0, 12] = false := by
      decide
    have hwf : ∀ x ∈ ([2, 8, 7, 0, 65534, 2, 4, 8, 0, 0, 0, 0, 0, 0, 0, 12] : List Int), Wf x := fun x hx => by
      simp only [List.mem_cons, List.not_mem_nil, or_false] at hx
      rcases hx with rfl | rfl | rfl | rfl | rfl | rfl | rfl | rfl | rfl | rfl | rfl | rfl | rfl | rfl | rfl | rfl <;> exact ⟨by omega, by omega⟩
    have hlp : ([2, 8, 7, 0, 65534, 2, 4, 8, 0, 0, 0, 0, 0, 0, 0, 12] : List Int).length = 16 := rfl
    have fr := hp3.frozen 0
    have cc : w3.cell? ⟨gp, 0, none⟩ = some (.int .i64 1) := hp3.cell 0
    have hp4 : Blk (w3.setCell ⟨gp, 0, none⟩ (.int .i64 (2))) gp 24 (ints [2, 8, 7, 0, 65534, 2, 4, 8, 0, 0, 0, 0, 0, 0, 0, 12]) := hp3.setCell 0 (.int .i64 (2))
    have K4 := HN (0) (2)
    have he := fun w => HENC.out [2, 8, 7, 0, 65534, 2, 4, 8, 0, 0, 0, 0, 0, 0, 0, 12] hlp hwf w hno
    have ho := fun w => HOK2.out [2, 8, 7, 0, 65534, 2, 4, 8, 0, 0, 0, 0, 0, 0, 0, 12] hlp hwf w hno
    simp only [pv] at he ho
    have HE := Lib.hid he
    have HO := Lib.hid ho
    have HLP := Lib.hid hlp
    clear he ho hno hwf hp3 HN hlp
    go_wp2_with (refine wpList_ld rfl (.tmp 5) rfl gp [2, 8, 7, 0, 65534, 2, 4, 8, 0, 0, 0, 0, 0, 0, 0, 12] rfl HLP.out hp4 ?_)
    refine (HE.out _).mono ?_; rintro e w5 ⟨x, rfl, rfl, k5⟩
    have hp5 := hp4.nob k5
    have K5 := K4.nobt k5
    clear hp4 K4 k5 fr cc
    go_wp2_with (refine wpList_ld rfl (.tmp 5) rfl gp [2, 8, 7, 0, 65534, 2, 4, 8, 0, 0, 0, 0, 0, 0, 0, 12] rfl HLP.out hp5 ?_)
    refine (HO.out _).mono ?_; rintro e w6 ⟨rfl, k6⟩
    have K6 := K5.nobt k6
    go_wp2_with fail
    refine (awake_is _).mono ?_; rintro e w7 ⟨rfl, k7⟩
    have K7 := K6.nobt k7
    go_wp2
    go_ret
    exact ⟨rfl, K7.below (by omega) (fun _ _ f => f)⟩
  · have hno : okd [1, 8, 7, 0, -y, 2, 4, 8, 0, 0, 0, 0, 0, 0, 0, 12] = false := by
      cases h : okd [1, 8, 7, 0, -y, 2, 4, 8, 0, 0, 0, 0, 0, 0, 0, 12] with
      | false => rfl
      | true =>
        exfalso
        have B := (okd_bounds h).pe
        simp at B
        omega
    have hwf : ∀ x ∈ ([1, 8, 7, 0, -y, 2, 4, 8, 0, 0, 0, 0, 0, 0, 0, 12] : List Int), Wf x := fun x hx => by
      simp only [List.mem_cons, List.not_mem_nil, or_false] at hx
      rcases hx with rfl | rfl | rfl | rfl | rfl | rfl | rfl | rfl | rfl | rfl | rfl | rfl | rfl | rfl | rfl | rfl <;> exact ⟨by omega, by omega⟩
    have hlp : ([1, 8, 7, 0, -y, 2, 4, 8, 0, 0, 0, 0, 0, 0, 0, 12] : List Int).length = 16 := rfl
    have fr := hp3.frozen 4
    have cc : w3.cell? ⟨gp, 4, none⟩ = some (.int .i64 65534) := hp3.cell 4
    have hp4 : Blk (w3.setCell ⟨gp, 4, none⟩ (.int .i64 (-y))) gp 24 (ints [1, 8, 7, 0, -y, 2, 4, 8, 0, 0, 0, 0, 0, 0, 0, 12]) := hp3.setCell 4 (.int .i64 (-y))
    have K4 := HN (4) (-y)
    have he := fun w => HENC.out [1, 8, 7, 0, -y, 2, 4, 8, 0, 0, 0, 0, 0, 0, 0, 12] hlp hwf w hno
    have ho := fun w => HOK2.out [1, 8, 7, 0, -y, 2, 4, 8, 0, 0, 0, 0, 0, 0, 0, 12] hlp hwf w hno
    simp only [pv] at he ho
    have HE := Lib.hid he
    have HO := Lib.hid ho
    have HLP := Lib.hid hlp
    clear he ho hno hwf hp3 HN hlp
    go_wp2_with (refine wpList_ld rfl (.tmp 5) rfl gp [1, 8, 7, 0, -y, 2, 4, 8, 0, 0, 0, 0, 0, 0, 0, 12] rfl HLP.out hp4 ?_)
    refine (HE.out _).mono ?_; rintro e w5 ⟨x, rfl, rfl, k5⟩
    have hp5 := hp4.nob k5
    have K5 := K4.nobt k5
    clear hp4 K4 k5 fr cc
    go_wp2_with (refine wpList_ld rfl (.tmp 5) rfl gp [1, 8, 7, 0, -y, 2, 4, 8, 0, 0, 0, 0, 0, 0, 0, 12] rfl HLP.out hp5 ?_)
    refine (HO.out _).mono ?_; rintro e w6 ⟨rfl, k6⟩
    have K6 := K5.nobt k6
    go_wp2_with fail
    refine (awake_is _).mono ?_; rintro e w7 ⟨rfl, k7⟩
    have K7 := K6.nobt k7
    go_wp2
    go_ret
    exact ⟨rfl, K7.below (by omega) (fun _ _ f => f)⟩
theorem SlotFields_walk (w : World) (a0 : Int) (w0 : (Lit.int .i64 a0).wf = true) (a1 : Int) (w1 : (Lit.int .i64 a1).wf = true) :
    Calls Try.prog 3 #[.int .i64 a0, .int .i64 a1] w fun e w' => e = .returned (.bool true) ∧ Below w.heap.size w w' := SlotFields_in w a0 a1
end Go.Proofs.Ytabphdfagkjnjaa
