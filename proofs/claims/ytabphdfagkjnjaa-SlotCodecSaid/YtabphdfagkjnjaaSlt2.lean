/- Package pslot: Ok. -/
import Derived.Test.YtabphdfagkjnjaaSlt1
namespace Go.Proofs.Ytabphdfagkjnjaa
open Go.RowKit
set_option linter.unusedVariables false
set_option linter.unusedSimpArgs false
theorem cells16 {w : World} {g : Nat} {t : TypeId} {a0 a1 a2 a3 a4 a5 a6 a7 f0 f1 f2 f3 f4 f5 f6 f7 : Int} (hb : Blk w g t (ints [a0, a1, a2, a3, a4, a5, a6, a7, f0, f1, f2, f3, f4, f5, f6, f7])) :
    w.cell? ⟨g, 0, none⟩ = some (.int .i64 a0) ∧ w.cell? ⟨g, 1, none⟩ = some (.int .i64 a1) ∧ w.cell? ⟨g, 2, none⟩ = some (.int .i64 a2) ∧ w.cell? ⟨g, 3, none⟩ = some (.int .i64 a3) ∧ w.cell? ⟨g, 4, none⟩ = some (.int .i64 a4) ∧ w.cell? ⟨g, 5, none⟩ = some (.int .i64 a5) ∧ w.cell? ⟨g, 6, none⟩ = some (.int .i64 a6) ∧ w.cell? ⟨g, 7, none⟩ = some (.int .i64 a7) ∧ w.cell? ⟨g, 8, none⟩ = some (.int .i64 f0) ∧ w.cell? ⟨g, 9, none⟩ = some (.int .i64 f1) ∧ w.cell? ⟨g, 10, none⟩ = some (.int .i64 f2) ∧ w.cell? ⟨g, 11, none⟩ = some (.int .i64 f3) ∧ w.cell? ⟨g, 12, none⟩ = some (.int .i64 f4) ∧ w.cell? ⟨g, 13, none⟩ = some (.int .i64 f5) ∧ w.cell? ⟨g, 14, none⟩ = some (.int .i64 f6) ∧ w.cell? ⟨g, 15, none⟩ = some (.int .i64 f7) := by
  refine ⟨?_, ?_, ?_, ?_, ?_, ?_, ?_, ?_, ?_, ?_, ?_, ?_, ?_, ?_, ?_, ?_⟩ <;> rw [hb.cell] <;> rfl
set_option maxHeartbeats 2000000 in
set_option maxRecDepth 100000 in
theorem ok_is (p : List Int) (hl : p.length = 16) (hw : ∀ x ∈ p, Wf x) (w : World) (v : Bool) (hv : okd p = v) :
    Calls Try.prog 9 #[pv p] w fun e w' => e = .returned (.bool v) ∧ Keep Nob w w' := by
  have q5 := fun w b h => sets_is p hl hw w b h
  have q6 := fun w b h => fds_is p hl w b h
  have q7 := fun w b h => suits_is p hl w b h
  unfold okd at hv
  have ha : ∀ (w1 : World) g, Blk w1 g 24 (ints p) → _ := fun w1 g h => h
  obtain ⟨a0, a1, a2, a3, a4, a5, a6, a7, f0, f1, f2, f3, f4, f5, f6, f7, rfl⟩ := split16 hl
  simp only [List.getD_cons_succ, List.getD_cons_zero, List.drop_succ_cons, List.drop_zero] at hv q5 q6 q7
  clear hl hw ha
  generalize hb1 : inn a0 1 3 = b1 at hv
  generalize hb2 : inn a1 0 8 = b2 at hv
  generalize hb3 : inn a2 0 7 = b3 at hv
  generalize hb4 : inn a3 0 255 = b4 at hv
  generalize hb5 : setsOk a4 a5 a6 a7 = b5 at hv
  generalize hb6 : fdsOk [f0, f1, f2, f3, f4, f5, f6, f7] = b6 at hv
  generalize hb7 : (if a0 == 2 then fdsNone [f0, f1, f2, f3, f4, f5, f6, f7] && a4 == 0 else a3 == 0) = b7 at hv
  have HB1 := Lib.hid hb1
  have HB2 := Lib.hid hb2
  have HB3 := Lib.hid hb3
  have HB4 := Lib.hid hb4
  have Q5 := Lib.hid (fun w => q5 w b5 hb5)
  have Q6 := Lib.hid (fun w => q6 w b6 hb6)
  have Q7 := Lib.hid (fun w => q7 w b7 hb7)
  have HV := Lib.hid hv
  clear hb1 hb2 hb3 hb4 hb5 hb6 hb7 hv q5 q6 q7
  simp only [pv, ints, List.map_cons, List.map_nil]
  go_enter Try.func9, Try.ntmps9
  go_wp2_with (refine wpList_box rfl 24 _ rfl _ rfl ?_; intro w1 hb hk hs; clear hs; obtain ⟨c0, c1, c2, c3, c4, c5, c6, c7, c8, c9, c10, c11, c12, c13, c14, c15⟩ := cells16 hb)
  refine (fits_is _ _ _ _ b1 HB1.out).mono ?_; rintro e w2 ⟨rfl, rfl⟩
  cases b1 with
  | false =>
    go_wp2
    go_ret
    obtain rfl : v = false := by have := HV.out; simpa using this.symm
    exact ⟨rfl, hk⟩
  | true =>
  go_wp2_with fail
  refine (fits_is _ _ _ _ b2 HB2.out).mono ?_; rintro e w2 ⟨rfl, rfl⟩
  cases b2 with
  | false =>
    go_wp2
    go_ret
    obtain rfl : v = false := by have := HV.out; simpa using this.symm
    exact ⟨rfl, hk⟩
  | true =>
  go_wp2_with fail
  refine (fits_is _ _ _ _ b3 HB3.out).mono ?_; rintro e w2 ⟨rfl, rfl⟩
  cases b3 with
  | false =>
    go_wp2
    go_ret
    obtain rfl : v = false := by have := HV.out; simpa using this.symm
    exact ⟨rfl, hk⟩
  | true =>
  go_wp2_with fail
  refine (fits_is _ _ _ _ b4 HB4.out).mono ?_; rintro e w2 ⟨rfl, rfl⟩
  cases b4 with
  | false =>
    go_wp2
    go_ret
    obtain rfl : v = false := by have := HV.out; simpa using this.symm
    exact ⟨rfl, hk⟩
  | true =>
  go_wp2_with fail
  refine (Q5.out _).mono ?_; rintro e w5 ⟨rfl, k5⟩
  replace hk := hk.nobt k5
  replace hb := hb.nob k5
  clear c0 c1 c2 c3 c4 c5 c6 c7 c8 c9 c10 c11 c12 c13 c14 c15 k5
  obtain ⟨c0, c1, c2, c3, c4, c5, c6, c7, c8, c9, c10, c11, c12, c13, c14, c15⟩ := cells16 hb
  cases b5 with
  | false =>
    go_wp2
    go_ret
    obtain rfl : v = false := by have := HV.out; simpa using this.symm
    exact ⟨rfl, hk⟩
  | true =>
  go_wp2_with fail
  refine (Q6.out _).mono ?_; rintro e w6 ⟨rfl, k6⟩
  replace hk := hk.nobt k6
  replace hb := hb.nob k6
  clear c0 c1 c2 c3 c4 c5 c6 c7 c8 c9 c10 c11 c12 c13 c14 c15 k6
  obtain ⟨c0, c1, c2, c3, c4, c5, c6, c7, c8, c9, c10, c11, c12, c13, c14, c15⟩ := cells16 hb
  cases b6 with
  | false =>
    go_wp2
    go_ret
    obtain rfl : v = false := by have := HV.out; simpa using this.symm
    exact ⟨rfl, hk⟩
  | true =>
  go_wp2_with fail
  refine (Q7.out _).mono ?_; rintro e w7 ⟨rfl, k7⟩
  replace hk := hk.nobt k7
  replace hb := hb.nob k7
  clear c0 c1 c2 c3 c4 c5 c6 c7 c8 c9 c10 c11 c12 c13 c14 c15 k7
  obtain ⟨c0, c1, c2, c3, c4, c5, c6, c7, c8, c9, c10, c11, c12, c13, c14, c15⟩ := cells16 hb
  obtain rfl : b7 = v := by have := HV.out; simpa using this
  go_wp2
  go_ret
  exact ⟨rfl, hk⟩
end Go.Proofs.Ytabphdfagkjnjaa
