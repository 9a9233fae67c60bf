/- The document's ProcOk. -/
import Derived.Test.YtabphdfagkjnjaaSlt1
namespace Go.Proofs.Ytabphdfagkjnjaa
open Go.RowKit
set_option linter.unusedVariables false
set_option linter.unusedSimpArgs false
theorem none_take {f : List Int} {k : Nat} (h : k < f.length) : fdsNone (f.take (k + 1)) = (fdsNone (f.take k) && f.getD k 0 == 0) := by
  unfold fdsNone
  rw [List.take_succ_eq_append_getElem h, List.all_append, List.getD_eq_getElem?_getD, List.getElem?_eq_getElem h]
  simp
set_option maxHeartbeats 2000000 in
set_option maxRecDepth 100000 in
theorem procok_is (p : List Int) (hl : p.length = 16) (hw : ∀ x ∈ p, Wf x) (w : World) (v : Bool) (hv : okd p = v) :
    Calls Try.prog 12 #[pv p] w fun e w' => e = .returned (.bool v) ∧ Keep Nob w w' := by
  unfold okd setsOk at hv
  have w4 := getD_wf hw 4
  have w5 := getD_wf hw 5
  have w6 := getD_wf hw 6
  have w7 := getD_wf hw 7
  obtain ⟨a0, a1, a2, a3, a4, a5, a6, a7, f0, f1, f2, f3, f4, f5, f6, f7, rfl⟩ := split16 hl
  simp only [List.getD_cons_succ, List.getD_cons_zero, List.drop_succ_cons, List.drop_zero, ruled] at hv w4 w5 w6 w7
  clear hl hw
  generalize hb1 : inn a0 1 3 = b1 at hv
  generalize hb2 : inn a1 0 8 = b2 at hv
  generalize hb3 : inn a2 0 7 = b3 at hv
  generalize hb4 : inn a3 0 255 = b4 at hv
  generalize hs1 : sig a4 = s1 at hv
  generalize hs2 : sig a5 = s2 at hv
  generalize hs3 : sig a6 = s3 at hv
  generalize hs4 : sig a7 = s4 at hv
  have HB1 := Lib.hid hb1
  have HB2 := Lib.hid hb2
  have HB3 := Lib.hid hb3
  have HB4 := Lib.hid hb4
  have HS1 := Lib.hid (fun w => signals_is a4 w4 w s1 hs1)
  have HS2 := Lib.hid (fun w => signals_is a5 w5 w s2 hs2)
  have HS3 := Lib.hid (fun w => signals_is a6 w6 w s3 hs3)
  have HS4 := Lib.hid (fun w => signals_is a7 w7 w s4 hs4)
  have HV := Lib.hid hv
  clear hb1 hb2 hb3 hb4 hs1 hs2 hs3 hs4 hv w4 w5 w6 w7
  have hf8 : ([f0, f1, f2, f3, f4, f5, f6, f7] : List Int).length = 8 := rfl
  have hcF : ∀ (W : World) g (hb : Blk W g 24 (ints [a0, a1, a2, a3, a4, a5, a6, a7, f0, f1, f2, f3, f4, f5, f6, f7])) k, k < 8 → W.cell? ⟨g, 8 + k, none⟩ = some (.int .i64 (([f0, f1, f2, f3, f4, f5, f6, f7] : List Int).getD k 0)) := fun W g hb k hk => by
    rw [hb.cell, show ints [a0, a1, a2, a3, a4, a5, a6, a7, f0, f1, f2, f3, f4, f5, f6, f7] = ints [a0, a1, a2, a3, a4, a5, a6, a7] ++ ints [f0, f1, f2, f3, f4, f5, f6, f7] from rfl, List.getElem?_append_right (by simp), ints_len]
    show (ints [f0, f1, f2, f3, f4, f5, f6, f7])[8 + k - 8]? = _
    rw [Nat.add_sub_cancel_left, ints_get, List.getD_eq_getElem?_getD, List.getElem?_eq_getElem (by rw [hf8]; exact hk)]; rfl
  have HCF := Lib.hid hcF
  clear hcF
  simp only [pv, ints, List.map_cons, List.map_nil]
  go_enter Try.func12, Try.ntmps12
  go_wp2_with (refine wpList_box rfl 24 _ rfl _ rfl ?_; intro w1 hb hk hs; clear hs; have c0 : w1.cell? ⟨w.heap.size, 0, none⟩ = some (.int .i64 a0) := by rw [hb.cell]; rfl)
  have c1 : w1.cell? ⟨w.heap.size, 1, none⟩ = some (.int .i64 a1) := by rw [hb.cell]; rfl
  have c2 : w1.cell? ⟨w.heap.size, 2, none⟩ = some (.int .i64 a2) := by rw [hb.cell]; rfl
  have c3 : w1.cell? ⟨w.heap.size, 3, none⟩ = some (.int .i64 a3) := by rw [hb.cell]; rfl
  have c4 : w1.cell? ⟨w.heap.size, 4, none⟩ = some (.int .i64 a4) := by rw [hb.cell]; rfl
  have c5 : w1.cell? ⟨w.heap.size, 5, none⟩ = some (.int .i64 a5) := by rw [hb.cell]; rfl
  have c6 : w1.cell? ⟨w.heap.size, 6, none⟩ = some (.int .i64 a6) := by rw [hb.cell]; rfl
  have c7 : w1.cell? ⟨w.heap.size, 7, none⟩ = some (.int .i64 a7) := by rw [hb.cell]; rfl
  have HC := Lib.hid (HCF.out w1 _ hb)
  clear HCF hb
  generalize hF : ([f0, f1, f2, f3, f4, f5, f6, f7] : List Int) = F at *
  refine (in_is _ _ _ _ b1 HB1.out).mono ?_; rintro e w2 ⟨rfl, rfl⟩
  cases b1 with
  | false =>
    go_wp2
    go_ret
    obtain rfl : v = false := by have := HV.out; simpa using this.symm
    exact ⟨rfl, hk⟩
  | true =>
  go_wp2_with fail
  refine (in_is _ _ _ _ b2 HB2.out).mono ?_; rintro e w2 ⟨rfl, rfl⟩
  cases b2 with
  | false =>
    go_wp2
    go_ret
    obtain rfl : v = false := by have := HV.out; simpa using this.symm
    exact ⟨rfl, hk⟩
  | true =>
  go_wp2_with fail
  refine (in_is _ _ _ _ b3 HB3.out).mono ?_; rintro e w2 ⟨rfl, rfl⟩
  cases b3 with
  | false =>
    go_wp2
    go_ret
    obtain rfl : v = false := by have := HV.out; simpa using this.symm
    exact ⟨rfl, hk⟩
  | true =>
  go_wp2_with fail
  refine (in_is _ _ _ _ b4 HB4.out).mono ?_; rintro e w2 ⟨rfl, rfl⟩
  cases b4 with
  | false =>
    go_wp2
    go_ret
    obtain rfl : v = false := by have := HV.out; simpa using this.symm
    exact ⟨rfl, hk⟩
  | true =>
  go_wp2_with fail
  refine (HS1.out _).mono ?_; rintro e w2 ⟨rfl, rfl⟩
  cases s1 with
  | false =>
    go_wp2
    go_ret
    obtain rfl : v = false := by have := HV.out; simpa using this.symm
    exact ⟨rfl, hk⟩
  | true =>
  go_wp2_with fail
  refine (HS2.out _).mono ?_; rintro e w2 ⟨rfl, rfl⟩
  cases s2 with
  | false =>
    go_wp2
    go_ret
    obtain rfl : v = false := by have := HV.out; simpa using this.symm
    exact ⟨rfl, hk⟩
  | true =>
  go_wp2_with fail
  refine (HS3.out _).mono ?_; rintro e w2 ⟨rfl, rfl⟩
  cases s3 with
  | false =>
    go_wp2
    go_ret
    obtain rfl : v = false := by have := HV.out; simpa using this.symm
    exact ⟨rfl, hk⟩
  | true =>
  go_wp2_with fail
  refine (HS4.out _).mono ?_; rintro e w2 ⟨rfl, rfl⟩
  cases s4 with
  | false =>
    go_wp2
    go_ret
    obtain rfl : v = false := by have := HV.out; simpa using this.symm
    exact ⟨rfl, hk⟩
  | true =>
  by_cases h5 : bits .and .i64 (bits .or .i64 (bits .or .i64 a5 a6) a7) 16896 = 0
  rotate_left
  · have e5 : (bits .and .i64 (bits .or .i64 (bits .or .i64 a5 a6) a7) 16896 == 0) = false := by simpa using h5
    obtain rfl : v = false := by have := HV.out; rw [e5] at this; simpa using this.symm
    go_wp2
    go_ret
    exact ⟨rfl, hk⟩
  by_cases h6 : bits .and .i64 a6 a7 = 0
  rotate_left
  · have e6 : (bits .and .i64 a6 a7 == 0) = false := by simpa using h6
    obtain rfl : v = false := by have := HV.out; rw [e6] at this; simpa using this.symm
    go_wp2
    go_ret
    exact ⟨rfl, hk⟩
  have hv2 : (fdsOk F && if a0 == 2 then fdsNone F && a4 == 0 else a3 == 0) = v := by
    have := HV.out
    rw [h5, h6] at this
    simpa only [Bool.true_and, beq_self_eq_true] using this
  replace HV := Lib.hid hv2
  clear hv2
  go_wp2_with fail
  clear h5 h6
  have HF := Lib.hid hf8
  clear hf8 hF
  go_loop [4, 3] (fun s4 s3 => ∃ (k : Nat), k ≤ 8 ∧ s4 = .int .i64 k ∧ s3 = .bool (!fdsNone (F.take k)) ∧ fdsOk (F.take k) = true) (fun s4 _ => 8 - (intOf s4).toNat)
  case atStart => exact ⟨0, Nat.zero_le _, rfl, rfl, rfl⟩
  case round =>
    obtain ⟨k, hk8, rfl, rfl, hx⟩ := hrel
    have HX2 := Lib.hid hx
    clear hx
    by_cases hlt : k < 8
    · have hkl : k < F.length := by rw [HF.out]; exact hlt
      have ck := HC.out k hlt
      have hn := none_take hkl
      generalize fdsNone (F.take k) = d at *
      cases hb : inn (F.getD k 0) 0 12 with
      | true =>
        have hs := Lib.hid (fds_take hkl)
        have hb := Lib.hid hb
        generalize F.getD k 0 = u at *
        have HN := Lib.hid hn
        clear hn
        cases d with
        | false =>
          go_wp2_with fail
          refine (in_is _ _ _ _ _ hb.out).mono ?_; rintro e w2 ⟨rfl, rfl⟩
          go_wp2_with fail
          go_round
          case rel => exact ⟨k + 1, by omega, by go_num, by rw [HN.out]; rfl, by rw [hs.out, HX2.out, hb.out]; rfl⟩
          case measure => simp [intOf]; omega
        | true =>
          go_wp2_with fail
          refine (in_is _ _ _ _ _ hb.out).mono ?_; rintro e w2 ⟨rfl, rfl⟩
          go_wp2_with fail
          go_round
          case rel => exact ⟨k + 1, by omega, by go_num, by rw [HN.out, Bool.true_and]; rfl, by rw [hs.out, HX2.out, hb.out]; rfl⟩
          case measure => simp [intOf]; omega
      | false =>
        have hs := Lib.hid (fds_off hkl hb)
        have hb := Lib.hid hb
        clear hn
        generalize F.getD k 0 = u at *
        go_wp2_with fail
        refine (in_is _ _ _ _ _ hb.out).mono ?_; rintro e w2 ⟨rfl, rfl⟩
        go_wp2_with fail
        go_ret
        obtain rfl : v = false := by have := HV.out; rw [hs.out] at this; simpa using this.symm
        exact ⟨rfl, hk⟩
    · obtain rfl : k = 8 := by omega
      have e8 : F.take 8 = F := List.take_of_length_le (by rw [HF.out]; exact Nat.le_refl _)
      rw [e8] at HX2 ⊢
      have hv := HV.out
      rw [HX2.out, Bool.true_and] at hv
      clear HV HX2 HC HF hlt e8
      generalize fdsNone F = d at *
      by_cases h2 : a0 = 2
      · subst h2
        rw [beq_self_eq_true, if_pos rfl] at hv
        cases d with
        | true =>
          rw [Bool.true_and] at hv
          go_wp2
          go_ret
          exact ⟨by subst hv; rfl, hk⟩
        | false =>
          rw [Bool.false_and] at hv
          subst hv
          go_wp2
          go_ret
          exact ⟨rfl, hk⟩
      · have e2 : (a0 == 2) = false := by simpa using h2
        rw [e2, if_neg (by simp)] at hv
        go_wp2
        go_ret
        exact ⟨by subst hv; rfl, hk⟩
end Go.Proofs.Ytabphdfagkjnjaa
