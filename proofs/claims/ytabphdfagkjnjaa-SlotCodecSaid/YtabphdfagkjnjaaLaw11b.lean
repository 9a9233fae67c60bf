/- The walk of SlotOne. -/
import Derived.Test.YtabphdfagkjnjaaLaw11a
namespace Go.Proofs.Ytabphdfagkjnjaa
open Go.RowKit
set_option linter.unusedVariables false
set_option linter.unusedSimpArgs false
theorem told_out {w0 w : World} {P : List Int} {x : Value} (h : Told w0 w P true x) : ∃ g m, x = .slice (some ⟨g, 0, none⟩) 24 m ∧ Vec w 5 1 (some ⟨g, 0, none⟩) 24 m (bytes (enc P)) ∧ w0.heap.size ≤ g := by
  obtain ⟨A, m, rfl, v, o⟩ := h
  obtain ⟨g, cur, rfl, _, _, _, _⟩ := v.at_ (by decide)
  exact ⟨g, m, rfl, v, o g ⟨_, rfl, rfl⟩⟩
theorem conv_of (W : World) (A : Option Addr) (n : Nat) (l : List UInt8) (hr : Reads W A n (bytes l)) (c : Nat) : (convert 26 9 (.slice A n c)).run Try.prog W = .ok (.string (str l)) W :=
  run_str (P := Try.prog) W 26 9 5 A n c l Try.underlying26 Try.underlying5 Try.underlying9 hr
set_option maxHeartbeats 4000000 in
set_option maxRecDepth 100000 in
theorem SlotOne_in (w : World) (A B C : Option Addr) (n1 n2 n3 c1 c2 c3 : Nat) (l1 l2 : List Int) (l3 : List UInt8) (r1 : Reads w A n1 (ints l1)) (r2 : Reads w B n2 (ints l2)) (r3 : Reads w C n3 (bytes l3)) (hn1 : n1 ≤ 140737488351232) (hn2 : n2 ≤ 140737488351232) (hn3 : n3 ≤ 140737488351232) :
    Calls Try.prog 6 #[.slice A n1 c1, .slice B n2 c2, .slice C n3 c3] w fun e w' => e = .returned (.bool true) ∧ Below w.heap.size w w' := by
  have H1 := Lib.hid (fun w r => made_is A n1 c1 l1 w r (by omega) (made l1) rfl)
  have H2 := Lib.hid (fun w r => made_is B n2 c2 l2 w r (by omega) (made l2) rfl)
  have hl1 := made_len l1
  have ho1 := made_ok l1
  have hw1 := made_wf l1
  have hl2 := made_len l2
  have ho2 := made_ok l2
  have hw2 := made_wf l2
  generalize made l1 = P at *
  generalize made l2 = Q at *
  have hE1 := fun w => encode_is P hl1 hw1 w true ho1
  have hE2 := fun w => encode_is Q hl2 hw2 w true ho2
  simp only [pv] at hE1 hE2
  have E1 := Lib.hid hE1
  have E2 := Lib.hid hE2
  clear hE1 hE2
  obtain ⟨d, hd⟩ : ∃ d, decide (P = Q) = d := ⟨_, rfl⟩
  have heq := fun W => eq_pv P Q hl1 hl2 W
  rw [hd] at heq
  simp only [pv] at heq
  have hs : ((str (enc P)).toList == (str (enc Q)).toList) = d := by rw [str_tl, str_tl, enc_inj hl1 hl2 ho1 ho2, hd]
  have HL1 := Lib.hid hl1
  have HL2 := Lib.hid hl2
  have HS := Lib.hid hs
  have HEQ := Lib.hid heq
  have R1 := Lib.hid r1
  have R2 := Lib.hid r2
  have R3 := Lib.hid r3
  clear hl1 hl2 ho1 ho2 hw1 hw2 hd hs heq r1 r2 r3
  go_enter Try.func6, Try.ntmps6
  go_wp2_with fail
  refine (H1.out _ R1.out).mono ?_; rintro e w1 ⟨rfl, k1⟩
  go_wp2_with fail
  refine (H2.out _ (R2.out.nob k1)).mono ?_; rintro e w2 ⟨rfl, k2⟩
  have K2 := k1.nobt k2
  clear k1 k2 H1 H2
  unfold pv
  have hb1 : Blk ((w2.alloc (.cells #[.int .i64 0, .int .i64 0, .int .i64 0, .int .i64 0, .int .i64 0, .int .i64 0, .int .i64 0, .int .i64 0, .int .i64 0, .int .i64 0, .int .i64 0, .int .i64 0, .int .i64 0, .int .i64 0, .int .i64 0, .int .i64 0] 24)).alloc (.cells #[.int .i64 0, .int .i64 0, .int .i64 0, .int .i64 0, .int .i64 0, .int .i64 0, .int .i64 0, .int .i64 0, .int .i64 0, .int .i64 0, .int .i64 0, .int .i64 0, .int .i64 0, .int .i64 0, .int .i64 0, .int .i64 0] 24)) w2.heap.size 24 (ints noP) := (Blk.new w2 24 (ints noP)).alloc _
  have hb2 : Blk ((w2.alloc (.cells #[.int .i64 0, .int .i64 0, .int .i64 0, .int .i64 0, .int .i64 0, .int .i64 0, .int .i64 0, .int .i64 0, .int .i64 0, .int .i64 0, .int .i64 0, .int .i64 0, .int .i64 0, .int .i64 0, .int .i64 0, .int .i64 0] 24)).alloc (.cells #[.int .i64 0, .int .i64 0, .int .i64 0, .int .i64 0, .int .i64 0, .int .i64 0, .int .i64 0, .int .i64 0, .int .i64 0, .int .i64 0, .int .i64 0, .int .i64 0, .int .i64 0, .int .i64 0, .int .i64 0, .int .i64 0] 24)) (w2.heap.size + 1) 24 (ints noP) := by
    have := Blk.new (w2.alloc (.cells #[.int .i64 0, .int .i64 0, .int .i64 0, .int .i64 0, .int .i64 0, .int .i64 0, .int .i64 0, .int .i64 0, .int .i64 0, .int .i64 0, .int .i64 0, .int .i64 0, .int .i64 0, .int .i64 0, .int .i64 0, .int .i64 0] 24)) 24 (ints noP)
    rw [show (w2.alloc (.cells #[.int .i64 0, .int .i64 0, .int .i64 0, .int .i64 0, .int .i64 0, .int .i64 0, .int .i64 0, .int .i64 0, .int .i64 0, .int .i64 0, .int .i64 0, .int .i64 0, .int .i64 0, .int .i64 0, .int .i64 0, .int .i64 0] 24)).heap.size = w2.heap.size + 1 from by simp] at this
    exact this
  have K3 := (K2.alloc (.cells #[.int .i64 0, .int .i64 0, .int .i64 0, .int .i64 0, .int .i64 0, .int .i64 0, .int .i64 0, .int .i64 0, .int .i64 0, .int .i64 0, .int .i64 0, .int .i64 0, .int .i64 0, .int .i64 0, .int .i64 0, .int .i64 0] 24)).alloc (.cells #[.int .i64 0, .int .i64 0, .int .i64 0, .int .i64 0, .int .i64 0, .int .i64 0, .int .i64 0, .int .i64 0, .int .i64 0, .int .i64 0, .int .i64 0, .int .i64 0, .int .i64 0, .int .i64 0, .int .i64 0, .int .i64 0] 24)
  have hge : w.heap.size ≤ w2.heap.size := K2.size
  have hne : w2.heap.size ≠ w2.heap.size + 1 := by omega
  have hge2 : w.heap.size ≤ w2.heap.size + 1 := by omega
  go_wp2_with (first | (refine wpList_st rfl (.tmp 7) _ rfl w2.heap.size P noP rfl rfl HL1.out rfl hb1 ?_; intro w3 hp3 hk3 hs3; clear hs3; have hb3 := hb2.keep hk3 (Ne.symm hne)) | (refine wpList_st rfl (.tmp 8) _ rfl (w2.heap.size + 1) Q noP rfl rfl HL2.out rfl hb3 ?_; intro w4 hq4 hk4 hs4; clear hs4; have hp4 := hp3.keep hk4 hne) | (refine wpList_ld rfl (.tmp 7) rfl w2.heap.size P rfl HL1.out hp4 ?_))
  have K4 : Keep Nob w w4 := (K3.trans hk3 (fun b hb e => by have h3 : b = w2.heap.size := e; omega)).trans hk4 (fun b hb e => by have h3 : b = w2.heap.size + 1 := e; omega)
  clear hb1 hb2 hb3 hp3 hk3 hk4 K3 K2
  generalize w2.heap.size + 1 = gq at *
  generalize w2.heap.size = gp at *
  refine (E1.out _).mono ?_; rintro e w5 ⟨x1, rfl, t1, k5⟩
  obtain ⟨g1, m1, rfl, v1, o1⟩ := told_out t1
  have hp5 := hp4.nob k5
  have hq5 := hq4.nob k5
  have K5 := K4.nobt k5
  clear hp4 hq4 k5 t1 o1 E1
  go_wp2_with (refine wpList_ld rfl (.tmp 8) rfl gq Q rfl HL2.out hq5 ?_)
  refine (E2.out _).mono ?_; rintro e w6 ⟨x2, rfl, t2, k6⟩
  obtain ⟨g2, m2, rfl, v2, o2⟩ := told_out t2
  have hp6 := (hp5.nob k6).drew
  have hq6 := (hq5.nob k6).drew
  have K6 := (K5.nobt k6).drew
  have hv1 := (v1.nob k6).nob (Keep.nobdrew w6)
  have hv2 := v2.nob (Keep.nobdrew w6)
  have s1 := conv_of w6.drew _ 24 _ (show Reads _ _ 24 _ from hv1.reads) m1
  have s2 := conv_of w6.drew _ 24 _ (show Reads _ _ 24 _ from hv2.reads) m2
  clear hp5 hq5 k6 t2 o2 E2 v1 v2 hv1 hv2 K5
  obtain ⟨X, hX⟩ : ∃ X, str (enc P) = X := ⟨_, rfl⟩
  obtain ⟨Y, hY⟩ : ∃ Y, str (enc Q) = Y := ⟨_, rfl⟩
  have hs := HS.out
  have heq := HEQ.out
  rw [hX] at s1 hs
  rw [hY] at s2 hs
  clear hX hY HS HEQ
  go_wp2_with fail
  refine wp_region_held_drew (S := (fun w' => Blk w' gp 24 (ints P) ∧ Blk w' gq 24 (ints Q) ∧ (convert 26 9 (.slice (some ⟨g1, 0, none⟩) 24 m1)).run Try.prog w' = .ok (.string X) w' ∧ (convert 26 9 (.slice (some ⟨g2, 0, none⟩) 24 m2)).run Try.prog w' = .ok (.string Y) w')) (by kernel_rfl) ⟨hp6, hq6, s1, s2⟩ (fun hHeld => ?_)
  generalize w6.drew = wd at *
  refine wpAnyH_take (i := 0) (v := ?_) rfl (by kernel_rfl) (by kernel_rfl) (by kernel_rfl) (fun _ _ _ h => h) (Or.inl ⟨by rfl, ?_⟩) (by assumption) ?_
  rotate_left
  · (intro w hSw; (try dsimp only at hSw); obtain ⟨sa, sb, sc, sd⟩ := hSw; go_simp; try with_reducible rfl)
  try simp only [Act.put, List.getElem_toArray, List.getElem_cons_zero, List.getElem_cons_succ, List.setIfInBounds_toArray, List.set_cons_zero, List.set_cons_succ]
  refine wpAnyH_take (i := 1) (v := ?_) rfl (by kernel_rfl) (by kernel_rfl) (by kernel_rfl) (fun _ _ _ h => h) (Or.inl ⟨by rfl, ?_⟩) (by assumption) ?_
  rotate_left
  · (intro w hSw; (try dsimp only at hSw); obtain ⟨sa, sb, sc, sd⟩ := hSw; go_simp; try with_reducible rfl)
  try simp only [Act.put, List.getElem_toArray, List.getElem_cons_zero, List.getElem_cons_succ, List.setIfInBounds_toArray, List.set_cons_zero, List.set_cons_succ]
  refine wpAnyH_take (i := 2) (v := ?_) rfl (by kernel_rfl) (by kernel_rfl) (by kernel_rfl) (fun _ _ _ h => h) (Or.inl ⟨by rfl, ?_⟩) (by assumption) ?_
  rotate_left
  · (intro w hSw; (try dsimp only at hSw); obtain ⟨sa, sb, sc, sd⟩ := hSw; go_simp; try with_reducible rfl)
  try simp only [Act.put, List.getElem_toArray, List.getElem_cons_zero, List.getElem_cons_succ, List.setIfInBounds_toArray, List.set_cons_zero, List.set_cons_succ]
  refine wpAnyH_take (i := 3) (v := ?_) rfl (by kernel_rfl) (by kernel_rfl) (by kernel_rfl) (fun _ _ _ h => h) (Or.inl ⟨by rfl, ?_⟩) (by assumption) ?_
  rotate_left
  · (intro w hSw; (try dsimp only at hSw); obtain ⟨sa, sb, sc, sd⟩ := hSw; go_simp; try with_reducible rfl)
  try simp only [Act.put, List.getElem_toArray, List.getElem_cons_zero, List.getElem_cons_succ, List.setIfInBounds_toArray, List.set_cons_zero, List.set_cons_succ]
  refine wpAnyH_take (i := 4) (v := ?_) rfl (by kernel_rfl) (by kernel_rfl) (by kernel_rfl) (fun _ _ _ h => h) (Or.inl ⟨by rfl, ?_⟩) (by assumption) ?_
  rotate_left
  · (intro w hSw; (try dsimp only at hSw); obtain ⟨sa, sb, sc, sd⟩ := hSw; go_simp; try with_reducible rfl)
  try simp only [Act.put, List.getElem_toArray, List.getElem_cons_zero, List.getElem_cons_succ, List.setIfInBounds_toArray, List.set_cons_zero, List.set_cons_succ]
  refine wpAnyH_take (i := 5) (v := ?_) rfl (by kernel_rfl) (by kernel_rfl) (by kernel_rfl) (fun _ _ _ h => h) (Or.inl ⟨by rfl, ?_⟩) (by assumption) ?_
  rotate_left
  · (intro w hSw; (try dsimp only at hSw); obtain ⟨sa, sb, sc, sd⟩ := hSw; go_simp; try with_reducible rfl)
  try simp only [Act.put, List.getElem_toArray, List.getElem_cons_zero, List.getElem_cons_succ, List.setIfInBounds_toArray, List.set_cons_zero, List.set_cons_succ]
  refine wpAnyH_take (i := 6) (v := ?_) rfl (by kernel_rfl) (by kernel_rfl) (by kernel_rfl) (fun _ _ _ h => h) (Or.inl ⟨by rfl, ?_⟩) (by assumption) ?_
  rotate_left
  · (intro w hSw; (try dsimp only at hSw); obtain ⟨sa, sb, sc, sd⟩ := hSw; go_simp; try with_reducible rfl)
  try simp only [Act.put, List.getElem_toArray, List.getElem_cons_zero, List.getElem_cons_succ, List.setIfInBounds_toArray, List.set_cons_zero, List.set_cons_succ]
  refine wpAnyH_take (i := 7) (v := ?_) rfl (by kernel_rfl) (by kernel_rfl) (by kernel_rfl) (fun _ _ _ h => h) (Or.inl ⟨by rfl, ?_⟩) (by assumption) ?_
  rotate_left
  · (intro w hSw; (try dsimp only at hSw); obtain ⟨sa, sb, sc, sd⟩ := hSw; go_simp; try with_reducible rfl)
  try simp only [Act.put, List.getElem_toArray, List.getElem_cons_zero, List.getElem_cons_succ, List.setIfInBounds_toArray, List.set_cons_zero, List.set_cons_succ]
  refine wpAnyH_take (i := 8) (v := ?_) rfl (by kernel_rfl) (by kernel_rfl) (by kernel_rfl) (fun _ _ _ h => h) (Or.inl ⟨by rfl, ?_⟩) (by assumption) ?_
  rotate_left
  · (intro w hSw; (try dsimp only at hSw); obtain ⟨sa, sb, sc, sd⟩ := hSw; go_simp; try with_reducible rfl)
  try simp only [Act.put, List.getElem_toArray, List.getElem_cons_zero, List.getElem_cons_succ, List.setIfInBounds_toArray, List.set_cons_zero, List.set_cons_succ]
  refine wpAnyH_take (i := 9) (v := ?_) rfl (by kernel_rfl) (by kernel_rfl) (by kernel_rfl) (fun _ _ _ h => h) (Or.inl ⟨by rfl, ?_⟩) (by assumption) ?_
  rotate_left
  · (intro w hSw; (try dsimp only at hSw); obtain ⟨sa, sb, sc, sd⟩ := hSw; go_simp; try with_reducible rfl)
  try simp only [Act.put, List.getElem_toArray, List.getElem_cons_zero, List.getElem_cons_succ, List.setIfInBounds_toArray, List.set_cons_zero, List.set_cons_succ]
  refine wpAnyH_take (i := 10) (v := ?_) rfl (by kernel_rfl) (by kernel_rfl) (by kernel_rfl) (fun _ _ _ h => h) (Or.inl ⟨by rfl, ?_⟩) (by assumption) ?_
  rotate_left
  · (intro w hSw; (try dsimp only at hSw); obtain ⟨sa, sb, sc, sd⟩ := hSw; go_simp; try with_reducible rfl)
  try simp only [Act.put, List.getElem_toArray, List.getElem_cons_zero, List.getElem_cons_succ, List.setIfInBounds_toArray, List.set_cons_zero, List.set_cons_succ]
  refine wpAnyH_take (i := 11) (v := ?_) rfl (by kernel_rfl) (by kernel_rfl) (by kernel_rfl) (fun _ _ _ h => h) (Or.inl ⟨by rfl, ?_⟩) (by assumption) ?_
  rotate_left
  · (intro w hSw; (try dsimp only at hSw); obtain ⟨sa, sb, sc, sd⟩ := hSw; go_simp; try with_reducible rfl)
  try simp only [Act.put, List.getElem_toArray, List.getElem_cons_zero, List.getElem_cons_succ, List.setIfInBounds_toArray, List.set_cons_zero, List.set_cons_succ]
  refine wpAnyH_take (i := 12) (v := ?_) rfl (by kernel_rfl) (by kernel_rfl) (by kernel_rfl) (fun _ _ _ h => h) (Or.inl ⟨by rfl, ?_⟩) (by assumption) ?_
  rotate_left
  · (intro w hSw; (try dsimp only at hSw); obtain ⟨sa, sb, sc, sd⟩ := hSw; refine exec_load (x := .tmp 7) ?_ ?_ HL1.out sa <;> rfl)
  try simp only [Act.put, List.getElem_toArray, List.getElem_cons_zero, List.getElem_cons_succ, List.setIfInBounds_toArray, List.set_cons_zero, List.set_cons_succ]
  refine wpAnyH_take (i := 13) (v := ?_) rfl (by kernel_rfl) (by kernel_rfl) (by kernel_rfl) (fun _ _ _ h => h) (Or.inl ⟨by rfl, ?_⟩) (by assumption) ?_
  rotate_left
  · (intro w hSw; (try dsimp only at hSw); obtain ⟨sa, sb, sc, sd⟩ := hSw; refine exec_load (x := .tmp 8) ?_ ?_ HL2.out sb <;> rfl)
  try simp only [Act.put, List.getElem_toArray, List.getElem_cons_zero, List.getElem_cons_succ, List.setIfInBounds_toArray, List.set_cons_zero, List.set_cons_succ]
  refine wpAnyH_take (i := 14) (v := ?_) rfl (by kernel_rfl) (by kernel_rfl) (by kernel_rfl) (fun _ _ _ h => h) (Or.inl ⟨by rfl, ?_⟩) (by assumption) ?_
  rotate_left
  · (intro w hSw; (try dsimp only at hSw); obtain ⟨sa, sb, sc, sd⟩ := hSw; go_simp; try with_reducible rfl)
  try simp only [Act.put, List.getElem_toArray, List.getElem_cons_zero, List.getElem_cons_succ, List.setIfInBounds_toArray, List.set_cons_zero, List.set_cons_succ]
  refine wpAnyH_take (i := 15) (v := ?_) rfl (by kernel_rfl) (by kernel_rfl) (by kernel_rfl) (fun _ _ _ h => h) (Or.inl ⟨by rfl, ?_⟩) (by assumption) ?_
  rotate_left
  · (intro w hSw; (try dsimp only at hSw); obtain ⟨sa, sb, sc, sd⟩ := hSw; go_simp; try with_reducible rfl)
  try simp only [Act.put, List.getElem_toArray, List.getElem_cons_zero, List.getElem_cons_succ, List.setIfInBounds_toArray, List.set_cons_zero, List.set_cons_succ]
  refine wpAnyH_take (i := 16) (v := ?_) rfl (by kernel_rfl) (by kernel_rfl) (by kernel_rfl) (fun _ _ _ h => h) (Or.inl ⟨by rfl, ?_⟩) (by assumption) ?_
  rotate_left
  · (intro w hSw; (try dsimp only at hSw); obtain ⟨sa, sb, sc, sd⟩ := hSw; go_simp; try with_reducible rfl)
  try simp only [Act.put, List.getElem_toArray, List.getElem_cons_zero, List.getElem_cons_succ, List.setIfInBounds_toArray, List.set_cons_zero, List.set_cons_succ]
  refine wpAnyH_done (by kernel_rfl) ?_ _
  clear hs heq s1 s2 hp6 hq6
  obtain ⟨R, dd, hdc⟩ : ∃ R dd, dcd l3 = (R, dd) := ⟨_, _, rfl⟩
  have hRl : R.length = 16 := by have := dcd_len l3; rw [hdc] at this; exact this
  have HRl := Lib.hid hRl
  have HDC := Lib.hid hdc
  clear hRl hdc
  go_wp2_with fail
  refine (decode_is C n3 c3 l3 _ (R3.out.nob K6) hn3 R dd HDC.out).mono ?_; rintro e w7 ⟨rfl, k7⟩
  have K7 := K6.nobt k7
  have K8 := K7.alloc (.cells #[.int .i64 0, .int .i64 0, .int .i64 0, .int .i64 0, .int .i64 0, .int .i64 0, .int .i64 0, .int .i64 0, .int .i64 0, .int .i64 0, .int .i64 0, .int .i64 0, .int .i64 0, .int .i64 0, .int .i64 0, .int .i64 0] 24)
  unfold pv
  by_cases hd1 : dd = 1
  rotate_left
  · have hdn : (dd == 1) = false := by simpa using hd1
    go_wp2_with (refine wpList_st rfl (.tmp 13) _ rfl w7.heap.size R noP rfl rfl HRl.out rfl (Blk.new w7 24 (ints noP)) ?_; intro w9 hr9 hk9 hs9; clear hs9)
    refine (awake_is _).mono ?_; rintro e w10 ⟨rfl, k10⟩
    have K10 := (K8.trans hk9 (fun b hb e => by have h3 : b = w7.heap.size := e; have := K7.size; omega)).nobt k10
    go_wp2
    go_ret
    exact ⟨rfl, K10.below (Nat.le_refl _) (fun _ _ f => f)⟩
  subst hd1
  obtain ⟨hRl, hRo, hRe⟩ := dcd_good HDC.out
  have hE := fun w => encode_is R hRl (wf_ok hRl hRo) w true hRo
  simp only [pv] at hE
  have E3 := Lib.hid hE
  have HRE := Lib.hid hRe
  clear hE hRl hRo hRe HDC
  go_wp2_with (first | (refine wpList_st rfl (.tmp 13) _ rfl w7.heap.size R noP rfl rfl HRl.out rfl (Blk.new w7 24 (ints noP)) ?_; intro w9 hr9 hk9 hs9; clear hs9) | (refine wpList_ld rfl (.tmp 13) rfl w7.heap.size R rfl HRl.out hr9 ?_))
  have K9 := K8.trans hk9 (fun b hb e => by have h3 : b = w7.heap.size := e; have := K7.size; omega)
  refine (E3.out _).mono ?_; rintro e w10 ⟨x3, rfl, t3, k10⟩
  obtain ⟨g3, m3, rfl, v3, o3⟩ := told_out t3
  have K10 := K9.nobt k10
  have s1 := fun c => conv_of w10 _ 24 _ (show Reads _ _ 24 _ from v3.reads) c
  have s2 := fun c => conv_of w10 C n3 l3 (R3.out.nob K10) c
  rw [HRE.out] at s1
  have hst : ((str l3).toList == (str l3).toList) = true := by simp
  generalize str l3 = X3 at *
  clear v3 t3 o3 hr9 hk9 k10 E3
  go_wp2_with fail
  refine (awake_is _).mono ?_; rintro e w11 ⟨rfl, k11⟩
  have K11 := K10.nobt k11
  go_wp2
  go_ret
  exact ⟨rfl, K11.below (Nat.le_refl _) (fun _ _ f => f)⟩
theorem SlotOne_walk (w : World) (A0 : Option Addr) (n0 c0 : Nat) (x0 : Ty.den (.sl 8 (.int .i64))) (w0 : Holds w (.sl 8 (.int .i64)) x0 [.slice A0 n0 c0]) (A1 : Option Addr) (n1 c1 : Nat) (x1 : Ty.den (.sl 8 (.int .i64))) (w1 : Holds w (.sl 8 (.int .i64)) x1 [.slice A1 n1 c1]) (A2 : Option Addr) (n2 c2 : Nat) (x2 : Ty.den (.sl 1 .byte)) (w2 : Holds w (.sl 1 .byte) x2 [.slice A2 n2 c2]) :
    Calls Try.prog 6 #[.slice A0 n0 c0, .slice A1 n1 c1, .slice A2 n2 c2] w fun e w' => e = .returned (.bool true) ∧ Below w.heap.size w w' := by
  have hl0 := holds_len w0
  have hl1 := holds_len w1
  have hl2 := holds_bytes w2
  exact SlotOne_in w A0 A1 A2 n0 n1 n2 c0 c1 c2 x0 x1 x2 (holds_ints w0) (holds_ints w1) hl2.2.1 (by omega) (by omega) (by omega)
end Go.Proofs.Ytabphdfagkjnjaa
