/- The walk of SlotCodec. -/
import Derived.Test.YtabphdfagkjnjaaLaw11e
import Derived.Deep.CutBlock
namespace Go.Proofs.Ytabphdfagkjnjaa
open Go.RowKit
set_option linter.unusedVariables false
set_option linter.unusedSimpArgs false
theorem exec_load_off {ρ : Operand → Value} {o : Oper} {x : Operand} {w : World} {g off : Nat} {q : List Int} {cs : List Value} {t : TypeId} (ho : o.op = .load 24 x) (hx : ρ x = .pointer (some ⟨g, off, none⟩)) (hq : q.length = 16) (hb : Blk w g t cs) (hc : ∀ j v, (ints q)[j]? = some v → cs[off + j]? = some v) :
    (execOp ρ o).run Try.prog w = .ok (.value (.agg (ints q).toArray)) w := by
  have hl := run_loadCells_list (P := Try.prog) w ⟨g, off, none⟩ (ints q) (fun j v hv => by rw [add_lit, hb.cell]; exact hc j v hv)
  rw [ints_len, hq] at hl
  have hi := infoP_
  obtain ⟨i, hi1, hi2⟩ := Option.map_eq_some_iff.1 hi
  simp [execOp, ho, hx, Instr.loadAt, Instr.sureAddr, loadVar, isAgg, run_underlying Try.underlying24, sizeOf, typeInfo, hi1, hi2, hl, Result.andThen]
theorem wp_load_off {a : Act} {K : Act → World → Prop} {Q : Exit → Act → World → Prop} {o : Oper} {x : Operand} {w : World} {g off : Nat} {q : List Int} {cs : List Value} {t : TypeId} (ho : o.op = .load 24 x) (hx : a.eval x = .pointer (some ⟨g, off, none⟩)) (hq : q.length = 16) (hb : Blk w g t cs) (hc : ∀ j v, (ints q)[j]? = some v → cs[off + j]? = some v)
    (h : K (a.put o.dst (.agg (ints q).toArray)) w) : Oper.wp Try.prog o a w K Q := by
  unfold Oper.wp
  rw [exec_load_off ho hx hq hb hc]
  exact h
theorem run_bs (P M : List Int) (hP : P.length = 16) (hM : M.length = 16) (W : World) :
    (Instr.buildSlice 45 2 #[(0, .agg (ints P).toArray), (1, .agg (ints M).toArray)]).run Try.prog W = .ok (.slice (some ⟨W.heap.size, 0, none⟩) 2 2) (W.alloc (.cells (ints (P ++ M)).toArray 24)) := by
  obtain ⟨a0, a1, a2, a3, a4, a5, a6, a7, a8, a9, a10, a11, a12, a13, a14, a15, rfl⟩ := split16 hP
  obtain ⟨b0, b1, b2, b3, b4, b5, b6, b7, b8, b9, b10, b11, b12, b13, b14, b15, rfl⟩ := split16 hM
  have hu := Try.underlying45
  have hs := Try.sizeOf24
  have hz := Try.zeroValue24
  simp only [ints, List.map_cons, List.map_nil, List.cons_append, List.nil_append]
  go_simp
theorem wp_bs {a : Act} {K : Act → World → Prop} {Q : Exit → Act → World → Prop} {o : Oper} {x y : Operand} {w : World} {P M : List Int} (ho : o.op = .buildSlice 45 2 #[(0, x), (1, y)]) (hx : a.eval x = .agg (ints P).toArray) (hy : a.eval y = .agg (ints M).toArray) (hP : P.length = 16) (hM : M.length = 16)
    (h : K (a.put o.dst (.slice (some ⟨w.heap.size, 0, none⟩) 2 2)) (w.alloc (.cells (ints (P ++ M)).toArray 24))) : Oper.wp Try.prog o a w K Q := by
  have hr : (execOp a.eval o).run Try.prog w = .ok (.value (.slice (some ⟨w.heap.size, 0, none⟩) 2 2)) (w.alloc (.cells (ints (P ++ M)).toArray 24)) := by
    have := run_bs P M hP hM w
    simp [execOp, ho, hx, hy, this, Result.andThen]
  unfold Oper.wp
  rw [hr]
  exact h
theorem part_one (P M : List Int) (j : Nat) (v : Value) (h : (ints P)[j]? = some v) : (ints (P ++ M))[0 + j]? = some v := by
  rw [Nat.zero_add, ints_append, List.getElem?_append_left (List.getElem?_eq_some_iff.1 h).1]
  exact h
theorem part_two (P M : List Int) (hP : P.length = 16) (j : Nat) (v : Value) (h : (ints M)[j]? = some v) : (ints (P ++ M))[16 + j]? = some v := by
  rw [ints_append, List.getElem?_append_right (by rw [ints_len]; omega), ints_len, hP, Nat.add_sub_cancel_left]
  exact h
theorem both_read (l : List UInt8) (R R2 : List Int) (v : Bool) (d : Int) (h1 : cdcd l = (R, v)) (h2 : dcd l = (R2, d)) : (v = true ∧ d = 1 ∧ R2 = R) ∨ (v = false ∧ (d == 1) = false) := by
  unfold cdcd at h1
  unfold dcd at h2
  by_cases hl : l.length = 24
  · rw [if_pos hl] at h1 h2
    cases hn : allNought l with
    | true =>
      rw [hn, if_pos rfl] at h2
      have hg : gd l = false := by
        unfold gd okd
        have e0 : (rd l).getD 0 0 = ((l.getD 0 0).toNat : Int) := rfl
        rw [e0, nought_getD hn 0]
        rfl
      rw [hg] at h1
      cases h1; cases h2
      exact .inr ⟨rfl, rfl⟩
    | false =>
      rw [hn] at h2
      cases hg : gd l with
      | true => rw [hg] at h1 h2; cases h1; cases h2; exact .inl ⟨rfl, rfl, rfl⟩
      | false => rw [hg] at h1 h2; cases h1; cases h2; exact .inr ⟨rfl, rfl⟩
  · rw [if_neg hl] at h1 h2
    cases h1; cases h2
    exact .inr ⟨rfl, rfl⟩
set_option maxHeartbeats 16000000 in
set_option maxRecDepth 100000 in
theorem SlotCodec_in (w : World) (P0 : List Int) (hl0 : P0.length = 16) (hw0 : ∀ x ∈ P0, Wf x) (A B : Option Addr) (n c n3 c3 : Nat) (l : List Int) (lb : List UInt8) (r0 : Reads w A n (ints l)) (rb : Reads w B n3 (bytes lb)) (hn : n ≤ 140737488351232) (hn3 : n3 ≤ 140737488351232) :
    Calls Try.prog 8 #[pv P0, .slice A n c, .slice B n3 c3] w fun e w' => e = .returned (.bool true) ∧ Below w.heap.size w w' := by
  have HM := Lib.hid (fun w r => made_is A n c l w r (by omega) (made l) rfl)
  have HMLn := Lib.hid (made_len l)
  have HMO := Lib.hid (made_ok l)
  generalize made l = M at *
  have R0 := Lib.hid r0
  have RB := Lib.hid rb
  have HLB := Lib.hid (show lb.length = n3 from by simpa using rb.1)
  have HW0 := Lib.hid hw0
  clear r0 rb hw0
  have hnil : ∀ (a : Addr) (w : World), (binOp .eql 42 (.pointer (some a)) (.pointer none)).run Try.prog w = .ok (.bool false) w := fun a w => by
    have hu := Try.underlying42
    go_simp
  have hnil2 : ∀ (a : Addr) (w : World), (binOp .neq 42 (.pointer (some a)) (.pointer none)).run Try.prog w = .ok (.bool true) w := fun a w => by
    have hu := Try.underlying42
    go_simp
  have HL0 := Lib.hid hl0
  clear hl0
  unfold pv at HM ⊢
  go_enter Try.func8, Try.ntmps8
  go_wp2_with (refine wpList_box rfl 24 _ rfl _ rfl ?_; intro w1 hb1 hk1 hs1; clear hs1; have hb1 : Blk w1 w.heap.size 24 (ints P0) := hb1)
  refine (codec_is _).mono ?_; rintro e w2 ⟨p, rfl, hC2, k2⟩
  have hb2 := hb1.nob k2
  have K2 := hk1.nobt k2
  clear hb1 hk1 k2
  by_cases h100 : 100 < n3
  · go_wp2_with fail
    refine (size_is p _ hC2).mono ?_; rintro e w3 ⟨rfl, rfl⟩
    go_wp2_with fail
    refine (size_is p _ hC2).mono ?_; rintro e w3 ⟨rfl, rfl⟩
    go_wp2_with fail
    refine (awake_is _).mono ?_; rintro e w3 ⟨rfl, k3⟩
    have K3 := K2.nobt k3
    go_wp2
    go_ret
    exact ⟨rfl, K3.below (Nat.le_refl _) (fun _ _ f => f)⟩
  go_wp2_with fail
  refine (size_is p _ hC2).mono ?_; rintro e w3 ⟨rfl, rfl⟩
  go_wp2_with fail
  clear hnil hnil2
  go_loopw [8] (fun s8 wx => ∃ k : Nat, k ≤ 2 ∧ s8 = .int .i64 k ∧ IsC wx p ∧ Blk wx w.heap.size 24 (ints P0) ∧ Keep Nob w wx) (fun s8 _ => 2 - (intOf s8).toNat)
  case atStart => exact ⟨0, Nat.zero_le _, rfl, hC2, hb2, K2⟩
  case round =>
    obtain ⟨k, hk, rfl, hC3, hb3, K3⟩ := hrel
    clear hC2 hb2 K2
    rcases (show k = 0 ∨ k = 1 ∨ k = 2 from by omega) with rfl | rfl | rfl
    · go_upto_region 7 with fail
      have hCd := hC3.nob (Keep.nobdrew _)
      have hbd := hb3.drew
      have Kd := K3.drew
      clear hC3 hb3 K3
      go_cut [9] from 44 to 50 (fun s9 wx => ∃ g, s9 = .pointer (some ⟨g, 0, none⟩) ∧ Blk wx g 24 (ints P0) ∧ IsC wx p ∧ Blk wx w.heap.size 24 (ints P0) ∧ Keep Nob w wx)
      case first =>
        go_wp2_with fail
        refine wp_region_held_drew (S := (fun w' => Blk w' w.heap.size 24 (ints P0))) (by kernel_rfl) hbd (fun hHeld => ?_)
        generalize wr.drew = wd at *
        refine wpAnyH_take (i := 0) (v := ?_) rfl (by kernel_rfl) (by kernel_rfl) (by kernel_rfl) (fun _ _ _ h => h) (Or.inl ⟨by rfl, ?_⟩) (by assumption) ?_
        rotate_left
        · (intro w hSw; (try dsimp only at hSw); refine exec_load (q := P0) (x := .tmp 3) ?_ ?_ HL0.out hSw <;> rfl)
        try simp only [Act.put, List.getElem_toArray, List.getElem_cons_zero, List.getElem_cons_succ, List.setIfInBounds_toArray, List.set_cons_zero, List.set_cons_succ]
        refine wpAnyH_take (i := 1) (v := ?_) rfl (by kernel_rfl) (by kernel_rfl) (by kernel_rfl) (fun _ _ _ h => h) (Or.inl ⟨by rfl, ?_⟩) (by assumption) ?_
        rotate_left
        · (intro w hSw; (try dsimp only at hSw); go_simp; try with_reducible rfl)
        try simp only [Act.put, List.getElem_toArray, List.getElem_cons_zero, List.getElem_cons_succ, List.setIfInBounds_toArray, List.set_cons_zero, List.set_cons_succ]
        refine wpAnyH_take (i := 4) (v := ?_) rfl (by kernel_rfl) (by kernel_rfl) (by kernel_rfl) (fun _ _ _ h => h) (Or.inl ⟨by rfl, ?_⟩) (by assumption) ?_
        rotate_left
        · (intro w hSw; (try dsimp only at hSw); go_simp; try with_reducible rfl)
        try simp only [Act.put, List.getElem_toArray, List.getElem_cons_zero, List.getElem_cons_succ, List.setIfInBounds_toArray, List.set_cons_zero, List.set_cons_succ]
        refine wpAnyH_ready (rs := [2, 7]) (by kernel_rfl) (by simp) ?_
        refine AllReadyH.cons rfl (fun K hK => ?_) ?_
        · go_simp
          have hMM := HM.out _ (R0.out.nob Kd)
          refine hMM.mono ?_; rintro e w_1 ⟨rfl, k_2⟩
          clear hMM
          have hC_3 := hCd.nob k_2
          have hB_4 := hbd.nob k_2
          have kk_5 := Kd.nobt k_2
          refine hK.out _ _ ?_ (fun hHeld => ?_)
          · exact hB_4
          clear hK K
          try simp only [Act.put, List.getElem_toArray, List.getElem_cons_zero, List.getElem_cons_succ, List.setIfInBounds_toArray, List.set_cons_zero, List.set_cons_succ]
          refine wpAnyH_ready (rs := [3, 7]) (by kernel_rfl) (by simp) ?_
          refine AllReadyH.cons rfl (fun K hK => ?_) ?_
          · rw [if_pos (by rfl)]
            refine wp_bs (P := P0) (M := M) rfl rfl rfl HL0.out HMLn.out ?_
            have hs_7 : Blk (w_1.alloc (.cells (ints (P0 ++ M)).toArray 24)) w_1.heap.size 24 (ints (P0 ++ M)) := Blk.new w_1 _ _
            have ka_6 := (Keep.refl Nob w_1).alloc (.cells (ints (P0 ++ M)).toArray 24)
            have hC_8 := hC_3.nob ka_6
            have hB_9 := hB_4.nob ka_6
            have kk_10 := kk_5.nobt ka_6
            refine hK.out _ _ ?_ (fun hHeld => ?_)
            · exact hB_9
            clear hK K
            try simp only [Act.put, List.getElem_toArray, List.getElem_cons_zero, List.getElem_cons_succ, List.setIfInBounds_toArray, List.set_cons_zero, List.set_cons_succ]
            generalize (w_1.alloc (.cells (ints (P0 ++ M)).toArray 24)) = w_12 at *
            generalize w_1.heap.size = gs_11 at *
            refine wpAnyH_take (i := 5) (v := ?_) rfl (by kernel_rfl) (by kernel_rfl) (by kernel_rfl) (fun _ _ _ h => h) (Or.inl ⟨by rfl, ?_⟩) (by assumption) ?_
            rotate_left
            · (intro w hSw; (try dsimp only at hSw); go_simp; try with_reducible rfl)
            try simp only [Act.put, List.getElem_toArray, List.getElem_cons_zero, List.getElem_cons_succ, List.setIfInBounds_toArray, List.set_cons_zero, List.set_cons_succ]
            refine wpAnyH_ready (rs := [6, 7]) (by kernel_rfl) (by simp) ?_
            refine AllReadyH.cons rfl (fun K hK => ?_) ?_
            · rw [if_pos (by rfl)]
              refine wp_load_off (off := 0) (q := P0) rfl rfl HL0.out hs_7 (part_one P0 M) ?_
              refine hK.out _ _ ?_ (fun hHeld => ?_)
              · exact hB_9
              clear hK K
              try simp only [Act.put, List.getElem_toArray, List.getElem_cons_zero, List.getElem_cons_succ, List.setIfInBounds_toArray, List.set_cons_zero, List.set_cons_succ]
              refine wpAnyH_ready (rs := [7]) (by kernel_rfl) (by simp) ?_
              refine AllReadyH.cons rfl (fun K hK => ?_) AllReadyH.nil
              go_simp
              have hn_13 : Blk (w_12.alloc (.cells #[.int .i64 0, .int .i64 0, .int .i64 0, .int .i64 0, .int .i64 0, .int .i64 0, .int .i64 0, .int .i64 0, .int .i64 0, .int .i64 0, .int .i64 0, .int .i64 0, .int .i64 0, .int .i64 0, .int .i64 0, .int .i64 0] 24)) w_12.heap.size 24 (ints noP) := Blk.new w_12 24 (ints noP)
              have ka_14 := (Keep.refl Nob w_12).alloc (.cells #[.int .i64 0, .int .i64 0, .int .i64 0, .int .i64 0, .int .i64 0, .int .i64 0, .int .i64 0, .int .i64 0, .int .i64 0, .int .i64 0, .int .i64 0, .int .i64 0, .int .i64 0, .int .i64 0, .int .i64 0, .int .i64 0] 24)
              have e_15 : w.heap.size ≤ w_12.heap.size := kk_10.size
              have e_16 : w.heap.size ≠ w_12.heap.size := by have := hB_9.lt; omega
              have e_17 : p ≠ w_12.heap.size := by have := Blk.lt hC_8; omega
              have hC_18 := hC_8.nob ka_14
              have hB_19 := hB_9.nob ka_14
              have hs_20 := hs_7.nob ka_14
              have kk_21 := kk_10.nobt ka_14
              refine hK.out _ _ ?_ (fun hHeld => ?_)
              · exact hB_19
              clear hK K
              try simp only [Act.put, List.getElem_toArray, List.getElem_cons_zero, List.getElem_cons_succ, List.setIfInBounds_toArray, List.set_cons_zero, List.set_cons_succ]
              generalize (w_12.alloc (.cells #[.int .i64 0, .int .i64 0, .int .i64 0, .int .i64 0, .int .i64 0, .int .i64 0, .int .i64 0, .int .i64 0, .int .i64 0, .int .i64 0, .int .i64 0, .int .i64 0, .int .i64 0, .int .i64 0, .int .i64 0, .int .i64 0] 24)) = w_22 at *
              generalize w_12.heap.size = gn_23 at *
              refine wpAnyH_ready (rs := [8]) (by kernel_rfl) (by simp) ?_
              refine AllReadyH.cons rfl (fun K hK => ?_) AllReadyH.nil
              rw [if_pos (by rfl)]
              refine wp_store_ (old := noP) (q := P0) rfl rfl rfl HL0.out rfl hn_13 ?_
              refine hK.out _ _ ?_ (fun hHeld => ?_)
              · exact hB_19.setRow_far e_16 _
              clear hK K
              try simp only [Act.put, List.getElem_toArray, List.getElem_cons_zero, List.getElem_cons_succ, List.setIfInBounds_toArray, List.set_cons_zero, List.set_cons_succ]
              refine wpAnyH_done (by kernel_rfl) ?_ _
              go_wp2_with fail
              go_meet
              exact ⟨_, rfl, hn_13.setRow (ints P0), Blk.setRow_far hC_18 e_17 _, hB_19.setRow_far e_16 _, kk_21.setRow gn_23 _ (fun h => absurd h (by omega))⟩
            refine AllReadyH.cons rfl (fun K hK => ?_) AllReadyH.nil
            go_simp
            have hn_24 : Blk (w_12.alloc (.cells #[.int .i64 0, .int .i64 0, .int .i64 0, .int .i64 0, .int .i64 0, .int .i64 0, .int .i64 0, .int .i64 0, .int .i64 0, .int .i64 0, .int .i64 0, .int .i64 0, .int .i64 0, .int .i64 0, .int .i64 0, .int .i64 0] 24)) w_12.heap.size 24 (ints noP) := Blk.new w_12 24 (ints noP)
            have ka_25 := (Keep.refl Nob w_12).alloc (.cells #[.int .i64 0, .int .i64 0, .int .i64 0, .int .i64 0, .int .i64 0, .int .i64 0, .int .i64 0, .int .i64 0, .int .i64 0, .int .i64 0, .int .i64 0, .int .i64 0, .int .i64 0, .int .i64 0, .int .i64 0, .int .i64 0] 24)
            have e_26 : w.heap.size ≤ w_12.heap.size := kk_10.size
            have e_27 : w.heap.size ≠ w_12.heap.size := by have := hB_9.lt; omega
            have e_28 : p ≠ w_12.heap.size := by have := Blk.lt hC_8; omega
            have hC_29 := hC_8.nob ka_25
            have hB_30 := hB_9.nob ka_25
            have hs_31 := hs_7.nob ka_25
            have kk_32 := kk_10.nobt ka_25
            refine hK.out _ _ ?_ (fun hHeld => ?_)
            · exact hB_30
            clear hK K
            try simp only [Act.put, List.getElem_toArray, List.getElem_cons_zero, List.getElem_cons_succ, List.setIfInBounds_toArray, List.set_cons_zero, List.set_cons_succ]
            generalize (w_12.alloc (.cells #[.int .i64 0, .int .i64 0, .int .i64 0, .int .i64 0, .int .i64 0, .int .i64 0, .int .i64 0, .int .i64 0, .int .i64 0, .int .i64 0, .int .i64 0, .int .i64 0, .int .i64 0, .int .i64 0, .int .i64 0, .int .i64 0] 24)) = w_33 at *
            generalize w_12.heap.size = gn_34 at *
            refine wpAnyH_ready (rs := [6]) (by kernel_rfl) (by simp) ?_
            refine AllReadyH.cons rfl (fun K hK => ?_) AllReadyH.nil
            rw [if_pos (by rfl)]
            refine wp_load_off (off := 0) (q := P0) rfl rfl HL0.out hs_31 (part_one P0 M) ?_
            refine hK.out _ _ ?_ (fun hHeld => ?_)
            · exact hB_30
            clear hK K
            try simp only [Act.put, List.getElem_toArray, List.getElem_cons_zero, List.getElem_cons_succ, List.setIfInBounds_toArray, List.set_cons_zero, List.set_cons_succ]
            refine wpAnyH_ready (rs := [8]) (by kernel_rfl) (by simp) ?_
            refine AllReadyH.cons rfl (fun K hK => ?_) AllReadyH.nil
            rw [if_pos (by rfl)]
            refine wp_store_ (old := noP) (q := P0) rfl rfl rfl HL0.out rfl hn_24 ?_
            refine hK.out _ _ ?_ (fun hHeld => ?_)
            · exact hB_30.setRow_far e_27 _
            clear hK K
            try simp only [Act.put, List.getElem_toArray, List.getElem_cons_zero, List.getElem_cons_succ, List.setIfInBounds_toArray, List.set_cons_zero, List.set_cons_succ]
            refine wpAnyH_done (by kernel_rfl) ?_ _
            go_wp2_with fail
            go_meet
            exact ⟨_, rfl, hn_24.setRow (ints P0), Blk.setRow_far hC_29 e_28 _, hB_30.setRow_far e_27 _, kk_32.setRow gn_34 _ (fun h => absurd h (by omega))⟩
          refine AllReadyH.cons rfl (fun K hK => ?_) AllReadyH.nil
          go_simp
          have hn_35 : Blk (w_1.alloc (.cells #[.int .i64 0, .int .i64 0, .int .i64 0, .int .i64 0, .int .i64 0, .int .i64 0, .int .i64 0, .int .i64 0, .int .i64 0, .int .i64 0, .int .i64 0, .int .i64 0, .int .i64 0, .int .i64 0, .int .i64 0, .int .i64 0] 24)) w_1.heap.size 24 (ints noP) := Blk.new w_1 24 (ints noP)
          have ka_36 := (Keep.refl Nob w_1).alloc (.cells #[.int .i64 0, .int .i64 0, .int .i64 0, .int .i64 0, .int .i64 0, .int .i64 0, .int .i64 0, .int .i64 0, .int .i64 0, .int .i64 0, .int .i64 0, .int .i64 0, .int .i64 0, .int .i64 0, .int .i64 0, .int .i64 0] 24)
          have e_37 : w.heap.size ≤ w_1.heap.size := kk_5.size
          have e_38 : w.heap.size ≠ w_1.heap.size := by have := hB_4.lt; omega
          have e_39 : p ≠ w_1.heap.size := by have := Blk.lt hC_3; omega
          have hC_40 := hC_3.nob ka_36
          have hB_41 := hB_4.nob ka_36
          have kk_42 := kk_5.nobt ka_36
          refine hK.out _ _ ?_ (fun hHeld => ?_)
          · exact hB_41
          clear hK K
          try simp only [Act.put, List.getElem_toArray, List.getElem_cons_zero, List.getElem_cons_succ, List.setIfInBounds_toArray, List.set_cons_zero, List.set_cons_succ]
          generalize (w_1.alloc (.cells #[.int .i64 0, .int .i64 0, .int .i64 0, .int .i64 0, .int .i64 0, .int .i64 0, .int .i64 0, .int .i64 0, .int .i64 0, .int .i64 0, .int .i64 0, .int .i64 0, .int .i64 0, .int .i64 0, .int .i64 0, .int .i64 0] 24)) = w_43 at *
          generalize w_1.heap.size = gn_44 at *
          refine wpAnyH_ready (rs := [3]) (by kernel_rfl) (by simp) ?_
          refine AllReadyH.cons rfl (fun K hK => ?_) AllReadyH.nil
          rw [if_pos (by rfl)]
          refine wp_bs (P := P0) (M := M) rfl rfl rfl HL0.out HMLn.out ?_
          have hs_46 : Blk (w_43.alloc (.cells (ints (P0 ++ M)).toArray 24)) w_43.heap.size 24 (ints (P0 ++ M)) := Blk.new w_43 _ _
          have ka_45 := (Keep.refl Nob w_43).alloc (.cells (ints (P0 ++ M)).toArray 24)
          have hC_47 := hC_40.nob ka_45
          have hB_48 := hB_41.nob ka_45
          have hn_49 := hn_35.nob ka_45
          have kk_50 := kk_42.nobt ka_45
          refine hK.out _ _ ?_ (fun hHeld => ?_)
          · exact hB_48
          clear hK K
          try simp only [Act.put, List.getElem_toArray, List.getElem_cons_zero, List.getElem_cons_succ, List.setIfInBounds_toArray, List.set_cons_zero, List.set_cons_succ]
          generalize (w_43.alloc (.cells (ints (P0 ++ M)).toArray 24)) = w_52 at *
          generalize w_43.heap.size = gs_51 at *
          refine wpAnyH_take (i := 5) (v := ?_) rfl (by kernel_rfl) (by kernel_rfl) (by kernel_rfl) (fun _ _ _ h => h) (Or.inl ⟨by rfl, ?_⟩) (by assumption) ?_
          rotate_left
          · (intro w hSw; (try dsimp only at hSw); go_simp; try with_reducible rfl)
          try simp only [Act.put, List.getElem_toArray, List.getElem_cons_zero, List.getElem_cons_succ, List.setIfInBounds_toArray, List.set_cons_zero, List.set_cons_succ]
          refine wpAnyH_ready (rs := [6]) (by kernel_rfl) (by simp) ?_
          refine AllReadyH.cons rfl (fun K hK => ?_) AllReadyH.nil
          rw [if_pos (by rfl)]
          refine wp_load_off (off := 0) (q := P0) rfl rfl HL0.out hs_46 (part_one P0 M) ?_
          refine hK.out _ _ ?_ (fun hHeld => ?_)
          · exact hB_48
          clear hK K
          try simp only [Act.put, List.getElem_toArray, List.getElem_cons_zero, List.getElem_cons_succ, List.setIfInBounds_toArray, List.set_cons_zero, List.set_cons_succ]
          refine wpAnyH_ready (rs := [8]) (by kernel_rfl) (by simp) ?_
          refine AllReadyH.cons rfl (fun K hK => ?_) AllReadyH.nil
          rw [if_pos (by rfl)]
          refine wp_store_ (old := noP) (q := P0) rfl rfl rfl HL0.out rfl hn_49 ?_
          refine hK.out _ _ ?_ (fun hHeld => ?_)
          · exact hB_48.setRow_far e_38 _
          clear hK K
          try simp only [Act.put, List.getElem_toArray, List.getElem_cons_zero, List.getElem_cons_succ, List.setIfInBounds_toArray, List.set_cons_zero, List.set_cons_succ]
          refine wpAnyH_done (by kernel_rfl) ?_ _
          go_wp2_with fail
          go_meet
          exact ⟨_, rfl, hn_49.setRow (ints P0), Blk.setRow_far hC_47 e_39 _, hB_48.setRow_far e_38 _, kk_50.setRow gn_44 _ (fun h => absurd h (by omega))⟩
        refine AllReadyH.cons rfl (fun K hK => ?_) AllReadyH.nil
        go_simp
        have hn_53 : Blk (wd.alloc (.cells #[.int .i64 0, .int .i64 0, .int .i64 0, .int .i64 0, .int .i64 0, .int .i64 0, .int .i64 0, .int .i64 0, .int .i64 0, .int .i64 0, .int .i64 0, .int .i64 0, .int .i64 0, .int .i64 0, .int .i64 0, .int .i64 0] 24)) wd.heap.size 24 (ints noP) := Blk.new wd 24 (ints noP)
        have ka_54 := (Keep.refl Nob wd).alloc (.cells #[.int .i64 0, .int .i64 0, .int .i64 0, .int .i64 0, .int .i64 0, .int .i64 0, .int .i64 0, .int .i64 0, .int .i64 0, .int .i64 0, .int .i64 0, .int .i64 0, .int .i64 0, .int .i64 0, .int .i64 0, .int .i64 0] 24)
        have e_55 : w.heap.size ≤ wd.heap.size := Kd.size
        have e_56 : w.heap.size ≠ wd.heap.size := by have := hbd.lt; omega
        have e_57 : p ≠ wd.heap.size := by have := Blk.lt hCd; omega
        have hC_58 := hCd.nob ka_54
        have hB_59 := hbd.nob ka_54
        have kk_60 := Kd.nobt ka_54
        refine hK.out _ _ ?_ (fun hHeld => ?_)
        · exact hB_59
        clear hK K
        try simp only [Act.put, List.getElem_toArray, List.getElem_cons_zero, List.getElem_cons_succ, List.setIfInBounds_toArray, List.set_cons_zero, List.set_cons_succ]
        generalize (wd.alloc (.cells #[.int .i64 0, .int .i64 0, .int .i64 0, .int .i64 0, .int .i64 0, .int .i64 0, .int .i64 0, .int .i64 0, .int .i64 0, .int .i64 0, .int .i64 0, .int .i64 0, .int .i64 0, .int .i64 0, .int .i64 0, .int .i64 0] 24)) = w_61 at *
        generalize wd.heap.size = gn_62 at *
        refine wpAnyH_ready (rs := [2]) (by kernel_rfl) (by simp) ?_
        refine AllReadyH.cons rfl (fun K hK => ?_) AllReadyH.nil
        go_simp
        have hMM := HM.out _ (R0.out.nob kk_60)
        refine hMM.mono ?_; rintro e w_63 ⟨rfl, k_64⟩
        clear hMM
        have hC_65 := hC_58.nob k_64
        have hB_66 := hB_59.nob k_64
        have hn_67 := hn_53.nob k_64
        have kk_68 := kk_60.nobt k_64
        refine hK.out _ _ ?_ (fun hHeld => ?_)
        · exact hB_66
        clear hK K
        try simp only [Act.put, List.getElem_toArray, List.getElem_cons_zero, List.getElem_cons_succ, List.setIfInBounds_toArray, List.set_cons_zero, List.set_cons_succ]
        refine wpAnyH_ready (rs := [3]) (by kernel_rfl) (by simp) ?_
        refine AllReadyH.cons rfl (fun K hK => ?_) AllReadyH.nil
        rw [if_pos (by rfl)]
        refine wp_bs (P := P0) (M := M) rfl rfl rfl HL0.out HMLn.out ?_
        have hs_70 : Blk (w_63.alloc (.cells (ints (P0 ++ M)).toArray 24)) w_63.heap.size 24 (ints (P0 ++ M)) := Blk.new w_63 _ _
        have ka_69 := (Keep.refl Nob w_63).alloc (.cells (ints (P0 ++ M)).toArray 24)
        have hC_71 := hC_65.nob ka_69
        have hB_72 := hB_66.nob ka_69
        have hn_73 := hn_67.nob ka_69
        have kk_74 := kk_68.nobt ka_69
        refine hK.out _ _ ?_ (fun hHeld => ?_)
        · exact hB_72
        clear hK K
        try simp only [Act.put, List.getElem_toArray, List.getElem_cons_zero, List.getElem_cons_succ, List.setIfInBounds_toArray, List.set_cons_zero, List.set_cons_succ]
        generalize (w_63.alloc (.cells (ints (P0 ++ M)).toArray 24)) = w_76 at *
        generalize w_63.heap.size = gs_75 at *
        refine wpAnyH_take (i := 5) (v := ?_) rfl (by kernel_rfl) (by kernel_rfl) (by kernel_rfl) (fun _ _ _ h => h) (Or.inl ⟨by rfl, ?_⟩) (by assumption) ?_
        rotate_left
        · (intro w hSw; (try dsimp only at hSw); go_simp; try with_reducible rfl)
        try simp only [Act.put, List.getElem_toArray, List.getElem_cons_zero, List.getElem_cons_succ, List.setIfInBounds_toArray, List.set_cons_zero, List.set_cons_succ]
        refine wpAnyH_ready (rs := [6]) (by kernel_rfl) (by simp) ?_
        refine AllReadyH.cons rfl (fun K hK => ?_) AllReadyH.nil
        rw [if_pos (by rfl)]
        refine wp_load_off (off := 0) (q := P0) rfl rfl HL0.out hs_70 (part_one P0 M) ?_
        refine hK.out _ _ ?_ (fun hHeld => ?_)
        · exact hB_72
        clear hK K
        try simp only [Act.put, List.getElem_toArray, List.getElem_cons_zero, List.getElem_cons_succ, List.setIfInBounds_toArray, List.set_cons_zero, List.set_cons_succ]
        refine wpAnyH_ready (rs := [8]) (by kernel_rfl) (by simp) ?_
        refine AllReadyH.cons rfl (fun K hK => ?_) AllReadyH.nil
        rw [if_pos (by rfl)]
        refine wp_store_ (old := noP) (q := P0) rfl rfl rfl HL0.out rfl hn_73 ?_
        refine hK.out _ _ ?_ (fun hHeld => ?_)
        · exact hB_72.setRow_far e_56 _
        clear hK K
        try simp only [Act.put, List.getElem_toArray, List.getElem_cons_zero, List.getElem_cons_succ, List.setIfInBounds_toArray, List.set_cons_zero, List.set_cons_succ]
        refine wpAnyH_done (by kernel_rfl) ?_ _
        go_wp2_with fail
        go_meet
        exact ⟨_, rfl, hn_73.setRow (ints P0), Blk.setRow_far hC_71 e_57 _, hB_72.setRow_far e_56 _, kk_74.setRow gn_62 _ (fun h => absurd h (by omega))⟩
      case rest =>
      obtain ⟨g9, rfl, hp4, hC4, hb4, K4⟩ := hcut
      clear hCd hbd Kd
      obtain ⟨v, hv⟩ : ∃ v, okd P0 = v := ⟨_, rfl⟩
      have he := fun p w h => cenc_is p P0 HL0.out HW0.out w h v hv
      have hpo := fun w => procok_is P0 HL0.out HW0.out w v hv
      have hpb := fun (e : v = true) w => procbytes_is P0 HL0.out (by rw [hv, e]) w
      unfold pv at he hpo hpb
      have HE := Lib.hid he
      have HPO := Lib.hid hpo
      have HPB := Lib.hid hpb
      clear he hpo hpb
      have HQL := Lib.hid HL0.out
      go_wp2_with (refine wpList_ld rfl (.tmp 9) rfl g9 P0 rfl HQL.out hp4 ?_)
      refine (HE.out p _ hC4).mono ?_; rintro e w5 ⟨x, rfl, tx, k5⟩
      have hp5 := hp4.nob k5
      have hC5 := hC4.nob k5
      have hb5 := hb4.nob k5
      have K5 := K4.nobt k5
      clear hp4 hC4 hb4 K4 k5
      go_wp2_with (refine wpList_ld rfl (.tmp 9) rfl g9 P0 rfl HQL.out hp5 ?_)
      refine (HPO.out _).mono ?_; rintro e w6 ⟨rfl, k6⟩
      have hp6 := (hp5.nob k6).drew
      have hC6 := (hC5.nob k6).nob (Keep.nobdrew _)
      have hb6 := (hb5.nob k6).drew
      have K6 := (K5.nobt k6).drew
      clear hp5 hC5 hb5 K5
      cases v with
      | false =>
        have tx : x = .slice none 0 0 := tx
        subst tx
        go_wp2_with fail
        refine wp_region_held_drew (S := (fun w' => Blk w' g9 24 (ints P0))) (by kernel_rfl) hp6 (fun hHeld => ?_)
        generalize w6.drew = wd at *
        refine wpAnyH_take (i := 0) (v := ?_) rfl (by kernel_rfl) (by kernel_rfl) (by kernel_rfl) (fun _ _ _ h => h) (Or.inl ⟨by rfl, ?_⟩) (by assumption) ?_
        rotate_left
        · (intro w hSw; (try dsimp only at hSw); go_simp; try with_reducible rfl)
        try simp only [Act.put, List.getElem_toArray, List.getElem_cons_zero, List.getElem_cons_succ, List.setIfInBounds_toArray, List.set_cons_zero, List.set_cons_succ]
        refine wpAnyH_take (i := 1) (v := ?_) rfl (by kernel_rfl) (by kernel_rfl) (by kernel_rfl) (fun _ _ _ h => h) (Or.inl ⟨by rfl, ?_⟩) (by assumption) ?_
        rotate_left
        · (intro w hSw; (try dsimp only at hSw); go_simp; try with_reducible rfl)
        try simp only [Act.put, List.getElem_toArray, List.getElem_cons_zero, List.getElem_cons_succ, List.setIfInBounds_toArray, List.set_cons_zero, List.set_cons_succ]
        refine wpAnyH_take (i := 2) (v := ?_) rfl (by kernel_rfl) (by kernel_rfl) (by kernel_rfl) (fun _ _ _ h => h) (Or.inl ⟨by rfl, ?_⟩) (by assumption) ?_
        rotate_left
        · (intro w hSw; (try dsimp only at hSw); go_simp; try with_reducible rfl)
        try simp only [Act.put, List.getElem_toArray, List.getElem_cons_zero, List.getElem_cons_succ, List.setIfInBounds_toArray, List.set_cons_zero, List.set_cons_succ]
        refine wpAnyH_take (i := 3) (v := ?_) rfl (by kernel_rfl) (by kernel_rfl) (by kernel_rfl) (fun _ _ _ h => h) (Or.inl ⟨by rfl, ?_⟩) (by assumption) ?_
        rotate_left
        · (intro w hSw; (try dsimp only at hSw); go_simp; try with_reducible rfl)
        try simp only [Act.put, List.getElem_toArray, List.getElem_cons_zero, List.getElem_cons_succ, List.setIfInBounds_toArray, List.set_cons_zero, List.set_cons_succ]
        refine wpAnyH_take (i := 4) (v := ?_) rfl (by kernel_rfl) (by kernel_rfl) (by kernel_rfl) (fun _ _ _ h => h) (Or.inl ⟨by rfl, ?_⟩) (by assumption) ?_
        rotate_left
        · (intro w hSw; (try dsimp only at hSw); go_simp; try with_reducible rfl)
        try simp only [Act.put, List.getElem_toArray, List.getElem_cons_zero, List.getElem_cons_succ, List.setIfInBounds_toArray, List.set_cons_zero, List.set_cons_succ]
        refine wpAnyH_take (i := 5) (v := ?_) rfl (by kernel_rfl) (by kernel_rfl) (by kernel_rfl) (fun _ _ _ h => h) (Or.inl ⟨by rfl, ?_⟩) (by assumption) ?_
        rotate_left
        · (intro w hSw; (try dsimp only at hSw); go_simp; try with_reducible rfl)
        try simp only [Act.put, List.getElem_toArray, List.getElem_cons_zero, List.getElem_cons_succ, List.setIfInBounds_toArray, List.set_cons_zero, List.set_cons_succ]
        refine wpAnyH_take (i := 6) (v := undef) rfl (by kernel_rfl) (by kernel_rfl) (by kernel_rfl) (fun _ _ _ h => h) (Or.inr ⟨by rfl, rfl⟩) (by assumption) ?_
        try simp only [Act.put, List.getElem_toArray, List.getElem_cons_zero, List.getElem_cons_succ, List.setIfInBounds_toArray, List.set_cons_zero, List.set_cons_succ]
        refine wpAnyH_take (i := 7) (v := undef) rfl (by kernel_rfl) (by kernel_rfl) (by kernel_rfl) (fun _ _ _ h => h) (Or.inr ⟨by rfl, rfl⟩) (by assumption) ?_
        try simp only [Act.put, List.getElem_toArray, List.getElem_cons_zero, List.getElem_cons_succ, List.setIfInBounds_toArray, List.set_cons_zero, List.set_cons_succ]
        refine wpAnyH_take (i := 8) (v := undef) rfl (by kernel_rfl) (by kernel_rfl) (by kernel_rfl) (fun _ _ _ h => h) (Or.inr ⟨by rfl, rfl⟩) (by assumption) ?_
        try simp only [Act.put, List.getElem_toArray, List.getElem_cons_zero, List.getElem_cons_succ, List.setIfInBounds_toArray, List.set_cons_zero, List.set_cons_succ]
        refine wpAnyH_take (i := 9) (v := undef) rfl (by kernel_rfl) (by kernel_rfl) (by kernel_rfl) (fun _ _ _ h => h) (Or.inr ⟨by rfl, rfl⟩) (by assumption) ?_
        try simp only [Act.put, List.getElem_toArray, List.getElem_cons_zero, List.getElem_cons_succ, List.setIfInBounds_toArray, List.set_cons_zero, List.set_cons_succ]
        refine wpAnyH_take (i := 10) (v := undef) rfl (by kernel_rfl) (by kernel_rfl) (by kernel_rfl) (fun _ _ _ h => h) (Or.inr ⟨by rfl, rfl⟩) (by assumption) ?_
        try simp only [Act.put, List.getElem_toArray, List.getElem_cons_zero, List.getElem_cons_succ, List.setIfInBounds_toArray, List.set_cons_zero, List.set_cons_succ]
        refine wpAnyH_take (i := 11) (v := ?_) rfl (by kernel_rfl) (by kernel_rfl) (by kernel_rfl) (fun _ _ _ h => h) (Or.inl ⟨by rfl, ?_⟩) (by assumption) ?_
        rotate_left
        · (intro w hSw; (try dsimp only at hSw); go_simp; try with_reducible rfl)
        try simp only [Act.put, List.getElem_toArray, List.getElem_cons_zero, List.getElem_cons_succ, List.setIfInBounds_toArray, List.set_cons_zero, List.set_cons_succ]
        refine wpAnyH_take (i := 12) (v := ?_) rfl (by kernel_rfl) (by kernel_rfl) (by kernel_rfl) (fun _ _ _ h => h) (Or.inl ⟨by rfl, ?_⟩) (by assumption) ?_
        rotate_left
        · (intro w hSw; (try dsimp only at hSw); go_simp; try with_reducible rfl)
        try simp only [Act.put, List.getElem_toArray, List.getElem_cons_zero, List.getElem_cons_succ, List.setIfInBounds_toArray, List.set_cons_zero, List.set_cons_succ]
        refine wpAnyH_done (by kernel_rfl) ?_ _
        go_wp2_with fail
        go_round
        case rel => exact ⟨1, by omega, by go_num, hC6, hb6, K6⟩
        case measure => simp [intOf]
      | true =>
        obtain ⟨g, m, rfl, vx, ox⟩ := told_out tx
        clear tx
        have r6 := (show Reads _ _ 24 _ from vx.reads).nob k6.drew
        have s6 := conv_of w6.drew _ 24 _ r6 m
        obtain ⟨X, hX⟩ : ∃ X, str (enc P0) = X := ⟨_, rfl⟩
        have HPX := Lib.hid (fun w => HPB.out rfl w)
        rw [hX] at s6 HPX
        have HX := Lib.hid hX
        clear hX vx ox k6
        go_wp2_with fail
        refine wp_region_held_drew (S := (fun w' => Blk w' g9 24 (ints P0) ∧ (convert 26 9 (.slice (some ⟨g, 0, none⟩) 24 m)).run Try.prog w' = .ok (.string X) w')) (by kernel_rfl) ⟨hp6, s6⟩ (fun hHeld => ?_)
        generalize w6.drew = wd at *
        refine wpAnyH_take (i := 0) (v := ?_) rfl (by kernel_rfl) (by kernel_rfl) (by kernel_rfl) (fun _ _ _ h => h) (Or.inl ⟨by rfl, ?_⟩) (by assumption) ?_
        rotate_left
        · (intro w hSw; (try dsimp only at hSw); obtain ⟨sa, sb⟩ := hSw; go_simp; try with_reducible rfl)
        try simp only [Act.put, List.getElem_toArray, List.getElem_cons_zero, List.getElem_cons_succ, List.setIfInBounds_toArray, List.set_cons_zero, List.set_cons_succ]
        refine wpAnyH_take (i := 1) (v := ?_) rfl (by kernel_rfl) (by kernel_rfl) (by kernel_rfl) (fun _ _ _ h => h) (Or.inl ⟨by rfl, ?_⟩) (by assumption) ?_
        rotate_left
        · (intro w hSw; (try dsimp only at hSw); obtain ⟨sa, sb⟩ := hSw; go_simp; try with_reducible rfl)
        try simp only [Act.put, List.getElem_toArray, List.getElem_cons_zero, List.getElem_cons_succ, List.setIfInBounds_toArray, List.set_cons_zero, List.set_cons_succ]
        refine wpAnyH_take (i := 2) (v := ?_) rfl (by kernel_rfl) (by kernel_rfl) (by kernel_rfl) (fun _ _ _ h => h) (Or.inl ⟨by rfl, ?_⟩) (by assumption) ?_
        rotate_left
        · (intro w hSw; (try dsimp only at hSw); obtain ⟨sa, sb⟩ := hSw; go_simp; try with_reducible rfl)
        try simp only [Act.put, List.getElem_toArray, List.getElem_cons_zero, List.getElem_cons_succ, List.setIfInBounds_toArray, List.set_cons_zero, List.set_cons_succ]
        refine wpAnyH_take (i := 3) (v := ?_) rfl (by kernel_rfl) (by kernel_rfl) (by kernel_rfl) (fun _ _ _ h => h) (Or.inl ⟨by rfl, ?_⟩) (by assumption) ?_
        rotate_left
        · (intro w hSw; (try dsimp only at hSw); obtain ⟨sa, sb⟩ := hSw; go_simp; try with_reducible rfl)
        try simp only [Act.put, List.getElem_toArray, List.getElem_cons_zero, List.getElem_cons_succ, List.setIfInBounds_toArray, List.set_cons_zero, List.set_cons_succ]
        refine wpAnyH_take (i := 4) (v := ?_) rfl (by kernel_rfl) (by kernel_rfl) (by kernel_rfl) (fun _ _ _ h => h) (Or.inl ⟨by rfl, ?_⟩) (by assumption) ?_
        rotate_left
        · (intro w hSw; (try dsimp only at hSw); obtain ⟨sa, sb⟩ := hSw; go_simp; try with_reducible rfl)
        try simp only [Act.put, List.getElem_toArray, List.getElem_cons_zero, List.getElem_cons_succ, List.setIfInBounds_toArray, List.set_cons_zero, List.set_cons_succ]
        refine wpAnyH_take (i := 5) (v := ?_) rfl (by kernel_rfl) (by kernel_rfl) (by kernel_rfl) (fun _ _ _ h => h) (Or.inl ⟨by rfl, ?_⟩) (by assumption) ?_
        rotate_left
        · (intro w hSw; (try dsimp only at hSw); obtain ⟨sa, sb⟩ := hSw; go_simp; try with_reducible rfl)
        try simp only [Act.put, List.getElem_toArray, List.getElem_cons_zero, List.getElem_cons_succ, List.setIfInBounds_toArray, List.set_cons_zero, List.set_cons_succ]
        refine wpAnyH_take (i := 6) (v := ?_) rfl (by kernel_rfl) (by kernel_rfl) (by kernel_rfl) (fun _ _ _ h => h) (Or.inl ⟨by rfl, ?_⟩) (by assumption) ?_
        rotate_left
        · (intro w hSw; (try dsimp only at hSw); obtain ⟨sa, sb⟩ := hSw; go_simp; try with_reducible rfl)
        try simp only [Act.put, List.getElem_toArray, List.getElem_cons_zero, List.getElem_cons_succ, List.setIfInBounds_toArray, List.set_cons_zero, List.set_cons_succ]
        refine wpAnyH_take (i := 7) (v := ?_) rfl (by kernel_rfl) (by kernel_rfl) (by kernel_rfl) (fun _ _ _ h => h) (Or.inl ⟨by rfl, ?_⟩) (by assumption) ?_
        rotate_left
        · (intro w hSw; (try dsimp only at hSw); obtain ⟨sa, sb⟩ := hSw; go_simp; try with_reducible rfl)
        try simp only [Act.put, List.getElem_toArray, List.getElem_cons_zero, List.getElem_cons_succ, List.setIfInBounds_toArray, List.set_cons_zero, List.set_cons_succ]
        refine wpAnyH_take (i := 8) (v := ?_) rfl (by kernel_rfl) (by kernel_rfl) (by kernel_rfl) (fun _ _ _ h => h) (Or.inl ⟨by rfl, ?_⟩) (by assumption) ?_
        rotate_left
        · (intro w hSw; (try dsimp only at hSw); obtain ⟨sa, sb⟩ := hSw; refine exec_load (x := .tmp 9) ?_ ?_ HQL.out sa <;> rfl)
        try simp only [Act.put, List.getElem_toArray, List.getElem_cons_zero, List.getElem_cons_succ, List.setIfInBounds_toArray, List.set_cons_zero, List.set_cons_succ]
        refine wpAnyH_ready (rs := [9]) (by kernel_rfl) (by simp) ?_
        refine AllReadyH.cons rfl (fun K hK => ?_) AllReadyH.nil
        go_simp
        with_reducible_and_instances apply Calls.mono (HPX.out _); rintro e w7 ⟨rfl, k7⟩
        have hp7 := hp6.nob k7
        have hC7 := hC6.nob k7
        have hb7 := hb6.nob k7
        have K7 := K6.nobt k7
        have s7 : (convert 26 9 (.slice (some ⟨g, 0, none⟩) 24 m)).run Try.prog w7 = .ok (.string X) w7 := by rw [← HX.out]; exact conv_of w7 _ 24 _ (r6.nob k7) m
        refine hK.out _ _ ?_ (fun hHeld => ?_)
        · exact ⟨hp7, s7⟩
        clear hK K
        try simp only [Act.put, List.getElem_toArray, List.getElem_cons_zero, List.getElem_cons_succ, List.setIfInBounds_toArray, List.set_cons_zero, List.set_cons_succ]
        refine wpAnyH_take (i := 10) (v := ?_) rfl (by kernel_rfl) (by kernel_rfl) (by kernel_rfl) (fun _ _ _ h => h) (Or.inl ⟨by rfl, ?_⟩) (by assumption) ?_
        rotate_left
        · (intro w hSw; (try dsimp only at hSw); obtain ⟨sa, sb⟩ := hSw; go_simp; try with_reducible rfl)
        try simp only [Act.put, List.getElem_toArray, List.getElem_cons_zero, List.getElem_cons_succ, List.setIfInBounds_toArray, List.set_cons_zero, List.set_cons_succ]
        refine wpAnyH_take (i := 11) (v := ?_) rfl (by kernel_rfl) (by kernel_rfl) (by kernel_rfl) (fun _ _ _ h => h) (Or.inl ⟨by rfl, ?_⟩) (by assumption) ?_
        rotate_left
        · (intro w hSw; (try dsimp only at hSw); obtain ⟨sa, sb⟩ := hSw; go_simp; try with_reducible rfl)
        try simp only [Act.put, List.getElem_toArray, List.getElem_cons_zero, List.getElem_cons_succ, List.setIfInBounds_toArray, List.set_cons_zero, List.set_cons_succ]
        refine wpAnyH_take (i := 12) (v := ?_) rfl (by kernel_rfl) (by kernel_rfl) (by kernel_rfl) (fun _ _ _ h => h) (Or.inl ⟨by rfl, ?_⟩) (by assumption) ?_
        rotate_left
        · (intro w hSw; (try dsimp only at hSw); obtain ⟨sa, sb⟩ := hSw; go_simp; try with_reducible rfl)
        try simp only [Act.put, List.getElem_toArray, List.getElem_cons_zero, List.getElem_cons_succ, List.setIfInBounds_toArray, List.set_cons_zero, List.set_cons_succ]
        refine wpAnyH_done (by kernel_rfl) ?_ _
        go_wp2_with fail
        go_round
        case rel => exact ⟨1, by omega, by go_num, hC7, hb7, K7⟩
        case measure => simp [intOf]
    · go_upto_region 7 with fail
      have hCd := hC3.nob (Keep.nobdrew _)
      have hbd := hb3.drew
      have Kd := K3.drew
      clear hC3 hb3 K3
      go_cut [9] from 44 to 50 (fun s9 wx => ∃ g, s9 = .pointer (some ⟨g, 0, none⟩) ∧ Blk wx g 24 (ints M) ∧ IsC wx p ∧ Blk wx w.heap.size 24 (ints P0) ∧ Keep Nob w wx)
      case first =>
        go_wp2_with fail
        refine wp_region_held_drew (S := (fun w' => Blk w' w.heap.size 24 (ints P0))) (by kernel_rfl) hbd (fun hHeld => ?_)
        generalize wr.drew = wd at *
        refine wpAnyH_take (i := 0) (v := ?_) rfl (by kernel_rfl) (by kernel_rfl) (by kernel_rfl) (fun _ _ _ h => h) (Or.inl ⟨by rfl, ?_⟩) (by assumption) ?_
        rotate_left
        · (intro w hSw; (try dsimp only at hSw); refine exec_load (q := P0) (x := .tmp 3) ?_ ?_ HL0.out hSw <;> rfl)
        try simp only [Act.put, List.getElem_toArray, List.getElem_cons_zero, List.getElem_cons_succ, List.setIfInBounds_toArray, List.set_cons_zero, List.set_cons_succ]
        refine wpAnyH_take (i := 1) (v := ?_) rfl (by kernel_rfl) (by kernel_rfl) (by kernel_rfl) (fun _ _ _ h => h) (Or.inl ⟨by rfl, ?_⟩) (by assumption) ?_
        rotate_left
        · (intro w hSw; (try dsimp only at hSw); go_simp; try with_reducible rfl)
        try simp only [Act.put, List.getElem_toArray, List.getElem_cons_zero, List.getElem_cons_succ, List.setIfInBounds_toArray, List.set_cons_zero, List.set_cons_succ]
        refine wpAnyH_take (i := 4) (v := ?_) rfl (by kernel_rfl) (by kernel_rfl) (by kernel_rfl) (fun _ _ _ h => h) (Or.inl ⟨by rfl, ?_⟩) (by assumption) ?_
        rotate_left
        · (intro w hSw; (try dsimp only at hSw); go_simp; try with_reducible rfl)
        try simp only [Act.put, List.getElem_toArray, List.getElem_cons_zero, List.getElem_cons_succ, List.setIfInBounds_toArray, List.set_cons_zero, List.set_cons_succ]
        refine wpAnyH_ready (rs := [2, 7]) (by kernel_rfl) (by simp) ?_
        refine AllReadyH.cons rfl (fun K hK => ?_) ?_
        · go_simp
          have hMM := HM.out _ (R0.out.nob Kd)
          refine hMM.mono ?_; rintro e w_77 ⟨rfl, k_78⟩
          clear hMM
          have hC_79 := hCd.nob k_78
          have hB_80 := hbd.nob k_78
          have kk_81 := Kd.nobt k_78
          refine hK.out _ _ ?_ (fun hHeld => ?_)
          · exact hB_80
          clear hK K
          try simp only [Act.put, List.getElem_toArray, List.getElem_cons_zero, List.getElem_cons_succ, List.setIfInBounds_toArray, List.set_cons_zero, List.set_cons_succ]
          refine wpAnyH_ready (rs := [3, 7]) (by kernel_rfl) (by simp) ?_
          refine AllReadyH.cons rfl (fun K hK => ?_) ?_
          · rw [if_pos (by rfl)]
            refine wp_bs (P := P0) (M := M) rfl rfl rfl HL0.out HMLn.out ?_
            have hs_83 : Blk (w_77.alloc (.cells (ints (P0 ++ M)).toArray 24)) w_77.heap.size 24 (ints (P0 ++ M)) := Blk.new w_77 _ _
            have ka_82 := (Keep.refl Nob w_77).alloc (.cells (ints (P0 ++ M)).toArray 24)
            have hC_84 := hC_79.nob ka_82
            have hB_85 := hB_80.nob ka_82
            have kk_86 := kk_81.nobt ka_82
            refine hK.out _ _ ?_ (fun hHeld => ?_)
            · exact hB_85
            clear hK K
            try simp only [Act.put, List.getElem_toArray, List.getElem_cons_zero, List.getElem_cons_succ, List.setIfInBounds_toArray, List.set_cons_zero, List.set_cons_succ]
            generalize (w_77.alloc (.cells (ints (P0 ++ M)).toArray 24)) = w_88 at *
            generalize w_77.heap.size = gs_87 at *
            refine wpAnyH_take (i := 5) (v := ?_) rfl (by kernel_rfl) (by kernel_rfl) (by kernel_rfl) (fun _ _ _ h => h) (Or.inl ⟨by rfl, ?_⟩) (by assumption) ?_
            rotate_left
            · (intro w hSw; (try dsimp only at hSw); go_simp; try with_reducible rfl)
            try simp only [Act.put, List.getElem_toArray, List.getElem_cons_zero, List.getElem_cons_succ, List.setIfInBounds_toArray, List.set_cons_zero, List.set_cons_succ]
            refine wpAnyH_ready (rs := [6, 7]) (by kernel_rfl) (by simp) ?_
            refine AllReadyH.cons rfl (fun K hK => ?_) ?_
            · rw [if_pos (by rfl)]
              refine wp_load_off (off := 16) (q := M) rfl rfl HMLn.out hs_83 (part_two P0 M HL0.out) ?_
              refine hK.out _ _ ?_ (fun hHeld => ?_)
              · exact hB_85
              clear hK K
              try simp only [Act.put, List.getElem_toArray, List.getElem_cons_zero, List.getElem_cons_succ, List.setIfInBounds_toArray, List.set_cons_zero, List.set_cons_succ]
              refine wpAnyH_ready (rs := [7]) (by kernel_rfl) (by simp) ?_
              refine AllReadyH.cons rfl (fun K hK => ?_) AllReadyH.nil
              go_simp
              have hn_89 : Blk (w_88.alloc (.cells #[.int .i64 0, .int .i64 0, .int .i64 0, .int .i64 0, .int .i64 0, .int .i64 0, .int .i64 0, .int .i64 0, .int .i64 0, .int .i64 0, .int .i64 0, .int .i64 0, .int .i64 0, .int .i64 0, .int .i64 0, .int .i64 0] 24)) w_88.heap.size 24 (ints noP) := Blk.new w_88 24 (ints noP)
              have ka_90 := (Keep.refl Nob w_88).alloc (.cells #[.int .i64 0, .int .i64 0, .int .i64 0, .int .i64 0, .int .i64 0, .int .i64 0, .int .i64 0, .int .i64 0, .int .i64 0, .int .i64 0, .int .i64 0, .int .i64 0, .int .i64 0, .int .i64 0, .int .i64 0, .int .i64 0] 24)
              have e_91 : w.heap.size ≤ w_88.heap.size := kk_86.size
              have e_92 : w.heap.size ≠ w_88.heap.size := by have := hB_85.lt; omega
              have e_93 : p ≠ w_88.heap.size := by have := Blk.lt hC_84; omega
              have hC_94 := hC_84.nob ka_90
              have hB_95 := hB_85.nob ka_90
              have hs_96 := hs_83.nob ka_90
              have kk_97 := kk_86.nobt ka_90
              refine hK.out _ _ ?_ (fun hHeld => ?_)
              · exact hB_95
              clear hK K
              try simp only [Act.put, List.getElem_toArray, List.getElem_cons_zero, List.getElem_cons_succ, List.setIfInBounds_toArray, List.set_cons_zero, List.set_cons_succ]
              generalize (w_88.alloc (.cells #[.int .i64 0, .int .i64 0, .int .i64 0, .int .i64 0, .int .i64 0, .int .i64 0, .int .i64 0, .int .i64 0, .int .i64 0, .int .i64 0, .int .i64 0, .int .i64 0, .int .i64 0, .int .i64 0, .int .i64 0, .int .i64 0] 24)) = w_98 at *
              generalize w_88.heap.size = gn_99 at *
              refine wpAnyH_ready (rs := [8]) (by kernel_rfl) (by simp) ?_
              refine AllReadyH.cons rfl (fun K hK => ?_) AllReadyH.nil
              rw [if_pos (by rfl)]
              refine wp_store_ (old := noP) (q := M) rfl rfl rfl HMLn.out rfl hn_89 ?_
              refine hK.out _ _ ?_ (fun hHeld => ?_)
              · exact hB_95.setRow_far e_92 _
              clear hK K
              try simp only [Act.put, List.getElem_toArray, List.getElem_cons_zero, List.getElem_cons_succ, List.setIfInBounds_toArray, List.set_cons_zero, List.set_cons_succ]
              refine wpAnyH_done (by kernel_rfl) ?_ _
              go_wp2_with fail
              go_meet
              exact ⟨_, rfl, hn_89.setRow (ints M), Blk.setRow_far hC_94 e_93 _, hB_95.setRow_far e_92 _, kk_97.setRow gn_99 _ (fun h => absurd h (by omega))⟩
            refine AllReadyH.cons rfl (fun K hK => ?_) AllReadyH.nil
            go_simp
            have hn_100 : Blk (w_88.alloc (.cells #[.int .i64 0, .int .i64 0, .int .i64 0, .int .i64 0, .int .i64 0, .int .i64 0, .int .i64 0, .int .i64 0, .int .i64 0, .int .i64 0, .int .i64 0, .int .i64 0, .int .i64 0, .int .i64 0, .int .i64 0, .int .i64 0] 24)) w_88.heap.size 24 (ints noP) := Blk.new w_88 24 (ints noP)
            have ka_101 := (Keep.refl Nob w_88).alloc (.cells #[.int .i64 0, .int .i64 0, .int .i64 0, .int .i64 0, .int .i64 0, .int .i64 0, .int .i64 0, .int .i64 0, .int .i64 0, .int .i64 0, .int .i64 0, .int .i64 0, .int .i64 0, .int .i64 0, .int .i64 0, .int .i64 0] 24)
            have e_102 : w.heap.size ≤ w_88.heap.size := kk_86.size
            have e_103 : w.heap.size ≠ w_88.heap.size := by have := hB_85.lt; omega
            have e_104 : p ≠ w_88.heap.size := by have := Blk.lt hC_84; omega
            have hC_105 := hC_84.nob ka_101
            have hB_106 := hB_85.nob ka_101
            have hs_107 := hs_83.nob ka_101
            have kk_108 := kk_86.nobt ka_101
            refine hK.out _ _ ?_ (fun hHeld => ?_)
            · exact hB_106
            clear hK K
            try simp only [Act.put, List.getElem_toArray, List.getElem_cons_zero, List.getElem_cons_succ, List.setIfInBounds_toArray, List.set_cons_zero, List.set_cons_succ]
            generalize (w_88.alloc (.cells #[.int .i64 0, .int .i64 0, .int .i64 0, .int .i64 0, .int .i64 0, .int .i64 0, .int .i64 0, .int .i64 0, .int .i64 0, .int .i64 0, .int .i64 0, .int .i64 0, .int .i64 0, .int .i64 0, .int .i64 0, .int .i64 0] 24)) = w_109 at *
            generalize w_88.heap.size = gn_110 at *
            refine wpAnyH_ready (rs := [6]) (by kernel_rfl) (by simp) ?_
            refine AllReadyH.cons rfl (fun K hK => ?_) AllReadyH.nil
            rw [if_pos (by rfl)]
            refine wp_load_off (off := 16) (q := M) rfl rfl HMLn.out hs_107 (part_two P0 M HL0.out) ?_
            refine hK.out _ _ ?_ (fun hHeld => ?_)
            · exact hB_106
            clear hK K
            try simp only [Act.put, List.getElem_toArray, List.getElem_cons_zero, List.getElem_cons_succ, List.setIfInBounds_toArray, List.set_cons_zero, List.set_cons_succ]
            refine wpAnyH_ready (rs := [8]) (by kernel_rfl) (by simp) ?_
            refine AllReadyH.cons rfl (fun K hK => ?_) AllReadyH.nil
            rw [if_pos (by rfl)]
            refine wp_store_ (old := noP) (q := M) rfl rfl rfl HMLn.out rfl hn_100 ?_
            refine hK.out _ _ ?_ (fun hHeld => ?_)
            · exact hB_106.setRow_far e_103 _
            clear hK K
            try simp only [Act.put, List.getElem_toArray, List.getElem_cons_zero, List.getElem_cons_succ, List.setIfInBounds_toArray, List.set_cons_zero, List.set_cons_succ]
            refine wpAnyH_done (by kernel_rfl) ?_ _
            go_wp2_with fail
            go_meet
            exact ⟨_, rfl, hn_100.setRow (ints M), Blk.setRow_far hC_105 e_104 _, hB_106.setRow_far e_103 _, kk_108.setRow gn_110 _ (fun h => absurd h (by omega))⟩
          refine AllReadyH.cons rfl (fun K hK => ?_) AllReadyH.nil
          go_simp
          have hn_111 : Blk (w_77.alloc (.cells #[.int .i64 0, .int .i64 0, .int .i64 0, .int .i64 0, .int .i64 0, .int .i64 0, .int .i64 0, .int .i64 0, .int .i64 0, .int .i64 0, .int .i64 0, .int .i64 0, .int .i64 0, .int .i64 0, .int .i64 0, .int .i64 0] 24)) w_77.heap.size 24 (ints noP) := Blk.new w_77 24 (ints noP)
          have ka_112 := (Keep.refl Nob w_77).alloc (.cells #[.int .i64 0, .int .i64 0, .int .i64 0, .int .i64 0, .int .i64 0, .int .i64 0, .int .i64 0, .int .i64 0, .int .i64 0, .int .i64 0, .int .i64 0, .int .i64 0, .int .i64 0, .int .i64 0, .int .i64 0, .int .i64 0] 24)
          have e_113 : w.heap.size ≤ w_77.heap.size := kk_81.size
          have e_114 : w.heap.size ≠ w_77.heap.size := by have := hB_80.lt; omega
          have e_115 : p ≠ w_77.heap.size := by have := Blk.lt hC_79; omega
          have hC_116 := hC_79.nob ka_112
          have hB_117 := hB_80.nob ka_112
          have kk_118 := kk_81.nobt ka_112
          refine hK.out _ _ ?_ (fun hHeld => ?_)
          · exact hB_117
          clear hK K
          try simp only [Act.put, List.getElem_toArray, List.getElem_cons_zero, List.getElem_cons_succ, List.setIfInBounds_toArray, List.set_cons_zero, List.set_cons_succ]
          generalize (w_77.alloc (.cells #[.int .i64 0, .int .i64 0, .int .i64 0, .int .i64 0, .int .i64 0, .int .i64 0, .int .i64 0, .int .i64 0, .int .i64 0, .int .i64 0, .int .i64 0, .int .i64 0, .int .i64 0, .int .i64 0, .int .i64 0, .int .i64 0] 24)) = w_119 at *
          generalize w_77.heap.size = gn_120 at *
          refine wpAnyH_ready (rs := [3]) (by kernel_rfl) (by simp) ?_
          refine AllReadyH.cons rfl (fun K hK => ?_) AllReadyH.nil
          rw [if_pos (by rfl)]
          refine wp_bs (P := P0) (M := M) rfl rfl rfl HL0.out HMLn.out ?_
          have hs_122 : Blk (w_119.alloc (.cells (ints (P0 ++ M)).toArray 24)) w_119.heap.size 24 (ints (P0 ++ M)) := Blk.new w_119 _ _
          have ka_121 := (Keep.refl Nob w_119).alloc (.cells (ints (P0 ++ M)).toArray 24)
          have hC_123 := hC_116.nob ka_121
          have hB_124 := hB_117.nob ka_121
          have hn_125 := hn_111.nob ka_121
          have kk_126 := kk_118.nobt ka_121
          refine hK.out _ _ ?_ (fun hHeld => ?_)
          · exact hB_124
          clear hK K
          try simp only [Act.put, List.getElem_toArray, List.getElem_cons_zero, List.getElem_cons_succ, List.setIfInBounds_toArray, List.set_cons_zero, List.set_cons_succ]
          generalize (w_119.alloc (.cells (ints (P0 ++ M)).toArray 24)) = w_128 at *
          generalize w_119.heap.size = gs_127 at *
          refine wpAnyH_take (i := 5) (v := ?_) rfl (by kernel_rfl) (by kernel_rfl) (by kernel_rfl) (fun _ _ _ h => h) (Or.inl ⟨by rfl, ?_⟩) (by assumption) ?_
          rotate_left
          · (intro w hSw; (try dsimp only at hSw); go_simp; try with_reducible rfl)
          try simp only [Act.put, List.getElem_toArray, List.getElem_cons_zero, List.getElem_cons_succ, List.setIfInBounds_toArray, List.set_cons_zero, List.set_cons_succ]
          refine wpAnyH_ready (rs := [6]) (by kernel_rfl) (by simp) ?_
          refine AllReadyH.cons rfl (fun K hK => ?_) AllReadyH.nil
          rw [if_pos (by rfl)]
          refine wp_load_off (off := 16) (q := M) rfl rfl HMLn.out hs_122 (part_two P0 M HL0.out) ?_
          refine hK.out _ _ ?_ (fun hHeld => ?_)
          · exact hB_124
          clear hK K
          try simp only [Act.put, List.getElem_toArray, List.getElem_cons_zero, List.getElem_cons_succ, List.setIfInBounds_toArray, List.set_cons_zero, List.set_cons_succ]
          refine wpAnyH_ready (rs := [8]) (by kernel_rfl) (by simp) ?_
          refine AllReadyH.cons rfl (fun K hK => ?_) AllReadyH.nil
          rw [if_pos (by rfl)]
          refine wp_store_ (old := noP) (q := M) rfl rfl rfl HMLn.out rfl hn_125 ?_
          refine hK.out _ _ ?_ (fun hHeld => ?_)
          · exact hB_124.setRow_far e_114 _
          clear hK K
          try simp only [Act.put, List.getElem_toArray, List.getElem_cons_zero, List.getElem_cons_succ, List.setIfInBounds_toArray, List.set_cons_zero, List.set_cons_succ]
          refine wpAnyH_done (by kernel_rfl) ?_ _
          go_wp2_with fail
          go_meet
          exact ⟨_, rfl, hn_125.setRow (ints M), Blk.setRow_far hC_123 e_115 _, hB_124.setRow_far e_114 _, kk_126.setRow gn_120 _ (fun h => absurd h (by omega))⟩
        refine AllReadyH.cons rfl (fun K hK => ?_) AllReadyH.nil
        go_simp
        have hn_129 : Blk (wd.alloc (.cells #[.int .i64 0, .int .i64 0, .int .i64 0, .int .i64 0, .int .i64 0, .int .i64 0, .int .i64 0, .int .i64 0, .int .i64 0, .int .i64 0, .int .i64 0, .int .i64 0, .int .i64 0, .int .i64 0, .int .i64 0, .int .i64 0] 24)) wd.heap.size 24 (ints noP) := Blk.new wd 24 (ints noP)
        have ka_130 := (Keep.refl Nob wd).alloc (.cells #[.int .i64 0, .int .i64 0, .int .i64 0, .int .i64 0, .int .i64 0, .int .i64 0, .int .i64 0, .int .i64 0, .int .i64 0, .int .i64 0, .int .i64 0, .int .i64 0, .int .i64 0, .int .i64 0, .int .i64 0, .int .i64 0] 24)
        have e_131 : w.heap.size ≤ wd.heap.size := Kd.size
        have e_132 : w.heap.size ≠ wd.heap.size := by have := hbd.lt; omega
        have e_133 : p ≠ wd.heap.size := by have := Blk.lt hCd; omega
        have hC_134 := hCd.nob ka_130
        have hB_135 := hbd.nob ka_130
        have kk_136 := Kd.nobt ka_130
        refine hK.out _ _ ?_ (fun hHeld => ?_)
        · exact hB_135
        clear hK K
        try simp only [Act.put, List.getElem_toArray, List.getElem_cons_zero, List.getElem_cons_succ, List.setIfInBounds_toArray, List.set_cons_zero, List.set_cons_succ]
        generalize (wd.alloc (.cells #[.int .i64 0, .int .i64 0, .int .i64 0, .int .i64 0, .int .i64 0, .int .i64 0, .int .i64 0, .int .i64 0, .int .i64 0, .int .i64 0, .int .i64 0, .int .i64 0, .int .i64 0, .int .i64 0, .int .i64 0, .int .i64 0] 24)) = w_137 at *
        generalize wd.heap.size = gn_138 at *
        refine wpAnyH_ready (rs := [2]) (by kernel_rfl) (by simp) ?_
        refine AllReadyH.cons rfl (fun K hK => ?_) AllReadyH.nil
        go_simp
        have hMM := HM.out _ (R0.out.nob kk_136)
        refine hMM.mono ?_; rintro e w_139 ⟨rfl, k_140⟩
        clear hMM
        have hC_141 := hC_134.nob k_140
        have hB_142 := hB_135.nob k_140
        have hn_143 := hn_129.nob k_140
        have kk_144 := kk_136.nobt k_140
        refine hK.out _ _ ?_ (fun hHeld => ?_)
        · exact hB_142
        clear hK K
        try simp only [Act.put, List.getElem_toArray, List.getElem_cons_zero, List.getElem_cons_succ, List.setIfInBounds_toArray, List.set_cons_zero, List.set_cons_succ]
        refine wpAnyH_ready (rs := [3]) (by kernel_rfl) (by simp) ?_
        refine AllReadyH.cons rfl (fun K hK => ?_) AllReadyH.nil
        rw [if_pos (by rfl)]
        refine wp_bs (P := P0) (M := M) rfl rfl rfl HL0.out HMLn.out ?_
        have hs_146 : Blk (w_139.alloc (.cells (ints (P0 ++ M)).toArray 24)) w_139.heap.size 24 (ints (P0 ++ M)) := Blk.new w_139 _ _
        have ka_145 := (Keep.refl Nob w_139).alloc (.cells (ints (P0 ++ M)).toArray 24)
        have hC_147 := hC_141.nob ka_145
        have hB_148 := hB_142.nob ka_145
        have hn_149 := hn_143.nob ka_145
        have kk_150 := kk_144.nobt ka_145
        refine hK.out _ _ ?_ (fun hHeld => ?_)
        · exact hB_148
        clear hK K
        try simp only [Act.put, List.getElem_toArray, List.getElem_cons_zero, List.getElem_cons_succ, List.setIfInBounds_toArray, List.set_cons_zero, List.set_cons_succ]
        generalize (w_139.alloc (.cells (ints (P0 ++ M)).toArray 24)) = w_152 at *
        generalize w_139.heap.size = gs_151 at *
        refine wpAnyH_take (i := 5) (v := ?_) rfl (by kernel_rfl) (by kernel_rfl) (by kernel_rfl) (fun _ _ _ h => h) (Or.inl ⟨by rfl, ?_⟩) (by assumption) ?_
        rotate_left
        · (intro w hSw; (try dsimp only at hSw); go_simp; try with_reducible rfl)
        try simp only [Act.put, List.getElem_toArray, List.getElem_cons_zero, List.getElem_cons_succ, List.setIfInBounds_toArray, List.set_cons_zero, List.set_cons_succ]
        refine wpAnyH_ready (rs := [6]) (by kernel_rfl) (by simp) ?_
        refine AllReadyH.cons rfl (fun K hK => ?_) AllReadyH.nil
        rw [if_pos (by rfl)]
        refine wp_load_off (off := 16) (q := M) rfl rfl HMLn.out hs_146 (part_two P0 M HL0.out) ?_
        refine hK.out _ _ ?_ (fun hHeld => ?_)
        · exact hB_148
        clear hK K
        try simp only [Act.put, List.getElem_toArray, List.getElem_cons_zero, List.getElem_cons_succ, List.setIfInBounds_toArray, List.set_cons_zero, List.set_cons_succ]
        refine wpAnyH_ready (rs := [8]) (by kernel_rfl) (by simp) ?_
        refine AllReadyH.cons rfl (fun K hK => ?_) AllReadyH.nil
        rw [if_pos (by rfl)]
        refine wp_store_ (old := noP) (q := M) rfl rfl rfl HMLn.out rfl hn_149 ?_
        refine hK.out _ _ ?_ (fun hHeld => ?_)
        · exact hB_148.setRow_far e_132 _
        clear hK K
        try simp only [Act.put, List.getElem_toArray, List.getElem_cons_zero, List.getElem_cons_succ, List.setIfInBounds_toArray, List.set_cons_zero, List.set_cons_succ]
        refine wpAnyH_done (by kernel_rfl) ?_ _
        go_wp2_with fail
        go_meet
        exact ⟨_, rfl, hn_149.setRow (ints M), Blk.setRow_far hC_147 e_133 _, hB_148.setRow_far e_132 _, kk_150.setRow gn_138 _ (fun h => absurd h (by omega))⟩
      case rest =>
      obtain ⟨g9, rfl, hp4, hC4, hb4, K4⟩ := hcut
      clear hCd hbd Kd
      obtain ⟨v, hv⟩ : ∃ v, okd M = v := ⟨_, rfl⟩
      have he := fun p w h => cenc_is p M HMLn.out (wf_ok HMLn.out HMO.out) w h v hv
      have hpo := fun w => procok_is M HMLn.out (wf_ok HMLn.out HMO.out) w v hv
      have hpb := fun (e : v = true) w => procbytes_is M HMLn.out (by rw [hv, e]) w
      unfold pv at he hpo hpb
      have HE := Lib.hid he
      have HPO := Lib.hid hpo
      have HPB := Lib.hid hpb
      clear he hpo hpb
      have HQL := Lib.hid HMLn.out
      go_wp2_with (refine wpList_ld rfl (.tmp 9) rfl g9 M rfl HQL.out hp4 ?_)
      refine (HE.out p _ hC4).mono ?_; rintro e w5 ⟨x, rfl, tx, k5⟩
      have hp5 := hp4.nob k5
      have hC5 := hC4.nob k5
      have hb5 := hb4.nob k5
      have K5 := K4.nobt k5
      clear hp4 hC4 hb4 K4 k5
      go_wp2_with (refine wpList_ld rfl (.tmp 9) rfl g9 M rfl HQL.out hp5 ?_)
      refine (HPO.out _).mono ?_; rintro e w6 ⟨rfl, k6⟩
      have hp6 := (hp5.nob k6).drew
      have hC6 := (hC5.nob k6).nob (Keep.nobdrew _)
      have hb6 := (hb5.nob k6).drew
      have K6 := (K5.nobt k6).drew
      clear hp5 hC5 hb5 K5
      cases v with
      | false =>
        have tx : x = .slice none 0 0 := tx
        subst tx
        go_wp2_with fail
        refine wp_region_held_drew (S := (fun w' => Blk w' g9 24 (ints M))) (by kernel_rfl) hp6 (fun hHeld => ?_)
        generalize w6.drew = wd at *
        refine wpAnyH_take (i := 0) (v := ?_) rfl (by kernel_rfl) (by kernel_rfl) (by kernel_rfl) (fun _ _ _ h => h) (Or.inl ⟨by rfl, ?_⟩) (by assumption) ?_
        rotate_left
        · (intro w hSw; (try dsimp only at hSw); go_simp; try with_reducible rfl)
        try simp only [Act.put, List.getElem_toArray, List.getElem_cons_zero, List.getElem_cons_succ, List.setIfInBounds_toArray, List.set_cons_zero, List.set_cons_succ]
        refine wpAnyH_take (i := 1) (v := ?_) rfl (by kernel_rfl) (by kernel_rfl) (by kernel_rfl) (fun _ _ _ h => h) (Or.inl ⟨by rfl, ?_⟩) (by assumption) ?_
        rotate_left
        · (intro w hSw; (try dsimp only at hSw); go_simp; try with_reducible rfl)
        try simp only [Act.put, List.getElem_toArray, List.getElem_cons_zero, List.getElem_cons_succ, List.setIfInBounds_toArray, List.set_cons_zero, List.set_cons_succ]
        refine wpAnyH_take (i := 2) (v := ?_) rfl (by kernel_rfl) (by kernel_rfl) (by kernel_rfl) (fun _ _ _ h => h) (Or.inl ⟨by rfl, ?_⟩) (by assumption) ?_
        rotate_left
        · (intro w hSw; (try dsimp only at hSw); go_simp; try with_reducible rfl)
        try simp only [Act.put, List.getElem_toArray, List.getElem_cons_zero, List.getElem_cons_succ, List.setIfInBounds_toArray, List.set_cons_zero, List.set_cons_succ]
        refine wpAnyH_take (i := 3) (v := ?_) rfl (by kernel_rfl) (by kernel_rfl) (by kernel_rfl) (fun _ _ _ h => h) (Or.inl ⟨by rfl, ?_⟩) (by assumption) ?_
        rotate_left
        · (intro w hSw; (try dsimp only at hSw); go_simp; try with_reducible rfl)
        try simp only [Act.put, List.getElem_toArray, List.getElem_cons_zero, List.getElem_cons_succ, List.setIfInBounds_toArray, List.set_cons_zero, List.set_cons_succ]
        refine wpAnyH_take (i := 4) (v := ?_) rfl (by kernel_rfl) (by kernel_rfl) (by kernel_rfl) (fun _ _ _ h => h) (Or.inl ⟨by rfl, ?_⟩) (by assumption) ?_
        rotate_left
        · (intro w hSw; (try dsimp only at hSw); go_simp; try with_reducible rfl)
        try simp only [Act.put, List.getElem_toArray, List.getElem_cons_zero, List.getElem_cons_succ, List.setIfInBounds_toArray, List.set_cons_zero, List.set_cons_succ]
        refine wpAnyH_take (i := 5) (v := ?_) rfl (by kernel_rfl) (by kernel_rfl) (by kernel_rfl) (fun _ _ _ h => h) (Or.inl ⟨by rfl, ?_⟩) (by assumption) ?_
        rotate_left
        · (intro w hSw; (try dsimp only at hSw); go_simp; try with_reducible rfl)
        try simp only [Act.put, List.getElem_toArray, List.getElem_cons_zero, List.getElem_cons_succ, List.setIfInBounds_toArray, List.set_cons_zero, List.set_cons_succ]
        refine wpAnyH_take (i := 6) (v := undef) rfl (by kernel_rfl) (by kernel_rfl) (by kernel_rfl) (fun _ _ _ h => h) (Or.inr ⟨by rfl, rfl⟩) (by assumption) ?_
        try simp only [Act.put, List.getElem_toArray, List.getElem_cons_zero, List.getElem_cons_succ, List.setIfInBounds_toArray, List.set_cons_zero, List.set_cons_succ]
        refine wpAnyH_take (i := 7) (v := undef) rfl (by kernel_rfl) (by kernel_rfl) (by kernel_rfl) (fun _ _ _ h => h) (Or.inr ⟨by rfl, rfl⟩) (by assumption) ?_
        try simp only [Act.put, List.getElem_toArray, List.getElem_cons_zero, List.getElem_cons_succ, List.setIfInBounds_toArray, List.set_cons_zero, List.set_cons_succ]
        refine wpAnyH_take (i := 8) (v := undef) rfl (by kernel_rfl) (by kernel_rfl) (by kernel_rfl) (fun _ _ _ h => h) (Or.inr ⟨by rfl, rfl⟩) (by assumption) ?_
        try simp only [Act.put, List.getElem_toArray, List.getElem_cons_zero, List.getElem_cons_succ, List.setIfInBounds_toArray, List.set_cons_zero, List.set_cons_succ]
        refine wpAnyH_take (i := 9) (v := undef) rfl (by kernel_rfl) (by kernel_rfl) (by kernel_rfl) (fun _ _ _ h => h) (Or.inr ⟨by rfl, rfl⟩) (by assumption) ?_
        try simp only [Act.put, List.getElem_toArray, List.getElem_cons_zero, List.getElem_cons_succ, List.setIfInBounds_toArray, List.set_cons_zero, List.set_cons_succ]
        refine wpAnyH_take (i := 10) (v := undef) rfl (by kernel_rfl) (by kernel_rfl) (by kernel_rfl) (fun _ _ _ h => h) (Or.inr ⟨by rfl, rfl⟩) (by assumption) ?_
        try simp only [Act.put, List.getElem_toArray, List.getElem_cons_zero, List.getElem_cons_succ, List.setIfInBounds_toArray, List.set_cons_zero, List.set_cons_succ]
        refine wpAnyH_take (i := 11) (v := ?_) rfl (by kernel_rfl) (by kernel_rfl) (by kernel_rfl) (fun _ _ _ h => h) (Or.inl ⟨by rfl, ?_⟩) (by assumption) ?_
        rotate_left
        · (intro w hSw; (try dsimp only at hSw); go_simp; try with_reducible rfl)
        try simp only [Act.put, List.getElem_toArray, List.getElem_cons_zero, List.getElem_cons_succ, List.setIfInBounds_toArray, List.set_cons_zero, List.set_cons_succ]
        refine wpAnyH_take (i := 12) (v := ?_) rfl (by kernel_rfl) (by kernel_rfl) (by kernel_rfl) (fun _ _ _ h => h) (Or.inl ⟨by rfl, ?_⟩) (by assumption) ?_
        rotate_left
        · (intro w hSw; (try dsimp only at hSw); go_simp; try with_reducible rfl)
        try simp only [Act.put, List.getElem_toArray, List.getElem_cons_zero, List.getElem_cons_succ, List.setIfInBounds_toArray, List.set_cons_zero, List.set_cons_succ]
        refine wpAnyH_done (by kernel_rfl) ?_ _
        go_wp2_with fail
        go_round
        case rel => exact ⟨2, by omega, by go_num, hC6, hb6, K6⟩
        case measure => simp [intOf]
      | true =>
        obtain ⟨g, m, rfl, vx, ox⟩ := told_out tx
        clear tx
        have r6 := (show Reads _ _ 24 _ from vx.reads).nob k6.drew
        have s6 := conv_of w6.drew _ 24 _ r6 m
        obtain ⟨X, hX⟩ : ∃ X, str (enc M) = X := ⟨_, rfl⟩
        have HPX := Lib.hid (fun w => HPB.out rfl w)
        rw [hX] at s6 HPX
        have HX := Lib.hid hX
        clear hX vx ox k6
        go_wp2_with fail
        refine wp_region_held_drew (S := (fun w' => Blk w' g9 24 (ints M) ∧ (convert 26 9 (.slice (some ⟨g, 0, none⟩) 24 m)).run Try.prog w' = .ok (.string X) w')) (by kernel_rfl) ⟨hp6, s6⟩ (fun hHeld => ?_)
        generalize w6.drew = wd at *
        refine wpAnyH_take (i := 0) (v := ?_) rfl (by kernel_rfl) (by kernel_rfl) (by kernel_rfl) (fun _ _ _ h => h) (Or.inl ⟨by rfl, ?_⟩) (by assumption) ?_
        rotate_left
        · (intro w hSw; (try dsimp only at hSw); obtain ⟨sa, sb⟩ := hSw; go_simp; try with_reducible rfl)
        try simp only [Act.put, List.getElem_toArray, List.getElem_cons_zero, List.getElem_cons_succ, List.setIfInBounds_toArray, List.set_cons_zero, List.set_cons_succ]
        refine wpAnyH_take (i := 1) (v := ?_) rfl (by kernel_rfl) (by kernel_rfl) (by kernel_rfl) (fun _ _ _ h => h) (Or.inl ⟨by rfl, ?_⟩) (by assumption) ?_
        rotate_left
        · (intro w hSw; (try dsimp only at hSw); obtain ⟨sa, sb⟩ := hSw; go_simp; try with_reducible rfl)
        try simp only [Act.put, List.getElem_toArray, List.getElem_cons_zero, List.getElem_cons_succ, List.setIfInBounds_toArray, List.set_cons_zero, List.set_cons_succ]
        refine wpAnyH_take (i := 2) (v := ?_) rfl (by kernel_rfl) (by kernel_rfl) (by kernel_rfl) (fun _ _ _ h => h) (Or.inl ⟨by rfl, ?_⟩) (by assumption) ?_
        rotate_left
        · (intro w hSw; (try dsimp only at hSw); obtain ⟨sa, sb⟩ := hSw; go_simp; try with_reducible rfl)
        try simp only [Act.put, List.getElem_toArray, List.getElem_cons_zero, List.getElem_cons_succ, List.setIfInBounds_toArray, List.set_cons_zero, List.set_cons_succ]
        refine wpAnyH_take (i := 3) (v := ?_) rfl (by kernel_rfl) (by kernel_rfl) (by kernel_rfl) (fun _ _ _ h => h) (Or.inl ⟨by rfl, ?_⟩) (by assumption) ?_
        rotate_left
        · (intro w hSw; (try dsimp only at hSw); obtain ⟨sa, sb⟩ := hSw; go_simp; try with_reducible rfl)
        try simp only [Act.put, List.getElem_toArray, List.getElem_cons_zero, List.getElem_cons_succ, List.setIfInBounds_toArray, List.set_cons_zero, List.set_cons_succ]
        refine wpAnyH_take (i := 4) (v := ?_) rfl (by kernel_rfl) (by kernel_rfl) (by kernel_rfl) (fun _ _ _ h => h) (Or.inl ⟨by rfl, ?_⟩) (by assumption) ?_
        rotate_left
        · (intro w hSw; (try dsimp only at hSw); obtain ⟨sa, sb⟩ := hSw; go_simp; try with_reducible rfl)
        try simp only [Act.put, List.getElem_toArray, List.getElem_cons_zero, List.getElem_cons_succ, List.setIfInBounds_toArray, List.set_cons_zero, List.set_cons_succ]
        refine wpAnyH_take (i := 5) (v := ?_) rfl (by kernel_rfl) (by kernel_rfl) (by kernel_rfl) (fun _ _ _ h => h) (Or.inl ⟨by rfl, ?_⟩) (by assumption) ?_
        rotate_left
        · (intro w hSw; (try dsimp only at hSw); obtain ⟨sa, sb⟩ := hSw; go_simp; try with_reducible rfl)
        try simp only [Act.put, List.getElem_toArray, List.getElem_cons_zero, List.getElem_cons_succ, List.setIfInBounds_toArray, List.set_cons_zero, List.set_cons_succ]
        refine wpAnyH_take (i := 6) (v := ?_) rfl (by kernel_rfl) (by kernel_rfl) (by kernel_rfl) (fun _ _ _ h => h) (Or.inl ⟨by rfl, ?_⟩) (by assumption) ?_
        rotate_left
        · (intro w hSw; (try dsimp only at hSw); obtain ⟨sa, sb⟩ := hSw; go_simp; try with_reducible rfl)
        try simp only [Act.put, List.getElem_toArray, List.getElem_cons_zero, List.getElem_cons_succ, List.setIfInBounds_toArray, List.set_cons_zero, List.set_cons_succ]
        refine wpAnyH_take (i := 7) (v := ?_) rfl (by kernel_rfl) (by kernel_rfl) (by kernel_rfl) (fun _ _ _ h => h) (Or.inl ⟨by rfl, ?_⟩) (by assumption) ?_
        rotate_left
        · (intro w hSw; (try dsimp only at hSw); obtain ⟨sa, sb⟩ := hSw; go_simp; try with_reducible rfl)
        try simp only [Act.put, List.getElem_toArray, List.getElem_cons_zero, List.getElem_cons_succ, List.setIfInBounds_toArray, List.set_cons_zero, List.set_cons_succ]
        refine wpAnyH_take (i := 8) (v := ?_) rfl (by kernel_rfl) (by kernel_rfl) (by kernel_rfl) (fun _ _ _ h => h) (Or.inl ⟨by rfl, ?_⟩) (by assumption) ?_
        rotate_left
        · (intro w hSw; (try dsimp only at hSw); obtain ⟨sa, sb⟩ := hSw; refine exec_load (x := .tmp 9) ?_ ?_ HQL.out sa <;> rfl)
        try simp only [Act.put, List.getElem_toArray, List.getElem_cons_zero, List.getElem_cons_succ, List.setIfInBounds_toArray, List.set_cons_zero, List.set_cons_succ]
        refine wpAnyH_ready (rs := [9]) (by kernel_rfl) (by simp) ?_
        refine AllReadyH.cons rfl (fun K hK => ?_) AllReadyH.nil
        go_simp
        with_reducible_and_instances apply Calls.mono (HPX.out _); rintro e w7 ⟨rfl, k7⟩
        have hp7 := hp6.nob k7
        have hC7 := hC6.nob k7
        have hb7 := hb6.nob k7
        have K7 := K6.nobt k7
        have s7 : (convert 26 9 (.slice (some ⟨g, 0, none⟩) 24 m)).run Try.prog w7 = .ok (.string X) w7 := by rw [← HX.out]; exact conv_of w7 _ 24 _ (r6.nob k7) m
        refine hK.out _ _ ?_ (fun hHeld => ?_)
        · exact ⟨hp7, s7⟩
        clear hK K
        try simp only [Act.put, List.getElem_toArray, List.getElem_cons_zero, List.getElem_cons_succ, List.setIfInBounds_toArray, List.set_cons_zero, List.set_cons_succ]
        refine wpAnyH_take (i := 10) (v := ?_) rfl (by kernel_rfl) (by kernel_rfl) (by kernel_rfl) (fun _ _ _ h => h) (Or.inl ⟨by rfl, ?_⟩) (by assumption) ?_
        rotate_left
        · (intro w hSw; (try dsimp only at hSw); obtain ⟨sa, sb⟩ := hSw; go_simp; try with_reducible rfl)
        try simp only [Act.put, List.getElem_toArray, List.getElem_cons_zero, List.getElem_cons_succ, List.setIfInBounds_toArray, List.set_cons_zero, List.set_cons_succ]
        refine wpAnyH_take (i := 11) (v := ?_) rfl (by kernel_rfl) (by kernel_rfl) (by kernel_rfl) (fun _ _ _ h => h) (Or.inl ⟨by rfl, ?_⟩) (by assumption) ?_
        rotate_left
        · (intro w hSw; (try dsimp only at hSw); obtain ⟨sa, sb⟩ := hSw; go_simp; try with_reducible rfl)
        try simp only [Act.put, List.getElem_toArray, List.getElem_cons_zero, List.getElem_cons_succ, List.setIfInBounds_toArray, List.set_cons_zero, List.set_cons_succ]
        refine wpAnyH_take (i := 12) (v := ?_) rfl (by kernel_rfl) (by kernel_rfl) (by kernel_rfl) (fun _ _ _ h => h) (Or.inl ⟨by rfl, ?_⟩) (by assumption) ?_
        rotate_left
        · (intro w hSw; (try dsimp only at hSw); obtain ⟨sa, sb⟩ := hSw; go_simp; try with_reducible rfl)
        try simp only [Act.put, List.getElem_toArray, List.getElem_cons_zero, List.getElem_cons_succ, List.setIfInBounds_toArray, List.set_cons_zero, List.set_cons_succ]
        refine wpAnyH_done (by kernel_rfl) ?_ _
        go_wp2_with fail
        go_round
        case rel => exact ⟨2, by omega, by go_num, hC7, hb7, K7⟩
        case measure => simp [intOf]
    · go_wp2_with fail
      obtain ⟨R, v, hcd⟩ : ∃ R v, cdcd lb = (R, v) := ⟨_, _, rfl⟩
      obtain ⟨R2, d, hdc⟩ : ∃ R d, dcd lb = (R, d) := ⟨_, _, rfl⟩
      have hbr := both_read lb R R2 v d hcd hdc
      have hR2l : R2.length = 16 := by have := dcd_len lb; rw [hdc] at this; exact this
      have hRl : R.length = 16 := by
        have : (cdcd lb).1.length = 16 := by unfold cdcd; split; split; exact rd_len (by assumption); rfl; rfl
        rw [hcd] at this; exact this
      have HPO := Lib.hid (fun w => procof_is lb (by rw [HLB.out]; omega) w R2 d hdc)
      unfold pv at HPO
      have HCD := Lib.hid hcd
      have HRl := Lib.hid hRl
      have HR2l := Lib.hid hR2l
      have HBR := Lib.hid hbr
      clear hcd hdc hbr hRl hR2l
      refine (cdec_is p B n3 c3 lb _ hC3 (RB.out.nob K3) hn3 R v HCD.out).mono ?_; rintro e w4 ⟨rfl, k4⟩
      have K4 := K3.nobt k4
      have hge4 : w.heap.size ≤ w4.heap.size := K4.size
      clear hC3 hb3 K3 k4
      unfold pv
      go_wp2_with (refine wpList_st rfl (.tmp 13) _ rfl w4.heap.size R noP rfl rfl HRl.out rfl (Blk.new w4 24 (ints noP)) ?_; intro w5 hp5 hk5 hs5; clear hs5; have K5 := (K4.alloc (.cells #[.int .i64 0, .int .i64 0, .int .i64 0, .int .i64 0, .int .i64 0, .int .i64 0, .int .i64 0, .int .i64 0, .int .i64 0, .int .i64 0, .int .i64 0, .int .i64 0, .int .i64 0, .int .i64 0, .int .i64 0, .int .i64 0] 24)).trans hk5 (fun b hb e => by have h3 : b = w4.heap.size := e; omega); have s5 := conv_of w5 B n3 lb (RB.out.nob K5))
      refine (HPO.out _).mono ?_; rintro e w6 ⟨rfl, k6⟩
      have hp6 := hp5.nob k6
      have K6 := K5.nobt k6
      have hge6 : w.heap.size ≤ w6.heap.size := K6.size
      have hg6 : w4.heap.size ≠ w6.heap.size := by have := hp6.lt; omega
      clear hp5 K5 k6 s5
      rcases HBR.out with ⟨rfl, rfl, rfl⟩ | ⟨rfl, hd1⟩
      · go_wp2_with (refine wpList_st rfl (.tmp 15) _ rfl w6.heap.size R2 noP rfl rfl HR2l.out rfl (Blk.new w6 24 (ints noP)) ?_; intro w7 hq7 hk7 hs7; clear hs7; have hp7 := (hp6.alloc (.cells #[.int .i64 0, .int .i64 0, .int .i64 0, .int .i64 0, .int .i64 0, .int .i64 0, .int .i64 0, .int .i64 0, .int .i64 0, .int .i64 0, .int .i64 0, .int .i64 0, .int .i64 0, .int .i64 0, .int .i64 0, .int .i64 0] 24)).keep hk7 hg6; obtain ⟨p0, p1, p2, p3, p4, p5, p6, p7, p8, p9, p10, p11, p12, p13, p14, p15, rfl⟩ := split16 HR2l.out; obtain ⟨c0, c1, c2, c3, c4, c5, c6, c7, c8, c9, c10, c11, c12, c13, c14, c15⟩ := cells16 hp7; obtain ⟨d0, d1, d2, d3, d4, d5, d6, d7, d8, d9, d10, d11, d12, d13, d14, d15⟩ := cells16 hq7; have heq := fun W => eq_pv [p0, p1, p2, p3, p4, p5, p6, p7, p8, p9, p10, p11, p12, p13, p14, p15] [p0, p1, p2, p3, p4, p5, p6, p7, p8, p9, p10, p11, p12, p13, p14, p15] rfl rfl W; rw [decide_eq_true rfl] at heq; simp only [pv, ints, List.map_cons, List.map_nil] at heq)
        have K7 := (K6.alloc (.cells #[.int .i64 0, .int .i64 0, .int .i64 0, .int .i64 0, .int .i64 0, .int .i64 0, .int .i64 0, .int .i64 0, .int .i64 0, .int .i64 0, .int .i64 0, .int .i64 0, .int .i64 0, .int .i64 0, .int .i64 0, .int .i64 0] 24)).trans hk7 (fun b hb e => by have h3 : b = w6.heap.size := e; omega)
        refine (awake_is _).mono ?_; rintro e w8 ⟨rfl, k8⟩
        have K8 := K7.nobt k8
        go_wp2
        go_ret
        exact ⟨rfl, K8.below (Nat.le_refl _) (fun _ _ f => f)⟩
      · go_wp2_with (refine wpList_st rfl (.tmp 15) _ rfl w6.heap.size R2 noP rfl rfl HR2l.out rfl (Blk.new w6 24 (ints noP)) ?_; intro w7 hq7 hk7 hs7; clear hs7)
        have K7 := (K6.alloc (.cells #[.int .i64 0, .int .i64 0, .int .i64 0, .int .i64 0, .int .i64 0, .int .i64 0, .int .i64 0, .int .i64 0, .int .i64 0, .int .i64 0, .int .i64 0, .int .i64 0, .int .i64 0, .int .i64 0, .int .i64 0, .int .i64 0] 24)).trans hk7 (fun b hb e => by have h3 : b = w6.heap.size := e; omega)
        refine (awake_is _).mono ?_; rintro e w8 ⟨rfl, k8⟩
        have K8 := K7.nobt k8
        go_wp2
        go_ret
        exact ⟨rfl, K8.below (Nat.le_refl _) (fun _ _ f => f)⟩
theorem SlotCodec_walk (w : World) (s0 : Array Value) (x0 : Ty.den (.pair (.int .i64) (.pair (.int .i64) (.pair (.int .i64) (.pair (.int .i64) (.pair (.int .i64) (.pair (.int .i64) (.pair (.int .i64) (.pair (.int .i64) (.pair (.pair (.int .i64) (.pair (.int .i64) (.pair (.int .i64) (.pair (.int .i64) (.pair (.int .i64) (.pair (.int .i64) (.pair (.int .i64) (.pair (.int .i64) .unit)))))))) .unit)))))))))) (w0 : Holds w (.pair (.int .i64) (.pair (.int .i64) (.pair (.int .i64) (.pair (.int .i64) (.pair (.int .i64) (.pair (.int .i64) (.pair (.int .i64) (.pair (.int .i64) (.pair (.pair (.int .i64) (.pair (.int .i64) (.pair (.int .i64) (.pair (.int .i64) (.pair (.int .i64) (.pair (.int .i64) (.pair (.int .i64) (.pair (.int .i64) .unit)))))))) .unit))))))))) x0 s0.toList) (A1 : Option Addr) (n1 c1 : Nat) (x1 : Ty.den (.sl 8 (.int .i64))) (w1 : Holds w (.sl 8 (.int .i64)) x1 [.slice A1 n1 c1]) (A2 : Option Addr) (n2 c2 : Nat) (x2 : Ty.den (.sl 1 .byte)) (w2 : Holds w (.sl 1 .byte) x2 [.slice A2 n2 c2]) :
    Calls Try.prog 8 #[.agg s0, .slice A1 n1 c1, .slice A2 n2 c2] w fun e w' => e = .returned (.bool true) ∧ Below w.heap.size w w' := by
  obtain ⟨P, hl, hw, rfl⟩ := proc_read w0
  have hl1 := holds_len w1
  have hl2 := holds_bytes w2
  exact SlotCodec_in w P hl hw A1 A2 n1 c1 n2 c2 x1 x2 (holds_ints w1) hl2.2.1 (by omega) (by omega)
end Go.Proofs.Ytabphdfagkjnjaa
