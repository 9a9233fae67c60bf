/- Package ring: Take. -/
import Derived.Test.YtojciodjffahnaaRinU
namespace Go.Proofs.Ytojciodjffahnaa.Ri
open Go.RowKit
set_option linter.unusedVariables false
set_option linter.unusedSimpArgs false
theorem wp_sc {o : Oper} {x y : Operand} {w : World} {g k : Nat} {T : TypeId} {cs : List Value} {v : Int} {a : Act} {K : Act → World → Prop} {Q : Exit → Act → World → Prop} (ho : o.op = .store 3 x y) (hx : a.eval x = .pointer (some ⟨g, k, none⟩)) (hy : a.eval y = .int .i64 v)
    (hb : Blk w g T cs) (hk : k < cs.length) (h : K (a.put o.dst undef) (w.setCell ⟨g, k, none⟩ (.int .i64 v))) : Oper.wp Try.prog o a w K Q := by
  have fr := hb.frozen k
  have cc := hb.cell k
  rw [List.getElem?_eq_getElem hk] at cc
  unfold Oper.wp
  simp only [execOp, ho, hx, hy]
  go_simp
  exact h
theorem exec_lc {ρ : Operand → Value} {o : Oper} {x : Operand} {w : World} {g k : Nat} {v : Int} (ho : o.op = .load 3 x) (hx : ρ x = .pointer (some ⟨g, k, none⟩)) (hc : w.cell? ⟨g, k, none⟩ = some (.int .i64 v)) : (execOp ρ o).run Try.prog w = .ok (.value (.int .i64 v)) w := by
  simp only [execOp, ho, hx]
  go_simp
theorem wp_val {o : Oper} {w : World} {v : Value} {a : Act} {K : Act → World → Prop} {Q : Exit → Act → World → Prop} (hr : (execOp a.eval o).run Try.prog w = .ok (.value v) w) (h : K (a.put o.dst v) w) : Oper.wp Try.prog o a w K Q := by
  unfold Oper.wp
  rw [hr]
  exact h
set_option maxHeartbeats 4000000 in
set_option maxRecDepth 100000 in
theorem take_is (p : Pp) (hl : p.d.length = 32) (n : Int) (w : World) (P' : Pp) (l : List UInt8) (hP : ptake p n = (P', l)) :
    Calls Try.prog 10 #[pv p, .int .i64 n] w fun e w' => ∃ x, e = .returned (.tuple #[pv P', x]) ∧ Gives w' l x ∧ Keep Nob w w' := by
  have HL := Lib.hid hl
  have HPP := Lib.hid hP
  have hO := fun w v h => ok_is p w v h
  unfold pv at hO ⊢
  have HO := Lib.hid hO
  clear hl hO hP
  go_enter Try.func10, Try.ntmps10
  go_wp2_with (first | (refine wpList_box rfl 26 _ rfl _ rfl ?_; intro w1 hb hk hs; clear hs; have hb : Blk w1 w.heap.size 26 (pc p) := hb) | (refine wpList_al rfl rfl ?_; intro w2 hz hk2 hs2; clear hs2; have hb2 := hb.nob hk2; have hK2 := hk.nobt hk2) | (refine wpList_ld rfl (.tmp 2) rfl w.heap.size p rfl HL.out hb2 ?_))
  have hne : w.heap.size ≠ w1.heap.size := by have := hb.lt; omega
  have hge : w.heap.size ≤ w1.heap.size := hk.size
  clear hb hk hk2
  generalize w1.heap.size = gr at *
  cases hv : okd p with
  | false =>
    have hPP := HPP.out
    rw [ptake, hv, if_neg (by simp)] at hPP
    cases hPP
    refine (HO.out _ _ hv).mono ?_; rintro e w3 ⟨rfl, k3⟩
    have hb3 := hb2.nob k3
    have hz3 := hz.nob k3
    have hK3 := hK2.nobt k3
    clear hb2 hz hK2 k3 HPP
    go_wp2_with (first | (refine wpList_ld rfl (.tmp 2) rfl w.heap.size p rfl HL.out hb3 ?_) | (refine wpList_st rfl (.tmp 4) _ rfl gr p noP rfl rfl HL.out rfl hz3 ?_; intro w4 hz4 hk4 hs4; clear hs4))
    (try simp only [Exit.inBlock, Exit.then])
    refine bodyPost_ret (v := .tuple #[pv p, .slice none 0 0]) (results_pair rfl _ _ gr p HL.out rfl hz4 _ rfl) rfl ?_
    exact ⟨_, rfl, Gives.nil_ _, hK3.trans hk4 (fun b hb e => by have h3 : b = gr := e; omega)⟩
  | true =>
    refine (HO.out _ _ hv).mono ?_; rintro e w3 ⟨rfl, k3⟩
    have hb3 := hb2.nob k3
    have hz3 := hz.nob k3
    have hK3 := hK2.nobt k3
    clear hb2 hz hK2 k3
    have B := okd_bounds hv
    have hPP := HPP.out
    rw [ptake, hv, if_pos rfl] at hPP
    have hB1 := B.c
    have HBh := Lib.hid B.h
    obtain ⟨ph, pb, pr, ps, d⟩ := p
    simp only at hB1 HBh
    have hmm : few ⟨ph, pb, pr, ps, d⟩ n = min n.toNat pb.toNat := rfl
    generalize few ⟨ph, pb, pr, ps, d⟩ n = m at *
    obtain ⟨M, hM⟩ : ∃ M : Int, (if n < 0 then 0 else n) = M := ⟨_, rfl⟩
    have hM2 : (if pb < M then pb else M) = (m : Int) := by
      subst hM
      split <;> split <;> omega
    have hmp : (m : Int) ≤ pb := by omega
    obtain ⟨hd, hhd⟩ : ∃ x : Int, (ph + (m : Int)) % 32 = x := ⟨_, rfl⟩
    obtain ⟨cn, hcn⟩ : ∃ x : Int, pb - (m : Int) = x := ⟨_, rfl⟩
    have hP1 : P' = ⟨hd, cn, pr, ps, d⟩ := by rw [← hhd, ← hcn]; exact (congrArg Prod.fst hPP).symm
    have hP2 : l = ahd d ph.toNat m := (congrArg Prod.snd hPP).symm
    subst hP1 hP2
    have hwc : IntKind.i64.wrap (pb - (m : Int)) = cn := by rw [hcn]; exact wrap_small_i64 _ (by omega) (by omega)
    have hwc2 : IntKind.i64.wrap cn = cn := by have := hwc; rwa [hcn] at this
    have ha := fun w => ahead_is ⟨ph, pb, pr, ps, d⟩ HL.out HBh.out m (by omega) w
    have hpl := fun w => place_is ⟨ph, pb, pr, ps, d⟩ m hd HBh.out (by omega) hhd w
    unfold pv at ha hpl
    have HA := Lib.hid ha
    have HPL := Lib.hid hpl
    obtain ⟨c0, c1, c2, c3⟩ := cells4 hb3
    simp only at c0 c1 c2 c3
    clear hPP HPP hmm hhd B hv hB1 ha hpl c0 c2 c3 HO
    go_wp2_with (refine wpList_ld rfl (.tmp 2) rfl w.heap.size ⟨ph, pb, pr, ps, d⟩ rfl HL.out hb3 ?_)
    refine (HA.out _).mono ?_; rintro e w4 ⟨g, rfl, hr4, k4⟩
    have hb4 := hb3.nob k4
    have hz4 := hz3.nob k4
    have hK4 := hK3.nobt k4
    clear hb3 hz3 hK3 k4 c1 HA hM hM2
    go_wp2_with fail
    have hgg : g ≠ w.heap.size := (Blk.ne_ hr4 hb4 (by decide))
    go_cut [6] from 19 to 27 (fun s6 wx => s6 = .slice (some ⟨g, 0, none⟩) m m ∧ Blk wx w.heap.size 26 (pc ⟨hd, cn, pr, ps, d⟩) ∧ Blk wx gr 26 (pc noP) ∧ Blk wx g 5 (bytes (ahd d ph.toNat m)) ∧ Keep Nob w wx)
    case first =>
      go_wp2_with fail
      have hbd := hb4.drew
      have hzd := hz4.drew
      have hrd := hr4.drew
      have hKd := hK4.drew
      have c1 : w4.drew.cell? ⟨w.heap.size, 1, none⟩ = some (.int .i64 pb) := (cells4 hbd).2.1
      clear hb4 hz4 hr4 hK4
      refine wp_region_held_drew (S := (fun _ => True)) (by kernel_rfl) trivial (fun hHeld => ?_)
      generalize w4.drew = wd at *
      refine wpAnyH_take (i := 1) (v := ?_) rfl (by kernel_rfl) (by kernel_rfl) (by kernel_rfl) (fun _ _ _ h => h) (Or.inl ⟨by rfl, ?_⟩) (by assumption) ?_
      rotate_left
      · (intro w hSw; (try dsimp only at hSw); go_simp; try with_reducible rfl)
      try simp only [Act.put, List.getElem_toArray, List.getElem_cons_zero, List.getElem_cons_succ, List.setIfInBounds_toArray, List.set_cons_zero, List.set_cons_succ]
      refine wpAnyH_take (i := 3) (v := ?_) rfl (by kernel_rfl) (by kernel_rfl) (by kernel_rfl) (fun _ _ _ h => h) (Or.inl ⟨by rfl, ?_⟩) (by assumption) ?_
      rotate_left
      · (intro w hSw; (try dsimp only at hSw); go_simp; try with_reducible rfl)
      try simp only [Act.put, List.getElem_toArray, List.getElem_cons_zero, List.getElem_cons_succ, List.setIfInBounds_toArray, List.set_cons_zero, List.set_cons_succ]
      refine wpAnyH_take (i := 5) (v := ?_) rfl (by kernel_rfl) (by kernel_rfl) (by kernel_rfl) (fun _ _ _ h => h) (Or.inl ⟨by rfl, ?_⟩) (by assumption) ?_
      rotate_left
      · (intro w hSw; (try dsimp only at hSw); go_simp; try with_reducible rfl)
      try simp only [Act.put, List.getElem_toArray, List.getElem_cons_zero, List.getElem_cons_succ, List.setIfInBounds_toArray, List.set_cons_zero, List.set_cons_succ]
      refine wpAnyH_ready (rs := [0, 4]) (by kernel_rfl) (by simp) ?_
      refine AllReadyH.cons rfl (fun K hK => ?_) ?_
      · rw [if_pos (by rfl)]
        refine wp_val (exec_load (q := ⟨ph, pb, pr, ps, d⟩) (x := .tmp 2) rfl rfl HL.out hbd) ?_
        refine hK.out _ _ ?_ (fun hHeld => ?_)
        · exact trivial
        clear hK K
        try simp only [Act.put, List.getElem_toArray, List.getElem_cons_zero, List.getElem_cons_succ, List.setIfInBounds_toArray, List.set_cons_zero, List.set_cons_succ]
        refine wpAnyH_ready (rs := [2, 4]) (by kernel_rfl) (by simp) ?_
        refine AllReadyH.cons rfl (fun K hK => ?_) ?_
        · go_simp
          refine (HPL.out _).mono ?_; rintro e w5 ⟨rfl, k5⟩
          have hb5 := hbd.nob k5
          have hz5 := hzd.nob k5
          have hr5 := hrd.nob k5
          have hK5 := hKd.nobt k5
          refine hK.out _ _ ?_ (fun hHeld => ?_)
          · exact trivial
          clear hK K
          try simp only [Act.put, List.getElem_toArray, List.getElem_cons_zero, List.getElem_cons_succ, List.setIfInBounds_toArray, List.set_cons_zero, List.set_cons_succ]
          refine wpAnyH_ready (rs := [4]) (by kernel_rfl) (by simp) ?_
          refine AllReadyH.cons rfl (fun K hK => ?_) AllReadyH.nil
          rw [if_pos (by rfl)]
          refine wp_val (exec_lc (x := .tmp 22) rfl rfl ((cells4 hb5).2.1)) ?_
          refine hK.out _ _ ?_ (fun hHeld => ?_)
          · exact trivial
          clear hK K
          try simp only [Act.put, List.getElem_toArray, List.getElem_cons_zero, List.getElem_cons_succ, List.setIfInBounds_toArray, List.set_cons_zero, List.set_cons_succ]
          refine wpAnyH_take (i := 6) (v := ?_) rfl (by kernel_rfl) (by kernel_rfl) (by kernel_rfl) (fun _ _ _ h => h) (Or.inl ⟨by rfl, ?_⟩) (by assumption) ?_
          rotate_left
          · (intro w hSw; (try dsimp only at hSw); go_simp; try with_reducible rfl)
          try simp only [Act.put, List.getElem_toArray, List.getElem_cons_zero, List.getElem_cons_succ, List.setIfInBounds_toArray, List.set_cons_zero, List.set_cons_succ]
          refine wpAnyH_take (i := 7) (v := ?_) rfl (by kernel_rfl) (by kernel_rfl) (by kernel_rfl) (fun _ _ _ h => h) (Or.inl ⟨by rfl, ?_⟩) (by assumption) ?_
          rotate_left
          · (intro w hSw; (try dsimp only at hSw); go_simp; try with_reducible rfl)
          try simp only [Act.put, List.getElem_toArray, List.getElem_cons_zero, List.getElem_cons_succ, List.setIfInBounds_toArray, List.set_cons_zero, List.set_cons_succ]
          refine wpAnyH_ready (rs := [8]) (by kernel_rfl) (by simp) ?_
          refine AllReadyH.cons rfl (fun K hK => ?_) AllReadyH.nil
          rw [if_pos (by rfl)]
          refine wp_sc rfl rfl rfl hb5 (by simp [pc]; try omega) ?_
          have hb6 : Blk (w5.setCell ⟨w.heap.size, 0, none⟩ (.int .i64 hd)) w.heap.size 26 (pc ⟨hd, pb, pr, ps, d⟩) := hb5.setCell 0 (.int .i64 hd)
          have hz6 := hz5.far (p := ⟨w.heap.size, 0, none⟩) (Ne.symm hne) (.int .i64 hd)
          have hr6 := hr5.far (p := ⟨w.heap.size, 0, none⟩) hgg (.int .i64 hd)
          have hK6 := hK5.setCell ⟨w.heap.size, 0, none⟩ (.int .i64 hd) (fun h => absurd h (Nat.lt_irrefl _))
          refine hK.out _ _ ?_ (fun hHeld => ?_)
          · exact trivial
          clear hK K
          try simp only [Act.put, List.getElem_toArray, List.getElem_cons_zero, List.getElem_cons_succ, List.setIfInBounds_toArray, List.set_cons_zero, List.set_cons_succ]
          refine wpAnyH_take (i := 9) (v := ?_) rfl (by kernel_rfl) (by kernel_rfl) (by kernel_rfl) (fun _ _ _ h => h) (Or.inl ⟨by rfl, ?_⟩) (by assumption) ?_
          rotate_left
          · (intro w hSw; (try dsimp only at hSw); go_simp; try with_reducible rfl)
          try simp only [Act.put, List.getElem_toArray, List.getElem_cons_zero, List.getElem_cons_succ, List.setIfInBounds_toArray, List.set_cons_zero, List.set_cons_succ]
          refine wpAnyH_ready (rs := [10]) (by kernel_rfl) (by simp) ?_
          refine AllReadyH.cons rfl (fun K hK => ?_) AllReadyH.nil
          rw [if_pos (by rfl)]
          refine wp_sc rfl rfl rfl hb6 (by simp [pc]; try omega) ?_
          have hb7 : Blk _ w.heap.size 26 (pc ⟨hd, cn, pr, ps, d⟩) := hb6.setCell 1 (.int .i64 cn)
          have hz7 := hz6.far (p := ⟨w.heap.size, 1, none⟩) (Ne.symm hne) (.int .i64 cn)
          have hr7 := hr6.far (p := ⟨w.heap.size, 1, none⟩) hgg (.int .i64 cn)
          have hK7 := hK6.setCell ⟨w.heap.size, 1, none⟩ (.int .i64 cn) (fun h => absurd h (Nat.lt_irrefl _))
          refine hK.out _ _ ?_ (fun hHeld => ?_)
          · exact trivial
          clear hK K
          try simp only [Act.put, List.getElem_toArray, List.getElem_cons_zero, List.getElem_cons_succ, List.setIfInBounds_toArray, List.set_cons_zero, List.set_cons_succ]
          refine wpAnyH_done (by kernel_rfl) ?_ _
          go_wp2_with fail
          go_meet
          exact ⟨rfl, hb7, hz7, hr7, hK7⟩
        refine AllReadyH.cons rfl (fun K hK => ?_) AllReadyH.nil
        rw [if_pos (by rfl)]
        refine wp_val (exec_lc (x := .tmp 22) rfl rfl c1) ?_
        refine hK.out _ _ ?_ (fun hHeld => ?_)
        · exact trivial
        clear hK K
        try simp only [Act.put, List.getElem_toArray, List.getElem_cons_zero, List.getElem_cons_succ, List.setIfInBounds_toArray, List.set_cons_zero, List.set_cons_succ]
        refine wpAnyH_take (i := 6) (v := ?_) rfl (by kernel_rfl) (by kernel_rfl) (by kernel_rfl) (fun _ _ _ h => h) (Or.inl ⟨by rfl, ?_⟩) (by assumption) ?_
        rotate_left
        · (intro w hSw; (try dsimp only at hSw); go_simp; try with_reducible rfl)
        try simp only [Act.put, List.getElem_toArray, List.getElem_cons_zero, List.getElem_cons_succ, List.setIfInBounds_toArray, List.set_cons_zero, List.set_cons_succ]
        refine wpAnyH_ready (rs := [2]) (by kernel_rfl) (by simp) ?_
        refine AllReadyH.cons rfl (fun K hK => ?_) AllReadyH.nil
        go_simp
        refine (HPL.out _).mono ?_; rintro e w5 ⟨rfl, k5⟩
        have hb5 := hbd.nob k5
        have hz5 := hzd.nob k5
        have hr5 := hrd.nob k5
        have hK5 := hKd.nobt k5
        refine hK.out _ _ ?_ (fun hHeld => ?_)
        · exact trivial
        clear hK K
        try simp only [Act.put, List.getElem_toArray, List.getElem_cons_zero, List.getElem_cons_succ, List.setIfInBounds_toArray, List.set_cons_zero, List.set_cons_succ]
        refine wpAnyH_take (i := 7) (v := ?_) rfl (by kernel_rfl) (by kernel_rfl) (by kernel_rfl) (fun _ _ _ h => h) (Or.inl ⟨by rfl, ?_⟩) (by assumption) ?_
        rotate_left
        · (intro w hSw; (try dsimp only at hSw); go_simp; try with_reducible rfl)
        try simp only [Act.put, List.getElem_toArray, List.getElem_cons_zero, List.getElem_cons_succ, List.setIfInBounds_toArray, List.set_cons_zero, List.set_cons_succ]
        refine wpAnyH_ready (rs := [8]) (by kernel_rfl) (by simp) ?_
        refine AllReadyH.cons rfl (fun K hK => ?_) AllReadyH.nil
        rw [if_pos (by rfl)]
        refine wp_sc rfl rfl rfl hb5 (by simp [pc]; try omega) ?_
        have hb6 : Blk (w5.setCell ⟨w.heap.size, 0, none⟩ (.int .i64 hd)) w.heap.size 26 (pc ⟨hd, pb, pr, ps, d⟩) := hb5.setCell 0 (.int .i64 hd)
        have hz6 := hz5.far (p := ⟨w.heap.size, 0, none⟩) (Ne.symm hne) (.int .i64 hd)
        have hr6 := hr5.far (p := ⟨w.heap.size, 0, none⟩) hgg (.int .i64 hd)
        have hK6 := hK5.setCell ⟨w.heap.size, 0, none⟩ (.int .i64 hd) (fun h => absurd h (Nat.lt_irrefl _))
        refine hK.out _ _ ?_ (fun hHeld => ?_)
        · exact trivial
        clear hK K
        try simp only [Act.put, List.getElem_toArray, List.getElem_cons_zero, List.getElem_cons_succ, List.setIfInBounds_toArray, List.set_cons_zero, List.set_cons_succ]
        refine wpAnyH_take (i := 9) (v := ?_) rfl (by kernel_rfl) (by kernel_rfl) (by kernel_rfl) (fun _ _ _ h => h) (Or.inl ⟨by rfl, ?_⟩) (by assumption) ?_
        rotate_left
        · (intro w hSw; (try dsimp only at hSw); go_simp; try with_reducible rfl)
        try simp only [Act.put, List.getElem_toArray, List.getElem_cons_zero, List.getElem_cons_succ, List.setIfInBounds_toArray, List.set_cons_zero, List.set_cons_succ]
        refine wpAnyH_ready (rs := [10]) (by kernel_rfl) (by simp) ?_
        refine AllReadyH.cons rfl (fun K hK => ?_) AllReadyH.nil
        rw [if_pos (by rfl)]
        refine wp_sc rfl rfl rfl hb6 (by simp [pc]; try omega) ?_
        have hb7 : Blk _ w.heap.size 26 (pc ⟨hd, cn, pr, ps, d⟩) := hb6.setCell 1 (.int .i64 cn)
        have hz7 := hz6.far (p := ⟨w.heap.size, 1, none⟩) (Ne.symm hne) (.int .i64 cn)
        have hr7 := hr6.far (p := ⟨w.heap.size, 1, none⟩) hgg (.int .i64 cn)
        have hK7 := hK6.setCell ⟨w.heap.size, 1, none⟩ (.int .i64 cn) (fun h => absurd h (Nat.lt_irrefl _))
        refine hK.out _ _ ?_ (fun hHeld => ?_)
        · exact trivial
        clear hK K
        try simp only [Act.put, List.getElem_toArray, List.getElem_cons_zero, List.getElem_cons_succ, List.setIfInBounds_toArray, List.set_cons_zero, List.set_cons_succ]
        refine wpAnyH_done (by kernel_rfl) ?_ _
        go_wp2_with fail
        go_meet
        exact ⟨rfl, hb7, hz7, hr7, hK7⟩
      refine AllReadyH.cons rfl (fun K hK => ?_) AllReadyH.nil
      rw [if_pos (by rfl)]
      refine wp_val (exec_lc (x := .tmp 22) rfl rfl c1) ?_
      refine hK.out _ _ ?_ (fun hHeld => ?_)
      · exact trivial
      clear hK K
      try simp only [Act.put, List.getElem_toArray, List.getElem_cons_zero, List.getElem_cons_succ, List.setIfInBounds_toArray, List.set_cons_zero, List.set_cons_succ]
      refine wpAnyH_take (i := 6) (v := ?_) rfl (by kernel_rfl) (by kernel_rfl) (by kernel_rfl) (fun _ _ _ h => h) (Or.inl ⟨by rfl, ?_⟩) (by assumption) ?_
      rotate_left
      · (intro w hSw; (try dsimp only at hSw); go_simp; try with_reducible rfl)
      try simp only [Act.put, List.getElem_toArray, List.getElem_cons_zero, List.getElem_cons_succ, List.setIfInBounds_toArray, List.set_cons_zero, List.set_cons_succ]
      refine wpAnyH_ready (rs := [0]) (by kernel_rfl) (by simp) ?_
      refine AllReadyH.cons rfl (fun K hK => ?_) AllReadyH.nil
      rw [if_pos (by rfl)]
      refine wp_val (exec_load (q := ⟨ph, pb, pr, ps, d⟩) (x := .tmp 2) rfl rfl HL.out hbd) ?_
      refine hK.out _ _ ?_ (fun hHeld => ?_)
      · exact trivial
      clear hK K
      try simp only [Act.put, List.getElem_toArray, List.getElem_cons_zero, List.getElem_cons_succ, List.setIfInBounds_toArray, List.set_cons_zero, List.set_cons_succ]
      refine wpAnyH_ready (rs := [2]) (by kernel_rfl) (by simp) ?_
      refine AllReadyH.cons rfl (fun K hK => ?_) AllReadyH.nil
      go_simp
      refine (HPL.out _).mono ?_; rintro e w5 ⟨rfl, k5⟩
      have hb5 := hbd.nob k5
      have hz5 := hzd.nob k5
      have hr5 := hrd.nob k5
      have hK5 := hKd.nobt k5
      refine hK.out _ _ ?_ (fun hHeld => ?_)
      · exact trivial
      clear hK K
      try simp only [Act.put, List.getElem_toArray, List.getElem_cons_zero, List.getElem_cons_succ, List.setIfInBounds_toArray, List.set_cons_zero, List.set_cons_succ]
      refine wpAnyH_take (i := 7) (v := ?_) rfl (by kernel_rfl) (by kernel_rfl) (by kernel_rfl) (fun _ _ _ h => h) (Or.inl ⟨by rfl, ?_⟩) (by assumption) ?_
      rotate_left
      · (intro w hSw; (try dsimp only at hSw); go_simp; try with_reducible rfl)
      try simp only [Act.put, List.getElem_toArray, List.getElem_cons_zero, List.getElem_cons_succ, List.setIfInBounds_toArray, List.set_cons_zero, List.set_cons_succ]
      refine wpAnyH_ready (rs := [8]) (by kernel_rfl) (by simp) ?_
      refine AllReadyH.cons rfl (fun K hK => ?_) AllReadyH.nil
      rw [if_pos (by rfl)]
      refine wp_sc rfl rfl rfl hb5 (by simp [pc]; try omega) ?_
      have hb6 : Blk (w5.setCell ⟨w.heap.size, 0, none⟩ (.int .i64 hd)) w.heap.size 26 (pc ⟨hd, pb, pr, ps, d⟩) := hb5.setCell 0 (.int .i64 hd)
      have hz6 := hz5.far (p := ⟨w.heap.size, 0, none⟩) (Ne.symm hne) (.int .i64 hd)
      have hr6 := hr5.far (p := ⟨w.heap.size, 0, none⟩) hgg (.int .i64 hd)
      have hK6 := hK5.setCell ⟨w.heap.size, 0, none⟩ (.int .i64 hd) (fun h => absurd h (Nat.lt_irrefl _))
      refine hK.out _ _ ?_ (fun hHeld => ?_)
      · exact trivial
      clear hK K
      try simp only [Act.put, List.getElem_toArray, List.getElem_cons_zero, List.getElem_cons_succ, List.setIfInBounds_toArray, List.set_cons_zero, List.set_cons_succ]
      refine wpAnyH_take (i := 9) (v := ?_) rfl (by kernel_rfl) (by kernel_rfl) (by kernel_rfl) (fun _ _ _ h => h) (Or.inl ⟨by rfl, ?_⟩) (by assumption) ?_
      rotate_left
      · (intro w hSw; (try dsimp only at hSw); go_simp; try with_reducible rfl)
      try simp only [Act.put, List.getElem_toArray, List.getElem_cons_zero, List.getElem_cons_succ, List.setIfInBounds_toArray, List.set_cons_zero, List.set_cons_succ]
      refine wpAnyH_ready (rs := [10]) (by kernel_rfl) (by simp) ?_
      refine AllReadyH.cons rfl (fun K hK => ?_) AllReadyH.nil
      rw [if_pos (by rfl)]
      refine wp_sc rfl rfl rfl hb6 (by simp [pc]; try omega) ?_
      have hb7 : Blk _ w.heap.size 26 (pc ⟨hd, cn, pr, ps, d⟩) := hb6.setCell 1 (.int .i64 cn)
      have hz7 := hz6.far (p := ⟨w.heap.size, 1, none⟩) (Ne.symm hne) (.int .i64 cn)
      have hr7 := hr6.far (p := ⟨w.heap.size, 1, none⟩) hgg (.int .i64 cn)
      have hK7 := hK6.setCell ⟨w.heap.size, 1, none⟩ (.int .i64 cn) (fun h => absurd h (Nat.lt_irrefl _))
      refine hK.out _ _ ?_ (fun hHeld => ?_)
      · exact trivial
      clear hK K
      try simp only [Act.put, List.getElem_toArray, List.getElem_cons_zero, List.getElem_cons_succ, List.setIfInBounds_toArray, List.set_cons_zero, List.set_cons_succ]
      refine wpAnyH_done (by kernel_rfl) ?_ _
      go_wp2_with fail
      go_meet
      exact ⟨rfl, hb7, hz7, hr7, hK7⟩
    case rest =>
    obtain ⟨rfl, hb6, hz6, hr6, hK6⟩ := hcut
    go_wp2_with (first | (refine wpList_ld rfl (.tmp 2) rfl w.heap.size ⟨hd, cn, pr, ps, d⟩ rfl HL.out hb6 ?_) | (refine wpList_st rfl (.tmp 4) _ rfl gr ⟨hd, cn, pr, ps, d⟩ noP rfl rfl HL.out rfl hz6 ?_; intro w7 hz7 hk7 hs7; clear hs7))
    (try simp only [Exit.inBlock, Exit.then])
    have hr7 := hr6.keep hk7 (Blk.ne_ hr6 hz6 (by decide))
    refine bodyPost_ret (v := .tuple #[pv ⟨hd, cn, pr, ps, d⟩, .slice (some ⟨g, 0, none⟩) m m]) (results_pair rfl _ _ gr _ HL.out rfl hz7 _ rfl) rfl ?_
    exact ⟨_, rfl, gives_blk hr7 (ahd_len _ _ _), hK6.trans hk7 (fun b hb e => by have h3 : b = gr := e; omega)⟩
end Go.Proofs.Ytojciodjffahnaa.Ri
