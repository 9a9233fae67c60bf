/- A whole process, or one field of it, loaded or stored; a new one; what a call tells of it. -/
import Derived.Test.YtaeiigniakjbpaaDoorSigE
import Derived.Laws.ResultCell
namespace Go.Proofs.YtaeiigniakjbpaaDoor.Sg
open Go.RowKit
set_option linter.unusedVariables false
set_option linter.unusedSimpArgs false
theorem results_pair {fn : Func} {p u : Tmp} (h : fn.results = #[.cell p 25, .tmp u]) (tmps : Array Value) (w : World) (g : Nat) (q : Ps) (hq : q.f.length = 8)
    (hp : tmps.getD p undef = .pointer (some ⟨g, 0, none⟩)) (hg : Blk w g 25 (pc q)) (v : Value) (hv : tmps.getD u undef = v) :
    (results fn tmps).run Tryd.prog w = .ok (.tuple #[.agg (pc q).toArray, v]) w := by
  rw [results_cell_tmp h, hp, hv]
  have := run_loadVar_row (P := Tryd.prog) w g 25 25 (pc q).toArray (0, 0) _ hg Tryd.underlying25 rfl (by rw [infoP]; simp [pc_len hq])
  simp [asAddr, Result.andThen, this]
theorem results_cell_tmp2 {fn : Func} {p u1 u2 : Tmp} {ty : TypeId} (h : fn.results = #[.cell p ty, .tmp u1, .tmp u2]) (tmps : Array Value) (P : Program) (w : World) :
    (results fn tmps).run P w =
      ((asAddr (tmps.getD p undef)).run P w).andThen fun a w₁ => ((loadVar ty a).run P w₁).andThen fun v w₂ => .ok (.tuple #[v, tmps.getD u1 undef, tmps.getD u2 undef]) w₂ := by
  simp only [results, h]
  simp [Sem.run_bind, Result.andThen]
theorem results_three {fn : Func} {p u1 u2 : Tmp} (h : fn.results = #[.cell p 25, .tmp u1, .tmp u2]) (tmps : Array Value) (w : World) (g : Nat) (q : Ps) (hq : q.f.length = 8)
    (hp : tmps.getD p undef = .pointer (some ⟨g, 0, none⟩)) (hg : Blk w g 25 (pc q)) (v1 v2 : Value) (hv1 : tmps.getD u1 undef = v1) (hv2 : tmps.getD u2 undef = v2) :
    (results fn tmps).run Tryd.prog w = .ok (.tuple #[.agg (pc q).toArray, v1, v2]) w := by
  rw [results_cell_tmp2 h, hp, hv1, hv2]
  have := run_loadVar_row (P := Tryd.prog) w g 25 25 (pc q).toArray (0, 0) _ hg Tryd.underlying25 rfl (by rw [infoP]; simp [pc_len hq])
  simp [asAddr, Result.andThen, this]
theorem run_al (W : World) : (Instr.alloc 25 true (.tuple #[])).run Tryd.prog W = .ok (.pointer (some ⟨W.heap.size, 0, none⟩)) (W.alloc (.cells (pc noP).toArray 25)) := by
  go_simp
  rfl
theorem run_bu0 (W : World) : (Instr.build 25 #[]).run Tryd.prog W = .ok (pv noP) W := by
  go_simp
  rfl
theorem run_bu1 (a : Int) (W : World) : (Instr.build 25 #[(0, .int .i64 a)]).run Tryd.prog W = .ok (pv ⟨a, 0, 0, 0, 0, 0, 0, 0, nof⟩) W := by
  go_simp
  rfl
theorem run_bu2 (a b : Int) (W : World) : (Instr.build 25 #[(0, .int .i64 a), (7, .int .i64 b)]).run Tryd.prog W = .ok (pv ⟨a, 0, 0, 0, 0, 0, 0, b, nof⟩) W := by
  go_simp
  rfl
section
variable {ρ : Operand → Value} {ops : Array Oper} {rest : List Oper} {o : Oper} {a : Act} {K : Act → World → Prop} {Q : Exit → Act → World → Prop} {w : World} {x y : Operand} {g : Nat} {q old : Ps}
theorem exec_load (ho : o.op = .load 25 x) (hx : ρ x = .pointer (some ⟨g, 0, none⟩)) (hq : q.f.length = 8) (hb : Blk w g 25 (pc q)) : (execOp ρ o).run Tryd.prog w = .ok (.value (.agg (pc q).toArray)) w := by
  have := run_loadVar_row (P := Tryd.prog) w g 25 25 (pc q).toArray (0, 0) _ hb Tryd.underlying25 rfl (by rw [infoP]; simp [pc_len hq])
  simp [execOp, ho, hx, Instr.loadAt, Instr.sureAddr, this, Result.andThen]
theorem wp_store_ (ho : o.op = .store 25 x y) (hx : a.eval x = .pointer (some ⟨g, 0, none⟩)) (hy : a.eval y = .agg (pc q).toArray) (hq : q.f.length = 8) (hd : old.f.length = 8) (hb : Blk w g 25 (pc old))
    (h : K (a.put o.dst undef) (w.setRow g (pc q).toArray)) : Oper.wp Tryd.prog o a w K Q := by
  have hrun := run_storeVar_row (P := Tryd.prog) w g 25 25 (pc old).toArray (pc q).toArray hb (by rw [infoP]; simp [pc_len hq]) (by simp [pc_len hq, pc_len hd]) (by rw [Array.all_eq_true_iff_forall_mem]; intro v hv; exact pc_one q v (by simpa using hv))
  unfold Oper.wp
  simp [execOp, ho, hx, hy, Instr.storeAt, Instr.sureAddr, hrun, Result.andThen]
  exact h
/-- A whole process is stored, loaded. -/
theorem wpList_st (hgd : o.guard = none) (x y : Operand) (ho : o.op = .store 25 x y) (g : Nat) (q old : Ps) (hx : a.eval x = .pointer (some ⟨g, 0, none⟩)) (hy : a.eval y = .agg (pc q).toArray) (hq : q.f.length = 8) (hd : old.f.length = 8) (hb : Blk w g 25 (pc old))
    (h : ∀ w', Blk w' g 25 (pc q) → Keep (· = g) w w' → w'.heap.size = w.heap.size → wpList Tryd.prog ops Q rest (a.put o.dst undef) w') : wpList Tryd.prog ops Q (o :: rest) a w := by
  refine wpList_plain hgd fun K hK => ?_
  have hrun := run_storeVar_row (P := Tryd.prog) w g 25 25 (pc old).toArray (pc q).toArray hb (by rw [infoP]; simp [pc_len hq]) (by simp [pc_len hq, pc_len hd]) (by rw [Array.all_eq_true_iff_forall_mem]; intro v hv; exact pc_one q v (by simpa using hv))
  have hh := h (w.setRow g (pc q).toArray) (hb.setRow _) ((Keep.refl _ w).setRow g _ (fun _ => rfl)) (by simp)
  unfold Oper.wp
  simp [execOp, ho, hx, hy, Instr.storeAt, Instr.sureAddr, hrun, Result.andThen]
  exact hK _ _ hh
theorem wpList_ldw (hw : Region.wanted o (yielded ops a.tmps) = true) (x : Operand) (ho : o.op = .load 25 x) (g : Nat) (q : Ps) (hx : a.eval x = .pointer (some ⟨g, 0, none⟩)) (hq : q.f.length = 8) (hb : Blk w g 25 (pc q))
    (h : wpList Tryd.prog ops Q rest (a.put o.dst (.agg (pc q).toArray)) w) : wpList Tryd.prog ops Q (o :: rest) a w := by
  refine wpList_step fun K hK => ?_
  rw [if_pos hw]
  have hrun := run_loadVar_row (P := Tryd.prog) w g 25 25 (pc q).toArray (0, 0) _ hb Tryd.underlying25 rfl (by rw [infoP]; simp [pc_len hq])
  unfold Oper.wp
  simp [execOp, ho, hx, Instr.loadAt, Instr.sureAddr, hrun, Result.andThen]
  exact hK _ _ h
theorem wpList_ld (hgd : o.guard = none) (x : Operand) (ho : o.op = .load 25 x) (g : Nat) (q : Ps) (hx : a.eval x = .pointer (some ⟨g, 0, none⟩)) (hq : q.f.length = 8) (hb : Blk w g 25 (pc q))
    (h : wpList Tryd.prog ops Q rest (a.put o.dst (.agg (pc q).toArray)) w) : wpList Tryd.prog ops Q (o :: rest) a w := by
  refine wpList_plain hgd fun K hK => ?_
  have hrun := run_loadVar_row (P := Tryd.prog) w g 25 25 (pc q).toArray (0, 0) _ hb Tryd.underlying25 rfl (by rw [infoP]; simp [pc_len hq])
  unfold Oper.wp
  simp [execOp, ho, hx, Instr.loadAt, Instr.sureAddr, hrun, Result.andThen]
  exact hK _ _ h
/-- A new process, its world a letter. -/
theorem wpList_al (hgd : o.guard = none) (ho : o.op = .alloc 25)
    (h : ∀ w', Blk w' w.heap.size 25 (pc noP) → Keep Nob w w' → w'.heap.size = w.heap.size + 1 → wpList Tryd.prog ops Q rest (a.put o.dst (.pointer (some ⟨w.heap.size, 0, none⟩))) w') : wpList Tryd.prog ops Q (o :: rest) a w := by
  refine wpList_plain hgd fun K hK => ?_
  have hh := h _ (Blk.new w 25 (pc noP)) ((Keep.refl Nob w).alloc _) (by simp)
  have hr := run_al w
  unfold Oper.wp
  simp [execOp, ho, hr, Result.andThen]
  exact hK _ _ hh
theorem wp_al (ho : o.op = .alloc 25)
    (h : ∀ w', Blk w' w.heap.size 25 (pc noP) → Keep Nob w w' → w'.heap.size = w.heap.size + 1 → K (a.put o.dst (.pointer (some ⟨w.heap.size, 0, none⟩))) w') : Oper.wp Tryd.prog o a w K Q := by
  have hh := h _ (Blk.new w 25 (pc noP)) ((Keep.refl Nob w).alloc _) (by simp)
  have hr := run_al w
  unfold Oper.wp
  simp [execOp, ho, hr, Result.andThen]
  exact hh
theorem wpList_bu0 (hgd : o.guard = none) (ho : o.op = .build 25 #[])
    (h : wpList Tryd.prog ops Q rest (a.put o.dst (.agg (pc noP).toArray)) w) : wpList Tryd.prog ops Q (o :: rest) a w := by
  refine wpList_plain hgd fun K hK => ?_
  have hr := run_bu0 w
  unfold Oper.wp
  simp [execOp, ho, hr, Result.andThen]
  exact hK _ _ h
theorem wpList_bu1 (hgd : o.guard = none) (x0 : Operand) (ho : o.op = .build 25 #[(0, x0)]) (n0 : Int) (h0 : a.eval x0 = .int .i64 n0)
    (h : wpList Tryd.prog ops Q rest (a.put o.dst (.agg (pc ⟨n0, 0, 0, 0, 0, 0, 0, 0, nof⟩).toArray)) w) : wpList Tryd.prog ops Q (o :: rest) a w := by
  refine wpList_plain hgd fun K hK => ?_
  have hr := run_bu1 n0 w
  unfold Oper.wp
  simp [execOp, ho, h0, hr, Result.andThen]
  exact hK _ _ h
theorem wpList_bu2 (hgd : o.guard = none) (x0 x1 : Operand) (ho : o.op = .build 25 #[(0, x0), (7, x1)]) (n0 n1 : Int) (h0 : a.eval x0 = .int .i64 n0) (h1 : a.eval x1 = .int .i64 n1)
    (h : wpList Tryd.prog ops Q rest (a.put o.dst (.agg (pc ⟨n0, 0, 0, 0, 0, 0, 0, n1, nof⟩).toArray)) w) : wpList Tryd.prog ops Q (o :: rest) a w := by
  refine wpList_plain hgd fun K hK => ?_
  have hr := run_bu2 n0 n1 w
  unfold Oper.wp
  simp [execOp, ho, h0, h1, hr, Result.andThen]
  exact hK _ _ h
/-- One field is stored. -/
theorem wpList_sf (hgd : o.guard = none) (x y : Operand) (ho : o.op = .store 3 x y) (g k : Nat) (p p' : Ps) (v : Int) (hx : a.eval x = .pointer (some ⟨g, k, none⟩)) (hy : a.eval y = .int .i64 v) (hb : Blk w g 25 (pc p)) (hp' : ((pc p)[k]?).isSome = true ∧ (pc p).set k (.int .i64 v) = pc p')
    (h : ∀ w', Blk w' g 25 (pc p') → Keep (· = g) w w' → w'.heap.size = w.heap.size → wpList Tryd.prog ops Q rest (a.put o.dst undef) w') : wpList Tryd.prog ops Q (o :: rest) a w := by
  refine wpList_plain hgd fun K hK => ?_
  have hb' := hb.setCell k (.int .i64 v)
  rw [hp'.2] at hb'
  have hh := h _ hb' ((Keep.refl _ w).setCell ⟨g, k, none⟩ (.int .i64 v) (fun _ => rfl)) (by simp [World.setCell])
  have fr := hb.frozen k
  have cc := hb.cell k
  obtain ⟨u, hu⟩ := Option.isSome_iff_exists.1 hp'.1
  rw [hu] at cc
  unfold Oper.wp
  simp only [execOp, ho, hx, hy]
  go_simp
  exact hK _ _ hh
theorem wp_sf (ho : o.op = .store 3 x y) (k : Nat) (p p' : Ps) (v : Int) (hx : a.eval x = .pointer (some ⟨g, k, none⟩)) (hy : a.eval y = .int .i64 v) (hb : Blk w g 25 (pc p)) (hp' : ((pc p)[k]?).isSome = true ∧ (pc p).set k (.int .i64 v) = pc p')
    (h : ∀ w', Blk w' g 25 (pc p') → Keep (· = g) w w' → w'.heap.size = w.heap.size → K (a.put o.dst undef) w') : Oper.wp Tryd.prog o a w K Q := by
  have hb' := hb.setCell k (.int .i64 v)
  rw [hp'.2] at hb'
  have hh := h _ hb' ((Keep.refl _ w).setCell ⟨g, k, none⟩ (.int .i64 v) (fun _ => rfl)) (by simp [World.setCell])
  have fr := hb.frozen k
  have cc := hb.cell k
  obtain ⟨u, hu⟩ := Option.isSome_iff_exists.1 hp'.1
  rw [hu] at cc
  unfold Oper.wp
  simp only [execOp, ho, hx, hy]
  go_simp
  exact hh
theorem exec_lc {k : Nat} {v : Int} (ho : o.op = .load 3 x) (hx : ρ x = .pointer (some ⟨g, k, none⟩)) (hc : w.cell? ⟨g, k, none⟩ = some (.int .i64 v)) : (execOp ρ o).run Tryd.prog w = .ok (.value (.int .i64 v)) w := by
  simp only [execOp, ho, hx]
  go_simp
theorem wp_val {v : Value} (hr : (execOp a.eval o).run Tryd.prog w = .ok (.value v) w) (h : K (a.put o.dst v) w) : Oper.wp Tryd.prog o a w K Q := by
  unfold Oper.wp
  rw [hr]
  exact h
end
theorem cells {w : World} {g : Nat} {p : Ps} (h : Blk w g 25 (pc p)) : w.cell? ⟨g, 0, none⟩ = some (.int .i64 p.s) ∧ w.cell? ⟨g, 4, none⟩ = some (.int .i64 p.pe) ∧ w.cell? ⟨g, 5, none⟩ = some (.int .i64 p.m) ∧ w.cell? ⟨g, 6, none⟩ = some (.int .i64 p.i) ∧ w.cell? ⟨g, 7, none⟩ = some (.int .i64 p.ca) :=
  ⟨h.cell 0, h.cell 4, h.cell 5, h.cell 6, h.cell 7⟩
end Go.Proofs.YtaeiigniakjbpaaDoor.Sg
