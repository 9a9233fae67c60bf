import Derived.Test.YtgcikpgcoemfnaaGreatRows
import Derived.Test.YtgcikpgcoemfnaaGreatPs0
set_option linter.unusedVariables false
set_option linter.unusedSimpArgs false
namespace Go.Proofs.YtgcikpgcoemfnaaGreat.Co
open Go.RowKit
structure cS (t : TypeId) (n : Nat) (z : List Value) : Prop where
 d : ∃ d, Tryz.prog.underlying t = some d ∧ (match d with | .struct _ | .array _ _ => true | _ => false) = true
 i : (Tryz.prog.info? t).map (·.size) = some n
 al : ∀ W, (Instr.alloc t true (.tuple #[])).run Tryz.prog W = .ok (.pointer (some ⟨W.heap.size, 0, none⟩)) (W.alloc (.cells z.toArray t))
 zl : z.length = n
structure cE (n : Nat) (q : List Value) : Prop where
 len : q.length = n
 one : ∀ v ∈ q, v.oneCell' = true
section
variable {t : TypeId} {n : Nat} {z q old : List Value} {ρ : Operand → Value} {ops : Array Oper} {rest : List Oper} {o : Oper} {a : Act} {K : Act → World → Prop} {Q : Exit → Act → World → Prop} {w : World} {g : Nat} {x y : Operand}
theorem cS.load (F : cS t n z) (hq : cE n q) (hb : Blk w g t q) : (loadVar t ⟨g, 0, none⟩).run Tryz.prog w = .ok (.agg q.toArray) w := by
 obtain ⟨d, h1, h2⟩ := F.d
 exact run_loadVar_row (P := Tryz.prog) w g t t q.toArray (0, 0) _ hb h1 (by cases d <;> simp_all) (by rw [F.i]; simp [hq.len])
theorem cS.store (F : cS t n z) (hq : cE n q) (hd : cE n old) (hb : Blk w g t old) : (storeVar t ⟨g, 0, none⟩ (.agg q.toArray)).run Tryz.prog w = .ok () (w.setRow g q.toArray) :=
 run_storeVar_row (P := Tryz.prog) w g t t old.toArray q.toArray hb (by rw [F.i]; simp [hq.len]) (by simp [hq.len, hd.len]) (by rw [Array.all_eq_true_iff_forall_mem]; intro v hv; exact hq.one v (by simpa using hv))
theorem cS.wpList_al (F : cS t n z) (hgd : o.guard = none) (ho : o.op = .alloc t)
  (h : ∀ w', Blk w' w.heap.size t z → Keep Nob w w' → w'.heap.size = w.heap.size + 1 → wpList Tryz.prog ops Q rest (a.put o.dst (.pointer (some ⟨w.heap.size, 0, none⟩))) w') : wpList Tryz.prog ops Q (o :: rest) a w := by
 refine wpList_plain hgd fun K hK => ?_
 have hh := h _ (Blk.new w t z) ((Keep.refl Nob w).alloc _) (by simp)
 have hr := F.al w
 unfold Oper.wp
 simp [execOp, ho, hr, Result.andThen]
 exact hK _ _ hh
theorem cS.wpList_st (F : cS t n z) (hgd : o.guard = none) (ho : o.op = .store t x y) (hx : a.eval x = .pointer (some ⟨g, 0, none⟩)) (hy : a.eval y = .agg q.toArray) (hq : cE n q) (hd : cE n old) (hb : Blk w g t old)
  (h : ∀ w', Blk w' g t q → Keep (· = g) w w' → w'.heap.size = w.heap.size → wpList Tryz.prog ops Q rest (a.put o.dst undef) w') : wpList Tryz.prog ops Q (o :: rest) a w := by
 refine wpList_plain hgd fun K hK => ?_
 have hrun := F.store hq hd hb
 have hh := h (w.setRow g q.toArray) (hb.setRow _) ((Keep.refl _ w).setRow g _ (fun _ => rfl)) (by simp)
 unfold Oper.wp
 simp [execOp, ho, hx, hy, Instr.storeAt, Instr.sureAddr, hrun, Result.andThen]
 exact hK _ _ hh
theorem cS.wpList_ld (F : cS t n z) (hgd : o.guard = none) (ho : o.op = .load t x) (hx : a.eval x = .pointer (some ⟨g, 0, none⟩)) (hq : cE n q) (hb : Blk w g t q)
  (h : wpList Tryz.prog ops Q rest (a.put o.dst (.agg q.toArray)) w) : wpList Tryz.prog ops Q (o :: rest) a w := by
 refine wpList_plain hgd fun K hK => ?_
 have hrun := F.load hq hb
 unfold Oper.wp
 simp [execOp, ho, hx, Instr.loadAt, Instr.sureAddr, hrun, Result.andThen]
 exact hK _ _ h
theorem cS.results_pair (F : cS t n z) {fn : Func} {p u : Tmp} (h : fn.results = #[.cell p t, .tmp u]) (tmps : Array Value) (hq : cE n q)
  (hp : tmps.getD p undef = .pointer (some ⟨g, 0, none⟩)) (hg : Blk w g t q) (v : Value) (hv : tmps.getD u undef = v) :
  (results fn tmps).run Tryz.prog w = .ok (.tuple #[.agg q.toArray, v]) w := by
 rw [results_cell_tmp h, hp, hv]
 have := F.load hq hg
 simp [asAddr, Result.andThen, this]
theorem cS.results_one (F : cS t n z) {fn : Func} {p : Tmp} (h : fn.results = #[.cell p t]) (tmps : Array Value) (hq : cE n q)
  (hp : tmps.getD p undef = .pointer (some ⟨g, 0, none⟩)) (hg : Blk w g t q) :
  (results fn tmps).run Tryz.prog w = .ok (.agg q.toArray) w := by
 obtain ⟨d, h1, h2⟩ := F.d
 exact results_cell_row h tmps w g t q.toArray (0, 0) _ hp hg h1 (by cases d <;> simp_all) (by rw [F.i]; simp [hq.len])
end
end Go.Proofs.YtgcikpgcoemfnaaGreat.Co
