/- What a call tells of a block and a slot; a new row of bytes as a text; a whole pipe loaded or stored; bytes.Equal. -/
import Derived.Test.YtojciodjffahnaaRin1
import Derived.Laws.ResultCell
namespace Go.Proofs.Ytojciodjffahnaa.Ri
open Go.RowKit
set_option linter.unusedVariables false
set_option linter.unusedSimpArgs false
theorem infoP_ : (Try.prog.info? 26).map (·.size) = some 36 := by kernel_rfl
theorem results_pair {fn : Func} {p u : Tmp} (h : fn.results = #[.cell p 26, .tmp u]) (tmps : Array Value) (w : World) (g : Nat) (q : Pp) (hq : q.d.length = 32)
    (hp : tmps.getD p undef = .pointer (some ⟨g, 0, none⟩)) (hg : Blk w g 26 (pc q)) (v : Value) (hv : tmps.getD u undef = v) :
    (results fn tmps).run Try.prog w = .ok (.tuple #[.agg (pc q).toArray, v]) w := by
  rw [results_cell_tmp h, hp, hv]
  have := run_loadVar_row (P := Try.prog) w g 26 26 (pc q).toArray (0, 0) _ hg Try.underlying26 rfl (by rw [infoP_]; simp [pc_len hq])
  simp [asAddr, Result.andThen, this]
theorem results_one {fn : Func} {p : Tmp} (h : fn.results = #[.cell p 26]) (tmps : Array Value) (w : World) (g : Nat) (q : Pp) (hq : q.d.length = 32)
    (hp : tmps.getD p undef = .pointer (some ⟨g, 0, none⟩)) (hg : Blk w g 26 (pc q)) :
    (results fn tmps).run Try.prog w = .ok (.agg (pc q).toArray) w :=
  results_cell_row h tmps w g 26 (pc q).toArray (0, 0) _ hp hg Try.underlying26 rfl (by rw [infoP_]; simp [pc_len hq])
theorem conv_new (W : World) (l : List UInt8) (cs : List Value) (n c : Nat) (hcs : cs = bytes l) (hn : l.length = n) :
    (convert 22 9 (.slice (some ⟨W.heap.size, 0, none⟩) n c)).run Try.prog (W.alloc (.cells cs.toArray 5)) = .ok (.string (str l)) (W.alloc (.cells cs.toArray 5)) := by
  subst hcs
  exact run_str (P := Try.prog) _ 22 9 5 _ n c _ Try.underlying22 Try.underlying5 Try.underlying9 (reads_all (Blk.new W 5 (bytes l)) (by rw [bytes_length, hn]))
theorem str_tl (l : List UInt8) : (str l).toList = l := by
  rw [ByteArray.toList_eq]; simp [str]
theorem wrap_byt (n : Int) : IntKind.u8.wrap n = ((byt n).toNat : Int) := by
  rw [byt, byte_back, IntKind.wrap_u8']
theorem index_str (s : ByteArray) (i : Int) (k : Nat) (hi : i = k) (hk : k < s.size) (x : UInt8) (hx : s[k] = x) (W : World) : (Instr.index 9 (.string s) (.int .i64 i)).run Try.prog W = .ok (.int .u8 (x.toNat : Int)) W := by
  subst hi
  have h0 : (0 : Int) ≤ (k : Int) := by omega
  have hk2 : s[k]? = some x := by rw [getElem?_pos s k hk, hx]
  simp [Instr.index, asIntOf, run_underlying Try.underlying9, hk2, Sem.run_bind, Result.andThen]
section
variable {ρ : Operand → Value} {o : Oper} {x y : Operand} {w : World} {g : Nat} {q old : Pp}
theorem exec_load (ho : o.op = .load 26 x) (hx : ρ x = .pointer (some ⟨g, 0, none⟩)) (hq : q.d.length = 32) (hb : Blk w g 26 (pc q)) : (execOp ρ o).run Try.prog w = .ok (.value (.agg (pc q).toArray)) w := by
  have := run_loadVar_row (P := Try.prog) w g 26 26 (pc q).toArray (0, 0) _ hb Try.underlying26 rfl (by rw [infoP_]; simp [pc_len hq])
  simp [execOp, ho, hx, Instr.loadAt, Instr.sureAddr, this, Result.andThen]
theorem exec_store_ (ho : o.op = .store 26 x y) (hx : ρ x = .pointer (some ⟨g, 0, none⟩)) (hy : ρ y = .agg (pc q).toArray) (hq : q.d.length = 32) (hd : old.d.length = 32) (hb : Blk w g 26 (pc old)) :
    (execOp ρ o).run Try.prog w = .ok .skip (w.setRow g (pc q).toArray) := by
  have := run_storeVar_row (P := Try.prog) w g 26 26 (pc old).toArray (pc q).toArray hb (by rw [infoP_]; simp [pc_len hq]) (by simp [pc_len hq, pc_len hd]) (by rw [Array.all_eq_true_iff_forall_mem]; intro v hv; exact pc_one q v (by simpa using hv))
  simp [execOp, ho, hx, hy, Instr.storeAt, Instr.sureAddr, this, Result.andThen]
theorem wp_store_ {a : Act} {K : Act → World → Prop} {Q : Exit → Act → World → Prop} (ho : o.op = .store 26 x y) (hx : a.eval x = .pointer (some ⟨g, 0, none⟩)) (hy : a.eval y = .agg (pc q).toArray) (hq : q.d.length = 32) (hd : old.d.length = 32) (hb : Blk w g 26 (pc old))
    (h : K (a.put o.dst undef) (w.setRow g (pc q).toArray)) : Oper.wp Try.prog o a w K Q := by
  unfold Oper.wp
  rw [exec_store_ ho hx hy hq hd hb]
  exact h
end
section
variable {ops : Array Oper} {rest : List Oper} {o : Oper} {a : Act} {Q : Exit → Act → World → Prop} {w : World}
/-- A whole pipe is stored, loaded. -/
theorem wpList_st (hgd : o.guard = none) (x y : Operand) (ho : o.op = .store 26 x y) (g : Nat) (q old : Pp) (hx : a.eval x = .pointer (some ⟨g, 0, none⟩)) (hy : a.eval y = .agg (pc q).toArray) (hq : q.d.length = 32) (hd : old.d.length = 32) (hb : Blk w g 26 (pc old))
    (h : ∀ w', Blk w' g 26 (pc q) → Keep (· = g) w w' → w'.heap.size = w.heap.size → wpList Try.prog ops Q rest (a.put o.dst undef) w') : wpList Try.prog ops Q (o :: rest) a w := by
  refine wpList_plain hgd fun K hK => ?_
  have hrun := run_storeVar_row (P := Try.prog) w g 26 26 (pc old).toArray (pc q).toArray hb (by rw [infoP_]; simp [pc_len hq]) (by simp [pc_len hq, pc_len hd]) (by rw [Array.all_eq_true_iff_forall_mem]; intro v hv; exact pc_one q v (by simpa using hv))
  have hh := h (w.setRow g (pc q).toArray) (hb.setRow _) ((Keep.refl _ w).setRow g _ (fun _ => rfl)) (by simp)
  unfold Oper.wp
  simp [execOp, ho, hx, hy, Instr.storeAt, Instr.sureAddr, hrun, Result.andThen]
  exact hK _ _ hh
theorem wpList_ld (hgd : o.guard = none) (x : Operand) (ho : o.op = .load 26 x) (g : Nat) (q : Pp) (hx : a.eval x = .pointer (some ⟨g, 0, none⟩)) (hq : q.d.length = 32) (hb : Blk w g 26 (pc q))
    (h : wpList Try.prog ops Q rest (a.put o.dst (.agg (pc q).toArray)) w) : wpList Try.prog ops Q (o :: rest) a w := by
  refine wpList_plain hgd fun K hK => ?_
  have hrun := run_loadVar_row (P := Try.prog) w g 26 26 (pc q).toArray (0, 0) _ hb Try.underlying26 rfl (by rw [infoP_]; simp [pc_len hq])
  unfold Oper.wp
  simp [execOp, ho, hx, Instr.loadAt, Instr.sureAddr, hrun, Result.andThen]
  exact hK _ _ h
end
theorem reads_at {w : World} {g n : Nat} {l : List UInt8} (hr : Reads w (some ⟨g, 0, none⟩) n (bytes l)) {k : Nat} (hk : k < n) : w.cell? ⟨g, k, none⟩ = some (.int .u8 ((l.getD k 0).toNat : Int)) := by
  have hl : l.length = n := by simpa using hr.1
  obtain ⟨ad, h1, h2⟩ := hr.2 (by omega)
  cases h1
  have := h2 k _ (bytes_getD (by omega))
  rwa [add_lit, Nat.zero_add] at this
theorem equal_is (A B : Option Addr) (n m c d : Nat) (x y : List UInt8) (w : World) (hx : Reads w A n (bytes x)) (hy : Reads w B m (bytes y)) (v : Bool) (hv : (x == y) = v) :
    Calls Try.prog 36 #[.slice A n c, .slice B m d] w fun e w' => e = .returned (.bool v) ∧ w = w' := by
  have s1 := fun c => run_str (P := Try.prog) w 22 9 5 A n c x Try.underlying22 Try.underlying5 Try.underlying9 hx
  have s2 := fun c => run_str (P := Try.prog) w 22 9 5 B m c y Try.underlying22 Try.underlying5 Try.underlying9 hy
  have s3 : ((str x).toList == (str y).toList) = v := by rw [str_tl, str_tl, hv]
  clear hv hx hy
  generalize str x = X at *
  generalize str y = Y at *
  go_enter Try.func36, Try.ntmps36
  go_wp2
  go_ret
  exact ⟨rfl, rfl⟩
theorem run_al (W : World) : (Instr.alloc 26 true (.tuple #[])).run Try.prog W = .ok (.pointer (some ⟨W.heap.size, 0, none⟩)) (W.alloc (.cells (pc noP).toArray 26)) := by
  go_simp
  rfl
theorem run_bu (a b c d : Int) (W : World) : (Instr.build 26 #[(0, .int .i64 a), (1, .int .i64 b), (2, .int .i64 c), (3, .int .i64 d)]).run Try.prog W = .ok (pv ⟨a, b, c, d, nod⟩) W := by
  go_simp
  rfl
theorem run_bu1 (a : Int) (W : World) : (Instr.build 26 #[(0, .int .i64 a)]).run Try.prog W = .ok (pv ⟨a, 0, 0, 0, nod⟩) W := by
  go_simp
  rfl
theorem run_bu0 (W : World) : (Instr.build 26 #[]).run Try.prog W = .ok (pv noP) W := by
  go_simp
  rfl
section
variable {ρ : Operand → Value} {ops : Array Oper} {rest : List Oper} {o : Oper} {a : Act} {K : Act → World → Prop} {Q : Exit → Act → World → Prop} {w : World}
/-- A new pipe, its world a letter. -/
theorem wpList_al (hgd : o.guard = none) (ho : o.op = .alloc 26)
    (h : ∀ w', Blk w' w.heap.size 26 (pc noP) → Keep Nob w w' → w'.heap.size = w.heap.size + 1 → wpList Try.prog ops Q rest (a.put o.dst (.pointer (some ⟨w.heap.size, 0, none⟩))) w') : wpList Try.prog ops Q (o :: rest) a w := by
  refine wpList_plain hgd fun K hK => ?_
  have hh := h _ (Blk.new w 26 (pc noP)) ((Keep.refl Nob w).alloc _) (by simp)
  have hr := run_al w
  unfold Oper.wp
  simp [execOp, ho, hr, Result.andThen]
  exact hK _ _ hh
theorem wp_al (ho : o.op = .alloc 26)
    (h : ∀ w', Blk w' w.heap.size 26 (pc noP) → Keep Nob w w' → w'.heap.size = w.heap.size + 1 → K (a.put o.dst (.pointer (some ⟨w.heap.size, 0, none⟩))) w') : Oper.wp Try.prog o a w K Q := by
  have hh := h _ (Blk.new w 26 (pc noP)) ((Keep.refl Nob w).alloc _) (by simp)
  have hr := run_al w
  unfold Oper.wp
  simp [execOp, ho, hr, Result.andThen]
  exact hh
theorem exec_bu (x0 x1 x2 x3 : Operand) (ho : o.op = .build 26 #[(0, x0), (1, x1), (2, x2), (3, x3)]) (n0 n1 n2 n3 : Int) (h0 : ρ x0 = .int .i64 n0) (h1 : ρ x1 = .int .i64 n1) (h2 : ρ x2 = .int .i64 n2) (h3 : ρ x3 = .int .i64 n3) :
    (execOp ρ o).run Try.prog w = .ok (.value (pv ⟨n0, n1, n2, n3, nod⟩)) w := by
  have hr := run_bu n0 n1 n2 n3 w
  simp [execOp, ho, h0, h1, h2, h3, hr, Result.andThen]
theorem wpList_bu (hgd : o.guard = none) (x0 x1 x2 x3 : Operand) (ho : o.op = .build 26 #[(0, x0), (1, x1), (2, x2), (3, x3)]) (n0 n1 n2 n3 : Int) (h0 : a.eval x0 = .int .i64 n0) (h1 : a.eval x1 = .int .i64 n1) (h2 : a.eval x2 = .int .i64 n2) (h3 : a.eval x3 = .int .i64 n3)
    (h : wpList Try.prog ops Q rest (a.put o.dst (.agg (pc ⟨n0, n1, n2, n3, nod⟩).toArray)) w) : wpList Try.prog ops Q (o :: rest) a w := by
  refine wpList_plain hgd fun K hK => ?_
  have hr := run_bu n0 n1 n2 n3 w
  unfold Oper.wp
  simp [execOp, ho, h0, h1, h2, h3, hr, Result.andThen]
  exact hK _ _ h
theorem wpList_bu1 (hgd : o.guard = none) (x0 : Operand) (ho : o.op = .build 26 #[(0, x0)]) (n0 : Int) (h0 : a.eval x0 = .int .i64 n0)
    (h : wpList Try.prog ops Q rest (a.put o.dst (.agg (pc ⟨n0, 0, 0, 0, nod⟩).toArray)) w) : wpList Try.prog ops Q (o :: rest) a w := by
  refine wpList_plain hgd fun K hK => ?_
  have hr := run_bu1 n0 w
  unfold Oper.wp
  simp [execOp, ho, h0, hr, Result.andThen]
  exact hK _ _ h
theorem wpList_bu0 (hgd : o.guard = none) (ho : o.op = .build 26 #[])
    (h : wpList Try.prog ops Q rest (a.put o.dst (.agg (pc noP).toArray)) w) : wpList Try.prog ops Q (o :: rest) a w := by
  refine wpList_plain hgd fun K hK => ?_
  have hr := run_bu0 w
  unfold Oper.wp
  simp [execOp, ho, hr, Result.andThen]
  exact hK _ _ h
end
section
variable {ops : Array Oper} {rest : List Oper} {o : Oper} {a : Act} {Q : Exit → Act → World → Prop} {w : World}
/-- A whole pipe is loaded behind a guard that holds. -/
theorem wpList_ldw (hw : Region.wanted o (yielded ops a.tmps) = true) (x : Operand) (ho : o.op = .load 26 x) (g : Nat) (q : Pp) (hx : a.eval x = .pointer (some ⟨g, 0, none⟩)) (hq : q.d.length = 32) (hb : Blk w g 26 (pc q))
    (h : wpList Try.prog ops Q rest (a.put o.dst (.agg (pc q).toArray)) w) : wpList Try.prog ops Q (o :: rest) a w := by
  refine wpList_step fun K hK => ?_
  rw [if_pos hw]
  have hrun := run_loadVar_row (P := Try.prog) w g 26 26 (pc q).toArray (0, 0) _ hb Try.underlying26 rfl (by rw [infoP_]; simp [pc_len hq])
  unfold Oper.wp
  simp [execOp, ho, hx, Instr.loadAt, Instr.sureAddr, hrun, Result.andThen]
  exact hK _ _ h
end
end Go.Proofs.Ytojciodjffahnaa.Ri
