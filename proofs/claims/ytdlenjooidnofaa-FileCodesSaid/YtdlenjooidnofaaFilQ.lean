/- What a call tells of a block and a slot; a new row of bytes as a text; a whole file loaded or stored; bytes.Equal. -/
import Derived.Test.YtdlenjooidnofaaFilE
import Derived.Laws.ResultCell
namespace Go.Proofs.Ytdlenjooidnofaa.Fi
open Go.RowKit
set_option linter.unusedVariables false
set_option linter.unusedSimpArgs false
theorem infoP_ : (Try.prog.info? 23).map (·.size) = some 4 := by kernel_rfl
theorem results_pair {fn : Func} {p u : Tmp} (h : fn.results = #[.cell p 23, .tmp u]) (tmps : Array Value) (w : World) (g : Nat) (q : List Int) (hq : q.length = 4)
    (hp : tmps.getD p undef = .pointer (some ⟨g, 0, none⟩)) (hg : Blk w g 23 (ints q)) (v : Value) (hv : tmps.getD u undef = v) :
    (results fn tmps).run Try.prog w = .ok (.tuple #[.agg (ints q).toArray, v]) w := by
  rw [results_cell_tmp h, hp, hv]
  have := run_loadVar_row (P := Try.prog) w g 23 23 (ints q).toArray (0, 0) _ hg Try.underlying23 rfl (by rw [infoP_]; simp [hq])
  simp [asAddr, Result.andThen, this]
theorem results_one {fn : Func} {p : Tmp} (h : fn.results = #[.cell p 23]) (tmps : Array Value) (w : World) (g : Nat) (q : List Int) (hq : q.length = 4)
    (hp : tmps.getD p undef = .pointer (some ⟨g, 0, none⟩)) (hg : Blk w g 23 (ints q)) :
    (results fn tmps).run Try.prog w = .ok (.agg (ints q).toArray) w :=
  results_cell_row h tmps w g 23 (ints q).toArray (0, 0) _ hp hg Try.underlying23 rfl (by rw [infoP_]; simp [hq])
theorem conv_new (W : World) (l : List UInt8) (cs : List Value) (n c : Nat) (hcs : cs = bytes l) (hn : l.length = n) :
    (convert 24 9 (.slice (some ⟨W.heap.size, 0, none⟩) n c)).run Try.prog (W.alloc (.cells cs.toArray 5)) = .ok (.string (str l)) (W.alloc (.cells cs.toArray 5)) := by
  subst hcs
  exact run_str (P := Try.prog) _ 24 9 5 _ n c _ Try.underlying24 Try.underlying5 Try.underlying9 (reads_all (Blk.new W 5 (bytes l)) (by rw [bytes_length, hn]))
theorem str_tl (l : List UInt8) : (str l).toList = l := by
  rw [ByteArray.toList_eq]; simp [str]
theorem wrap_byt (n : Int) : IntKind.u8.wrap n = ((byt n).toNat : Int) := by
  rw [byt, byte_back, IntKind.wrap_u8']
theorem ints_set (l : List Int) (k : Nat) (x : Int) : (ints l).set k (.int .i64 x) = ints (l.set k x) := by
  simp [ints, List.map_set]
theorem index_str (s : ByteArray) (i : Int) (k : Nat) (hi : i = k) (hk : k < s.size) (x : UInt8) (hx : s[k] = x) (W : World) : (Instr.index 9 (.string s) (.int .i64 i)).run Try.prog W = .ok (.int .u8 (x.toNat : Int)) W := by
  subst hi
  have h0 : (0 : Int) ≤ (k : Int) := by omega
  have hk2 : s[k]? = some x := by rw [getElem?_pos s k hk, hx]
  simp [Instr.index, asIntOf, run_underlying Try.underlying9, hk2, Sem.run_bind, Result.andThen]
section
variable {ρ : Operand → Value} {o : Oper} {x y : Operand} {w : World} {g : Nat} {q old : List Int}
theorem exec_load (ho : o.op = .load 23 x) (hx : ρ x = .pointer (some ⟨g, 0, none⟩)) (hq : q.length = 4) (hb : Blk w g 23 (ints q)) : (execOp ρ o).run Try.prog w = .ok (.value (.agg (ints q).toArray)) w := by
  have := run_loadVar_row (P := Try.prog) w g 23 23 (ints q).toArray (0, 0) _ hb Try.underlying23 rfl (by rw [infoP_]; simp [hq])
  simp [execOp, ho, hx, Instr.loadAt, Instr.sureAddr, this, Result.andThen]
theorem exec_store_ (ho : o.op = .store 23 x y) (hx : ρ x = .pointer (some ⟨g, 0, none⟩)) (hy : ρ y = .agg (ints q).toArray) (hq : q.length = 4) (hd : old.length = 4) (hb : Blk w g 23 (ints old)) :
    (execOp ρ o).run Try.prog w = .ok .skip (w.setRow g (ints q).toArray) := by
  have := run_storeVar_row (P := Try.prog) w g 23 23 (ints old).toArray (ints q).toArray hb (by rw [infoP_]; simp [hq]) (by simp [hq, hd]) (by rw [Array.all_eq_true_iff_forall_mem]; intro v hv; exact ints_one q v (by simpa using hv))
  simp [execOp, ho, hx, hy, Instr.storeAt, Instr.sureAddr, this, Result.andThen]
theorem wp_store_ {a : Act} {K : Act → World → Prop} {Q : Exit → Act → World → Prop} (ho : o.op = .store 23 x y) (hx : a.eval x = .pointer (some ⟨g, 0, none⟩)) (hy : a.eval y = .agg (ints q).toArray) (hq : q.length = 4) (hd : old.length = 4) (hb : Blk w g 23 (ints old))
    (h : K (a.put o.dst undef) (w.setRow g (ints q).toArray)) : Oper.wp Try.prog o a w K Q := by
  unfold Oper.wp
  rw [exec_store_ ho hx hy hq hd hb]
  exact h
end
section
variable {ops : Array Oper} {rest : List Oper} {o : Oper} {a : Act} {Q : Exit → Act → World → Prop} {w : World}
/-- A whole file is stored, loaded. -/
theorem wpList_st (hgd : o.guard = none) (x y : Operand) (ho : o.op = .store 23 x y) (g : Nat) (q old : List Int) (hx : a.eval x = .pointer (some ⟨g, 0, none⟩)) (hy : a.eval y = .agg (ints q).toArray) (hq : q.length = 4) (hd : old.length = 4) (hb : Blk w g 23 (ints old))
    (h : ∀ w', Blk w' g 23 (ints q) → Keep (· = g) w w' → w'.heap.size = w.heap.size → wpList Try.prog ops Q rest (a.put o.dst undef) w') : wpList Try.prog ops Q (o :: rest) a w := by
  refine wpList_plain hgd fun K hK => ?_
  have hrun := run_storeVar_row (P := Try.prog) w g 23 23 (ints old).toArray (ints q).toArray hb (by rw [infoP_]; simp [hq]) (by simp [hq, hd]) (by rw [Array.all_eq_true_iff_forall_mem]; intro v hv; exact ints_one q v (by simpa using hv))
  have hh := h (w.setRow g (ints q).toArray) (hb.setRow _) ((Keep.refl _ w).setRow g _ (fun _ => rfl)) (by simp)
  unfold Oper.wp
  simp [execOp, ho, hx, hy, Instr.storeAt, Instr.sureAddr, hrun, Result.andThen]
  exact hK _ _ hh
theorem wpList_ld (hgd : o.guard = none) (x : Operand) (ho : o.op = .load 23 x) (g : Nat) (q : List Int) (hx : a.eval x = .pointer (some ⟨g, 0, none⟩)) (hq : q.length = 4) (hb : Blk w g 23 (ints q))
    (h : wpList Try.prog ops Q rest (a.put o.dst (.agg (ints q).toArray)) w) : wpList Try.prog ops Q (o :: rest) a w := by
  refine wpList_plain hgd fun K hK => ?_
  have hrun := run_loadVar_row (P := Try.prog) w g 23 23 (ints q).toArray (0, 0) _ hb Try.underlying23 rfl (by rw [infoP_]; simp [hq])
  unfold Oper.wp
  simp [execOp, ho, hx, Instr.loadAt, Instr.sureAddr, hrun, Result.andThen]
  exact hK _ _ h
end
theorem reads_at {w : World} {g n : Nat} {l : List UInt8} (hr : Reads w (some ⟨g, 0, none⟩) n (bytes l)) {k : Nat} (hk : k < n) : w.cell? ⟨g, k, none⟩ = some (.int .u8 ((l.getD k 0).toNat : Int)) := by
  have hl : l.length = n := by simpa using hr.1
  obtain ⟨ad, h1, h2⟩ := hr.2 (by omega)
  cases h1
  have := h2 k _ (bytes_getD (by omega))
  rwa [add_lit, Nat.zero_add] at this
theorem equal_is (A B : Option Addr) (n m c d : Nat) (x y : List UInt8) (w : World) (hx : Reads w A n (bytes x)) (hy : Reads w B m (bytes y)) (v : Bool) (hv : (x == y) = v) :
    Calls Try.prog 30 #[.slice A n c, .slice B m d] w fun e w' => e = .returned (.bool v) ∧ w = w' := by
  have s1 := fun c => run_str (P := Try.prog) w 24 9 5 A n c x Try.underlying24 Try.underlying5 Try.underlying9 hx
  have s2 := fun c => run_str (P := Try.prog) w 24 9 5 B m c y Try.underlying24 Try.underlying5 Try.underlying9 hy
  have s3 : ((str x).toList == (str y).toList) = v := by rw [str_tl, str_tl, hv]
  clear hv hx hy
  generalize str x = X at *
  generalize str y = Y at *
  go_enter Try.func30, Try.ntmps30
  go_wp2
  go_ret
  exact ⟨rfl, rfl⟩
end Go.Proofs.Ytdlenjooidnofaa.Fi
