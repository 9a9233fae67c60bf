import Derived.Test.YtgcikpgcoemfnaaGreatRows
import Derived.BigQuiet
import Derived.Lib.TrailingZeros
import Derived.Test.YtgcikpgcoemfnaaGreatPs0
set_option linter.unusedVariables false
set_option linter.unusedSimpArgs false
namespace Go.Proofs.YtgcikpgcoemfnaaGreat.Sg
open Go.RowKit
theorem or_i64 (a b : Int) : bits .or .i64 a b = (BitVec.ofInt 64 a ||| BitVec.ofInt 64 b).toInt := fX _
theorem ey (a b : Int) : bits .andNot .i64 a b = (BitVec.ofInt 64 a &&& ~~~ BitVec.ofInt 64 b).toInt := fX _
structure Ps where
 s : Int
 pa : Int
 g : Int
 c : Int
 pe : Int
 m : Int
 i : Int
 ca : Int
 f : List Int
def ls (p : Ps) : List Int := [p.s, p.pa, p.g, p.c, p.pe, p.m, p.i, p.ca] ++ p.f
def pc (p : Ps) : List Value := ab (ls p)
def pv (p : Ps) : Value := .agg (pc p).toArray
def nof : List Int := [0, 0, 0, 0, 0, 0, 0, 0]
def noP : Ps := ⟨0, 0, 0, 0, 0, 0, 0, 0, nof⟩
theorem bQ {p : Ps} (h : p.f.length = 8) : (pc p).length = 16 := by simp [pc, ls, h]
theorem jl (p : Ps) : ∀ v ∈ pc p, v.oneCell' = true := dz _
def ofL (l : List Int) : Ps := ⟨l.getD 0 0, l.getD 1 0, l.getD 2 0, l.getD 3 0, l.getD 4 0, l.getD 5 0, l.getD 6 0, l.getD 7 0, l.drop 8⟩
theorem ls_ofL {l : List Int} (h : l.length = 16) : ls (ofL l) = l := by
 match l, h with
 | [a0, a1, a2, a3, a4, a5, a6, a7, f0, f1, f2, f3, f4, f5, f6, f7], _ => rfl
theorem ofL_len {l : List Int} (h : l.length = 16) : (ofL l).f.length = 8 := by simp [ofL, h]
def pw (n : Int) : Int := 2 ^ n.toNat
def bt (s n : Int) : Bool := s / pw n % 2 == 1
def wi (s n : Int) : Int := bits .or .i64 s (pw n)
def wo (s n : Int) : Int := bits .andNot .i64 s (pw n)
theorem in15 {n : Int} (h0 : 0 ≤ n) (h : n ≤ 15) : n = 0 ∨ n = 1 ∨ n = 2 ∨ n = 3 ∨ n = 4 ∨ n = 5 ∨ n = 6 ∨ n = 7 ∨ n = 8 ∨ n = 9 ∨ n = 10 ∨ n = 11 ∨ n = 12 ∨ n = 13 ∨ n = 14 ∨ n = 15 := by omega
def sign (n : Int) : Bool := decide (0 < n ∧ n ≤ 15)
def cW (p : Ps) : Bool := p.s == 1 || p.s == 3
def rpe (p : Ps) (n : Int) : Int := if bt (bits .andNot .i64 p.i 16896) n then p.pe else wi p.pe n
def cJ (p : Ps) (n : Int) : Ps × Bool :=
 if sign n && cW p then
  (if n = 14 then { p with pe := wo (rpe p n) 15 } else if n = 15 then { p with pe := wo (rpe p n) 14, s := 1 } else if n = 9 then { p with pe := rpe p n, s := 1 } else { p with pe := rpe p n }, true)
 else (p, false)
theorem sign_in {n : Int} (h : sign n = true) : 1 ≤ n ∧ n ≤ 15 := by
 have := of_decide_eq_true h
 omega
theorem raise_len {p : Ps} (h : p.f.length = 8) (n : Int) : (cJ p n).1.f.length = 8 := by
 unfold cJ; split <;> (try split) <;> (try split) <;> (try split) <;> exact h
end Go.Proofs.YtgcikpgcoemfnaaGreat.Sg
namespace Go.Proofs.YtgcikpgcoemfnaaGreat.Sg
open Go.RowKit
theorem infoP : (Tryz.prog.info? 37).map (·.size) = some 16 := by kernel_rfl
end Go.Proofs.YtgcikpgcoemfnaaGreat.Sg
namespace Go.Proofs.YtgcikpgcoemfnaaGreat.Sg
open Go.RowKit
theorem results_pair {fn : Func} {p u : Tmp} (h : fn.results = #[.cell p 37, .tmp u]) (tmps : Array Value) (w : World) (g : Nat) (q : Ps) (hq : q.f.length = 8)
  (hp : tmps.getD p undef = .pointer (some ⟨g, 0, none⟩)) (hg : Blk w g 37 (pc q)) (v : Value) (hv : tmps.getD u undef = v) :
  (results fn tmps).run Tryz.prog w = .ok (.tuple #[.agg (pc q).toArray, v]) w := by
 rw [results_cell_tmp h, hp, hv]
 have := run_loadVar_row (P := Tryz.prog) w g 37 37 (pc q).toArray (0, 0) _ hg Tryz.underlying37 rfl (by rw [infoP]; simp [bQ hq])
 simp [asAddr, Result.andThen, this]
theorem run_al (W : World) : (Instr.alloc 37 true (.tuple #[])).run Tryz.prog W = .ok (.pointer (some ⟨W.heap.size, 0, none⟩)) (W.alloc (.cells (pc noP).toArray 37)) := by
 go_simp
 rfl
section
variable {ρ : Operand → Value} {ops : Array Oper} {rest : List Oper} {o : Oper} {a : Act} {K : Act → World → Prop} {Q : Exit → Act → World → Prop} {w : World} {x y : Operand} {g : Nat} {q old : Ps}
theorem wpList_st (hgd : o.guard = none) (x y : Operand) (ho : o.op = .store 37 x y) (g : Nat) (q old : Ps) (hx : a.eval x = .pointer (some ⟨g, 0, none⟩)) (hy : a.eval y = .agg (pc q).toArray) (hq : q.f.length = 8) (hd : old.f.length = 8) (hb : Blk w g 37 (pc old))
  (h : ∀ w', Blk w' g 37 (pc q) → Keep (· = g) w w' → w'.heap.size = w.heap.size → wpList Tryz.prog ops Q rest (a.put o.dst undef) w') : wpList Tryz.prog ops Q (o :: rest) a w := by
 refine wpList_plain hgd fun K hK => ?_
 have hrun := run_storeVar_row (P := Tryz.prog) w g 37 37 (pc old).toArray (pc q).toArray hb (by rw [infoP]; simp [bQ hq]) (by simp [bQ hq, bQ hd]) (by rw [Array.all_eq_true_iff_forall_mem]; intro v hv; exact jl q v (by simpa using hv))
 have hh := h (w.setRow g (pc q).toArray) (hb.setRow _) ((Keep.refl _ w).setRow g _ (fun _ => rfl)) (by simp)
 unfold Oper.wp
 simp [execOp, ho, hx, hy, Instr.storeAt, Instr.sureAddr, hrun, Result.andThen]
 exact hK _ _ hh
theorem wpList_ld (hgd : o.guard = none) (x : Operand) (ho : o.op = .load 37 x) (g : Nat) (q : Ps) (hx : a.eval x = .pointer (some ⟨g, 0, none⟩)) (hq : q.f.length = 8) (hb : Blk w g 37 (pc q))
  (h : wpList Tryz.prog ops Q rest (a.put o.dst (.agg (pc q).toArray)) w) : wpList Tryz.prog ops Q (o :: rest) a w := by
 refine wpList_plain hgd fun K hK => ?_
 have hrun := run_loadVar_row (P := Tryz.prog) w g 37 37 (pc q).toArray (0, 0) _ hb Tryz.underlying37 rfl (by rw [infoP]; simp [bQ hq])
 unfold Oper.wp
 simp [execOp, ho, hx, Instr.loadAt, Instr.sureAddr, hrun, Result.andThen]
 exact hK _ _ h
theorem wpList_al (hgd : o.guard = none) (ho : o.op = .alloc 37)
  (h : ∀ w', Blk w' w.heap.size 37 (pc noP) → Keep Nob w w' → w'.heap.size = w.heap.size + 1 → wpList Tryz.prog ops Q rest (a.put o.dst (.pointer (some ⟨w.heap.size, 0, none⟩))) w') : wpList Tryz.prog ops Q (o :: rest) a w := by
 refine wpList_plain hgd fun K hK => ?_
 have hh := h _ (Blk.new w 37 (pc noP)) ((Keep.refl Nob w).alloc _) (by simp)
 have hr := run_al w
 unfold Oper.wp
 simp [execOp, ho, hr, Result.andThen]
 exact hK _ _ hh
theorem ay (hgd : o.guard = none) (x y : Operand) (ho : o.op = .store 3 x y) (g k : Nat) (p p' : Ps) (v : Int) (hx : a.eval x = .pointer (some ⟨g, k, none⟩)) (hy : a.eval y = .int .i64 v) (hb : Blk w g 37 (pc p)) (hp' : ((pc p)[k]?).isSome = true ∧ (pc p).set k (.int .i64 v) = pc p')
  (h : ∀ w', Blk w' g 37 (pc p') → Keep (· = g) w w' → w'.heap.size = w.heap.size → wpList Tryz.prog ops Q rest (a.put o.dst undef) w') : wpList Tryz.prog ops Q (o :: rest) a w := by
 refine wpList_plain hgd fun K hK => ?_
 have hb' := hb.setCell k (.int .i64 v)
 rw [hp'.2] at hb'
 have hh := h _ hb' ((Keep.refl _ w).setCell ⟨g, k, none⟩ (.int .i64 v) (fun _ => rfl)) (by simp [World.setCell])
 have fr := hb.frozen k
 have cc := hb.cell k
 obtain ⟨u, hu⟩ := Option.isSome_iff_exists.1 hp'.1
 rw [hu] at cc
 unfold Oper.wp
 simp only [execOp, ho, hx, hy]
 go_simp
 exact hK _ _ hh
end
theorem cells {w : World} {g : Nat} {p : Ps} (h : Blk w g 37 (pc p)) : w.cell? ⟨g, 0, none⟩ = some (.int .i64 p.s) ∧ w.cell? ⟨g, 4, none⟩ = some (.int .i64 p.pe) ∧ w.cell? ⟨g, 5, none⟩ = some (.int .i64 p.m) ∧ w.cell? ⟨g, 6, none⟩ = some (.int .i64 p.i) ∧ w.cell? ⟨g, 7, none⟩ = some (.int .i64 p.ca) :=
 ⟨h.cell 0, h.cell 4, h.cell 5, h.cell 6, h.cell 7⟩
end Go.Proofs.YtgcikpgcoemfnaaGreat.Sg
