import Derived.Test.YtgcikpgcoemfnaaGreatPs1
import Derived.Test.YtgcikpgcoemfnaaGreatPs15
import Derived.Test.YtgcikpgcoemfnaaGreatPs23
set_option linter.unusedVariables false
set_option linter.unusedSimpArgs false
namespace Go.Proofs.YtgcikpgcoemfnaaGreat
open Go.RowKit Go.MapKept
open Go.Maps (Keyed)
theorem laid : laidOutB Tryz.prog = true := by kernel_rfl
theorem refRow : (253 : TypeId) < Tryz.prog.types.size := of_decide_eq_true (by kernel_rfl)
theorem intCells : Tryz.prog.cellsOf 3 = 1 := by kernel_rfl
theorem typesPos : ∃ k, Tryz.prog.types.size = k + 1 := by
 have h := refRow
 generalize Tryz.prog.types.size = z at h
 exact ⟨z - 1, (Nat.succ_pred_eq_of_pos (Nat.lt_of_le_of_lt (Nat.zero_le _) h)).symm⟩
theorem rval_inj {a b : Rf} (h : eA a = eA b) : a = b := by
 unfold eA at h
 simp at h
 exact Prod.ext h.1 h.2
section
variable {lo b : Nat} {w w' : World} {X : List (Rf × Cp)} {m m1 m2 : List (Value × Value)} {κ : Rf} {A : Option Addr} {st : Nat}
end
section
variable {w : World} {ops : Array Oper} {rest : List Oper} {o : Oper} {a : Act} {Q : Exit → Act → World → Prop}
end
end Go.Proofs.YtgcikpgcoemfnaaGreat
namespace Go.Proofs.YtgcikpgcoemfnaaGreat
open Go.RowKit Go.MapKept
def fT (F : List Rf) : List (Value × Value) := F.map fun ρ => (eA ρ, Value.agg #[])
theorem setM_add (F : List Rf) (ρ : Rf) : fT (F ++ [ρ]) = fT F ++ [(eA ρ, .agg #[])] := by simp [fT]
end Go.Proofs.YtgcikpgcoemfnaaGreat
namespace Go.Proofs.YtgcikpgcoemfnaaGreat
open Go.RowKit Go.MapKept
section
variable {P : Program} {w : World} {ops : Array Oper} {rest : List Oper} {o : Oper} {a : Act} {Q : Exit → Act → World → Prop}
theorem wpList_mk0 (hgd : o.guard = none) (l c : Operand) (t : TypeId) (ho : o.op = .makeSlice t l c)
  (e : TypeId) (z : Value) (by_ : Nat) (ht : P.underlying t = some (.slice e)) (hinfo : (P.info? e).map (fun i => (i.zero, i.size, i.bytes)) = some (some z, z.cells.size, by_))
  (kl kc : IntKind) (n : Nat) (L : Int) (hL : L = n) (hl : a.eval l = .int kl 0) (hc : a.eval c = .int kc L) (hb : by_ * n ≤ 281474976710656) (h63 : n ≤ maxLen)
  (h : ∀ w', Vec w' e z.cells.size (some ⟨w.heap.size, 0, none⟩) 0 n [] → Keep Nob w w' → wpList P ops Q rest (a.put o.dst (.slice (some ⟨w.heap.size, 0, none⟩) 0 n)) w') :
  wpList P ops Q (o :: rest) a w := by
 subst hL
 refine wpList_plain hgd fun K hK => ?_
 obtain ⟨i, hi, hzz⟩ := Option.map_eq_some_iff.1 hinfo
 simp only [Prod.mk.injEq] at hzz
 obtain ⟨hz, hs, hby⟩ := hzz
 have hrun := run_make (P := P) w t e i z ht hi hz kl kc 0 n (by omega) (by omega) (by
  have h : ((by_ * n : Nat) : Int) ≤ 281474976710656 := by omega
  rw [hby]
  rwa [Int.natCast_mul] at h) (by unfold maxLen at h63; omega)
 simp only [Int.toNat_natCast, Int.toNat_zero, hs] at hrun
 have hbk : Blk (w.alloc (.cells (madeCells z.cells (n * z.cells.size)) e)) w.heap.size e (madeCells z.cells (n * z.cells.size)).toList := by
  have := Blk.new w e (madeCells z.cells (n * z.cells.size)).toList
  rwa [Array.toArray_toList] at this
 have hh := h (w.alloc (.cells (madeCells z.cells (n * z.cells.size)) e)) (by
  refine ⟨by simp, .inr ⟨w.heap.size, n, madeCells z.cells (n * z.cells.size), rfl, Nat.zero_le _, ?_, Nat.zero_le _, h63, by rw [size_madeCells], by simp⟩⟩
  have h1 := hbk
  unfold Blk at h1
  simpa using h1) ((Keep.refl _ w).alloc _)
 unfold Oper.wp
 simp [execOp, ho, hl, hc, hrun, Result.andThen]
 exact hK _ _ hh
theorem aQ.left_eq {k : TypeId} {b r : Nat} {m left : List (Value × Value)} (h : aQ P k w b r m left) : w.rangeLeft b r = left.length := by
 obtain ⟨es, clock, since, seen, c0, hb, _, _, _, hr, _, rfl, _⟩ := h
 simp [World.rangeLeft, hb, hr]
theorem lA (hg : o.guard = none) (it : Operand) (ho : o.op = .next it false) (k : TypeId) {b r : Nat} {m left : List (Value × Value)} (hit : a.eval it = .pointer (some ⟨r, 0, none⟩)) (h : aQ P k w b r m left)
  (hs : ∀ p ∈ left, ∃ ρ : Rf, p = (eA ρ, .agg #[]))
  (hDone : left = [] → wpList P ops Q rest (a.put o.dst (.tuple #[.bool false])) w)
  (hMore : ∀ (ρ : Rf) left' w', left.Perm ((eA ρ, .agg #[]) :: left') → aQ P k w' b r m left' → Keep (· = r) w w' → w'.heap.size = w.heap.size → (Instr.entry (.pointer (some ⟨r, 0, none⟩))).run P w' = .ok (.tuple #[.agg #[.int .i64 ρ.1, .int .i64 ρ.2], .agg #[]]) w' →
   wpList P ops Q rest (a.put o.dst (.tuple #[.bool true, .agg #[.int .i64 ρ.1, .int .i64 ρ.2], .agg #[]])) w') : wpList P ops Q (o :: rest) a w := by
 refine lu hg it ho k hit h hDone ?_
 intro key v left' w' hp h1 h2 h3 h4
 obtain ⟨ρ, e⟩ := hs (key, v) (hp.mem_iff.2 (by simp))
 simp only [Prod.mk.injEq] at e
 obtain ⟨rfl, rfl⟩ := e
 exact hMore ρ left' w' hp h1 h2 h3 h4
end
def unref (p : Value × Value) : Rf := match p.1 with
 | .agg cs => match cs.toList with
  | [.int _ x, .int _ y] => (x, y)
  | _ => (0, 0)
 | _ => (0, 0)
theorem jv : ∀ l : List Rf, (fT l).map unref = l
 | [] => rfl
 | x :: l => by
  have := jv l
  unfold fT at this ⊢
  rw [List.map_cons, List.map_cons, this]
  rfl
theorem setM_perm {a b : List Rf} (h : (fT a).Perm (fT b)) : a.Perm b := by
 have h2 := h.map unref
 rwa [jv, jv] at h2
end Go.Proofs.YtgcikpgcoemfnaaGreat
namespace Go.Proofs.YtgcikpgcoemfnaaGreat
open Go.RowKit
theorem Keep.rows {n : Nat} {r : Nat → Nat} {e : Nat} {w w' : World} (he : e < n) (k : Keep (· = r e) w w') : Keep (gZ n r) w w' := k.mono (fun _ _ e1 => ⟨e, he, e1⟩)
end Go.Proofs.YtgcikpgcoemfnaaGreat
