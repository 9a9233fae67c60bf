/- append(v, make([]byte, 40)...), v the call's own. -/
import Derived.Test.YtojciodjffahnaaRinQ
import Derived.Lib.AppendZerosOnto
namespace Go.Proofs.Ytojciodjffahnaa.Ri
open Go.RowKit
set_option linter.unusedVariables false
set_option linter.unusedSimpArgs false
theorem zeros_u8 (k : Nat) : (Builtin.zeroCells #[Value.int .u8 0] k).toList = List.replicate k (.int .u8 0) := by
  simp [Builtin.zeroCells]
  apply List.ext_getElem
  · simp
  · intro i h1 h2
    simp [Nat.mod_one]
theorem run_apz (w : World) (ty : TypeId) (A : Option Addr) (n cap : Nat) (xs : List Value) (hv : Vec w 5 1 A n cap xs) (hn : n ≤ 1000) :
    ∃ A' cap' w', (Builtin.append_ #[22, 3] ty #[.slice A n cap, .int .i64 40]).run Try.prog w = .ok (.slice A' (n + 40) cap') w' ∧ Vec w' 5 1 A' (n + 40) cap' (xs ++ List.replicate 40 (.int .u8 0)) ∧ Keep (Own A) w w' := by
  obtain ⟨i, hi, hzz⟩ := Option.map_eq_some_iff.1 Try.info5
  simp only [Prod.mk.injEq] at hzz
  obtain ⟨hz, hsize, hbytes⟩ := hzz
  have hxl := hv.len
  rw [Nat.mul_one] at hxl
  -- a new row
  have grow : cap < n + 40 → cap ≤ maxLen → (Builtin.firstCells i.size n (.slice A n cap)).run Try.prog w.drew = .ok xs.toArray w.drew → ∃ A' cap' w', (Builtin.append_ #[22, 3] ty #[.slice A n cap, .int .i64 40]).run Try.prog w = .ok (.slice A' (n + 40) cap') w' ∧ Vec w' 5 1 A' (n + 40) cap' (xs ++ List.replicate 40 (.int .u8 0)) ∧ Keep (Own A) w w' := fun hc hm hold => by
    have h := Lib.run_append_grow_zeros w 22 3 ty 5 i _ .i64 .i64 Try.underlying22 Try.underlying3 hi hz A n cap xs hold 40 (by decide) (by omega) (by omega) (by omega) (by rw [hbytes]; decide) (growslice_fits (by omega) (by rw [hbytes]; omega))
    refine ⟨_, _, _, h, ?_, (Keep.refl _ w).drew.alloc _⟩
    have hg := grownCap_ge w (n + 40) cap 5
    have hgm : grownCap w (n + 40) cap 5 ≤ maxLen := grownCap_le_maxLen w (n + 40) cap 5 (by unfold maxLen; omega)
    refine ⟨by simp [hxl], .inr ⟨w.heap.size, grownCap w (n + 40) cap 5, _, rfl, Nat.zero_le _, by
      have := heap_alloc_new w.drew (.cells (xs.toArray ++ Builtin.zeroCells #[.int .u8 0] 40 ++ Builtin.zeroCells #[.int .u8 0] (grownCap w (n + 40) cap 5 - (n + 40))) 5)
      exact this, hg, hgm, ?_, ?_⟩⟩
    · simp [Builtin.zeroCells, hxl]; omega
    · simp only [Array.toList_append, zeros_u8, Nat.mul_one]
      rw [List.take_append_of_le_length (by simp [hxl]), List.take_of_length_le (by simp [hxl])]
  rcases hv.2 with ⟨he, h0⟩ | ⟨g, cap', cur, he, hb, hg, h1, h2, h3, h4⟩
  · simp only [Value.slice.injEq] at he
    obtain ⟨rfl, rfl, rfl⟩ := he
    obtain rfl : xs = [] := List.eq_nil_of_length_eq_zero hxl
    exact grow (by omega) (by unfold maxLen; omega) (run_firstCells_none w.drew i.size 0 0 0)
  · simp only [Value.slice.injEq, true_and] at he
    obtain ⟨rfl, rfl⟩ := he
    by_cases hc : cap < n + 40
    · refine grow hc h2 (run_firstCells_some (P := Try.prog) w.drew i.size n ⟨g, 0, none⟩ n cap xs (by rw [hsize, Nat.mul_one]; exact hxl) (fun j v hj => ?_))
      have hbk : Blk w g 5 cur.toList := by simpa [Blk] using hg
      rw [add_lit, Nat.zero_add, hbk.drew.cell]
      rw [← h4, List.getElem?_take] at hj
      split at hj
      · exact hj
      · cases hj
    · have hst := run_storeCells_at Try.prog g n 5 (List.replicate 40 (Value.int .u8 0)) 0 cur w hg (by simp; omega) (by intro v hv; rw [List.eq_of_mem_replicate hv]; rfl)
      have hzl : (Builtin.zeroCells (Value.int .u8 0).cells 40).toList = List.replicate 40 (.int .u8 0) := zeros_u8 40
      refine ⟨some ⟨g, 0, none⟩, cap, w.setRow g (cur.toList.take n ++ List.replicate 40 (Value.int .u8 0) ++ cur.toList.drop (n + 40)).toArray, ?_, ?_, (Keep.refl _ w).setRow g _ (fun _ => ⟨_, rfl, rfl⟩)⟩
      · have hw : IntKind.i64.wrap (40 : Int) = 40 := by rw [IntKind.wrap_i64]; omega
        have hn2 : n + 40 ≤ cap := by omega
        simp only [Nat.add_zero, List.length_replicate] at hst
        generalize List.replicate 40 (Value.int .u8 0) = zs at hst hzl ⊢
        simp [Builtin.append_, run_underlying Try.underlying22, run_underlying Try.underlying3, sizeOf, typeInfo, zeroValue, hi, hz, asInt, asIntOf, hw, hn2, hsize, hbytes, hzl, add_lit, hst]
      · refine ⟨by simp [hxl], .inr ⟨g, cap, _, rfl, hb, Blk.setRow (w := w) (g := g) (t := 5) (cs := cur.toList) (by simpa [Blk] using hg) _, by omega, h2, ?_, ?_⟩⟩
        · simp; omega
        · have : cur.toList.take n = xs := by rw [← h4, Nat.mul_one]
          rw [this, Nat.mul_one]
          rw [List.take_append_of_le_length (by simp [hxl]), List.take_of_length_le (by simp [hxl])]
section
variable {w : World} {ops : Array Oper} {rest : List Oper} {o : Oper} {a : Act} {Q : Exit → Act → World → Prop}
theorem wpList_apz (hgd : o.guard = none) (s : Operand) (ho : o.op = .call { callee := .builtin .append, args := #[s, .const (.int .i64 40)], argTypes := #[22, 3] }) (A : Option Addr) (n cap : Nat) (xs : List Value) (hs : a.eval s = .slice A n cap) (hv : Vec w 5 1 A n cap xs) (hn : n ≤ 1000)
    (h : ∀ A' cap' w', Vec w' 5 1 A' (n + 40) cap' (xs ++ List.replicate 40 (.int .u8 0)) → Keep (Own A) w w' → wpList Try.prog ops Q rest (a.put o.dst (.slice A' (n + 40) cap')) w') : wpList Try.prog ops Q (o :: rest) a w := by
  refine wpList_plain hgd fun K hK => ?_
  obtain ⟨A', cap', w', hrun, hv', hk'⟩ := run_apz w o.type A n cap xs hv hn
  have hc : a.eval (.const (.int .i64 40)) = .int .i64 40 := rfl
  unfold Oper.wp
  simp [execOp, ho, resolve, invoke, builtin, hs, hc, hrun, Result.andThen]
  exact hK _ _ (h A' cap' w' hv' hk')
end
end Go.Proofs.Ytojciodjffahnaa.Ri
