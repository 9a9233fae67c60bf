/- Package pred (layer 7): slices.Grow and slices.Concat at []api.Ins; Either. -/
import Derived.Test.YtlkknmbdikoldaaPrd4
import Derived.Lib.SliceRun
import Derived.Lib.AppendZerosOnto
namespace Go.Proofs.Ytlkknmbdikoldaa
open Go.RowKit
set_option linter.unusedVariables false
set_option linter.unusedSimpArgs false
theorem zeroCells_size (z : Array Value) (n : Nat) : (Builtin.zeroCells z n).size = n * z.size := by simp [Builtin.zeroCells]
section
variable {P : Program} {w : World} {ops : Array Oper} {rest : List Oper} {o : Oper} {a : Act} {Q : Exit → Act → World → Prop}
/-- append, by what its run is. -/
theorem wpList_aprun (hgd : o.guard = none) (s x : Operand) (t tn : TypeId) (ho : o.op = .call { callee := .builtin .append, args := #[s, x], argTypes := #[t, tn] }) (v : Value) (w2 : World)
    (hrun : (Builtin.append_ #[t, tn] o.type #[a.eval s, a.eval x]).run P w = .ok v w2) (h : wpList P ops Q rest (a.put o.dst v) w2) : wpList P ops Q (o :: rest) a w := by
  refine wpList_plain hgd fun K hK => ?_
  unfold Oper.wp
  simp [execOp, ho, resolve, invoke, builtin, hrun, Result.andThen]
  exact hK _ _ h
end
set_option maxHeartbeats 2000000 in
theorem grow_is (w : World) (n : Nat) (hn : n ≤ 1000000) :
    Calls Try.prog 27 #[.slice none 0 0, .int .i64 n] w fun e w' => ∃ A cap, e = .returned (.slice A 0 cap) ∧ Vec w' 25 3 A 0 cap [] ∧ (∀ g, Own A g → w.heap.size ≤ g) ∧ Keep Nob w w' := by
  rcases Nat.eq_zero_or_pos n with rfl | h0
  · go_enter Try.func27, Try.ntmps27
    go_wp2_with fail
    go_ret
    exact ⟨none, 0, rfl, Vec.nil _ _ _, (fun g h => by obtain ⟨a, h, _⟩ := h; cases h), Keep.refl _ _⟩
  · obtain ⟨i, hi, hzz⟩ := Option.map_eq_some_iff.1 infoIns
    simp only [Prod.mk.injEq] at hzz
    obtain ⟨hz, hs, hb⟩ := hzz
    have hold : (Builtin.firstCells i.size 0 (.slice none 0 0)).run Try.prog w.drew = .ok ([] : List Value).toArray w.drew := run_firstCells_none w.drew i.size 0 0 0
    have hrz : ∀ ty, (Builtin.append_ #[26, 3] ty #[.slice none 0 0, .int .i64 n]).run Try.prog w =
        .ok (.slice (some ⟨w.heap.size, 0, none⟩) n (grownCap w n 0 25)) (w.drew.alloc (.cells ((#[] : Array Value) ++ Builtin.zeroCells (Value.agg #[.int .i64 0, .int .i64 0, .int .i64 0]).cells n ++ Builtin.zeroCells (Value.agg #[.int .i64 0, .int .i64 0, .int .i64 0]).cells (grownCap w n 0 25 - n)) 25)) := fun ty => by
      have h := Lib.run_append_grow_zeros w 26 3 ty 25 i _ .i64 .i64 Try.underlying26 Try.underlying3 hi hz none 0 0 [] hold n h0 (by omega) (by omega) (by omega) (by rw [hb]; omega) (growslice_fits (by omega) (by rw [hb]; omega))
      rw [Nat.zero_add] at h
      exact h
    have hG := grownCap_ge w n 0 25
    have hGm := grownCap_le_maxLen w n 0 25 (by unfold maxLen; omega)
    generalize grownCap w n 0 25 = G at hrz hG hGm
    generalize hcs : (#[] : Array Value) ++ Builtin.zeroCells (Value.agg #[.int .i64 0, .int .i64 0, .int .i64 0]).cells n ++ Builtin.zeroCells (Value.agg #[.int .i64 0, .int .i64 0, .int .i64 0]).cells (G - n) = cs at hrz
    have hsz : cs.size = G * 3 := by
      rw [← hcs]
      simp [zeroCells_size, Value.cells]
      omega
    clear hold hcs
    have hv : Vec (w.drew.alloc (.cells cs 25)) 25 3 (some ⟨w.heap.size, 0, none⟩) 0 G [] := by
      have hb := Blk.new w.drew 25 cs.toList
      rw [Array.toArray_toList] at hb
      exact ⟨rfl, .inr ⟨_, G, cs, rfl, Nat.zero_le _, by simpa [Blk] using hb, Nat.zero_le _, hGm, hsz, by simp⟩⟩
    have hk := (Keep.refl Nob w).drew.alloc (.cells cs 25)
    go_enter Try.func27, Try.ntmps27
    go_wp2_with (at_builtin; go_loud (refine wpList_aprun rfl _ _ 26 3 rfl _ _ (hrz _) ?_))
    go_ret
    exact ⟨_, G, rfl, hv, (fun g h => by obtain ⟨a, h, rfl⟩ := h; cases h; exact Nat.le_refl _), hk⟩
set_option maxHeartbeats 4000000 in
theorem concat_is {w : World} {g : Nat} {A B : Option Addr} {n m c d : Nat} {l r : List Prim} (hg : Blk w g 26 [.slice A n c, .slice B m d]) (h : IsProg w A n l) (h2 : IsProg w B m r) (hn : n ≤ 1000) (hm : m ≤ 1000) :
    Calls Try.prog 26 #[.slice (some ⟨g, 0, none⟩) 2 2] w fun e w' => ∃ E cap, e = .returned (.slice E (n + m) cap) ∧ Vec w' 25 3 E (n + m) cap (laid (l ++ r)) ∧ Keep Nob w w' := by
  have hl := h.1
  have hr := h2.1
  have c0 := hg.cell 0
  have c1 := hg.cell 1
  simp only [List.getElem?_cons_zero, List.getElem?_cons_succ] at c0 c1
  have HH := Lib.hid (And.intro h h2)
  have HG := Lib.hid hg
  clear h h2 hg
  go_enter Try.func26, Try.ntmps26
  go_wp2_with fail
  go_loopw [3, 11] (fun s3 s11 wx => ((s11 = .int .i64 0 ∧ s3 = .int .i64 0) ∨ (s11 = .int .i64 1 ∧ s3 = .int .i64 n) ∨ (s11 = .int .i64 2 ∧ s3 = .int .i64 ((n + m : Nat) : Int))) ∧ wx = w) (fun _ s11 _ => 2 - (intOf s11).toNat)
  case atStart => exact ⟨.inl ⟨rfl, rfl⟩, rfl⟩
  case round =>
    obtain ⟨hrel, hw⟩ := hrel
    have hw := hw.symm
    subst hw
    rcases hrel with ⟨rfl, rfl⟩ | ⟨rfl, rfl⟩ | ⟨rfl, rfl⟩
    · go_wp2_with fail
      go_roundw
      case rel => exact ⟨.inr (.inl ⟨rfl, rfl⟩), (by first | rfl | trivial)⟩
      case measure => simp [intOf]
    · go_wp2_with fail
      go_roundw
      case rel => exact ⟨.inr (.inr ⟨rfl, by simp⟩), (by first | rfl | trivial)⟩
      case measure => simp [intOf]
    · go_wp2_with fail
      refine (grow_is _ (n + m) (by omega)).mono ?_; rintro e w1 ⟨E, cap, rfl, hv, ho, hk⟩
      go_wp2_with fail
      go_loopw [6, 27] (fun s6 s27 wx => ∃ (k : Nat) (E : Option Addr) (cap : Nat) (x : List Prim), s6 = .slice E k cap ∧ ((s27 = .int .i64 0 ∧ k = 0 ∧ x = []) ∨ (s27 = .int .i64 1 ∧ k = n ∧ x = l) ∨ (s27 = .int .i64 2 ∧ k = n + m ∧ x = l ++ r)) ∧ Vec wx 25 3 E k cap (laid x) ∧ (∀ g, Own E g → w.heap.size ≤ g) ∧ Keep Nob w wx) (fun _ s27 _ => 2 - (intOf s27).toNat)
      case atStart => exact ⟨0, E, cap, [], rfl, .inl ⟨rfl, rfl, rfl⟩, hv, ho, hk⟩
      case round =>
        obtain ⟨k, E, cap, x, rfl, hrel, hv, ho, hk⟩ := hrel
        have C0 := Lib.hid (HG.out.nob hk)
        have c0 := C0.out.cell 0
        have c1 := C0.out.cell 1
        simp only [List.getElem?_cons_zero, List.getElem?_cons_succ] at c0 c1
        have HV := Lib.hid hv
        have hA := HH.out.1.nob hk
        have hB := HH.out.2.nob hk
        have step : ∀ (E3 : Option Addr) (w3 : World), Keep (Own E) wr w3 → (∀ g, Own E3 g → Own E g ∨ g = wr.heap.size) → (∀ g, Own E3 g → w.heap.size ≤ g) ∧ Keep Nob w w3 := fun E3 w3 hk3 ho3 =>
          ⟨fun g hg => (ho3 g hg).elim (ho g) (fun e => e ▸ hk.size), hk.trans hk3 (fun b hb h => absurd (ho b h) (by omega))⟩
        have Step := Lib.hid step
        clear hv step
        rcases hrel with ⟨rfl, rfl, rfl⟩ | ⟨rfl, rfl, rfl⟩ | ⟨rfl, rfl, rfl⟩
        · have HA := Lib.hid hA
          clear hA hB
          go_wp2_with (at_builtin; go_loud (refine wpList_ap rfl _ _ 26 rfl 25 3 24 (.agg #[.int .i64 0, .int .i64 0, .int .i64 0]) Try.underlying26 infoIns rfl (by decide) E 0 cap _ rfl HV.out A n c (laid l) rfl (n * 3) rfl HA.out.2 (laid_cells _) (by unfold maxLen; omega) (by omega) ?_); intro E3 cap3 w3 hv3 hk3 ho3)
          go_roundw
          case rel => exact ⟨n, E3, cap3, l, by simp, .inr (.inl ⟨rfl, rfl, rfl⟩), by simpa [laid] using hv3, Step.out E3 w3 hk3 ho3⟩
          case measure => simp [intOf]
        · have HB := Lib.hid hB
          clear hA hB
          go_wp2_with (at_builtin; go_loud (refine wpList_ap rfl _ _ 26 rfl 25 3 24 (.agg #[.int .i64 0, .int .i64 0, .int .i64 0]) Try.underlying26 infoIns rfl (by decide) E k cap _ rfl HV.out B m d (laid r) rfl (m * 3) rfl HB.out.2 (laid_cells _) (by unfold maxLen; omega) (by omega) ?_); intro E3 cap3 w3 hv3 hk3 ho3)
          go_roundw
          case rel => exact ⟨_, E3, cap3, _, rfl, .inr (.inr ⟨rfl, rfl, rfl⟩), by rw [laid_append]; exact hv3, Step.out E3 w3 hk3 ho3⟩
          case measure => simp [intOf]
        · go_wp2_with fail
          go_ret
          exact ⟨E, cap, rfl, HV.out, hk⟩
end Go.Proofs.Ytlkknmbdikoldaa
