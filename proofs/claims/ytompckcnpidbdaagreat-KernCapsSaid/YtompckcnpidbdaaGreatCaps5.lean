/- Contracts of package caps: Under. -/
import Derived.Test.YtompckcnpidbdaaGreatCaps4
namespace Go.Proofs.YtompckcnpidbdaaGreat
open Go.RowKit Go.MapKept
set_option linter.unusedVariables false
set_option linter.unusedSimpArgs false
section
variable {P : Program} {w : World} {ops : Array Oper} {rest : List Oper} {o : Oper} {a : Act} {Q : Exit → Act → World → Prop}
/-- make([]T, 0, n). -/
theorem wpList_mk0 (hgd : o.guard = none) (l c : Operand) (t : TypeId) (ho : o.op = .makeSlice t l c)
    (e : TypeId) (z : Value) (by_ : Nat) (ht : P.underlying t = some (.slice e)) (hinfo : (P.info? e).map (fun i => (i.zero, i.size, i.bytes)) = some (some z, z.cells.size, by_))
    (kl kc : IntKind) (n : Nat) (L : Int) (hL : L = n) (hl : a.eval l = .int kl 0) (hc : a.eval c = .int kc L) (hb : by_ * n ≤ 281474976710656) (h63 : n ≤ maxLen)
    (h : ∀ w', Vec w' e z.cells.size (some ⟨w.heap.size, 0, none⟩) 0 n [] → Keep Nob w w' → wpList P ops Q rest (a.put o.dst (.slice (some ⟨w.heap.size, 0, none⟩) 0 n)) w') :
    wpList P ops Q (o :: rest) a w := by
  subst hL
  refine wpList_plain hgd fun K hK => ?_
  obtain ⟨i, hi, hzz⟩ := Option.map_eq_some_iff.1 hinfo
  simp only [Prod.mk.injEq] at hzz
  obtain ⟨hz, hs, hby⟩ := hzz
  have hrun := run_make (P := P) w t e i z ht hi hz kl kc 0 n (by omega) (by omega) (by
    have h : ((by_ * n : Nat) : Int) ≤ 281474976710656 := by omega
    rw [hby]
    rwa [Int.natCast_mul] at h) (by unfold maxLen at h63; omega)
  simp only [Int.toNat_natCast, Int.toNat_zero, hs] at hrun
  have hbk : Blk (w.alloc (.cells (madeCells z.cells (n * z.cells.size)) e)) w.heap.size e (madeCells z.cells (n * z.cells.size)).toList := by
    have := Blk.new w e (madeCells z.cells (n * z.cells.size)).toList
    rwa [Array.toArray_toList] at this
  have hh := h (w.alloc (.cells (madeCells z.cells (n * z.cells.size)) e)) (by
    refine ⟨by simp, .inr ⟨w.heap.size, n, madeCells z.cells (n * z.cells.size), rfl, Nat.zero_le _, ?_, Nat.zero_le _, h63, by rw [size_madeCells], by simp⟩⟩
    have h1 := hbk
    unfold Blk at h1
    simpa using h1) ((Keep.refl _ w).alloc _)
  unfold Oper.wp
  simp [execOp, ho, hl, hc, hrun, Result.andThen]
  exact hK _ _ hh
theorem Ranging.left_eq {k : TypeId} {b r : Nat} {m left : List (Value × Value)} (h : Ranging P k w b r m left) : w.rangeLeft b r = left.length := by
  obtain ⟨es, clock, since, seen, c0, hb, _, _, _, hr, _, rfl, _⟩ := h
  simp [World.rangeLeft, hb, hr]
/-- The step of a range over a set of Refs. -/
theorem wpList_setNext (hg : o.guard = none) (it : Operand) (ho : o.op = .next it false) (k : TypeId) {b r : Nat} {m left : List (Value × Value)} (hit : a.eval it = .pointer (some ⟨r, 0, none⟩)) (h : Ranging P k w b r m left)
    (hs : ∀ p ∈ left, ∃ ρ : Rf, p = (rval ρ, .agg #[]))
    (hDone : left = [] → wpList P ops Q rest (a.put o.dst (.tuple #[.bool false])) w)
    (hMore : ∀ (ρ : Rf) left' w', left.Perm ((rval ρ, .agg #[]) :: left') → Ranging P k w' b r m left' → Keep (· = r) w w' → w'.heap.size = w.heap.size → (Instr.entry (.pointer (some ⟨r, 0, none⟩))).run P w' = .ok (.tuple #[.agg #[.int .i64 ρ.1, .int .i64 ρ.2], .agg #[]]) w' →
      wpList P ops Q rest (a.put o.dst (.tuple #[.bool true, .agg #[.int .i64 ρ.1, .int .i64 ρ.2], .agg #[]])) w') : wpList P ops Q (o :: rest) a w := by
  refine wpList_mapNext hg it ho k hit h hDone ?_
  intro key v left' w' hp h1 h2 h3 h4
  obtain ⟨ρ, e⟩ := hs (key, v) (hp.mem_iff.2 (by simp))
  simp only [Prod.mk.injEq] at e
  obtain ⟨rfl, rfl⟩ := e
  exact hMore ρ left' w' hp h1 h2 h3 h4
end
def unref (p : Value × Value) : Rf := match p.1 with
  | .agg cs => match cs.toList with
    | [.int _ x, .int _ y] => (x, y)
    | _ => (0, 0)
  | _ => (0, 0)
theorem unref_set : ∀ l : List Rf, (setM l).map unref = l
  | [] => rfl
  | x :: l => by
    have := unref_set l
    unfold setM at this ⊢
    rw [List.map_cons, List.map_cons, this]
    rfl
theorem setM_perm {a b : List Rf} (h : (setM a).Perm (setM b)) : a.Perm b := by
  have h2 := h.map unref
  rwa [unref_set, unref_set] at h2
set_option maxRecDepth 100000 in
set_option maxHeartbeats 4000000 in
theorem under_yes {w : World} {s B n : Nat} {p r : Nat → Nat} {T : St} {a b : Int} (h : IsSp w s B n p r T) (I : Inv T n) (c : Cp) (hc : Has T n (a, b) c) :
    Calls Tryz.prog 65 #[.pointer (some ⟨s, 0, none⟩), .int .i64 a, .int .i64 b] w fun e w' => ∃ A cap U, e = .returned (.tuple #[.slice A U.length cap, .int .i64 0]) ∧ U.Nodup ∧ (∀ ρ, ρ ∈ U ↔ Desc T n (a, b) ρ) ∧ U.Pairwise (fun x y => ¬ ltR y x) ∧ Vec w' 59 2 A U.length cap (refs U) ∧ Keep Nob w w' := by
  have hn40 := I.n40
  have hN := all_le I.len n (Nat.le_refl _)
  go_enter Tryz.func65, Tryz.ntmps65
  go_wp2_with fail
  refine (sget_yes h c hc).mono ?_; rintro e w1 ⟨rfl, hk1⟩
  unfold cval
  have k2 := hk1.alloc (.cells #[.int .i64 c.obj, .int .i64 c.rights, .int .i64 c.lo, .int .i64 c.n, .int .i64 c.root.1, .int .i64 c.root.2] 61)
  go_wp2_with fail
  refine (find_is (h.nob k2) I (a, b) ⟨c, hc⟩).mono ?_; rintro e w2 ⟨bf, F, rfl, hF, hnd, hmem, hk3⟩
  have k4 := k2.nobt hk3
  have hFl : F.length ≤ 1280 := by
    have h1 : ∀ ρ ∈ F, ρ ∈ (all T n).map (·.1) := fun ρ hr => by
      obtain ⟨c', hc'⟩ := ((hmem ρ).1 hr).has
      exact List.mem_map.2 ⟨(ρ, c'), (all_mem n).2 hc', rfl⟩
    have := nodup_le hnd h1
    rw [List.length_map] at this
    omega
  have hFs : (setM F).length = F.length := by simp [setM]
  have HFs := Lib.hid hFs
  clear hFs k2 hk3 hk1
  go_wp2_with (first
    | (at_len; go_loud (refine wpList_mapLen rfl _ 152 rfl 59 159 Tryz.underlying152 rfl hF ?_); go_loud (rw [HFs.out]))
    | (refine wpList_mk0 rfl _ _ 135 rfl 59 (.agg #[.int .i64 0, .int .i64 0]) 16 Tryz.underlying135 infoRef .i64 .i64 F.length _ rfl rfl rfl (by omega) (by unfold maxLen; omega) ?_; intro w3 hV3 hk5; have hF3 := hF.nob hk5)
    | (at_range; refine wpList_mapRange rfl 152 _ rfl 59 159 Tryz.underlying152 rfl hF3 ?_; intro w4 hR4 hk6 hs6))
  have hV4 := hV3.nob hk6
  have hlo : w.heap.size ≤ w2.heap.size := k4.size
  have hlt3 := hV3.lt w2.heap.size ⟨_, rfl, rfl⟩
  have k6 := (k4.nobt hk5).nobt hk6
  go_frame
  go_loopw [11] (fun s11 wx => ∃ acc left g cap, s11 = .slice (some ⟨g, 0, none⟩) acc.length cap ∧ Vec wx 59 2 (some ⟨g, 0, none⟩) acc.length cap (refs acc) ∧ Ranging Tryz.prog 59 wx bf w3.heap.size (setM F) left ∧ (setM acc ++ left).Perm (setM F) ∧ Keep Nob w wx ∧ w.heap.size ≤ g) (fun _ wx => wx.rangeLeft bf w3.heap.size)
  case atStart => exact ⟨[], setM F, _, _, rfl, hV4, hR4, List.Perm.refl _, k6, hlo⟩
  case round =>
    obtain ⟨acc, left, g, cap, rfl, hV, hR, hp, hK, hA⟩ := hrel
    have hshape : ∀ p ∈ left, ∃ ρ : Rf, p = (rval ρ, .agg #[]) := by
      intro p hp'
      have h1 : p ∈ setM F := hp.mem_iff.1 (List.mem_append.2 (.inr hp'))
      obtain ⟨ρ, _, e⟩ := List.mem_map.1 h1
      exact ⟨ρ, e.symm⟩
    have hlen := hp.length_eq
    rw [List.length_append] at hlen
    have hal : acc.length ≤ 1280 := by
      have h1 : (setM acc).length = acc.length := by simp [setM]
      have h2 := HFs.out
      omega
    have Hp := Lib.hid hp
    have hneR := hR.ne_own hV
    clear hp hlen
    go_wp2_with (first
      | (at_next; refine wpList_setNext rfl _ rfl 59 rfl hR hshape (fun hl0 => ?_) (fun ρ left' w5 hpl hR5 hk7 hs7 hen => ?_) <;> (try clear hs7))
      | (at_builtin; go_loud (refine wpList_ap rfl _ _ 135 rfl 59 2 16 (.agg #[.int .i64 0, .int .i64 0]) Tryz.underlying135 infoRef rfl (by decide) (some ⟨g, 0, none⟩) acc.length cap _ rfl (((hV.keep hk7 (fun g ho e => hneR (e ▸ ho))).nob ((Keep.refl Nob w5).alloc (.cells #[.int .i64 ρ.1, .int .i64 ρ.2] 59))).nob ((Keep.refl Nob _).alloc (.cells #[.int .i64 ρ.1, .int .i64 ρ.2] 59))) (some ⟨w5.heap.size + 1, 0, none⟩) 1 1 [.int .i64 ρ.1, .int .i64 ρ.2] rfl 2 rfl (reads_all (t := 59) (by have h5 := Blk.new (w5.alloc (.cells #[.int .i64 ρ.1, .int .i64 ρ.2] 59)) 59 [.int .i64 ρ.1, .int .i64 ρ.2]; simpa using h5) rfl) (by simp [Value.oneCell']) (by unfold maxLen; omega) (by omega) ?_); intro A2 c2 w6 hv2 hk8 ho2))
    · subst hl0
      have hperm : acc.Perm F := setM_perm (by have := Hp.out; rwa [List.append_nil] at this)
      refine (sort_is hV (by omega)).mono ?_; rintro e w7 ⟨rfl, U, hU1, hU2, hU3, hk9⟩
      have hUl := hU1.length_eq
      have K9 := hK.trans hk9 (fun b hb e => by omega)
      have HUl := Lib.hid hUl
      clear hUl
      go_wp2
      go_ret2
      exact ⟨_, cap, U, by rw [HUl.out]; rfl, (hU1.trans hperm).nodup_iff.2 hnd, fun ρ => ((hU1.trans hperm).mem_iff).trans (hmem ρ), hU2, by rw [HUl.out]; exact hU3, K9⟩
    · have hR6 := (hR5.keep (((Keep.refl Nob w5).alloc (.cells #[.int .i64 ρ.1, .int .i64 ρ.2] 59)).alloc (.cells #[.int .i64 ρ.1, .int .i64 ρ.2] 59)) (fun f => f) (fun f => f)).keep hk8 (hR.is.ne_own hV) hneR
      have hl := hpl.length_eq
      have hlt7 := hR5.is.lt
      have hlr := hR.lt
      have hws := hK.size
      have hkk := hk7.size
      have hw3 := (k4.nobt hk5).size
      have K6 := (((hK.trans hk7 (fun b hb e => by omega)).alloc (.cells #[.int .i64 ρ.1, .int .i64 ρ.2] 59)).alloc (.cells #[.int .i64 ρ.1, .int .i64 ρ.2] 59)).trans hk8 (fun b hb ⟨a, ha, hb2⟩ => by cases ha; simp at hb2; omega)
      obtain ⟨g2, _, hA2, _⟩ := hv2.at_ (Nat.succ_pos _)
      subst hA2
      have hg2 : w.heap.size ≤ g2 := by
        rcases ho2 g2 ⟨_, rfl, rfl⟩ with ⟨a, ha, hb2⟩ | h1
        · cases ha; simp at hb2; omega
        · rw [h1]; simp; omega
      have hp6 : (setM (acc ++ [ρ]) ++ left').Perm (setM F) := by
        rw [setM_add, List.append_assoc]
        exact (hpl.symm.append_left _).trans Hp.out
      have hv6 : Vec w6 59 2 (some ⟨g2, 0, none⟩) (acc.length + 1) c2 (refs (acc ++ [ρ])) := by rw [refs_append]; exact hv2
      refine ⟨⟨acc ++ [ρ], left', g2, c2, by simp, by rw [List.length_append]; exact hv6, hR6, hp6, K6, hg2⟩, ?_⟩
      rw [hR6.left_eq, hR.left_eq]
      simp at hl
      omega
set_option maxRecDepth 100000 in
set_option maxHeartbeats 1000000 in
theorem under_no {w : World} {s B n : Nat} {p r : Nat → Nat} {T : St} {a b : Int} (h : IsSp w s B n p r T) (hc : ∀ c, ¬ Has T n (a, b) c) :
    Calls Tryz.prog 65 #[.pointer (some ⟨s, 0, none⟩), .int .i64 a, .int .i64 b] w fun e w' => e = .returned (.tuple #[.slice none 0 0, .int .i64 2]) ∧ Keep Nob w w' := by
  go_enter Tryz.func65, Tryz.ntmps65
  go_wp2_with fail
  refine (sget_no h hc).mono ?_; rintro e w1 ⟨rfl, hk1⟩
  unfold cval zcap
  go_wp2
  go_ret2
  exact ⟨rfl, hk1.alloc _⟩
end Go.Proofs.YtompckcnpidbdaaGreat
