/- Texts Grp, Caps4, Caps5, Caps6, packed. -/
import Derived.Test.YtngchjejmnfanaaGreatPk0
import Derived.Test.YtngchjejmnfanaaGreatPk1
import Derived.Test.YtngchjejmnfanaaGreatPk7
import Derived.Test.YtngchjejmnfanaaGreatPk11
import Derived.Test.YtngchjejmnfanaaGreatPk18
namespace Go.Proofs.YtngchjejmnfanaaGreat
open Go.RowKit Go.MapKept
set_option linter.unusedVariables false
set_option linter.unusedSimpArgs false
open Go.Maps (Keyed)
theorem laid : laidOutB Tryz.prog = true := by kernel_rfl
theorem refRow : (200 : TypeId) < Tryz.prog.types.size := of_decide_eq_true (by kernel_rfl)
theorem intCells : Tryz.prog.cellsOf 3 = 1 := by kernel_rfl
theorem typesPos : ∃ k, Tryz.prog.types.size = k + 1 := by
  have h := refRow
  generalize Tryz.prog.types.size = z at h
  exact ⟨z - 1, (Nat.succ_pred_eq_of_pos (Nat.lt_of_le_of_lt (Nat.zero_le _) h)).symm⟩
theorem rval_inj {a b : Rf} (h : rval a = rval b) : a = b := by
  unfold rval at h
  simp at h
  exact Prod.ext h.1 h.2
/-- The row under a key. -/
def Elem (w : World) (X : List (Rf × Cp)) (p : Value × Value) : Prop :=
  ∃ κ A len cap, p = (rval κ, .slice A len cap) ∧ Vec w 200 2 A len cap (refs (grp X κ)) ∧ len = (grp X κ).length
/-- No two rows lie in one block. -/
def Far (p q : Value × Value) : Prop := ∀ g, p.2.ownBlock = some g → q.2.ownBlock ≠ some g
structure Grp (lo : Nat) (w : World) (b : Nat) (X : List (Rf × Cp)) (m : List (Value × Value)) : Prop where
  is : MapIs Tryz.prog 200 w b m
  elem : ∀ p ∈ m, Elem w X p
  cover : ∀ κ, grp X κ ≠ [] → ∃ v, (rval κ, v) ∈ m
  far : m.Pairwise Far
  base : ∀ p ∈ m, ∀ g, p.2.ownBlock = some g → lo ≤ g
  lob : lo ≤ b
structure GHole (lo : Nat) (w : World) (b : Nat) (X : List (Rf × Cp)) (κ : Rf) (A : Option Addr) (st : Nat) (m1 m2 : List (Value × Value)) : Prop where
  is : Hole Tryz.prog 200 w b m1 (rval κ) st m2
  elem : ∀ p ∈ m1 ++ m2, Elem w X p
  other : ∀ p ∈ m1 ++ m2, p.1 ≠ rval κ
  cover : ∀ κ', κ' ≠ κ → grp X κ' ≠ [] → ∃ v, (rval κ', v) ∈ m1 ++ m2
  far : (m1 ++ m2).Pairwise Far
  apart : ∀ p ∈ m1 ++ m2, ∀ g, p.2.ownBlock = some g → ¬ Own A g
  base : ∀ p ∈ m1 ++ m2, ∀ g, p.2.ownBlock = some g → lo ≤ g
  baseA : ∀ g, Own A g → lo ≤ g
  lob : lo ≤ b
section
variable {lo b : Nat} {w w' : World} {X : List (Rf × Cp)} {m m1 m2 : List (Value × Value)} {κ : Rf} {A : Option Addr} {st : Nat}
theorem own_is {A : Option Addr} {n cap g : Nat} : (Value.slice A n cap).ownBlock = some g ↔ Own A g := by
  rw [own_block]
  unfold Own
  constructor
  · intro h
    obtain ⟨a, h1, h2⟩ := Option.map_eq_some_iff.1 h
    exact ⟨a, h1, h2⟩
  · rintro ⟨a, rfl, rfl⟩
    rfl
theorem Elem.keep {M : Nat → Prop} {p : Value × Value} (h : Elem w X p) (k : Keep M w w') (hm : ∀ g, p.2.ownBlock = some g → ¬ M g) : Elem w' X p := by
  obtain ⟨κ, A, len, cap, rfl, hv, hl⟩ := h
  exact ⟨κ, A, len, cap, rfl, hv.keep k (fun g hg => hm g (own_is.2 hg)), hl⟩
theorem Elem.ne_map {p : Value × Value} {m : List (Value × Value)} (h : Elem w X p) (hm : MapIs Tryz.prog 200 w b m) : p.2.ownBlock ≠ some b := by
  obtain ⟨κ, A, len, cap, rfl, hv, hl⟩ := h
  intro e
  exact hm.ne_own hv (own_is.1 e)
theorem Grp.new (w : World) : Grp w.heap.size (w.alloc (.map #[] 0)) w.heap.size [] [] :=
  ⟨MapIs.new w, by simp, by simp [grp], List.Pairwise.nil, by simp, Nat.le_refl _⟩
theorem Grp.keep {M : Nat → Prop} (h : Grp lo w b X m) (k : Keep M w w') (hb : ¬ M b) (hm : ∀ p ∈ m, ∀ g, p.2.ownBlock = some g → ¬ M g) : Grp lo w' b X m :=
  ⟨h.is.keep k hb, fun p hp => (h.elem p hp).keep k (hm p hp), h.cover, h.far, h.base, h.lob⟩
theorem Grp.nob (h : Grp lo w b X m) (k : Keep Nob w w') : Grp lo w' b X m := h.keep k (fun f => f) (fun _ _ _ _ f => f)
theorem Elem.key {p : Value × Value} (h : Elem w X p) : ∃ κ, p.1 = rval κ := by
  obtain ⟨κ, _, _, _, rfl, _⟩ := h
  exact ⟨κ, rfl⟩
/-- Look-up: the row of those whose root the key is. -/
theorem Grp.at_ (h : Grp lo w b X m) {v : Value} (ha : At m (rval κ) (.slice none 0 0) v) : ∃ A len cap, v = .slice A len cap ∧ Vec w 200 2 A len cap (refs (grp X κ)) ∧ len = (grp X κ).length ∧ (∀ g, Own A g → lo ≤ g) := by
  rcases ha with ⟨hno, rfl⟩ | hmem
  · have : grp X κ = [] := by
      by_cases hc : grp X κ = []
      · exact hc
      · obtain ⟨v, hv⟩ := h.cover κ hc
        exact absurd rfl (hno _ hv)
    rw [this]
    exact ⟨none, 0, 0, rfl, Vec.nil _ _ _, rfl, fun g ⟨a, ha, _⟩ => by cases ha⟩
  · obtain ⟨κ', A, len, cap, he, hv, hl⟩ := h.elem _ hmem
    simp only [Prod.mk.injEq] at he
    obtain ⟨h1, h2⟩ := he
    have := rval_inj h1
    subst this
    exact ⟨A, len, cap, h2, hv, hl, fun g hg => h.base _ hmem g (by rw [h2]; exact own_is.2 hg)⟩
theorem GHole.keep {M : Nat → Prop} (h : GHole lo w b X κ A st m1 m2) (k : Keep M w w') (hb : ¬ M b) (hm : ∀ p ∈ m1 ++ m2, ∀ g, p.2.ownBlock = some g → ¬ M g) : GHole lo w' b X κ A st m1 m2 :=
  ⟨h.is.keep k hb, fun p hp => (h.elem p hp).keep k (hm p hp), h.other, h.cover, h.far, h.apart, h.base, h.baseA, h.lob⟩
/-- The first half of 'm[k] = append(m[k], ..)'. -/
theorem Grp.entry (h : Grp lo w b X m) {v0 : Value} (k : Keep (· = b) w w') (hor : (m1 = m ∧ m2 = [] ∧ (∀ p ∈ m, p.1 ≠ rval κ) ∧ v0 = .slice none 0 0) ∨ m = m1 ++ (rval κ, v0) :: m2) (hh : Hole Tryz.prog 200 w' b m1 (rval κ) st m2) :
    ∃ A len cap, v0 = .slice A len cap ∧ Vec w' 200 2 A len cap (refs (grp X κ)) ∧ len = (grp X κ).length ∧ GHole lo w' b X κ A st m1 m2 ∧ ¬ Own A b := by
  rcases hor with ⟨rfl, rfl, hno, rfl⟩ | rfl
  · obtain ⟨A, len, cap, he, hv, hl, hbA⟩ := h.at_ (κ := κ) (.inl ⟨hno, rfl⟩)
    simp only [Value.slice.injEq] at he
    obtain ⟨rfl, rfl, rfl⟩ := he
    refine ⟨none, 0, 0, rfl, hv.keep k (fun g ⟨a, ha, _⟩ => by cases ha), hl, ⟨hh, ?_, ?_, ?_, ?_, ?_, ?_, ?_, h.lob⟩, fun ⟨a, ha, _⟩ => by cases ha⟩
    · intro p hp
      rw [List.append_nil] at hp
      exact (h.elem p hp).keep k (fun g hg e => (h.elem p hp).ne_map h.is (e ▸ hg))
    · simpa using hno
    · intro κ' _ hc
      simpa using h.cover κ' hc
    · simpa using h.far
    · rintro p hp g hg ⟨a, ha, _⟩
      cases ha
    · simpa using h.base
    · rintro g ⟨a, ha, _⟩
      cases ha
  · have hmem : (rval κ, v0) ∈ m1 ++ (rval κ, v0) :: m2 := by simp
    obtain ⟨κ', A, len, cap, he, hv, hl⟩ := h.elem _ hmem
    simp only [Prod.mk.injEq] at he
    obtain ⟨h1, h2⟩ := he
    have := rval_inj h1
    subst this
    subst h2
    have hA : ¬ Own A b := fun ho => (h.elem _ hmem).ne_map h.is (own_is.2 ho)
    have hnd := h.is.nodup
    have hfar := h.far
    rw [List.pairwise_append] at hnd hfar
    have hsub : ∀ p, p ∈ m1 ++ m2 → p ∈ m1 ++ (rval κ, .slice A len cap) :: m2 := fun p hp => by
      rcases List.mem_append.1 hp with hp | hp <;> simp [hp]
    refine ⟨A, len, cap, rfl, hv.keep k (fun g hg e => hA (e ▸ hg)), hl, ⟨hh, ?_, ?_, ?_, ?_, ?_, ?_, ?_, h.lob⟩, hA⟩
    · intro p hp
      exact (h.elem p (hsub p hp)).keep k (fun g hg e => (h.elem p (hsub p hp)).ne_map h.is (e ▸ hg))
    · intro p hp
      rcases List.mem_append.1 hp with hp | hp
      · exact hnd.2.2 p hp _ (List.mem_cons_self ..)
      · exact fun e => (List.pairwise_cons.1 hnd.2.1).1 p hp e.symm
    · intro κ' hne hc
      obtain ⟨v, hv'⟩ := h.cover κ' hc
      rcases List.mem_append.1 hv' with hv' | hv'
      · exact ⟨v, by simp [hv']⟩
      · rcases List.mem_cons.1 hv' with e | hv'
        · exact absurd (rval_inj (congrArg Prod.fst e)) hne
        · exact ⟨v, by simp [hv']⟩
    · rw [List.pairwise_append]
      exact ⟨hfar.1, (List.pairwise_cons.1 hfar.2.1).2, fun a ha c hc => hfar.2.2 a ha c (by simp [hc])⟩
    · intro p hp g hg ho
      rcases List.mem_append.1 hp with hp | hp
      · exact hfar.2.2 p hp _ (List.mem_cons_self ..) g hg (own_is.2 ho)
      · exact (List.pairwise_cons.1 hfar.2.1).1 p hp g (own_is.2 ho) hg
    · intro p hp
      exact h.base p (hsub p hp)
    · intro g ho
      exact h.base _ hmem g (own_is.2 ho)
/-- The second half. -/
theorem GHole.store {w'' : World} {A' : Option Addr} {len' cap' : Nat} {x : Rf × Cp} (h : GHole lo w b X κ A st m1 m2) (k : Keep (Own A) w w') (hAb : ¬ Own A b) (hx : x.2.root = κ) (hlo : lo ≤ w.heap.size)
    (hv : Vec w' 200 2 A' len' cap' (refs (grp (X ++ [x]) κ))) (hl : len' = (grp (X ++ [x]) κ).length) (hA' : ∀ g, Own A' g → Own A g ∨ g = w.heap.size)
    (hs : MapIs Tryz.prog 200 w'' b (m1 ++ (rval κ, .slice A' len' cap') :: m2)) (k2 : Keep (· = b) w' w'') : Grp lo w'' b (X ++ [x]) (m1 ++ (rval κ, .slice A' len' cap') :: m2) := by
  have hblt := h.is.lt
  have hA'b : ¬ Own A' b := fun ho => by
    rcases hA' b ho with h1 | h1
    · exact hAb h1
    · omega
  have hlt : ∀ p ∈ m1 ++ m2, ∀ g, p.2.ownBlock = some g → g < w.heap.size := by
    intro p hp g hg
    obtain ⟨κ', A0, len0, cap0, rfl, hv0, _⟩ := h.elem p hp
    exact hv0.lt g (own_is.1 hg)
  have hfarA' : ∀ p ∈ m1 ++ m2, ∀ g, p.2.ownBlock = some g → ¬ Own A' g := by
    intro p hp g hg ho
    rcases hA' g ho with h1 | h1
    · exact h.apart p hp g hg h1
    · have := hlt p hp g hg
      omega
  have hcase : ∀ p, p ∈ m1 ++ (rval κ, .slice A' len' cap') :: m2 → p = (rval κ, .slice A' len' cap') ∨ p ∈ m1 ++ m2 := by
    intro p hp
    rcases List.mem_append.1 hp with hp | hp
    · exact .inr (by simp [hp])
    · rcases List.mem_cons.1 hp with e | hp
      · exact .inl e
      · exact .inr (by simp [hp])
  refine ⟨hs, fun p hp => ?_, fun κ' hc => ?_, ?_, fun p hp g hg => ?_, h.lob⟩
  · rcases hcase p hp with rfl | hp
    · exact ⟨κ, A', len', cap', rfl, hv.keep k2 (fun g hg e => hA'b (e ▸ hg)), hl⟩
    · have he := ((h.elem p hp).keep k (h.apart p hp))
      have hb : p.2.ownBlock ≠ some b := by
        obtain ⟨κ', A0, len0, cap0, rfl, hv0, _⟩ := h.elem p hp
        intro e
        obtain ⟨cur, hc⟩ := hv0.blk (own_is.1 e)
        exact h.is.ne_blk hc rfl
      obtain ⟨κ', A0, len0, cap0, rfl, hv0, hl0⟩ := he.keep k2 (fun g hg e => hb (e ▸ hg))
      have hne : ¬ x.2.root = κ' := fun e => h.other _ hp (by rw [← hx, e])
      refine ⟨κ', A0, len0, cap0, rfl, ?_, ?_⟩
      · rw [grp_add, if_neg hne, List.append_nil]; exact hv0
      · rw [grp_add, if_neg hne, List.append_nil]; exact hl0
  · by_cases e : κ' = κ
    · subst e
      exact ⟨_, List.mem_append.2 (.inr (List.mem_cons_self ..))⟩
    · have : grp X κ' ≠ [] := by
        rw [grp_add, if_neg (fun e1 => e (by rw [← e1, hx])), List.append_nil] at hc
        exact hc
      obtain ⟨v, hv'⟩ := h.cover κ' e this
      rcases List.mem_append.1 hv' with hv' | hv'
      · exact ⟨v, by simp [hv']⟩
      · exact ⟨v, by simp [hv']⟩
  · have hfar := List.pairwise_append.1 h.far
    rw [List.pairwise_append]
    refine ⟨hfar.1, List.pairwise_cons.2 ⟨fun q hq g hg hg2 => hfarA' q (by simp [hq]) g hg2 (own_is.1 hg), hfar.2.1⟩, fun p hp q hq => ?_⟩
    rcases List.mem_cons.1 hq with rfl | hq
    · exact fun g hg hg2 => hfarA' p (by simp [hp]) g hg (own_is.1 hg2)
    · exact hfar.2.2 p hp q hq
  · rcases hcase p hp with rfl | hp
    · rcases hA' g (own_is.1 hg) with h1 | h1
      · exact h.baseA g h1
      · omega
    · exact h.base p hp g hg
end
section
variable {w : World} {ops : Array Oper} {rest : List Oper} {o : Oper} {a : Act} {Q : Exit → Act → World → Prop}
end
end Go.Proofs.YtngchjejmnfanaaGreat
namespace Go.Proofs.YtngchjejmnfanaaGreat
open Go.RowKit Go.MapKept
set_option linter.unusedVariables false
set_option linter.unusedSimpArgs false
/-- A set of Refs as entries. -/
def setM (F : List Rf) : List (Value × Value) := F.map fun ρ => (rval ρ, Value.agg #[])
theorem setM_add (F : List Rf) (ρ : Rf) : setM (F ++ [ρ]) = setM F ++ [(rval ρ, .agg #[])] := by simp [setM]
def lenOf : Value → Nat
  | .slice _ n _ => n
  | _ => 0
end Go.Proofs.YtngchjejmnfanaaGreat
namespace Go.Proofs.YtngchjejmnfanaaGreat
open Go.RowKit Go.MapKept
set_option linter.unusedVariables false
set_option linter.unusedSimpArgs false
section
variable {P : Program} {w : World} {ops : Array Oper} {rest : List Oper} {o : Oper} {a : Act} {Q : Exit → Act → World → Prop}
/-- make([]T, 0, n). -/
theorem wpList_mk0 (hgd : o.guard = none) (l c : Operand) (t : TypeId) (ho : o.op = .makeSlice t l c)
    (e : TypeId) (z : Value) (by_ : Nat) (ht : P.underlying t = some (.slice e)) (hinfo : (P.info? e).map (fun i => (i.zero, i.size, i.bytes)) = some (some z, z.cells.size, by_))
    (kl kc : IntKind) (n : Nat) (L : Int) (hL : L = n) (hl : a.eval l = .int kl 0) (hc : a.eval c = .int kc L) (hb : by_ * n ≤ 281474976710656) (h63 : n ≤ maxLen)
    (h : ∀ w', Vec w' e z.cells.size (some ⟨w.heap.size, 0, none⟩) 0 n [] → Keep Nob w w' → wpList P ops Q rest (a.put o.dst (.slice (some ⟨w.heap.size, 0, none⟩) 0 n)) w') :
    wpList P ops Q (o :: rest) a w := by
  subst hL
  refine wpList_plain hgd fun K hK => ?_
  obtain ⟨i, hi, hzz⟩ := Option.map_eq_some_iff.1 hinfo
  simp only [Prod.mk.injEq] at hzz
  obtain ⟨hz, hs, hby⟩ := hzz
  have hrun := run_make (P := P) w t e i z ht hi hz kl kc 0 n (by omega) (by omega) (by
    have h : ((by_ * n : Nat) : Int) ≤ 281474976710656 := by omega
    rw [hby]
    rwa [Int.natCast_mul] at h) (by unfold maxLen at h63; omega)
  simp only [Int.toNat_natCast, Int.toNat_zero, hs] at hrun
  have hbk : Blk (w.alloc (.cells (madeCells z.cells (n * z.cells.size)) e)) w.heap.size e (madeCells z.cells (n * z.cells.size)).toList := by
    have := Blk.new w e (madeCells z.cells (n * z.cells.size)).toList
    rwa [Array.toArray_toList] at this
  have hh := h (w.alloc (.cells (madeCells z.cells (n * z.cells.size)) e)) (by
    refine ⟨by simp, .inr ⟨w.heap.size, n, madeCells z.cells (n * z.cells.size), rfl, Nat.zero_le _, ?_, Nat.zero_le _, h63, by rw [size_madeCells], by simp⟩⟩
    have h1 := hbk
    unfold Blk at h1
    simpa using h1) ((Keep.refl _ w).alloc _)
  unfold Oper.wp
  simp [execOp, ho, hl, hc, hrun, Result.andThen]
  exact hK _ _ hh
theorem Ranging.left_eq {k : TypeId} {b r : Nat} {m left : List (Value × Value)} (h : Ranging P k w b r m left) : w.rangeLeft b r = left.length := by
  obtain ⟨es, clock, since, seen, c0, hb, _, _, _, hr, _, rfl, _⟩ := h
  simp [World.rangeLeft, hb, hr]
/-- The step of a range over a set of Refs. -/
theorem wpList_setNext (hg : o.guard = none) (it : Operand) (ho : o.op = .next it false) (k : TypeId) {b r : Nat} {m left : List (Value × Value)} (hit : a.eval it = .pointer (some ⟨r, 0, none⟩)) (h : Ranging P k w b r m left)
    (hs : ∀ p ∈ left, ∃ ρ : Rf, p = (rval ρ, .agg #[]))
    (hDone : left = [] → wpList P ops Q rest (a.put o.dst (.tuple #[.bool false])) w)
    (hMore : ∀ (ρ : Rf) left' w', left.Perm ((rval ρ, .agg #[]) :: left') → Ranging P k w' b r m left' → Keep (· = r) w w' → w'.heap.size = w.heap.size → (Instr.entry (.pointer (some ⟨r, 0, none⟩))).run P w' = .ok (.tuple #[.agg #[.int .i64 ρ.1, .int .i64 ρ.2], .agg #[]]) w' →
      wpList P ops Q rest (a.put o.dst (.tuple #[.bool true, .agg #[.int .i64 ρ.1, .int .i64 ρ.2], .agg #[]])) w') : wpList P ops Q (o :: rest) a w := by
  refine wpList_mapNext hg it ho k hit h hDone ?_
  intro key v left' w' hp h1 h2 h3 h4
  obtain ⟨ρ, e⟩ := hs (key, v) (hp.mem_iff.2 (by simp))
  simp only [Prod.mk.injEq] at e
  obtain ⟨rfl, rfl⟩ := e
  exact hMore ρ left' w' hp h1 h2 h3 h4
end
def unref (p : Value × Value) : Rf := match p.1 with
  | .agg cs => match cs.toList with
    | [.int _ x, .int _ y] => (x, y)
    | _ => (0, 0)
  | _ => (0, 0)
theorem unref_set : ∀ l : List Rf, (setM l).map unref = l
  | [] => rfl
  | x :: l => by
    have := unref_set l
    unfold setM at this ⊢
    rw [List.map_cons, List.map_cons, this]
    rfl
theorem setM_perm {a b : List Rf} (h : (setM a).Perm (setM b)) : a.Perm b := by
  have h2 := h.map unref
  rwa [unref_set, unref_set] at h2
end Go.Proofs.YtngchjejmnfanaaGreat
namespace Go.Proofs.YtngchjejmnfanaaGreat
open Go.RowKit
set_option linter.unusedVariables false
set_option linter.unusedSimpArgs false
theorem Has.env {T : St} {n : Nat} {ρ : Rf} {c : Cp} (h : Has T n ρ c) : ∃ e : Nat, e < n ∧ ρ = ((e : Int), ρ.2) := by
  obtain ⟨e, i, q, h1, he, _⟩ := h
  exact ⟨e, he, by rw [h1]⟩
theorem Keep.rows {n : Nat} {r : Nat → Nat} {e : Nat} {w w' : World} (he : e < n) (k : Keep (· = r e) w w') : Keep (Rows_ n r) w w' := k.mono (fun _ _ e1 => ⟨e, he, e1⟩)
end Go.Proofs.YtngchjejmnfanaaGreat
