/- Texts Grp, Caps3, Caps4, Caps5, Caps6, packed. -/
import Derived.Test.YtifigjccokpcfaaGreatPk0
import Derived.Test.YtifigjccokpcfaaGreatPk1
import Derived.Test.YtifigjccokpcfaaGreatPk8
import Derived.Test.YtifigjccokpcfaaGreatPk12
import Derived.Test.YtifigjccokpcfaaGreatPk18
namespace Go.Proofs.YtifigjccokpcfaaGreat
open Go.RowKit Go.MapKept
set_option linter.unusedVariables false
set_option linter.unusedSimpArgs false
open Go.Maps (Keyed)
theorem laid : laidOutB Tryz.prog = true := by kernel_rfl
theorem refRow : (172 : TypeId) < Tryz.prog.types.size := of_decide_eq_true (by kernel_rfl)
theorem refWide : (match Tryz.prog.underlying 172 with | some (.array _ _) | some (.struct _) => true | _ => false) = true := by rw [Tryz.underlying172]
set_option maxRecDepth 100000 in
theorem refLaw : Keyed Tryz.prog 172 := Keyed.of_law (deep_law_laid laid (m := 3) (by omega) refRow (by kernel_rfl) refWide)
theorem refKeyT : Tryz.prog.keyType 172 = true := by kernel_rfl
theorem refCells : Tryz.prog.cellsOf 172 = 2 := by kernel_rfl
theorem intCells : Tryz.prog.cellsOf 3 = 1 := by kernel_rfl
theorem typesPos : ∃ k, Tryz.prog.types.size = k + 1 := by
  have h := refRow
  generalize Tryz.prog.types.size = z at h
  exact ⟨z - 1, (Nat.succ_pred_eq_of_pos (Nat.lt_of_le_of_lt (Nat.zero_le _) h)).symm⟩
/-- A Ref whose numbers are ints is a key. -/
theorem ref_key {κ : Rf} (h1 : (Lit.int .i64 κ.1).wf = true) (h2 : (Lit.int .i64 κ.2).wf = true) : ∃ l, keyOf Tryz.prog 172 (rval κ) = some l := by
  obtain ⟨k, hk⟩ := typesPos
  have hf : (rval κ).formed Tryz.prog 172 = true := by simp [Value.formed, rval, Tryz.underlying172, refCells]
  unfold keyOf
  rw [Tryz.underlying172]
  simp only [refKeyT, hf, Bool.and_self, if_true]
  rw [hk]
  simp [Program.keyLits, Tryz.underlying172, Tryz.underlying3, rval, Value.cells, refCells, intCells, h1, h2]
theorem rval_inj {a b : Rf} (h : rval a = rval b) : a = b := by
  unfold rval at h
  simp at h
  exact Prod.ext h.1 h.2
theorem slZero (w : World) : (zeroValue 246).run Tryz.prog w = .ok (.slice none 0 0) w := by kernel_rfl
/-- The row under a key. -/
def Elem (w : World) (X : List (Rf × Cp)) (p : Value × Value) : Prop :=
  ∃ κ A len cap, p = (rval κ, .slice A len cap) ∧ Vec w 172 2 A len cap (refs (grp X κ)) ∧ len = (grp X κ).length
/-- No two rows lie in one block. -/
def Far (p q : Value × Value) : Prop := ∀ g, p.2.ownBlock = some g → q.2.ownBlock ≠ some g
structure Grp (lo : Nat) (w : World) (b : Nat) (X : List (Rf × Cp)) (m : List (Value × Value)) : Prop where
  is : MapIs Tryz.prog 172 w b m
  elem : ∀ p ∈ m, Elem w X p
  cover : ∀ κ, grp X κ ≠ [] → ∃ v, (rval κ, v) ∈ m
  far : m.Pairwise Far
  base : ∀ p ∈ m, ∀ g, p.2.ownBlock = some g → lo ≤ g
  lob : lo ≤ b
structure GHole (lo : Nat) (w : World) (b : Nat) (X : List (Rf × Cp)) (κ : Rf) (A : Option Addr) (st : Nat) (m1 m2 : List (Value × Value)) : Prop where
  is : Hole Tryz.prog 172 w b m1 (rval κ) st m2
  elem : ∀ p ∈ m1 ++ m2, Elem w X p
  other : ∀ p ∈ m1 ++ m2, p.1 ≠ rval κ
  cover : ∀ κ', κ' ≠ κ → grp X κ' ≠ [] → ∃ v, (rval κ', v) ∈ m1 ++ m2
  far : (m1 ++ m2).Pairwise Far
  apart : ∀ p ∈ m1 ++ m2, ∀ g, p.2.ownBlock = some g → ¬ Own A g
  base : ∀ p ∈ m1 ++ m2, ∀ g, p.2.ownBlock = some g → lo ≤ g
  baseA : ∀ g, Own A g → lo ≤ g
  lob : lo ≤ b
section
variable {lo b : Nat} {w w' : World} {X : List (Rf × Cp)} {m m1 m2 : List (Value × Value)} {κ : Rf} {A : Option Addr} {st : Nat}
theorem own_is {A : Option Addr} {n cap g : Nat} : (Value.slice A n cap).ownBlock = some g ↔ Own A g := by
  rw [own_block]
  unfold Own
  constructor
  · intro h
    obtain ⟨a, h1, h2⟩ := Option.map_eq_some_iff.1 h
    exact ⟨a, h1, h2⟩
  · rintro ⟨a, rfl, rfl⟩
    rfl
theorem Elem.keep {M : Nat → Prop} {p : Value × Value} (h : Elem w X p) (k : Keep M w w') (hm : ∀ g, p.2.ownBlock = some g → ¬ M g) : Elem w' X p := by
  obtain ⟨κ, A, len, cap, rfl, hv, hl⟩ := h
  exact ⟨κ, A, len, cap, rfl, hv.keep k (fun g hg => hm g (own_is.2 hg)), hl⟩
theorem Elem.ne_map {p : Value × Value} {m : List (Value × Value)} (h : Elem w X p) (hm : MapIs Tryz.prog 172 w b m) : p.2.ownBlock ≠ some b := by
  obtain ⟨κ, A, len, cap, rfl, hv, hl⟩ := h
  intro e
  exact hm.ne_own hv (own_is.1 e)
theorem Grp.new (w : World) : Grp w.heap.size (w.alloc (.map #[] 0)) w.heap.size [] [] :=
  ⟨MapIs.new w, by simp, by simp [grp], List.Pairwise.nil, by simp, Nat.le_refl _⟩
theorem Grp.keep {M : Nat → Prop} (h : Grp lo w b X m) (k : Keep M w w') (hb : ¬ M b) (hm : ∀ p ∈ m, ∀ g, p.2.ownBlock = some g → ¬ M g) : Grp lo w' b X m :=
  ⟨h.is.keep k hb, fun p hp => (h.elem p hp).keep k (hm p hp), h.cover, h.far, h.base, h.lob⟩
theorem Grp.nob (h : Grp lo w b X m) (k : Keep Nob w w') : Grp lo w' b X m := h.keep k (fun f => f) (fun _ _ _ _ f => f)
theorem Elem.key {p : Value × Value} (h : Elem w X p) : ∃ κ, p.1 = rval κ := by
  obtain ⟨κ, _, _, _, rfl, _⟩ := h
  exact ⟨κ, rfl⟩
/-- Look-up: the row of those whose root the key is. -/
theorem Grp.at_ (h : Grp lo w b X m) {v : Value} (ha : At m (rval κ) (.slice none 0 0) v) : ∃ A len cap, v = .slice A len cap ∧ Vec w 172 2 A len cap (refs (grp X κ)) ∧ len = (grp X κ).length ∧ (∀ g, Own A g → lo ≤ g) := by
  rcases ha with ⟨hno, rfl⟩ | hmem
  · have : grp X κ = [] := by
      by_cases hc : grp X κ = []
      · exact hc
      · obtain ⟨v, hv⟩ := h.cover κ hc
        exact absurd rfl (hno _ hv)
    rw [this]
    exact ⟨none, 0, 0, rfl, Vec.nil _ _ _, rfl, fun g ⟨a, ha, _⟩ => by cases ha⟩
  · obtain ⟨κ', A, len, cap, he, hv, hl⟩ := h.elem _ hmem
    simp only [Prod.mk.injEq] at he
    obtain ⟨h1, h2⟩ := he
    have := rval_inj h1
    subst this
    exact ⟨A, len, cap, h2, hv, hl, fun g hg => h.base _ hmem g (by rw [h2]; exact own_is.2 hg)⟩
theorem GHole.keep {M : Nat → Prop} (h : GHole lo w b X κ A st m1 m2) (k : Keep M w w') (hb : ¬ M b) (hm : ∀ p ∈ m1 ++ m2, ∀ g, p.2.ownBlock = some g → ¬ M g) : GHole lo w' b X κ A st m1 m2 :=
  ⟨h.is.keep k hb, fun p hp => (h.elem p hp).keep k (hm p hp), h.other, h.cover, h.far, h.apart, h.base, h.baseA, h.lob⟩
/-- The first half of 'm[k] = append(m[k], ..)'. -/
theorem Grp.entry (h : Grp lo w b X m) {v0 : Value} (k : Keep (· = b) w w') (hor : (m1 = m ∧ m2 = [] ∧ (∀ p ∈ m, p.1 ≠ rval κ) ∧ v0 = .slice none 0 0) ∨ m = m1 ++ (rval κ, v0) :: m2) (hh : Hole Tryz.prog 172 w' b m1 (rval κ) st m2) :
    ∃ A len cap, v0 = .slice A len cap ∧ Vec w' 172 2 A len cap (refs (grp X κ)) ∧ len = (grp X κ).length ∧ GHole lo w' b X κ A st m1 m2 ∧ ¬ Own A b := by
  rcases hor with ⟨rfl, rfl, hno, rfl⟩ | rfl
  · obtain ⟨A, len, cap, he, hv, hl, hbA⟩ := h.at_ (κ := κ) (.inl ⟨hno, rfl⟩)
    simp only [Value.slice.injEq] at he
    obtain ⟨rfl, rfl, rfl⟩ := he
    refine ⟨none, 0, 0, rfl, hv.keep k (fun g ⟨a, ha, _⟩ => by cases ha), hl, ⟨hh, ?_, ?_, ?_, ?_, ?_, ?_, ?_, h.lob⟩, fun ⟨a, ha, _⟩ => by cases ha⟩
    · intro p hp
      rw [List.append_nil] at hp
      exact (h.elem p hp).keep k (fun g hg e => (h.elem p hp).ne_map h.is (e ▸ hg))
    · simpa using hno
    · intro κ' _ hc
      simpa using h.cover κ' hc
    · simpa using h.far
    · rintro p hp g hg ⟨a, ha, _⟩
      cases ha
    · simpa using h.base
    · rintro g ⟨a, ha, _⟩
      cases ha
  · have hmem : (rval κ, v0) ∈ m1 ++ (rval κ, v0) :: m2 := by simp
    obtain ⟨κ', A, len, cap, he, hv, hl⟩ := h.elem _ hmem
    simp only [Prod.mk.injEq] at he
    obtain ⟨h1, h2⟩ := he
    have := rval_inj h1
    subst this
    subst h2
    have hA : ¬ Own A b := fun ho => (h.elem _ hmem).ne_map h.is (own_is.2 ho)
    have hnd := h.is.nodup
    have hfar := h.far
    rw [List.pairwise_append] at hnd hfar
    have hsub : ∀ p, p ∈ m1 ++ m2 → p ∈ m1 ++ (rval κ, .slice A len cap) :: m2 := fun p hp => by
      rcases List.mem_append.1 hp with hp | hp <;> simp [hp]
    refine ⟨A, len, cap, rfl, hv.keep k (fun g hg e => hA (e ▸ hg)), hl, ⟨hh, ?_, ?_, ?_, ?_, ?_, ?_, ?_, h.lob⟩, hA⟩
    · intro p hp
      exact (h.elem p (hsub p hp)).keep k (fun g hg e => (h.elem p (hsub p hp)).ne_map h.is (e ▸ hg))
    · intro p hp
      rcases List.mem_append.1 hp with hp | hp
      · exact hnd.2.2 p hp _ (List.mem_cons_self ..)
      · exact fun e => (List.pairwise_cons.1 hnd.2.1).1 p hp e.symm
    · intro κ' hne hc
      obtain ⟨v, hv'⟩ := h.cover κ' hc
      rcases List.mem_append.1 hv' with hv' | hv'
      · exact ⟨v, by simp [hv']⟩
      · rcases List.mem_cons.1 hv' with e | hv'
        · exact absurd (rval_inj (congrArg Prod.fst e)) hne
        · exact ⟨v, by simp [hv']⟩
    · rw [List.pairwise_append]
      exact ⟨hfar.1, (List.pairwise_cons.1 hfar.2.1).2, fun a ha c hc => hfar.2.2 a ha c (by simp [hc])⟩
    · intro p hp g hg ho
      rcases List.mem_append.1 hp with hp | hp
      · exact hfar.2.2 p hp _ (List.mem_cons_self ..) g hg (own_is.2 ho)
      · exact (List.pairwise_cons.1 hfar.2.1).1 p hp g (own_is.2 ho) hg
    · intro p hp
      exact h.base p (hsub p hp)
    · intro g ho
      exact h.base _ hmem g (own_is.2 ho)
/-- The second half. -/
theorem GHole.store {w'' : World} {A' : Option Addr} {len' cap' : Nat} {x : Rf × Cp} (h : GHole lo w b X κ A st m1 m2) (k : Keep (Own A) w w') (hAb : ¬ Own A b) (hx : x.2.root = κ) (hlo : lo ≤ w.heap.size)
    (hv : Vec w' 172 2 A' len' cap' (refs (grp (X ++ [x]) κ))) (hl : len' = (grp (X ++ [x]) κ).length) (hA' : ∀ g, Own A' g → Own A g ∨ g = w.heap.size)
    (hs : MapIs Tryz.prog 172 w'' b (m1 ++ (rval κ, .slice A' len' cap') :: m2)) (k2 : Keep (· = b) w' w'') : Grp lo w'' b (X ++ [x]) (m1 ++ (rval κ, .slice A' len' cap') :: m2) := by
  have hblt := h.is.lt
  have hA'b : ¬ Own A' b := fun ho => by
    rcases hA' b ho with h1 | h1
    · exact hAb h1
    · omega
  have hlt : ∀ p ∈ m1 ++ m2, ∀ g, p.2.ownBlock = some g → g < w.heap.size := by
    intro p hp g hg
    obtain ⟨κ', A0, len0, cap0, rfl, hv0, _⟩ := h.elem p hp
    exact hv0.lt g (own_is.1 hg)
  have hfarA' : ∀ p ∈ m1 ++ m2, ∀ g, p.2.ownBlock = some g → ¬ Own A' g := by
    intro p hp g hg ho
    rcases hA' g ho with h1 | h1
    · exact h.apart p hp g hg h1
    · have := hlt p hp g hg
      omega
  have hcase : ∀ p, p ∈ m1 ++ (rval κ, .slice A' len' cap') :: m2 → p = (rval κ, .slice A' len' cap') ∨ p ∈ m1 ++ m2 := by
    intro p hp
    rcases List.mem_append.1 hp with hp | hp
    · exact .inr (by simp [hp])
    · rcases List.mem_cons.1 hp with e | hp
      · exact .inl e
      · exact .inr (by simp [hp])
  refine ⟨hs, fun p hp => ?_, fun κ' hc => ?_, ?_, fun p hp g hg => ?_, h.lob⟩
  · rcases hcase p hp with rfl | hp
    · exact ⟨κ, A', len', cap', rfl, hv.keep k2 (fun g hg e => hA'b (e ▸ hg)), hl⟩
    · have he := ((h.elem p hp).keep k (h.apart p hp))
      have hb : p.2.ownBlock ≠ some b := by
        obtain ⟨κ', A0, len0, cap0, rfl, hv0, _⟩ := h.elem p hp
        intro e
        obtain ⟨cur, hc⟩ := hv0.blk (own_is.1 e)
        exact h.is.ne_blk hc rfl
      obtain ⟨κ', A0, len0, cap0, rfl, hv0, hl0⟩ := he.keep k2 (fun g hg e => hb (e ▸ hg))
      have hne : ¬ x.2.root = κ' := fun e => h.other _ hp (by rw [← hx, e])
      refine ⟨κ', A0, len0, cap0, rfl, ?_, ?_⟩
      · rw [grp_add, if_neg hne, List.append_nil]; exact hv0
      · rw [grp_add, if_neg hne, List.append_nil]; exact hl0
  · by_cases e : κ' = κ
    · subst e
      exact ⟨_, List.mem_append.2 (.inr (List.mem_cons_self ..))⟩
    · have : grp X κ' ≠ [] := by
        rw [grp_add, if_neg (fun e1 => e (by rw [← e1, hx])), List.append_nil] at hc
        exact hc
      obtain ⟨v, hv'⟩ := h.cover κ' e this
      rcases List.mem_append.1 hv' with hv' | hv'
      · exact ⟨v, by simp [hv']⟩
      · exact ⟨v, by simp [hv']⟩
  · have hfar := List.pairwise_append.1 h.far
    rw [List.pairwise_append]
    refine ⟨hfar.1, List.pairwise_cons.2 ⟨fun q hq g hg hg2 => hfarA' q (by simp [hq]) g hg2 (own_is.1 hg), hfar.2.1⟩, fun p hp q hq => ?_⟩
    rcases List.mem_cons.1 hq with rfl | hq
    · exact fun g hg hg2 => hfarA' p (by simp [hp]) g hg (own_is.1 hg2)
    · exact hfar.2.2 p hp q hq
  · rcases hcase p hp with rfl | hp
    · rcases hA' g (own_is.1 hg) with h1 | h1
      · exact h.baseA g h1
      · omega
    · exact h.base p hp g hg
end
section
variable {w : World} {ops : Array Oper} {rest : List Oper} {o : Oper} {a : Act} {Q : Exit → Act → World → Prop}
theorem wpList_grpEntry (hg : o.guard = none) (x i : Operand) (ho : o.op = .mapEntry 359 x i)
    {lo b : Nat} {X : List (Rf × Cp)} {m : List (Value × Value)} (hx : a.eval x = .map (some b)) (h : Grp lo w b X m) (κ : Rf) (hi : a.eval i = rval κ) (hw1 : (Lit.int .i64 κ.1).wf = true) (hw2 : (Lit.int .i64 κ.2).wf = true)
    (hK : ∀ A n cap st m1 m2 w', n = (grp X κ).length → Vec w' 172 2 A n cap (refs (grp X κ)) → GHole lo w' b X κ A st m1 m2 → ¬ Own A b → Keep (· = b) w w' → w'.heap.size = w.heap.size →
      wpList Tryz.prog ops Q rest (a.put o.dst (.tuple #[.slice A n cap, .int .i64 (st : Nat)])) w') : wpList Tryz.prog ops Q (o :: rest) a w := by
  obtain ⟨l, hkey⟩ := ref_key hw1 hw2
  refine wpList_mapEntry hg 359 x i ho 172 246 refLaw Tryz.underlying359 (slZero w) hx h.is (rval κ) hi hkey ?_
  intro v0 st m1 m2 w' hor hh hk hs
  obtain ⟨A, n, cap, rfl, h1, h2, h3, h4⟩ := h.entry hk hor hh
  exact hK A n cap st m1 m2 w' h2 h1 h3 h4 hk hs
theorem wpList_grpStore (hg : o.guard = none) (x i y : Operand) (ho : o.op = .entryStore 359 x i y)
    {lo b st : Nat} {X : List (Rf × Cp)} {m1 m2 : List (Value × Value)} {κ : Rf} {A A' : Option Addr} {n' cap' : Nat} {w0 : World} {z : Rf × Cp} (hx : a.eval x = .map (some b)) (h : GHole lo w0 b X κ A st m1 m2) (k : Keep (Own A) w0 w) (hAb : ¬ Own A b)
    (hi : a.eval i = .int .i64 (st : Nat)) (hy : a.eval y = .slice A' n' cap') (hz : z.2.root = κ) (hlo : lo ≤ w0.heap.size)
    (hv : Vec w 172 2 A' n' cap' (refs (grp (X ++ [z]) κ))) (hl : n' = (grp (X ++ [z]) κ).length) (hA' : ∀ g, Own A' g → Own A g ∨ g = w0.heap.size)
    (hK : ∀ w', (∃ m, Grp lo w' b (X ++ [z]) m) → Keep (· = b) w w' → w'.heap.size = w.heap.size → wpList Tryz.prog ops Q rest (a.put o.dst undef) w') : wpList Tryz.prog ops Q (o :: rest) a w := by
  have hh := h.is.keep k hAb
  refine wpList_entryStore hg 359 x i y ho 172 hx hh (.slice A' n' cap') hi hy ?_
  intro w' h1 h2 h3
  exact hK w' ⟨_, h.store k hAb hz hlo hv hl hA' h1 h2⟩ h2 h3
end
end Go.Proofs.YtifigjccokpcfaaGreat
namespace Go.Proofs.YtifigjccokpcfaaGreat
open Go.RowKit Go.MapKept
set_option linter.unusedVariables false
set_option linter.unusedSimpArgs false
theorem infoRef : (Tryz.prog.info? 172).map (fun i => (i.zero, i.size, i.bytes)) = some (some (.agg #[.int .i64 0, .int .i64 0]), 2, 16) := by kernel_rfl
theorem wf64 {x : Int} (h1 : -9223372036854775808 ≤ x) (h2 : x ≤ 9223372036854775807) : (Lit.int .i64 x).wf = true := WalkArith.wf_i64 (by omega)
theorem Inv.wfRef {T : St} {n : Nat} (I : Inv T n) {ρ : Rf} {c : Cp} (h : Has T n ρ c) : (Lit.int .i64 ρ.1).wf = true ∧ (Lit.int .i64 ρ.2).wf = true := by
  have := I.range h
  have := I.n40
  exact ⟨wf64 (by omega) (by omega), wf64 (by omega) (by omega)⟩
theorem Inv.wfRoot {T : St} {n : Nat} (I : Inv T n) {ρ : Rf} {c : Cp} (h : Has T n ρ c) : (Lit.int .i64 c.root.1).wf = true ∧ (Lit.int .i64 c.root.2).wf = true := by
  rcases I.root ρ c h with h1 | ⟨c', h1⟩
  · rw [h1]; exact ⟨by decide, by decide⟩
  · exact I.wfRef h1
set_option maxHeartbeats 4000000 in
theorem granted_is {w : World} {s B n : Nat} {p r : Nat → Nat} {T : St} (h : IsSp w s B n p r T) (I : Inv T n) :
    Calls Tryz.prog 266 #[.pointer (some ⟨s, 0, none⟩)] w fun e w' => ∃ b, e = .returned (.map (some b)) ∧ (∃ m, Grp w.heap.size w' b (all T n) m) ∧ Keep Nob w w' := by
  have hmm := @run_makeMap Tryz.prog
  have k0 := (Keep.refl Nob w).alloc (.map #[] 0)
  have h0 := h.nob k0
  have hc := h0.head
  have hn40 := I.n40
  have hG0 := Grp.new w
  go_enter Tryz.func266, Tryz.ntmps266
  go_wp2
  clear hmm hc h0
  go_loopw [16] (fun s wx => ∃ k : Nat, k ≤ n ∧ s = .int .i64 k ∧ (∃ m, Grp w.heap.size wx w.heap.size (all T k) m) ∧ Keep Nob w wx) (fun s _ => n - (intOf s).toNat)
  case atStart => exact ⟨0, Nat.zero_le _, rfl, ⟨[], hG0⟩, k0⟩
  case round =>
    obtain ⟨k, hk, rfl, hG, hK⟩ := hrel
    have hx := h.nob hK
    by_cases hlt : k < n
    · have hp := hx.ptr hlt
      have hnm := TabC.names_is (hx.tab k hlt)
      rw [List.length_map, ents_names _ k, List.length_map] at hnm
      have hEm := fun x => (ents_mem (L := T k) (e := k) (x := x) (T k).length).1
      have hall : all T (k + 1) = all T k ++ ents (T k) k (T k).length := rfl
      have hEl : (ents (T k) k (T k).length).length ≤ 32 := by have h1 := ents_le (T k) k (T k).length; have h2 := I.len k hlt; omega
      have hXl := all_le I.len k (by omega)
      generalize ents (T k) k (T k).length = E at hnm hEm hall hEl
      go_wp2_with fail
      refine hnm.mono ?_; rintro e w1 ⟨A, cap, rfl, hv, hk1⟩
      have hG1 : ∃ m, Grp w.heap.size w1 w.heap.size (all T k ++ E.take 0) m := by
        obtain ⟨m, hm⟩ := hG
        exact ⟨m, by rw [List.take_zero, List.append_nil]; exact hm.nob hk1⟩
      have hK1 := hK.nobt hk1
      clear hnm hK hx hp hk1 hG
      go_wp2
      go_loopw [24] (fun s wy => ∃ j : Nat, j ≤ E.length ∧ s = .int .i64 j ∧ (∃ m, Grp w.heap.size wy w.heap.size (all T k ++ E.take j) m) ∧ Vec wy 3 1 A E.length cap (ints (E.map (fun x => x.1.2))) ∧ Keep Nob w wy) (fun s _ => E.length - (intOf s).toNat)
      case atStart => exact ⟨0, Nat.zero_le _, rfl, hG1, hv, hK1⟩
      case round =>
        obtain ⟨j, hj, rfl, ⟨m, hG⟩, hv, hK⟩ := hrel
        by_cases hjl : j < E.length
        · obtain ⟨x, hxj⟩ : ∃ x, E[j]? = some x := ⟨_, List.getElem?_eq_getElem hjl⟩
          have htake : E.take (j + 1) = E.take j ++ [x] := by rw [List.take_add_one, hxj]; rfl
          obtain ⟨i, q, _, hq, ho, hxe⟩ := hEm x (List.mem_of_getElem? hxj)
          have hcell : ∃ g, A = some ⟨g, 0, none⟩ ∧ wr.cell? ⟨g, j, none⟩ = some (.int .i64 ((i : Int) + 256 * (q.gen : Int))) := by
            obtain ⟨g, cur, hA, hb, _, _, ht⟩ := hv.at_ (by omega)
            refine ⟨g, hA, ?_⟩
            rw [hb.cell]
            have e1 : (cur.take (E.length * 1))[j]? = (ints (E.map (fun x => x.1.2)))[j]? := by rw [ht]
            rw [List.getElem?_take, if_pos (by omega)] at e1
            rw [e1, ints_get, List.getElem?_map, hxj, hxe]
            rfl
          obtain ⟨g, rfl, hcell⟩ := hcell
          have hHas : Has T n x.1 x.2 := by
            refine ⟨k, i, q, by rw [hxe], hlt, hq, ho, by rw [hxe]⟩
          obtain ⟨hw1, hw2⟩ := I.wfRoot hHas
          rw [hxe] at hw1 hw2
          have hx := h.nob hK
          have hXl2 : (grp (all T k ++ E.take j) q.c.root).length ≤ 1280 := by
            have := grp_len (all T k ++ E.take j) q.c.root
            rw [List.length_append, List.length_take] at this
            omega
          go_wp2_with fail
          refine (TabC.get_yes q.c.obj q.c.rights q.c.lo q.c.n q.c.root.1 q.c.root.2 (hx.tab k hlt) (hx.cells hq) ho rfl rfl).mono ?_; rintro e W ⟨rfl, hkW⟩
          have hbl : Blk ((W.alloc (.cells #[.int .i64 q.c.obj, .int .i64 q.c.rights, .int .i64 q.c.lo, .int .i64 q.c.n, .int .i64 q.c.root.1, .int .i64 q.c.root.2] 174)).alloc (.cells #[.int .i64 k, .int .i64 ((i : Int) + 256 * (q.gen : Int))] 172)) (W.heap.size + 1) 172 [.int .i64 k, .int .i64 ((i : Int) + 256 * (q.gen : Int))] := by
            have := Blk.new (W.alloc (.cells #[.int .i64 q.c.obj, .int .i64 q.c.rights, .int .i64 q.c.lo, .int .i64 q.c.n, .int .i64 q.c.root.1, .int .i64 q.c.root.2] 174)) 172 [.int .i64 k, .int .i64 ((i : Int) + 256 * (q.gen : Int))]
            simpa using this
          have hkV : Keep Nob wr ((W.alloc (.cells #[.int .i64 q.c.obj, .int .i64 q.c.rights, .int .i64 q.c.lo, .int .i64 q.c.n, .int .i64 q.c.root.1, .int .i64 q.c.root.2] 174)).alloc (.cells #[.int .i64 k, .int .i64 ((i : Int) + 256 * (q.gen : Int))] 172)) := (hkW.alloc _).alloc _
          have hGV := hG.nob hkV
          have hlo : w.heap.size ≤ W.heap.size := Nat.le_trans hK.size hkW.size
          have hVs := hkV.size
          have hww := hK.size
          have Hbl := Lib.hid hbl
          clear hkW hG hx hbl
          go_wp2_with (first
            | (refine wpList_grpEntry rfl _ _ rfl rfl hGV q.c.root rfl hw1 hw2 ?_; intro A0 n0 c0 st m1 m2 w2 hn0' hv0 hH hAb hk2 _; have hnb : n0 ≤ 1280 := (by omega); have hn0 := Lib.hid hn0'; clear hn0')
            | (at_builtin; go_loud (refine wpList_ap rfl _ _ 246 rfl 172 2 16 (.agg #[.int .i64 0, .int .i64 0]) Tryz.underlying246 infoRef rfl (by decide) A0 n0 c0 _ rfl hv0 (some ⟨W.heap.size + 1, 0, none⟩) 1 1 [.int .i64 k, .int .i64 ((i : Int) + 256 * (q.gen : Int))] rfl 2 rfl (reads_all (Hbl.out.keep hk2 (by omega)) rfl) (by simp [Value.oneCell']) (by unfold maxLen; omega) (by omega) ?_); intro A1 c1 w3 hv1 hk3 ho1)
            | (refine wpList_grpStore rfl _ _ _ rfl rfl hH hk3 hAb rfl rfl (z := x) (by rw [hxe]) (Nat.le_trans hww (Nat.le_trans hVs hk2.size)) (by rw [grp_add, if_pos (by rw [hxe]), refs_append, hxe]; exact hv1) (by rw [grp_add, if_pos (by rw [hxe]), List.length_append, hn0.out]; rfl) ho1 ?_; intro w4 hG4 hk4 _))
          have hnA := hGV.is.ne_own (hv.nob hkV)
          have hv4 := (((hv.nob hkV).keep hk2 (fun g ho e => hnA (e ▸ ho))).farV hv0 (by decide) hk3).keep hk4 (fun g ho e => hnA (e ▸ ho))
          have hK4 := (((hK.nobt hkV).trans hk2 (fun b hb e => by omega)).trans hk3 (fun b hb ho => by have := hH.baseA b ho; omega)).trans hk4 (fun b hb e => by omega)
          rw [List.append_assoc, ← htake] at hG4
          go_roundw
          case rel => exact ⟨j + 1, by omega, by go_num, hG4, hv4, hK4⟩
          case measure => simp [intOf]; omega
        · obtain rfl : j = E.length := by omega
          rw [List.take_of_length_le (Nat.le_refl _), ← hall] at hG
          go_wp2
          go_roundw
          case rel => exact ⟨k + 1, by omega, by go_num, ⟨m, hG⟩, hK⟩
          case measure => simp [intOf]; omega
    · obtain rfl : k = n := by omega
      go_wp2
      go_ret
      exact ⟨_, rfl, hG, hK⟩
end Go.Proofs.YtifigjccokpcfaaGreat
namespace Go.Proofs.YtifigjccokpcfaaGreat
open Go.RowKit Go.MapKept
set_option linter.unusedVariables false
set_option linter.unusedSimpArgs false
/-- A set of Refs as entries. -/
def setM (F : List Rf) : List (Value × Value) := F.map fun ρ => (rval ρ, Value.agg #[])
theorem setM_add (F : List Rf) (ρ : Rf) : setM (F ++ [ρ]) = setM F ++ [(rval ρ, .agg #[])] := by simp [setM]
theorem setM_no {F : List Rf} {ρ : Rf} (h : ρ ∉ F) : ∀ p ∈ setM F, p.1 ≠ rval ρ := by
  intro p hp e
  obtain ⟨σ, hs, rfl⟩ := List.mem_map.1 hp
  exact h (rval_inj e ▸ hs)
def msize (w : World) (b : Nat) : Nat := match w.heap[b]? with
  | some (.map es _) => es.size
  | _ => 0
theorem MapIs.msize {P : Program} {k : TypeId} {w : World} {b : Nat} {m : List (Value × Value)} (h : MapIs P k w b m) : msize w b = m.length := by
  obtain ⟨es, clock, hb, _, _, rfl⟩ := h
  simp [YtifigjccokpcfaaGreat.msize, hb]
def lenOf : Value → Nat
  | .slice _ n _ => n
  | _ => 0
theorem Grp.above {lo b : Nat} {w w' : World} {X : List (Rf × Cp)} {m : List (Value × Value)} (h : Grp lo w b X m) (k : Keep (From w.heap.size) w w') : Grp lo w' b X m := by
  refine h.keep k (fun hm => by have := h.is.lt; have : w.heap.size ≤ b := hm; omega) (fun p hp g hg hm => ?_)
  obtain ⟨κ, A, len, cap, rfl, hv, _⟩ := h.elem p hp
  have := hv.lt g (own_is.1 hg)
  have : w.heap.size ≤ g := hm
  omega
theorem Vec.above {w w' : World} {e sz n cap : Nat} {A : Option Addr} {xs : List Value} (h : Vec w e sz A n cap xs) (k : Keep (From w.heap.size) w w') : Vec w' e sz A n cap xs :=
  h.keep k (fun g hg hm => by have := h.lt g hg; have : w.heap.size ≤ g := hm; omega)
/-- The first elements of a row of the call's own. -/
theorem Vec.cut {w : World} {n cap k : Nat} {A : Option Addr} {l l' : List Rf} (h : Vec w 172 2 A n cap (refs (l ++ l'))) (hk : k = l.length) : Vec w 172 2 A k cap (refs l) := by
  have hl := h.len
  rw [refs_len, List.length_append] at hl
  refine ⟨by rw [refs_len, hk], ?_⟩
  rcases h.2 with ⟨he, h0⟩ | ⟨g, cap', cur, he, hb, hg, h1, h2, h3, h4⟩
  · simp only [Value.slice.injEq] at he
    obtain ⟨rfl, h5, rfl⟩ := he
    have : k = 0 := by omega
    subst this
    exact .inl ⟨rfl, rfl⟩
  · simp only [Value.slice.injEq, true_and] at he
    obtain ⟨rfl, rfl⟩ := he
    refine .inr ⟨g, cap, cur, rfl, hb, hg, by omega, h2, h3, ?_⟩
    have e1 : (cur.toList.take (n * 2)).take (k * 2) = refs l := by
      rw [h4, refs_append, List.take_append_of_le_length (by rw [refs_len]; omega), List.take_of_length_le (by rw [refs_len]; omega)]
    rw [List.take_take, Nat.min_eq_left (by omega)] at e1
    exact e1
theorem wpList_grpLook {w : World} {ops : Array Oper} {rest : List Oper} {o : Oper} {a : Act} {Q : Exit → Act → World → Prop} (hg : o.guard = none) (x i : Operand) (ho : o.op = .lookup 359 x i false)
    {lo b : Nat} {X : List (Rf × Cp)} {m : List (Value × Value)} (hx : a.eval x = .map (some b)) (h : Grp lo w b X m) (κ : Rf) (hi : a.eval i = rval κ) (hw1 : (Lit.int .i64 κ.1).wf = true) (hw2 : (Lit.int .i64 κ.2).wf = true)
    (hK : ∀ A n cap, At m (rval κ) (.slice none 0 0) (.slice A n cap) → n = (grp X κ).length → wpList Tryz.prog ops Q rest (a.put o.dst (.slice A n cap)) w) : wpList Tryz.prog ops Q (o :: rest) a w := by
  obtain ⟨l, hkey⟩ := ref_key hw1 hw2
  refine wpList_mapLook hg 359 x i ho 172 246 refLaw Tryz.underlying359 (slZero w) hx h.is (rval κ) hi hkey ?_
  intro v hv
  obtain ⟨A, n, cap, rfl, _, h2, _⟩ := h.at_ hv
  exact hK A n cap hv h2
set_option maxRecDepth 100000 in
set_option maxHeartbeats 4000000 in
theorem find_is {w : World} {s B n : Nat} {p r : Nat → Nat} {T : St} (h : IsSp w s B n p r T) (I : Inv T n) (top : Rf) (ht : ∃ c, Has T n top c) :
    Calls Tryz.prog 232 #[.pointer (some ⟨s, 0, none⟩), .agg #[.int .i64 top.1, .int .i64 top.2]] w fun e w' => ∃ b F, e = .returned (.map (some b)) ∧ MapIs Tryz.prog 172 w' b (setM F) ∧ F.Nodup ∧ (∀ ρ, ρ ∈ F ↔ Desc T n top ρ) ∧ Keep Nob w w' := by
  have hmm := @run_makeMap Tryz.prog
  have k0 := (Keep.refl Nob w).alloc (.cells #[.int .i64 top.1, .int .i64 top.2] 172)
  have b0 : Blk (w.alloc (.cells #[.int .i64 top.1, .int .i64 top.2] 172)) w.heap.size 172 [.int .i64 top.1, .int .i64 top.2] := Blk.new w 172 [.int .i64 top.1, .int .i64 top.2]
  have h0 := h.nob k0
  have hn40 := I.n40
  have hN := all_le I.len n (Nat.le_refl _)
  go_enter Tryz.func232, Tryz.ntmps232
  go_wp2_with fail
  refine (granted_is h0 I).mono ?_; rintro e w1 ⟨bg, rfl, ⟨m, hG⟩, hk1⟩
  have b1 := b0.nob hk1
  have c0 := b1.cell 0
  have c1 := b1.cell 1
  simp only [List.getElem?_cons_zero, List.getElem?_cons_succ] at c0 c1
  have kk := k0.nobt hk1
  have hlt1 := b1.lt
  clear k0 b0 h0 hk1
  have hF0 : MapIs Tryz.prog 172 ((w1.alloc (.map #[] 0)).alloc (.cells #[.int .i64 top.1, .int .i64 top.2] 172)) w1.heap.size (setM []) := (MapIs.new w1).nob ((Keep.refl _ _).alloc _)
  have hW0 : Vec ((w1.alloc (.map #[] 0)).alloc (.cells #[.int .i64 top.1, .int .i64 top.2] 172)) 172 2 (some ⟨w1.heap.size + 1, 0, none⟩) 1 1 (refs [top]) := by
    have := Blk.new (w1.alloc (.map #[] 0)) 172 [.int .i64 top.1, .int .i64 top.2]
    have h2 : Blk ((w1.alloc (.map #[] 0)).alloc (.cells #[.int .i64 top.1, .int .i64 top.2] 172)) (w1.heap.size + 1) 172 [.int .i64 top.1, .int .i64 top.2] := by simpa using this
    exact Vec.of_blk h2 rfl (by unfold maxLen; omega)
  have hK0 : Keep (From w1.heap.size) w1 ((w1.alloc (.map #[] 0)).alloc (.cells #[.int .i64 top.1, .int .i64 top.2] 172)) := ((Keep.refl _ _).alloc _).alloc _
  go_wp2
  clear hmm c0 c1 b1
  go_loopw [7] (fun s7 wx => ∃ A W cap F, s7 = .slice A W.length cap ∧ Vec wx 172 2 A W.length cap (refs W) ∧ MapIs Tryz.prog 172 wx w1.heap.size (setM F) ∧ Work T n top W F ∧ Keep (From w1.heap.size) w1 wx ∧ (∀ g, Own A g → w1.heap.size ≤ g)) (fun s7 wx => 2 * ((all T n).length - msize wx w1.heap.size) + lenOf s7)
  case atStart => exact ⟨some ⟨w1.heap.size + 1, 0, none⟩, [top], 1, [], rfl, hW0, hF0, Work.start T n top, hK0, fun g ⟨a, ha, hb⟩ => by cases ha; simp at hb; omega⟩
  case round =>
    obtain ⟨A, W, cap, F, rfl, hW, hF, hwk, hK, hA⟩ := hrel
    by_cases hnil : W = []
    · subst hnil
      go_wp2
      go_ret
      exact ⟨_, F, rfl, hF, hwk.fnd, hwk.end_, kk.trans hK (fun b hb m => by have : w1.heap.size ≤ b := m; omega)⟩
    · obtain ⟨W', of, rfl⟩ : ∃ W' of, W = W' ++ [of] := ⟨W.dropLast, W.getLast hnil, (List.dropLast_concat_getLast hnil).symm⟩
      have hwl : (W' ++ [of]).length = W'.length + 1 := by simp
      rw [hwl] at hW
      have hof : (W' ++ [of])[W'.length]? = some of := by simp
      obtain ⟨g, rfl, c0, c1⟩ := hW.rf hof
      rw [hwl]
      have hwn := hwk.next I ht
      have hap := fun {σ} => hwk.apart I ht (σ := σ)
      have hkn := grp_nodup (all_nodup n I.len256) of
      have hkm := fun ρ => (kids_mem (T := T) (n := n) (κ := of) (ρ := ρ)).1
      have hofHas : ∃ c, Has T n of c := by
        rcases hwk.sub of (by simp) with e | e
        · rw [e]; exact ht
        · exact (hwk.desc of e).has
      obtain ⟨cof, hcof⟩ := hofHas
      obtain ⟨hw1, hw2⟩ := I.wfRef hcof
      obtain ⟨kl, hkey⟩ := ref_key hw1 hw2
      have hcutV := hW.cut (k := W'.length) rfl
      have hcapW : W'.length + 1 ≤ cap := by
        obtain ⟨_, _, _, _, hc, _⟩ := hW.at_ (by omega)
        exact hc
      have hle := hwn.le
      have hm0 : msize wr w1.heap.size = F.length := by rw [hF.msize]; simp [setM]
      have hKl : (kids T n of).length ≤ 1280 := by
        have := grp_len (all T n) of
        show (grp (all T n) of).length ≤ 1280
        omega
      have hWl := Nat.le_trans (nodup_le hwk.wnd (b := top :: F) (fun x hx => by rcases hwk.sub x hx with e | e <;> simp [e])) (Nat.succ_le_succ hwk.le)
      rw [hwl] at hWl
      have Hm := Lib.hid hm0
      have Hw := Lib.hid hwk
      have Hwn := Lib.hid hwn
      clear hwl hof hm0 hwk hwn
      go_wp2_with (first | (at_lookup; refine wpList_grpLook rfl _ _ rfl rfl ((hG.above hK).nob ((Keep.refl _ _).alloc _)) of rfl hw1 hw2 ?_; intro AK nK cK hat hnK'; have hnb : nK ≤ 1280 := (by rw [hnK']; exact hKl); have hnK := Lib.hid hnK'; clear hnK'))
      have hvK1 : Vec w1 172 2 AK nK cK (refs (kids T n of)) := by
        obtain ⟨A', n', c', e, hv, _⟩ := hG.at_ hat
        simp only [Value.slice.injEq] at e
        obtain ⟨rfl, rfl, rfl⟩ := e
        exact hv
      have hW2 := hcutV.nob ((Keep.refl Nob wr).alloc (.cells #[.int .i64 of.1, .int .i64 of.2] 172))
      have hF2 := hF.nob ((Keep.refl Nob wr).alloc (.cells #[.int .i64 of.1, .int .i64 of.2] 172))
      have hK2 := hK.alloc (.cells #[.int .i64 of.1, .int .i64 of.2] 172)
      clear hat c0 c1 hcutV hW hF hK hkey
      go_wp2
      go_loopw [7, 34] (fun s7 s34 wy => ∃ (j : Nat) (A1 : Option Addr) (cap1 : Nat), j ≤ nK ∧ s34 = .int .i64 j ∧ s7 = .slice A1 (W'.length + j) cap1 ∧ Vec wy 172 2 A1 (W'.length + j) cap1 (refs (W' ++ (kids T n of).take j)) ∧
        MapIs Tryz.prog 172 wy w1.heap.size (setM (F ++ (kids T n of).take j)) ∧ Keep (From w1.heap.size) w1 wy ∧ (∀ g, Own A1 g → w1.heap.size ≤ g)) (fun _ s34 _ => nK - (intOf s34).toNat)
      case atStart => exact ⟨0, _, _, Nat.zero_le _, rfl, rfl, by rw [List.take_zero, List.append_nil]; exact hW2, by rw [List.take_zero, List.append_nil]; exact hF2, hK2, hA⟩
      case round =>
        obtain ⟨j, A1, cap1, hj, rfl, rfl, hW3, hF3, hK3, hA3⟩ := hrel
        by_cases hjl : j < nK
        · have hvK3 := hvK1.above hK3
          have hjk : j < (kids T n of).length := by rw [← hnK.out]; exact hjl
          obtain ⟨ρ, hρ⟩ : ∃ ρ, (kids T n of)[j]? = some ρ := ⟨_, List.getElem?_eq_getElem hjk⟩
          have htake : (kids T n of).take (j + 1) = (kids T n of).take j ++ [ρ] := by rw [List.take_add_one, hρ]; rfl
          have hρm := List.mem_of_getElem? hρ
          obtain ⟨cρ, hcρ, _⟩ := hkm ρ hρm
          obtain ⟨hr1, hr2⟩ := I.wfRef hcρ
          obtain ⟨kl, hkey⟩ := ref_key hr1 hr2
          have hno : ρ ∉ F ++ (kids T n of).take j := by
            rw [List.mem_append, not_or]
            refine ⟨(hap hρm).1, fun hm => ?_⟩
            obtain ⟨i, hi1, hi2⟩ := List.mem_take_iff_getElem.1 hm
            have h1 : (kids T n of)[i] = (kids T n of)[j] := by rw [hi2]; exact (List.getElem?_eq_some_iff.1 hρ).2.symm
            have := (List.getElem_inj hkn).1 h1
            omega
          obtain ⟨gK, rfl, e0, e1⟩ := hvK3.rf hρ
          have hbn := Blk.new wr 172 [.int .i64 ρ.1, .int .i64 ρ.2]
          have hlt := hF3.lt
          have hWb : W'.length ≤ 1280 := by omega
          have hneW := hF3.ne_own hW3
          have Hbn := Lib.hid hbn
          clear hbn
          go_wp2_with (first
            | (at_mapUpdate; refine wpList_mapAdd rfl 332 _ _ _ rfl 172 257 refLaw Tryz.underlying332 rfl (hF3.nob ((Keep.refl _ _).alloc _)) (rval ρ) (.agg #[]) rfl rfl hkey (setM_no hno) ?_; intro w2 hF4 hk2 hs2; have hbN : Blk (w2.alloc (.cells #[.int .i64 ρ.1, .int .i64 ρ.2] 172)) (wr.heap.size + 1) 172 [.int .i64 ρ.1, .int .i64 ρ.2] := (by have h5 := Blk.new w2 172 [.int .i64 ρ.1, .int .i64 ρ.2]; rw [hs2] at h5; simpa using h5); have HbN := Lib.hid hbN; clear hbN; have hb2 := Hbn.out.keep hk2 (by omega); have d0 := hb2.cell 0; have d1 := hb2.cell 1; simp only [List.getElem?_cons_zero, List.getElem?_cons_succ] at d0 d1; clear hb2)
            | (at_builtin; go_loud (refine wpList_ap rfl _ _ 246 rfl 172 2 16 (.agg #[.int .i64 0, .int .i64 0]) Tryz.underlying246 infoRef rfl (by decide) A1 (W'.length + j) cap1 _ rfl (((hW3.nob ((Keep.refl Nob wr).alloc _)).keep hk2 (fun g ho e => hneW (e ▸ ho))).nob ((Keep.refl Nob w2).alloc _)) (some ⟨wr.heap.size + 1, 0, none⟩) 1 1 [.int .i64 ρ.1, .int .i64 ρ.2] rfl 2 rfl (reads_all HbN.out rfl) (by simp [Value.oneCell']) (by unfold maxLen; omega) (by omega) ?_); intro A2 c2 w3 hv2 hk3 ho2))
          have hs2' : wr.heap.size ≤ w2.heap.size := Nat.le_trans (Nat.le_succ _) (by have := hk2.size; simpa using this)
          have hlt2 := hF4.lt
          have hne4 := hF4.ne_own ((hW3.nob ((Keep.refl Nob wr).alloc (.cells #[.int .i64 ρ.1, .int .i64 ρ.2] 172))).keep hk2 (fun g ho e => hneW (e ▸ ho)))
          have hF5 := (hF4.nob ((Keep.refl Nob w2).alloc (.cells #[.int .i64 ρ.1, .int .i64 ρ.2] 172))).keep hk3 hne4
          have hK5 := (((hK3.alloc (.cells #[.int .i64 ρ.1, .int .i64 ρ.2] 172)).trans hk2 (fun b hb e => by have h9 : w1.heap.size ≤ b := (by omega); exact h9)).alloc (.cells #[.int .i64 ρ.1, .int .i64 ρ.2] 172)).trans hk3 (fun b hb ho => hA3 b ho)
          have hl1 := hK3.size
          rw [← setM_add, List.append_assoc, ← htake] at hF5
          have hv3 : Vec w3 172 2 A2 (W'.length + (j + 1)) c2 (refs (W' ++ (kids T n of).take (j + 1))) := by
            rw [htake, ← List.append_assoc, refs_append]
            exact hv2
          go_roundw
          case rel => exact ⟨j + 1, A2, c2, by omega, by go_num, rfl, hv3, hF5, hK5, fun g hg => by
            rcases ho2 g hg with h1 | h1
            · exact hA3 g h1
            · rw [h1]; simp; omega⟩
          case measure => simp [intOf]; omega
        · obtain rfl : j = nK := by omega
          rw [List.take_of_length_le (by rw [← hnK.out]; exact Nat.le_refl _)] at hW3 hF3
          go_wp2
          go_roundw
          case rel => exact ⟨A1, W' ++ kids T n of, cap1, F ++ kids T n of, by rw [List.length_append, ← hnK.out], by rw [List.length_append, ← hnK.out]; exact hW3, hF3, Hwn.out, hK3, hA3⟩
          case measure =>
            rw [hF3.msize, Hm.out]
            simp [lenOf, setM]
            have h1 := hle
            have h2 : j = (kids T n of).length := hnK.out
            simp at h1
            omega
end Go.Proofs.YtifigjccokpcfaaGreat
namespace Go.Proofs.YtifigjccokpcfaaGreat
open Go.RowKit Go.MapKept
set_option linter.unusedVariables false
set_option linter.unusedSimpArgs false
section
variable {P : Program} {w : World} {ops : Array Oper} {rest : List Oper} {o : Oper} {a : Act} {Q : Exit → Act → World → Prop}
/-- make([]T, 0, n). -/
theorem wpList_mk0 (hgd : o.guard = none) (l c : Operand) (t : TypeId) (ho : o.op = .makeSlice t l c)
    (e : TypeId) (z : Value) (by_ : Nat) (ht : P.underlying t = some (.slice e)) (hinfo : (P.info? e).map (fun i => (i.zero, i.size, i.bytes)) = some (some z, z.cells.size, by_))
    (kl kc : IntKind) (n : Nat) (L : Int) (hL : L = n) (hl : a.eval l = .int kl 0) (hc : a.eval c = .int kc L) (hb : by_ * n ≤ 281474976710656) (h63 : n ≤ maxLen)
    (h : ∀ w', Vec w' e z.cells.size (some ⟨w.heap.size, 0, none⟩) 0 n [] → Keep Nob w w' → wpList P ops Q rest (a.put o.dst (.slice (some ⟨w.heap.size, 0, none⟩) 0 n)) w') :
    wpList P ops Q (o :: rest) a w := by
  subst hL
  refine wpList_plain hgd fun K hK => ?_
  obtain ⟨i, hi, hzz⟩ := Option.map_eq_some_iff.1 hinfo
  simp only [Prod.mk.injEq] at hzz
  obtain ⟨hz, hs, hby⟩ := hzz
  have hrun := run_make (P := P) w t e i z ht hi hz kl kc 0 n (by omega) (by omega) (by
    have h : ((by_ * n : Nat) : Int) ≤ 281474976710656 := by omega
    rw [hby]
    rwa [Int.natCast_mul] at h) (by unfold maxLen at h63; omega)
  simp only [Int.toNat_natCast, Int.toNat_zero, hs] at hrun
  have hbk : Blk (w.alloc (.cells (madeCells z.cells (n * z.cells.size)) e)) w.heap.size e (madeCells z.cells (n * z.cells.size)).toList := by
    have := Blk.new w e (madeCells z.cells (n * z.cells.size)).toList
    rwa [Array.toArray_toList] at this
  have hh := h (w.alloc (.cells (madeCells z.cells (n * z.cells.size)) e)) (by
    refine ⟨by simp, .inr ⟨w.heap.size, n, madeCells z.cells (n * z.cells.size), rfl, Nat.zero_le _, ?_, Nat.zero_le _, h63, by rw [size_madeCells], by simp⟩⟩
    have h1 := hbk
    unfold Blk at h1
    simpa using h1) ((Keep.refl _ w).alloc _)
  unfold Oper.wp
  simp [execOp, ho, hl, hc, hrun, Result.andThen]
  exact hK _ _ hh
theorem Ranging.left_eq {k : TypeId} {b r : Nat} {m left : List (Value × Value)} (h : Ranging P k w b r m left) : w.rangeLeft b r = left.length := by
  obtain ⟨es, clock, since, seen, c0, hb, _, _, _, hr, _, rfl, _⟩ := h
  simp [World.rangeLeft, hb, hr]
/-- The step of a range over a set of Refs. -/
theorem wpList_setNext (hg : o.guard = none) (it : Operand) (ho : o.op = .next it false) (k : TypeId) {b r : Nat} {m left : List (Value × Value)} (hit : a.eval it = .pointer (some ⟨r, 0, none⟩)) (h : Ranging P k w b r m left)
    (hs : ∀ p ∈ left, ∃ ρ : Rf, p = (rval ρ, .agg #[]))
    (hDone : left = [] → wpList P ops Q rest (a.put o.dst (.tuple #[.bool false])) w)
    (hMore : ∀ (ρ : Rf) left' w', left.Perm ((rval ρ, .agg #[]) :: left') → Ranging P k w' b r m left' → Keep (· = r) w w' → w'.heap.size = w.heap.size → (Instr.entry (.pointer (some ⟨r, 0, none⟩))).run P w' = .ok (.tuple #[.agg #[.int .i64 ρ.1, .int .i64 ρ.2], .agg #[]]) w' →
      wpList P ops Q rest (a.put o.dst (.tuple #[.bool true, .agg #[.int .i64 ρ.1, .int .i64 ρ.2], .agg #[]])) w') : wpList P ops Q (o :: rest) a w := by
  refine wpList_mapNext hg it ho k hit h hDone ?_
  intro key v left' w' hp h1 h2 h3 h4
  obtain ⟨ρ, e⟩ := hs (key, v) (hp.mem_iff.2 (by simp))
  simp only [Prod.mk.injEq] at e
  obtain ⟨rfl, rfl⟩ := e
  exact hMore ρ left' w' hp h1 h2 h3 h4
end
def unref (p : Value × Value) : Rf := match p.1 with
  | .agg cs => match cs.toList with
    | [.int _ x, .int _ y] => (x, y)
    | _ => (0, 0)
  | _ => (0, 0)
theorem unref_set : ∀ l : List Rf, (setM l).map unref = l
  | [] => rfl
  | x :: l => by
    have := unref_set l
    unfold setM at this ⊢
    rw [List.map_cons, List.map_cons, this]
    rfl
theorem setM_perm {a b : List Rf} (h : (setM a).Perm (setM b)) : a.Perm b := by
  have h2 := h.map unref
  rwa [unref_set, unref_set] at h2
set_option maxRecDepth 100000 in
set_option maxHeartbeats 4000000 in
theorem under_yes {w : World} {s B n : Nat} {p r : Nat → Nat} {T : St} {a b : Int} (h : IsSp w s B n p r T) (I : Inv T n) (c : Cp) (hc : Has T n (a, b) c) :
    Calls Tryz.prog 160 #[.pointer (some ⟨s, 0, none⟩), .int .i64 a, .int .i64 b] w fun e w' => ∃ A cap U, e = .returned (.tuple #[.slice A U.length cap, .int .i64 0]) ∧ U.Nodup ∧ (∀ ρ, ρ ∈ U ↔ Desc T n (a, b) ρ) ∧ U.Pairwise (fun x y => ¬ ltR y x) ∧ Vec w' 172 2 A U.length cap (refs U) ∧ Keep Nob w w' := by
  have hn40 := I.n40
  have hN := all_le I.len n (Nat.le_refl _)
  go_enter Tryz.func160, Tryz.ntmps160
  go_wp2_with fail
  refine (sget_yes h c hc).mono ?_; rintro e w1 ⟨rfl, hk1⟩
  unfold cval
  have k2 := hk1.alloc (.cells #[.int .i64 c.obj, .int .i64 c.rights, .int .i64 c.lo, .int .i64 c.n, .int .i64 c.root.1, .int .i64 c.root.2] 174)
  go_wp2_with fail
  refine (find_is (h.nob k2) I (a, b) ⟨c, hc⟩).mono ?_; rintro e w2 ⟨bf, F, rfl, hF, hnd, hmem, hk3⟩
  have k4 := k2.nobt hk3
  have hFl : F.length ≤ 1280 := by
    have h1 : ∀ ρ ∈ F, ρ ∈ (all T n).map (·.1) := fun ρ hr => by
      obtain ⟨c', hc'⟩ := ((hmem ρ).1 hr).has
      exact List.mem_map.2 ⟨(ρ, c'), (all_mem n).2 hc', rfl⟩
    have := nodup_le hnd h1
    rw [List.length_map] at this
    omega
  have hFs : (setM F).length = F.length := by simp [setM]
  have HFs := Lib.hid hFs
  clear hFs k2 hk3 hk1
  go_wp2_with (first
    | (at_len; go_loud (refine wpList_mapLen rfl _ 332 rfl 172 257 Tryz.underlying332 rfl hF ?_); go_loud (rw [HFs.out]))
    | (refine wpList_mk0 rfl _ _ 246 rfl 172 (.agg #[.int .i64 0, .int .i64 0]) 16 Tryz.underlying246 infoRef .i64 .i64 F.length _ rfl rfl rfl (by omega) (by unfold maxLen; omega) ?_; intro w3 hV3 hk5; have hF3 := hF.nob hk5)
    | (at_range; refine wpList_mapRange rfl 332 _ rfl 172 257 Tryz.underlying332 rfl hF3 ?_; intro w4 hR4 hk6 hs6))
  have hV4 := hV3.nob hk6
  have hlo : w.heap.size ≤ w2.heap.size := k4.size
  have hlt3 := hV3.lt w2.heap.size ⟨_, rfl, rfl⟩
  have k6 := (k4.nobt hk5).nobt hk6
  go_frame
  go_loopw [11] (fun s11 wx => ∃ acc left g cap, s11 = .slice (some ⟨g, 0, none⟩) acc.length cap ∧ Vec wx 172 2 (some ⟨g, 0, none⟩) acc.length cap (refs acc) ∧ Ranging Tryz.prog 172 wx bf w3.heap.size (setM F) left ∧ (setM acc ++ left).Perm (setM F) ∧ Keep Nob w wx ∧ w.heap.size ≤ g) (fun _ wx => wx.rangeLeft bf w3.heap.size)
  case atStart => exact ⟨[], setM F, _, _, rfl, hV4, hR4, List.Perm.refl _, k6, hlo⟩
  case round =>
    obtain ⟨acc, left, g, cap, rfl, hV, hR, hp, hK, hA⟩ := hrel
    have hshape : ∀ p ∈ left, ∃ ρ : Rf, p = (rval ρ, .agg #[]) := by
      intro p hp'
      have h1 : p ∈ setM F := hp.mem_iff.1 (List.mem_append.2 (.inr hp'))
      obtain ⟨ρ, _, e⟩ := List.mem_map.1 h1
      exact ⟨ρ, e.symm⟩
    have hlen := hp.length_eq
    rw [List.length_append] at hlen
    have hal : acc.length ≤ 1280 := by
      have h1 : (setM acc).length = acc.length := by simp [setM]
      have h2 := HFs.out
      omega
    have Hp := Lib.hid hp
    have hneR := hR.ne_own hV
    clear hp hlen
    go_wp2_with (first
      | (at_next; refine wpList_setNext rfl _ rfl 172 rfl hR hshape (fun hl0 => ?_) (fun ρ left' w5 hpl hR5 hk7 hs7 hen => ?_) <;> (try clear hs7))
      | (at_builtin; go_loud (refine wpList_ap rfl _ _ 246 rfl 172 2 16 (.agg #[.int .i64 0, .int .i64 0]) Tryz.underlying246 infoRef rfl (by decide) (some ⟨g, 0, none⟩) acc.length cap _ rfl (((hV.keep hk7 (fun g ho e => hneR (e ▸ ho))).nob ((Keep.refl Nob w5).alloc (.cells #[.int .i64 ρ.1, .int .i64 ρ.2] 172))).nob ((Keep.refl Nob _).alloc (.cells #[.int .i64 ρ.1, .int .i64 ρ.2] 172))) (some ⟨w5.heap.size + 1, 0, none⟩) 1 1 [.int .i64 ρ.1, .int .i64 ρ.2] rfl 2 rfl (reads_all (t := 172) (by have h5 := Blk.new (w5.alloc (.cells #[.int .i64 ρ.1, .int .i64 ρ.2] 172)) 172 [.int .i64 ρ.1, .int .i64 ρ.2]; simpa using h5) rfl) (by simp [Value.oneCell']) (by unfold maxLen; omega) (by omega) ?_); intro A2 c2 w6 hv2 hk8 ho2))
    · subst hl0
      have hperm : acc.Perm F := setM_perm (by have := Hp.out; rwa [List.append_nil] at this)
      refine (sort_is hV (by omega)).mono ?_; rintro e w7 ⟨rfl, U, hU1, hU2, hU3, hk9⟩
      have hUl := hU1.length_eq
      have K9 := hK.trans hk9 (fun b hb e => by omega)
      have HUl := Lib.hid hUl
      clear hUl
      go_wp2
      go_ret2
      exact ⟨_, cap, U, by rw [HUl.out]; rfl, (hU1.trans hperm).nodup_iff.2 hnd, fun ρ => ((hU1.trans hperm).mem_iff).trans (hmem ρ), hU2, by rw [HUl.out]; exact hU3, K9⟩
    · have hR6 := (hR5.keep (((Keep.refl Nob w5).alloc (.cells #[.int .i64 ρ.1, .int .i64 ρ.2] 172)).alloc (.cells #[.int .i64 ρ.1, .int .i64 ρ.2] 172)) (fun f => f) (fun f => f)).keep hk8 (hR.is.ne_own hV) hneR
      have hl := hpl.length_eq
      have hlt7 := hR5.is.lt
      have hlr := hR.lt
      have hws := hK.size
      have hkk := hk7.size
      have hw3 := (k4.nobt hk5).size
      have K6 := (((hK.trans hk7 (fun b hb e => by omega)).alloc (.cells #[.int .i64 ρ.1, .int .i64 ρ.2] 172)).alloc (.cells #[.int .i64 ρ.1, .int .i64 ρ.2] 172)).trans hk8 (fun b hb ⟨a, ha, hb2⟩ => by cases ha; simp at hb2; omega)
      obtain ⟨g2, _, hA2, _⟩ := hv2.at_ (Nat.succ_pos _)
      subst hA2
      have hg2 : w.heap.size ≤ g2 := by
        rcases ho2 g2 ⟨_, rfl, rfl⟩ with ⟨a, ha, hb2⟩ | h1
        · cases ha; simp at hb2; omega
        · rw [h1]; simp; omega
      have hp6 : (setM (acc ++ [ρ]) ++ left').Perm (setM F) := by
        rw [setM_add, List.append_assoc]
        exact (hpl.symm.append_left _).trans Hp.out
      have hv6 : Vec w6 172 2 (some ⟨g2, 0, none⟩) (acc.length + 1) c2 (refs (acc ++ [ρ])) := by rw [refs_append]; exact hv2
      refine ⟨⟨acc ++ [ρ], left', g2, c2, by simp, by rw [List.length_append]; exact hv6, hR6, hp6, K6, hg2⟩, ?_⟩
      rw [hR6.left_eq, hR.left_eq]
      simp at hl
      omega
end Go.Proofs.YtifigjccokpcfaaGreat
namespace Go.Proofs.YtifigjccokpcfaaGreat
open Go.RowKit
set_option linter.unusedVariables false
set_option linter.unusedSimpArgs false
/-- The Refs of l are gone. -/
def goneQ (l : List Rf) (e i : Nat) (q : Q) : Q := if q.on = true ∧ ((e : Int), (i : Int) + 256 * (q.gen : Int)) ∈ l then ⟨q.gen + 1, false, zcap⟩ else q
def gone (T : St) (l : List Rf) : St := fun e => (T e).mapIdx (goneQ l e)
theorem gone_get {T : St} {l : List Rf} {e i : Nat} : (gone T l e)[i]? = ((T e)[i]?).map (goneQ l e i) := by simp [gone]
theorem gone_nil (T : St) : gone T [] = T := by
  funext e
  apply List.ext_getElem?
  intro i
  rw [gone_get]
  cases (T e)[i]? <;> simp [goneQ]
theorem gone_len (T : St) (l : List Rf) (e : Nat) : (gone T l e).length = (T e).length := by simp [gone]
theorem gone_has {T : St} {n : Nat} {l : List Rf} {ρ : Rf} {c : Cp} : Has (gone T l) n ρ c ↔ Has T n ρ c ∧ ρ ∉ l := by
  constructor
  · rintro ⟨e, i, q, h1, h2, h3, h4, h5⟩
    rw [gone_get] at h3
    obtain ⟨q0, hq0, rfl⟩ := Option.map_eq_some_iff.1 h3
    unfold goneQ at h1 h4 h5
    split at h4
    · cases h4
    · rename_i hn
      rw [if_neg hn] at h1 h5
      exact ⟨⟨e, i, q0, h1, h2, hq0, h4, h5⟩, fun hm => hn ⟨h4, h1 ▸ hm⟩⟩
  · rintro ⟨⟨e, i, q, h1, h2, h3, h4, h5⟩, hn⟩
    have : goneQ l e i q = q := by
      unfold goneQ
      rw [if_neg (fun hm => hn (h1 ▸ hm.2))]
    exact ⟨e, i, q, h1, h2, by rw [gone_get, h3]; exact congrArg some this, h4, h5⟩
theorem gone_up {T : St} {n : Nat} {l : List Rf} {e i : Nat} {q : Q} (hl : ∀ e, e < n → (T e).length ≤ 256) (he : e < n) (hq : (T e)[i]? = some q) (ho : q.on = true) (hn : ((e : Int), (i : Int) + 256 * (q.gen : Int)) ∉ l) :
    up (gone T l) e i ⟨q.gen + 1, false, zcap⟩ = gone T (l ++ [((e : Int), (i : Int) + 256 * (q.gen : Int))]) := by
  funext j
  unfold up
  by_cases hj : j = e
  · subst hj
    rw [if_pos rfl]
    apply List.ext_getElem?
    intro k
    rw [List.getElem?_set, gone_get, gone_get, gone_len]
    by_cases hk : i = k
    · subst hk
      rw [if_pos rfl, if_pos (get_lt hq), hq]
      simp [goneQ, ho]
    · rw [if_neg hk]
      cases hT : (T j)[k]? with
      | none => rfl
      | some y =>
        simp only [Option.map_some, Option.some.injEq]
        unfold goneQ
        have hne : ((j : Int), (k : Int) + 256 * (y.gen : Int)) ≠ ((j : Int), (i : Int) + 256 * (q.gen : Int)) := by
          intro e1
          have h1 := congrArg Prod.snd e1
          have h2 := get_lt hT
          have h3 := get_lt hq
          have h4 := hl j he
          simp only at h1
          omega
        simp [hne]
  · rw [if_neg hj]
    apply List.ext_getElem?
    intro k
    rw [gone_get, gone_get]
    cases hT : (T j)[k]? with
    | none => rfl
    | some y =>
      simp only [Option.map_some, Option.some.injEq]
      unfold goneQ
      have hne : ((j : Int), (k : Int) + 256 * (y.gen : Int)) ≠ ((e : Int), (i : Int) + 256 * (q.gen : Int)) := by
        intro e1
        have h1 := congrArg Prod.fst e1
        simp only at h1
        omega
      simp [hne]
theorem Inv.gone {T : St} {n : Nat} (I : Inv T n) {top : Rf} {l : List Rf} (hl : ∀ ρ, ρ ∈ l ↔ Desc T n top ρ) (ht : ∃ c, Has T n top c) : Inv (gone T (top :: l)) n := by
  refine ⟨I.n40, fun e he => by rw [gone_len]; exact I.len e he, ?_, ?_, ?_, ?_⟩
  · intro e i q he hq
    rw [gone_get] at hq
    obtain ⟨q0, hq0, rfl⟩ := Option.map_eq_some_iff.1 hq
    have := I.gen e i q0 he hq0
    unfold goneQ
    split
    · exact ⟨Nat.succ_pos _, fun h => by cases h⟩
    · exact this
  · intro ρ c h
    exact I.cap ρ c (gone_has.1 h).1
  · intro ρ c h
    obtain ⟨h1, h2⟩ := gone_has.1 h
    rcases I.root ρ c h1 with h3 | ⟨c', h3⟩
    · exact .inl h3
    · refine .inr ⟨c', gone_has.2 ⟨h3, fun hm => h2 ?_⟩⟩
      rcases List.mem_cons.1 hm with e | hm
      · exact List.mem_cons_of_mem _ ((hl ρ).2 (.child h1 e))
      · exact List.mem_cons_of_mem _ ((hl ρ).2 (.step ((hl _).1 hm) h1 rfl))
  · obtain ⟨rk, hrk⟩ := I.rank
    exact ⟨rk, fun ρ c h h0 => hrk ρ c (gone_has.1 h).1 h0⟩
theorem drop_is {w : World} {s B n : Nat} {p r : Nat → Nat} {T : St} {l : List Rf} {e : Nat} {b : Int} {c : Cp} (h : IsSp w s B n p r (gone T l)) (I : Inv T n) (hh : Has T n ((e : Int), b) c) (hn : ((e : Int), b) ∉ l) :
    Calls Tryz.prog 161 #[.pointer (some ⟨p e, 0, none⟩), .int .i64 b] w fun e' w' => e' = .returned (.bool true) ∧ IsSp w' s B n p r (gone T (l ++ [((e : Int), b)])) ∧ Keep (· = r e) w w' := by
  obtain ⟨e1, i, q, h1, he, hq, ho, hc⟩ := hh
  have ha := congrArg Prod.fst h1
  have hb := congrArg Prod.snd h1
  simp only at ha hb
  obtain rfl : e = e1 := by omega
  subst hb
  have hg : (gone T l e)[i]? = some q := by
    rw [gone_get, hq]
    have : goneQ l e i q = q := by
      unfold goneQ
      rw [if_neg (fun hm => hn hm.2)]
    exact congrArg some this
  have g := (I.gen e i q he hq).2 ho
  refine (TabC.drop_yes (h.tab e he) (h.cells hg) ho rfl g).mono ?_
  rintro e' w' ⟨rfl, ht, hk, _⟩
  refine ⟨rfl, ?_, hk⟩
  have := h.put (q := ⟨q.gen + 1, false, zcap⟩) he hk ht
  rwa [gone_up I.len256 he hq ho hn] at this
theorem Has.env {T : St} {n : Nat} {ρ : Rf} {c : Cp} (h : Has T n ρ c) : ∃ e : Nat, e < n ∧ ρ = ((e : Int), ρ.2) := by
  obtain ⟨e, i, q, h1, he, _⟩ := h
  exact ⟨e, he, by rw [h1]⟩
theorem Keep.rows {n : Nat} {r : Nat → Nat} {e : Nat} {w w' : World} (he : e < n) (k : Keep (· = r e) w w') : Keep (Rows_ n r) w w' := k.mono (fun _ _ e1 => ⟨e, he, e1⟩)
set_option maxRecDepth 100000 in
set_option maxHeartbeats 4000000 in
theorem revoke_yes {w : World} {s B n : Nat} {p r : Nat → Nat} {T : St} {a b : Int} (h : IsSp w s B n p r T) (I : Inv T n) (c : Cp) (hc : Has T n (a, b) c) :
    Calls Tryz.prog 84 #[.pointer (some ⟨s, 0, none⟩), .int .i64 a, .int .i64 b] w fun e w' => ∃ U : List Rf, e = .returned (.tuple #[.int .i64 (1 + (U.length : Int)), .int .i64 0]) ∧ U.Nodup ∧ (∀ ρ, ρ ∈ U ↔ Desc T n (a, b) ρ) ∧
      IsSp w' s B n p r (gone T ((a, b) :: U)) ∧ Inv (gone T ((a, b) :: U)) n ∧ Keep (Rows_ n r) w w' := by
  have hn40 := I.n40
  have hN := all_le I.len n (Nat.le_refl _)
  go_enter Tryz.func84, Tryz.ntmps84
  go_wp2_with fail
  refine (under_yes h I c hc).mono ?_; rintro e w1 ⟨A, cap, U, rfl, hnd, hmem, _, hv, hk1⟩
  have hUl : U.length ≤ 1280 := by
    have h1 : ∀ ρ ∈ U, ρ ∈ (all T n).map (·.1) := fun ρ hr => by
      obtain ⟨c', hc'⟩ := ((hmem ρ).1 hr).has
      exact List.mem_map.2 ⟨(ρ, c'), (all_mem n).2 hc', rfl⟩
    have := nodup_le hnd h1
    rw [List.length_map] at this
    omega
  have h1 := h.nob hk1
  rw [← gone_nil T] at h1
  obtain ⟨e, he, hae⟩ := hc.env
  have ha := congrArg Prod.fst hae
  simp only at ha
  clear hae
  subst ha
  have hdr := drop_is h1 I hc (by simp)
  have hp := h1.ptr he
  have hh := h1.head
  go_wp2_with fail
  refine hdr.mono ?_; rintro e' w2 ⟨rfl, h2, hk2⟩
  have hv2 := hv.far (h1.tab e he).row (by decide) hk2
  have K2 := (hk1.mono (M' := Rows_ n r) (fun _ _ f => f.elim)).trans (hk2.rows he) (fun _ _ m => m)
  have htop : ((e : Int), b) ∉ U := fun hm => by
    obtain ⟨rk, hrk⟩ := I.rank
    have key : ∀ τ, Desc T n ((e : Int), b) τ → rk ((e : Int), b) < rk τ := by
      intro τ hd
      induction hd with
      | child h1 h2 =>
        have := hrk _ _ h1 (by rw [h2]; exact I.not0 hc)
        rwa [h2] at this
      | step h1 h2 h3 ih =>
        obtain ⟨c', hc'⟩ := h1.has
        have := hrk _ _ h2 (by rw [h3]; exact I.not0 hc')
        rw [h3] at this
        omega
    have := key _ ((hmem _).1 hm)
    omega
  clear hdr hp hh hk2 hv h1
  go_wp2
  go_loopw [33] (fun s33 wx => ∃ j : Nat, j ≤ U.length ∧ s33 = .int .i64 j ∧ IsSp wx s B n p r (gone T (((e : Int), b) :: U.take j)) ∧ Vec wx 172 2 A U.length cap (refs U) ∧ Keep (Rows_ n r) w wx) (fun s33 _ => U.length - (intOf s33).toNat)
  case atStart => exact ⟨0, Nat.zero_le _, rfl, h2, hv2, K2⟩
  case round =>
    obtain ⟨j, hj, rfl, hx, hv, hK⟩ := hrel
    by_cases hjl : j < U.length
    · obtain ⟨ρ, hρ⟩ : ∃ ρ, U[j]? = some ρ := ⟨_, List.getElem?_eq_getElem hjl⟩
      have htake : U.take (j + 1) = U.take j ++ [ρ] := by rw [List.take_add_one, hρ]; rfl
      have hρm := List.mem_of_getElem? hρ
      obtain ⟨cρ, hcρ⟩ := ((hmem ρ).1 hρm).has
      have hno : ρ ∉ ((e : Int), b) :: U.take j := by
        rw [List.mem_cons, not_or]
        refine ⟨fun e1 => htop (e1 ▸ hρm), fun hm => ?_⟩
        obtain ⟨i, hi1, hi2⟩ := List.mem_take_iff_getElem.1 hm
        have h1 : U[i] = U[j] := by rw [hi2]; exact (List.getElem?_eq_some_iff.1 hρ).2.symm
        have := (List.getElem_inj hnd).1 h1
        omega
      obtain ⟨g, rfl, e0, e1⟩ := hv.rf hρ
      obtain ⟨f, hf, hρe⟩ := hcρ.env
      obtain ⟨ρ1, ρ2⟩ := ρ
      have hρ1 := congrArg Prod.fst hρe
      simp only at hρ1 e0 e1
      clear hρe
      subst hρ1
      have kV := (Keep.refl Nob wr).alloc (.cells #[.int .i64 f, .int .i64 ρ2] 172)
      have bV := Blk.new wr 172 [.int .i64 f, .int .i64 ρ2]
      have hV := hx.nob kV
      have hrow := (hV.tab f hf).row
      have hrlt := (hx.tab f hf).row.lt
      have n1 := hV.obj.ne_ hrow (by decide)
      have n2 := hV.row.ne_ hrow (by decide)
      have sf : ∀ W, Keep (· = r f) (wr.alloc (.cells #[.int .i64 f, .int .i64 ρ2] 172)) W → (W.cell? ⟨s, 0, none⟩ = some (.slice (some ⟨B, 0, none⟩) n n) ∧ W.cell? ⟨B, f, none⟩ = some (.pointer (some ⟨p f, 0, none⟩)) ∧ W.cell? ⟨wr.heap.size, 0, none⟩ = some (.int .i64 f) ∧ W.cell? ⟨wr.heap.size, 1, none⟩ = some (.int .i64 ρ2)) := by
        intro W k
        have b := bV.keep k (by omega)
        exact ⟨(hV.obj.keep k n1).cell 0, by rw [(hV.row.keep k n2).cell, mk_get hf], b.cell 0, b.cell 1⟩
      have kd : Keep (· = r f) (wr.alloc (.cells #[.int .i64 f, .int .i64 ρ2] 172)) (wr.alloc (.cells #[.int .i64 f, .int .i64 ρ2] 172)).drew := (Keep.refl _ _).drew
      have hcl := drop_is (hV.nob (Keep.nobdrew _)) I hcρ hno
      have hvV := (hv.nob kV).nob (Keep.nobdrew _)
      have hrow2 := hrow.nob (Keep.nobdrew _)
      have hfit : f < n := hf
      clear hV hrow bV
      go_wp2_with fail
      go_region_held3 (fun w' => w'.cell? ⟨s, 0, none⟩ = some (.slice (some ⟨B, 0, none⟩) n n) ∧ w'.cell? ⟨B, f, none⟩ = some (.pointer (some ⟨p f, 0, none⟩)) ∧ w'.cell? ⟨wr.heap.size, 0, none⟩ = some (.int .i64 f) ∧ w'.cell? ⟨wr.heap.size, 1, none⟩ = some (.int .i64 ρ2))
        (first | exact sf _ kd | exact sf _ k1)
        (first | (go_at_call 161; refine hcl.mono ?_; rintro e' w' ⟨rfl, hR, hk⟩; have k1 := kd.trans hk (fun _ _ e => e)))
      have hv3 := hvV.far hrow2 (by decide) hk
      have K3 := (hK.trans kV (fun _ _ f => f.elim)).trans (k1.rows hf) (fun _ _ m => m)
      rw [List.cons_append, ← htake] at hR
      go_wp2
      go_roundw
      case rel => exact ⟨j + 1, by omega, by go_num, hR, hv3, K3⟩
      case measure => simp [intOf]; omega
    · obtain rfl : j = U.length := by omega
      rw [List.take_of_length_le (Nat.le_refl _)] at hx
      go_wp2
      go_ret2
      exact ⟨U, rfl, hnd, hmem, hx, I.gone hmem ⟨c, hc⟩, hK⟩
end Go.Proofs.YtifigjccokpcfaaGreat
