/- What an argument that the reader reads is, arrays too: an array is its elements one behind the other, ended by unit, as a struct is. -/
import Derived.Test.YtaeiigniakjbpaaDoorRead
import Derived.OpenShut
namespace Go.Proofs.YtaeiigniakjbpaaDoor.Ar
open Go.RowKit
set_option linter.unusedVariables false
set_option linter.unusedSimpArgs false
/-- An array's elements as fields. -/
def elemsOf (n e c : Nat) : List Field := (List.range n).map fun i => { name := "", type := e, offset := i * c, byteOffset := 0, embedded := false, tag := "", pkgPath := "" }
theorem elemsOf_len (n e c : Nat) : (elemsOf n e c).length = n := by simp [elemsOf]
theorem elemsOf_get {n e c i : Nat} {g : Field} (h : (elemsOf n e c)[i]? = some g) : i < n ∧ g.offset = i * c ∧ g.type = e := by
  have hi : i < n := by
    rcases Nat.lt_or_ge i n with h1 | h1
    · exact h1
    · rw [List.getElem?_eq_none (by rw [elemsOf_len]; exact h1)] at h; cases h
  simp [elemsOf, hi] at h
  subst h
  exact ⟨hi, rfl, rfl⟩
theorem weightsEach_all {H : Type} (P : Program) (e : TypeId) : ∀ (ts : List TypeId) (ds : List (DataW H)), (∀ t ∈ ts, t = e) → ts.length = ds.length → DataW.weightsEach P ts ds = DataW.weightsAll P e ds
  | [], [], _, _ => rfl
  | [], _ :: _, _, h => by simp at h
  | _ :: _, [], _, h => by simp at h
  | t :: ts, d :: ds, h, hl => by
    rw [DataW.weightsEach, DataW.weightsAll, h t (List.mem_cons_self ..), weightsEach_all P e ts ds (fun x hx => h x (List.mem_cons_of_mem _ hx)) (by simpa using hl)]
theorem elemsOf_weights {H : Type} (P : Program) (n e c : Nat) (ds : List (DataW H)) (hl : ds.length = n) : DataW.weightsEach P ((elemsOf n e c).map (·.type)) ds = DataW.weightsAll P e ds := by
  refine weightsEach_all P e _ _ (fun t ht => ?_) (by simp [elemsOf_len, hl])
  simp [elemsOf] at ht
  exact ht.2.symm
def fit (P : Program) : Ty → TypeId ⊕ (Nat × List Field) → Bool
  | .int k, .inl t => match P.underlying t with | some (.int k') => decide (k' = k) | _ => false
  | .byte, .inl t => match P.underlying t with | some (.int k') => decide (k' = .u8) | _ => false
  | .bool, .inl t => match P.underlying t with | some .bool => true | _ => false
  | .str, .inl t => match P.underlying t with | some .string => true | _ => false
  | .sl width e, .inl t => match P.underlying t with | some (.slice e') => decide (P.bytesOf e' = width) && decide (P.cellsOf e' = e.size) && fit P e (.inl e') | _ => false
  | .unit, .inr (_, fs) => fs.isEmpty
  | .pair a b, .inl t => match P.underlying t with
    | some (.struct fs) => decide (P.cellsOf t = a.size + b.size) && (match fs.toList with
      | f :: r => decide (f.offset = 0) && decide (P.cellsOf f.type = a.size) && fit P a (.inl f.type) && fit P b (.inr (a.size, r))
      | [] => false)
    | some (.array n e) => decide (P.cellsOf t = a.size + b.size) && (match elemsOf n e (P.cellsOf e) with
      | f :: r => decide (f.offset = 0) && decide (P.cellsOf f.type = a.size) && fit P a (.inl f.type) && fit P b (.inr (a.size, r))
      | [] => false)
    | _ => false
  | .pair a b, .inr (off, fs) => match fs with
    | f :: r => decide (f.offset = off) && decide (P.cellsOf f.type = a.size) && fit P a (.inl f.type) && fit P b (.inr (off + a.size, r))
    | [] => false
  | _, _ => false

section
variable {H : Type} {enc : TypeId × Value → H} {P : Program} {w : World}

/-- What Holds says of an argument that the form has read. -/
def ReadsAs (enc : TypeId × Value → H) (P : Program) (w : World) (ty : Ty) : Prop :=
  (∀ (t : TypeId) (fuel : Nat) (cs : List Value) (d : DataW H) (ps : List MemPlace), fit P ty (.inl t) = true → DataW.trod enc P w 0 (fun _ => true) true fuel t cs = some (d, ps) → (∀ n ∈ d.weights P t, n ≤ reachBytes) → ∃ x : ty.den, Holds w ty x cs) ∧
  (∀ (off : Nat) (fs : List Field) (n : Nat) (xs : List (DataW H × List MemPlace)) (cs : List Value), fit P ty (.inr (off, fs)) = true → xs.length = fs.length →
    (∀ (i : Nat) (f : Field), fs[i]? = some f → DataW.trod enc P w 0 (fun _ => true) true n f.type ((cs.drop f.offset).take (P.cellsOf f.type)) = xs[i]?) →
    (∀ m ∈ DataW.weightsEach P (fs.map (·.type)) (xs.map (·.1)), m ≤ reachBytes) → off + ty.size ≤ cs.length → ∃ x : ty.den, Holds w ty x ((cs.drop off).take ty.size))

theorem read_int (k : IntKind) : ReadsAs enc P w (.int k) := by
  refine ⟨fun t fuel cs d ps hf h _ => ?_, fun off fs n xs cs hf => by simp [fit] at hf⟩
  simp only [fit] at hf
  split at hf
  · rename_i k' hu
    simp only [decide_eq_true_eq] at hf
    subst hf
    obtain ⟨n, rfl, _, hw⟩ := DataW.trod_int hu h
    exact ⟨n, rfl, hw⟩
  · cases hf
theorem read_byte : ReadsAs enc P w .byte := by
  refine ⟨fun t fuel cs d ps hf h _ => ?_, fun off fs n xs cs hf => by simp [fit] at hf⟩
  simp only [fit] at hf
  split at hf
  · rename_i k' hu
    simp only [decide_eq_true_eq] at hf
    subst hf
    obtain ⟨n, rfl, _, hw⟩ := DataW.trod_int hu h
    exact ⟨UInt8.ofNat n.toNat, by simp only [Holds]; rw [← u8_of_wf hw]⟩
  · cases hf
theorem read_bool : ReadsAs enc P w .bool := by
  refine ⟨fun t fuel cs d ps hf h _ => ?_, fun off fs n xs cs hf => by simp [fit] at hf⟩
  simp only [fit] at hf
  split at hf
  · rename_i hu
    obtain ⟨b, rfl, _⟩ := DataW.trod_bool hu h
    exact ⟨b, rfl⟩
  · cases hf
theorem read_str : ReadsAs enc P w .str := by
  refine ⟨fun t fuel cs d ps hf h hw => ?_, fun off fs n xs cs hf => by simp [fit] at hf⟩
  simp only [fit] at hf
  split at hf
  · rename_i hu
    obtain ⟨s, rfl, hx, _⟩ := DataW.trod_string hu h
    simp only [Prod.mk.injEq] at hx
    obtain ⟨rfl, _⟩ := hx
    have := hw s.data.toList.length (by simp [DataW.weights])
    exact ⟨s, rfl, by simpa [reachBytes] using this⟩
  · cases hf
theorem read_unit : ReadsAs enc P w .unit := by
  refine ⟨fun t fuel cs d ps hf => by simp [fit] at hf, fun off fs n xs cs hf hl h hw ho => ⟨(), ?_⟩⟩
  simp [Holds, Ty.size]
theorem read_sl (width : Nat) (e : Ty) (ih : ReadsAs enc P w e) : ReadsAs enc P w (.sl width e) := by
  refine ⟨fun t fuel cs d ps hf h hw => ?_, fun off fs n xs cs hf => by simp [fit] at hf⟩
  simp only [fit] at hf
  split at hf
  · rename_i e' hu
    simp only [Bool.and_eq_true, decide_eq_true_eq] at hf
    obtain ⟨⟨hby, hsz⟩, hfe⟩ := hf
    rcases DataW.trod_slice hu h with ⟨rfl, _⟩ | ⟨a, len, cap, elems, rest, n, _, rfl, hx, _, hl, hm, hlen, hel, hsp, _⟩
    · exact ⟨([] : List e.den), none, 0, rfl, Nat.le_refl _, Nat.zero_le _, by omega, fun _ => rfl, fun i hi => absurd hi (by simp)⟩
    · simp only [Prod.mk.injEq] at hx
      obtain ⟨rfl, _⟩ := hx
      have hrest := (hsp rfl).1
      have hwt := hw (((elems.map (·.1)).length + (rest.map (·.1)).length) * P.bytesOf e') (by simp [DataW.weights, hu])
      have hone : ∀ i, i < len → ∃ x : e.den, ∃ cs', cs'.length = e.size ∧ (∀ j v, cs'[j]? = some v → w.cell? (a.add (i * e.size + j)) = some v) ∧ Holds w e x cs' := by
        intro i hi
        have h1 := hel i hi
        have hie : i < elems.length := by omega
        rw [List.getElem?_eq_getElem hie] at h1
        obtain ⟨cs', hc', ht'⟩ := Option.bind_eq_some_iff.1 h1
        rw [hsz] at hc'
        obtain ⟨hl', hg'⟩ := cells?_get hc'
        obtain ⟨x, hx⟩ := ih.1 e' n cs' _ _ hfe (by rw [ht']) (fun m hm => hw m (by
          simp only [DataW.weights, hu]
          refine List.mem_cons_of_mem _ (List.mem_append_left _ (weightsAll_mem (d := (elems[i]).1) ?_ m hm))
          exact List.mem_map_of_mem (List.getElem_mem hie)))
        exact ⟨x, cs', hl', fun j v hj => by rw [← add_add]; exact hg' j v hj, hx⟩
      have hall : ∀ m, m ≤ len → ∃ xs : List e.den, xs.length = m ∧ ∀ i (hi : i < xs.length), ∃ cs', cs'.length = e.size ∧ (∀ j v, cs'[j]? = some v → w.cell? (a.add (i * e.size + j)) = some v) ∧ Holds w e (xs.get ⟨i, hi⟩) cs' := by
        intro m
        induction m with
        | zero => intro _; exact ⟨[], rfl, fun i hi => absurd hi (by simp)⟩
        | succ m ihm =>
          intro hm'
          obtain ⟨xs, hxl, hxs⟩ := ihm (by omega)
          obtain ⟨x, cs', q1, q2, q3⟩ := hone m (by omega)
          refine ⟨xs ++ [x], by simp [hxl], fun i hi => ?_⟩
          rcases Nat.lt_or_ge i xs.length with h2 | h2
          · obtain ⟨c, p1, p2, p3⟩ := hxs i h2
            refine ⟨c, p1, p2, ?_⟩
            have e1 : (xs ++ [x]).get ⟨i, hi⟩ = xs.get ⟨i, h2⟩ := by simp [List.getElem_append_left h2]
            rw [e1]; exact p3
          · have e0 : i = m := by simp at hi; omega
            subst e0
            refine ⟨cs', q1, q2, ?_⟩
            have e1 : (xs ++ [x]).get ⟨i, hi⟩ = x := by simp [← hxl]
            rw [e1]; exact q3
      obtain ⟨xs, hxl, hxs⟩ := hall len (Nat.le_refl _)
      refine ⟨xs, some a, cap, by rw [hxl], by omega, hm, ?_, (by intro hh; cases hh), fun i hi => ?_⟩
      · simp only [List.length_map, hlen, hrest, reachBytes, hby] at hwt
        rwa [show len + (cap - len) = cap from by omega] at hwt
      · obtain ⟨cs', q1, q2, q3⟩ := hxs i hi
        exact ⟨a, cs', rfl, q1, q2, q3⟩
  · cases hf
theorem read_pair (a b : Ty) (iha : ReadsAs enc P w a) (ihb : ReadsAs enc P w b) : ReadsAs enc P w (.pair a b) := by
  have core : ∀ (off : Nat) (f : Field) (r : List Field) (n : Nat) (xs : List (DataW H × List MemPlace)) (cs : List Value), f.offset = off → P.cellsOf f.type = a.size → fit P a (.inl f.type) = true → fit P b (.inr (off + a.size, r)) = true → xs.length = (f :: r).length →
      (∀ (i : Nat) (g : Field), (f :: r)[i]? = some g → DataW.trod enc P w 0 (fun _ => true) true n g.type ((cs.drop g.offset).take (P.cellsOf g.type)) = xs[i]?) →
      (∀ m ∈ DataW.weightsEach P ((f :: r).map (·.type)) (xs.map (·.1)), m ≤ reachBytes) → off + (a.size + b.size) ≤ cs.length → ∃ x : (Ty.pair a b).den, Holds w (.pair a b) x ((cs.drop off).take (a.size + b.size)) := by
    intro off f r n xs cs ho hc hfa hfb hl h hw hlen
    match xs, hl with
    | y :: ys, hl =>
      have h0 := h 0 f rfl
      rw [ho, hc] at h0
      simp only [List.getElem?_cons_zero] at h0
      obtain ⟨x1, hx1⟩ := iha.1 f.type n _ _ _ hfa h0 (fun m hm => hw m (by simp only [List.map_cons, DataW.weightsEach, List.mem_append]; exact .inl hm))
      obtain ⟨x2, hx2⟩ := ihb.2 (off + a.size) r n ys cs hfb (by simpa using hl) (fun i g hg => by
        have := h (i + 1) g (by simpa using hg)
        simpa using this) (fun m hm => hw m (by simp only [List.map_cons, DataW.weightsEach, List.mem_append]; exact .inr hm)) (by omega)
      refine ⟨((x1, x2) : a.den × b.den), _, _, ?_, hx1, hx2⟩
      rw [← List.drop_drop, ← List.take_add]
  refine ⟨fun t fuel cs d ps hf h hw => ?_, fun off fs n xs cs hf hl h hw ho => ?_⟩
  · simp only [fit] at hf
    split at hf
    · rename_i fs hu
      simp only [Bool.and_eq_true, decide_eq_true_eq] at hf
      obtain ⟨hct, hf⟩ := hf
      split at hf
      · rename_i f r hfs
        simp only [Bool.and_eq_true, decide_eq_true_eq] at hf
        obtain ⟨⟨⟨ho, hc⟩, hfa⟩, hfb⟩ := hf
        obtain ⟨xs, n, _, hx, hcl, hxl, hg⟩ := DataW.trod_struct hu h
        simp only [Prod.mk.injEq] at hx
        obtain ⟨rfl, _⟩ := hx
        obtain ⟨x, hx⟩ := core 0 f r n xs cs ho hc hfa (by simpa using hfb) (by rw [hxl, ← hfs]; simp) (fun i g hgi => hg i g (by rw [← hfs] at hgi; simpa using hgi))
          (fun m hm => hw m (by simp only [DataW.weights, hu, hfs]; exact hm)) (by omega)
        refine ⟨x, ?_⟩
        rw [List.drop_zero, List.take_of_length_le (by omega)] at hx
        exact hx
      · cases hf
    · rename_i n0 e hu
      simp only [Bool.and_eq_true, decide_eq_true_eq] at hf
      obtain ⟨hct, hf⟩ := hf
      split at hf
      · rename_i f r hfs
        simp only [Bool.and_eq_true, decide_eq_true_eq] at hf
        obtain ⟨⟨⟨ho, hc⟩, hfa⟩, hfb⟩ := hf
        obtain ⟨xs, n, _, hx, hcl, hxl, hg⟩ := DataW.trod_array hu h
        simp only [Prod.mk.injEq] at hx
        obtain ⟨rfl, _⟩ := hx
        obtain ⟨x, hx⟩ := core 0 f r n xs cs ho hc hfa (by simpa using hfb) (by rw [hxl, ← hfs, elemsOf_len]) (fun i g hgi => by
            rw [← hfs] at hgi
            obtain ⟨h1, h2, h3⟩ := elemsOf_get hgi
            have := hg i h1
            rw [h2, h3]
            exact this)
          (fun m hm => hw m (by
            simp only [DataW.weights, hu]
            rw [← hfs, elemsOf_weights] at hm
            · exact hm
            · simp [hxl])) (by omega)
        refine ⟨x, ?_⟩
        rw [List.drop_zero, List.take_of_length_le (by omega)] at hx
        exact hx
      · cases hf
    · cases hf
  · cases fs with
    | nil => simp [fit] at hf
    | cons f r =>
      simp only [fit, Bool.and_eq_true, decide_eq_true_eq] at hf
      obtain ⟨⟨⟨h1, h2⟩, h3⟩, h4⟩ := hf
      exact core off f r n xs cs h1 h2 h3 h4 hl h hw ho
theorem reads_as : ∀ ty : Ty, ReadsAs enc P w ty
  | .int k => read_int k
  | .byte => read_byte
  | .bool => read_bool
  | .str => read_str
  | .sl width e => read_sl width e (reads_as e)
  | .unit => read_unit
  | .pair a b => read_pair a b (reads_as a) (reads_as b)
end
end Go.Proofs.YtaeiigniakjbpaaDoor.Ar
