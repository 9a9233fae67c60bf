import Derived.ProofKit
import Derived.SizedLaws
import Derived.Test.YtgcikpgcoemfnaaGreatPs0
set_option linter.unusedVariables false
set_option linter.unusedSimpArgs false
namespace Go.Proofs.YtgcikpgcoemfnaaGreat
open Go.RowKit
inductive Ty where
 | int (k : IntKind) | byte | bool | str
 | sl (width : Nat) (e : Ty)
 | unit
 | pair (a b : Ty)
def Ty.den : Ty → Type
 | .int _ => Int
 | .byte => UInt8
 | .bool => Bool
 | .str => ByteArray
 | .sl _ e => List e.den
 | .unit => Unit
 | .pair a b => a.den × b.den
def Ty.size : Ty → Nat
 | .unit => 0
 | .pair a b => a.size + b.size
 | _ => 1
def Holds (w : World) : (t : Ty) → t.den → List Value → Prop
 | .int k, n, cs => cs = [.int k n] ∧ (Lit.int k n).wf = true
 | .byte, b, cs => cs = [.int .u8 ((b : UInt8).toNat : Int)]
 | .bool, b, cs => cs = [.bool b]
 | .str, s, cs => cs = [.string s] ∧ (s : ByteArray).size ≤ 140737488351232
 | .sl width e, xs, cs => ∃ A cap, cs = [.slice A (List.length (α := e.den) xs) cap] ∧ List.length (α := e.den) xs ≤ cap ∧ cap ≤ maxLen ∧ cap * width ≤ 140737488351232 ∧ (A = none → cap = 0) ∧
   ∀ i (h : i < List.length (α := e.den) xs), ∃ ad cs', A = some ad ∧ cs'.length = e.size ∧ (∀ j v, cs'[j]? = some v → w.cell? (ad.add (i * e.size + j)) = some v) ∧ Holds w e (List.get (α := e.den) xs ⟨i, h⟩) cs'
 | .unit, _, cs => cs = []
 | .pair a b, x, cs => ∃ c1 c2, cs = c1 ++ c2 ∧ Holds w a (Prod.fst (α := a.den) (β := b.den) x) c1 ∧ Holds w b (Prod.snd (α := a.den) (β := b.den) x) c2
def fit (P : Program) : Ty → TypeId ⊕ (Nat × List Field) → Bool
 | .int k, .inl t => match P.underlying t with | some (.int k') => decide (k' = k) | _ => false
 | .byte, .inl t => match P.underlying t with | some (.int k') => decide (k' = .u8) | _ => false
 | .bool, .inl t => match P.underlying t with | some .bool => true | _ => false
 | .str, .inl t => match P.underlying t with | some .string => true | _ => false
 | .sl width e, .inl t => match P.underlying t with | some (.slice e') => decide (P.bytesOf e' = width) && decide (P.cellsOf e' = e.size) && fit P e (.inl e') | _ => false
 | .unit, .inr (_, fs) => fs.isEmpty
 | .pair a b, .inl t => match P.underlying t with
  | some (.struct fs) => decide (P.cellsOf t = a.size + b.size) && (match fs.toList with
   | f :: r => decide (f.offset = 0) && decide (P.cellsOf f.type = a.size) && fit P a (.inl f.type) && fit P b (.inr (a.size, r))
   | [] => false)
  | _ => false
 | .pair a b, .inr (off, fs) => match fs with
  | f :: r => decide (f.offset = off) && decide (P.cellsOf f.type = a.size) && fit P a (.inl f.type) && fit P b (.inr (off + a.size, r))
  | [] => false
 | _, _ => false
section
variable {H : Type} {enc : TypeId × Value → H} {P : Program} {w : World}
def dy (enc : TypeId × Value → H) (P : Program) (w : World) (ty : Ty) : Prop :=
 (∀ (t : TypeId) (fuel : Nat) (cs : List Value) (d : DataW H) (ps : List MemPlace), fit P ty (.inl t) = true → DataW.trod enc P w 0 (fun _ => true) true fuel t cs = some (d, ps) → (∀ n ∈ d.weights P t, n ≤ reachBytes) → ∃ x : ty.den, Holds w ty x cs) ∧
 (∀ (off : Nat) (fs : List Field) (n : Nat) (xs : List (DataW H × List MemPlace)) (cs : List Value), fit P ty (.inr (off, fs)) = true → xs.length = fs.length →
  (∀ (i : Nat) (f : Field), fs[i]? = some f → DataW.trod enc P w 0 (fun _ => true) true n f.type ((cs.drop f.offset).take (P.cellsOf f.type)) = xs[i]?) →
  (∀ m ∈ DataW.weightsEach P (fs.map (·.type)) (xs.map (·.1)), m ≤ reachBytes) → off + ty.size ≤ cs.length → ∃ x : ty.den, Holds w ty x ((cs.drop off).take ty.size))
theorem cells?_get {a : Addr} {n : Nat} {cs : List Value} (h : w.cells? 0 a n = some cs) : cs.length = n ∧ ∀ j v, cs[j]? = some v → w.cell? (a.add j) = some v := by
 unfold World.cells? at h
 rw [if_pos (Nat.zero_le _)] at h
 have hl := mapM_some_length h
 refine ⟨by simpa using hl, fun j v hj => ?_⟩
 have hjn : j < n := by
  rcases Nat.lt_or_ge j cs.length with h1 | h1
  ·simpa [hl] using h1
  ·rw [List.getElem?_eq_none h1] at hj; cases hj
 have := mapM_some_get h j j (by simp [hjn])
 rw [this, hj]
theorem gj {e : TypeId} : ∀ {ds : List (DataW H)} {d : DataW H}, d ∈ ds → ∀ n ∈ d.weights P e, n ∈ DataW.weightsAll P e ds
 | d0 :: ds, d, hd, n, hn => by
  simp only [DataW.weightsAll, List.mem_append]
  rcases List.mem_cons.1 hd with rfl | h
  ·exact .inl hn
  ·exact .inr (gj h n hn)
theorem u8_of_wf {n : Int} (h : (Lit.int .u8 n).wf = true) : n = (((UInt8.ofNat n.toNat).toNat : Nat) : Int) := by
 have hb : 0 ≤ n ∧ n < 256 := by
  have e1 : IntKind.u8.min = 0 := by decide
  have e2 : IntKind.u8.max = 255 := by decide
  simp [Lit.wf, e1, e2] at h
  omega
 rw [UInt8.toNat_ofNat', Nat.mod_eq_of_lt (by omega)]
 omega
theorem add_add (a : Addr) (i j : Nat) : (a.add i).add j = a.add (i + j) := add_of_add a i j
theorem read_int (k : IntKind) : dy enc P w (.int k) := by
 refine ⟨fun t fuel cs d ps hf h _ => ?_, fun off fs n xs cs hf => by simp [fit] at hf⟩
 simp only [fit] at hf
 split at hf
 ·rename_i k' hu
  simp only [decide_eq_true_eq] at hf
  subst hf
  obtain ⟨n, rfl, _, hw⟩ := DataW.trod_int hu h
  exact ⟨n, rfl, hw⟩
 ·cases hf
theorem read_byte : dy enc P w .byte := by
 refine ⟨fun t fuel cs d ps hf h _ => ?_, fun off fs n xs cs hf => by simp [fit] at hf⟩
 simp only [fit] at hf
 split at hf
 ·rename_i k' hu
  simp only [decide_eq_true_eq] at hf
  subst hf
  obtain ⟨n, rfl, _, hw⟩ := DataW.trod_int hu h
  exact ⟨UInt8.ofNat n.toNat, by simp only [Holds]; rw [← u8_of_wf hw]⟩
 ·cases hf
theorem read_bool : dy enc P w .bool := by
 refine ⟨fun t fuel cs d ps hf h _ => ?_, fun off fs n xs cs hf => by simp [fit] at hf⟩
 simp only [fit] at hf
 split at hf
 ·rename_i hu
  obtain ⟨b, rfl, _⟩ := DataW.trod_bool hu h
  exact ⟨b, rfl⟩
 ·cases hf
theorem read_str : dy enc P w .str := by
 refine ⟨fun t fuel cs d ps hf h hw => ?_, fun off fs n xs cs hf => by simp [fit] at hf⟩
 simp only [fit] at hf
 split at hf
 ·rename_i hu
  obtain ⟨s, rfl, hx, _⟩ := DataW.trod_string hu h
  simp only [Prod.mk.injEq] at hx
  obtain ⟨rfl, _⟩ := hx
  have := hw s.data.toList.length (by simp [DataW.weights])
  exact ⟨s, rfl, by simpa [reachBytes] using this⟩
 ·cases hf
theorem read_unit : dy enc P w .unit := by
 refine ⟨fun t fuel cs d ps hf => by simp [fit] at hf, fun off fs n xs cs hf hl h hw ho => ⟨(), ?_⟩⟩
 simp [Holds, Ty.size]
theorem read_sl (width : Nat) (e : Ty) (ih : dy enc P w e) : dy enc P w (.sl width e) := by
 refine ⟨fun t fuel cs d ps hf h hw => ?_, fun off fs n xs cs hf => by simp [fit] at hf⟩
 simp only [fit] at hf
 split at hf
 ·rename_i e' hu
  simp only [Bool.and_eq_true, decide_eq_true_eq] at hf
  obtain ⟨⟨hby, hsz⟩, hfe⟩ := hf
  rcases DataW.trod_slice hu h with ⟨rfl, _⟩ | ⟨a, len, cap, elems, rest, n, _, rfl, hx, _, hl, hm, hlen, hel, hsp, _⟩
  ·exact ⟨([] : List e.den), none, 0, rfl, Nat.le_refl _, Nat.zero_le _, by omega, fun _ => rfl, fun i hi => absurd hi (by simp)⟩
  ·simp only [Prod.mk.injEq] at hx
   obtain ⟨rfl, _⟩ := hx
   have hrest := (hsp rfl).1
   have hwt := hw (((elems.map (·.1)).length + (rest.map (·.1)).length) * P.bytesOf e') (by simp [DataW.weights, hu])
   have hone : ∀ i, i < len → ∃ x : e.den, ∃ cs', cs'.length = e.size ∧ (∀ j v, cs'[j]? = some v → w.cell? (a.add (i * e.size + j)) = some v) ∧ Holds w e x cs' := by
    intro i hi
    have h1 := hel i hi
    have hie : i < elems.length := by omega
    rw [List.getElem?_eq_getElem hie] at h1
    obtain ⟨cs', hc', ht'⟩ := Option.bind_eq_some_iff.1 h1
    rw [hsz] at hc'
    obtain ⟨hl', hg'⟩ := cells?_get hc'
    obtain ⟨x, hx⟩ := ih.1 e' n cs' _ _ hfe (by rw [ht']) (fun m hm => hw m (by
     simp only [DataW.weights, hu]
     refine List.mem_cons_of_mem _ (List.mem_append_left _ (gj (d := (elems[i]).1) ?_ m hm))
     exact List.mem_map_of_mem (List.getElem_mem hie)))
    exact ⟨x, cs', hl', fun j v hj => by rw [← add_add]; exact hg' j v hj, hx⟩
   have hall : ∀ m, m ≤ len → ∃ xs : List e.den, xs.length = m ∧ ∀ i (hi : i < xs.length), ∃ cs', cs'.length = e.size ∧ (∀ j v, cs'[j]? = some v → w.cell? (a.add (i * e.size + j)) = some v) ∧ Holds w e (xs.get ⟨i, hi⟩) cs' := by
    intro m
    induction m with
    | zero => intro _; exact ⟨[], rfl, fun i hi => absurd hi (by simp)⟩
    | succ m ihm =>
     intro hm'
     obtain ⟨xs, hxl, hxs⟩ := ihm (by omega)
     obtain ⟨x, cs', q1, q2, q3⟩ := hone m (by omega)
     refine ⟨xs ++ [x], by simp [hxl], fun i hi => ?_⟩
     rcases Nat.lt_or_ge i xs.length with h2 | h2
     ·obtain ⟨c, p1, p2, p3⟩ := hxs i h2
      refine ⟨c, p1, p2, ?_⟩
      have e1 : (xs ++ [x]).get ⟨i, hi⟩ = xs.get ⟨i, h2⟩ := by simp [List.getElem_append_left h2]
      rw [e1]; exact p3
     ·have e0 : i = m := by simp at hi; omega
      subst e0
      refine ⟨cs', q1, q2, ?_⟩
      have e1 : (xs ++ [x]).get ⟨i, hi⟩ = x := by simp [← hxl]
      rw [e1]; exact q3
   obtain ⟨xs, hxl, hxs⟩ := hall len (Nat.le_refl _)
   refine ⟨xs, some a, cap, by rw [hxl], by omega, hm, ?_, (by intro hh; cases hh), fun i hi => ?_⟩
   ·simp only [List.length_map, hlen, hrest, reachBytes, hby] at hwt
    rwa [show len + (cap - len) = cap from by omega] at hwt
   ·obtain ⟨cs', q1, q2, q3⟩ := hxs i hi
    exact ⟨a, cs', rfl, q1, q2, q3⟩
 ·cases hf
theorem read_pair (a b : Ty) (iha : dy enc P w a) (ihb : dy enc P w b) : dy enc P w (.pair a b) := by
 have core : ∀ (off : Nat) (f : Field) (r : List Field) (n : Nat) (xs : List (DataW H × List MemPlace)) (cs : List Value), f.offset = off → P.cellsOf f.type = a.size → fit P a (.inl f.type) = true → fit P b (.inr (off + a.size, r)) = true → xs.length = (f :: r).length →
   (∀ (i : Nat) (g : Field), (f :: r)[i]? = some g → DataW.trod enc P w 0 (fun _ => true) true n g.type ((cs.drop g.offset).take (P.cellsOf g.type)) = xs[i]?) →
   (∀ m ∈ DataW.weightsEach P ((f :: r).map (·.type)) (xs.map (·.1)), m ≤ reachBytes) → off + (a.size + b.size) ≤ cs.length → ∃ x : (Ty.pair a b).den, Holds w (.pair a b) x ((cs.drop off).take (a.size + b.size)) := by
  intro off f r n xs cs ho hc hfa hfb hl h hw hlen
  match xs, hl with
  | y :: ys, hl =>
   have h0 := h 0 f rfl
   rw [ho, hc] at h0
   simp only [List.getElem?_cons_zero] at h0
   obtain ⟨x1, hx1⟩ := iha.1 f.type n _ _ _ hfa h0 (fun m hm => hw m (by simp only [List.map_cons, DataW.weightsEach, List.mem_append]; exact .inl hm))
   obtain ⟨x2, hx2⟩ := ihb.2 (off + a.size) r n ys cs hfb (by simpa using hl) (fun i g hg => by
    have := h (i + 1) g (by simpa using hg)
    simpa using this) (fun m hm => hw m (by simp only [List.map_cons, DataW.weightsEach, List.mem_append]; exact .inr hm)) (by omega)
   refine ⟨((x1, x2) : a.den × b.den), _, _, ?_, hx1, hx2⟩
   rw [← List.drop_drop, ← List.take_add]
 refine ⟨fun t fuel cs d ps hf h hw => ?_, fun off fs n xs cs hf hl h hw ho => ?_⟩
 ·simp only [fit] at hf
  split at hf
  ·rename_i fs hu
   simp only [Bool.and_eq_true, decide_eq_true_eq] at hf
   obtain ⟨hct, hf⟩ := hf
   split at hf
   ·rename_i f r hfs
    simp only [Bool.and_eq_true, decide_eq_true_eq] at hf
    obtain ⟨⟨⟨ho, hc⟩, hfa⟩, hfb⟩ := hf
    obtain ⟨xs, n, _, hx, hcl, hxl, hg⟩ := DataW.trod_struct hu h
    simp only [Prod.mk.injEq] at hx
    obtain ⟨rfl, _⟩ := hx
    obtain ⟨x, hx⟩ := core 0 f r n xs cs ho hc hfa (by simpa using hfb) (by rw [hxl, ← hfs]; simp) (fun i g hgi => hg i g (by rw [← hfs] at hgi; simpa using hgi))
     (fun m hm => hw m (by simp only [DataW.weights, hu, hfs]; exact hm)) (by omega)
    refine ⟨x, ?_⟩
    rw [List.drop_zero, List.take_of_length_le (by omega)] at hx
    exact hx
   ·cases hf
  ·cases hf
 ·cases fs with
  | nil => simp [fit] at hf
  | cons f r =>
   simp only [fit, Bool.and_eq_true, decide_eq_true_eq] at hf
   obtain ⟨⟨⟨h1, h2⟩, h3⟩, h4⟩ := hf
   exact core off f r n xs cs h1 h2 h3 h4 hl h hw ho
theorem reads_as : ∀ ty : Ty, dy enc P w ty
 | .int k => read_int k
 | .byte => read_byte
 | .bool => read_bool
 | .str => read_str
 | .sl width e => read_sl width e (reads_as e)
 | .unit => read_unit
 | .pair a b => read_pair a b (reads_as a) (reads_as b)
end
theorem holds_at {w : World} {wd : Nat} {e : Ty} {A : Option Addr} {n c : Nat} {xs : List e.den} (h : Holds w (.sl wd e) xs [.slice A n c]) (he : 0 < e.size) {k : Nat} (hk : k < n) :
  ∃ b off cs', A = some ⟨b, off, none⟩ ∧ cs'.length = e.size ∧ (∀ j v, cs'[j]? = some v → w.cell? ⟨b, off + k * e.size + j, none⟩ = some v) ∧ ∃ hk' : k < xs.length, Holds w e (xs.get ⟨k, hk'⟩) cs' := by
 obtain ⟨A', cap, heq, hl, _, hw, hA, hi⟩ := h
 simp only [List.cons.injEq, Value.slice.injEq, and_true] at heq
 obtain ⟨rfl, hn, rfl⟩ := heq
 have hk' : k < xs.length := by have : n = xs.length := hn; omega
 obtain ⟨ad, cs', rfl, h1, h2, h3⟩ := hi k hk'
 obtain ⟨b, off, spot⟩ := ad
 have h0 : 0 < cs'.length := by omega
 have hs : spot = none := by
  obtain ⟨ad0, cs0, e0, l0, c0, _⟩ := hi 0 (by show 0 < xs.length; omega)
  cases e0
  have := c0 0 _ (List.getElem?_eq_getElem (by omega))
  rw [Nat.zero_mul, Nat.zero_add] at this
  have h5 := World.cell?_spot this
  simpa [Addr.add] using h5
 subst hs
 refine ⟨b, off, cs', rfl, h1, fun j v hj => ?_, hk', h3⟩
 have := h2 j v hj
 rw [cR] at this
 rw [Nat.add_assoc]
 exact this
end Go.Proofs.YtgcikpgcoemfnaaGreat
