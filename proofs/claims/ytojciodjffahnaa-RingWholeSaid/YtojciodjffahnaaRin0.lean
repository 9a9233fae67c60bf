/- A pipe as plain data: Head, Count, Readers, Writers and its Data; when it is Ok, its bytes, what bytes are; what goes in behind, what comes out ahead. -/
import Derived.Test.YtojciodjffahnaaCod0
namespace Go.Proofs.Ytojciodjffahnaa.Ri
open Go.RowKit
set_option linter.unusedVariables false
set_option linter.unusedSimpArgs false
/-- A number that an int can be. -/
def Wf (n : Int) : Prop := -9223372036854775808 ≤ n ∧ n ≤ 9223372036854775807
theorem wf_of {n : Int} (h : (Lit.int .i64 n).wf = true) : Wf n := by
  simp [Lit.wf, IntKind.min, IntKind.max, IntKind.signed, IntKind.bits] at h
  exact ⟨by omega, by omega⟩
def inn (n lo hi : Int) : Bool := decide (lo ≤ n ∧ n ≤ hi)
theorem inn_out {n lo hi : Int} (h : inn n lo hi = true) : lo ≤ n ∧ n ≤ hi := of_decide_eq_true h
structure Pp where
  h : Int
  c : Int
  r : Int
  s : Int
  d : List UInt8
def pc (p : Pp) : List Value := .int .i64 p.h :: .int .i64 p.c :: .int .i64 p.r :: .int .i64 p.s :: bytes p.d
/-- A pipe as a value. -/
def pv (p : Pp) : Value := .agg (pc p).toArray
def same (p q : Pp) : Bool := p.h == q.h && (p.c == q.c && (p.r == q.r && (p.s == q.s && p.d == q.d)))
theorem same_iff {p q : Pp} : same p q = true ↔ p = q := by
  obtain ⟨a, b, c, d, e⟩ := p
  obtain ⟨a', b', c', d', e'⟩ := q
  simp [same]
theorem same_refl (p : Pp) : same p p = true := same_iff.2 rfl
theorem pc_len {p : Pp} (h : p.d.length = 32) : (pc p).length = 36 := by simp [pc, h]
theorem pc_one (p : Pp) : ∀ v ∈ pc p, v.oneCell' = true := by
  intro v hv
  unfold pc at hv
  simp only [List.mem_cons] at hv
  rcases hv with rfl | rfl | rfl | rfl | hv
  · rfl
  · rfl
  · rfl
  · rfl
  · exact bytes_one _ v hv
/-- 13.1. -/
def okd (p : Pp) : Bool := inn p.h 0 31 && (inn p.c 0 32 && (inn p.r 0 8 && inn p.s 0 8))
def byt (n : Int) : UInt8 := UInt8.ofNat (n % 256).toNat
def pre (p : Pp) : List UInt8 := [1, byt p.h, byt p.c, byt p.r, byt p.s, 197]
def sumb (l : List UInt8) : UInt8 := UInt8.ofNat (tot l % 256)
def enc (p : Pp) : List UInt8 := pre p ++ [sumb (pre p), 0] ++ p.d
def rd (l : List UInt8) : Pp := ⟨((l.getD 1 0).toNat : Int), ((l.getD 2 0).toNat : Int), ((l.getD 3 0).toNat : Int), ((l.getD 4 0).toNat : Int), l.drop 8⟩
def gd (l : List UInt8) : Bool := okd (rd l) && enc (rd l) == l
def nod : List UInt8 := List.replicate 32 0
def noP : Pp := ⟨0, 0, 0, 0, nod⟩
def dcd (l : List UInt8) : Pp × Int := if l.length = 40 then (if allNought l then (noP, 0) else if gd l then (rd l, 1) else (noP, 2)) else (noP, 2)
theorem pre_len (p : Pp) : (pre p).length = 6 := rfl
theorem enc_len {p : Pp} (h : p.d.length = 32) : (enc p).length = 40 := by
  show (pre p ++ [sumb (pre p), 0] ++ p.d).length = 40
  rw [List.length_append, h]; rfl
theorem rd_len {l : List UInt8} (h : l.length = 40) : (rd l).d.length = 32 := by simp [rd, h]
theorem byt_back {n : Int} (h0 : 0 ≤ n) (h1 : n ≤ 255) : (((byt n).toNat : Nat) : Int) = n := by
  unfold byt
  rw [byte_back]; omega
structure Bounds (p : Pp) : Prop where
  h : 0 ≤ p.h ∧ p.h ≤ 31
  c : 0 ≤ p.c ∧ p.c ≤ 32
  r : 0 ≤ p.r ∧ p.r ≤ 8
  s : 0 ≤ p.s ∧ p.s ≤ 8
theorem okd_bounds {p : Pp} (h : okd p = true) : Bounds p := by
  unfold okd at h
  simp only [Bool.and_eq_true] at h
  obtain ⟨h1, h2, h3, h4⟩ := h
  exact ⟨inn_out h1, inn_out h2, inn_out h3, inn_out h4⟩
theorem Bounds.ok {p : Pp} (h : Bounds p) : okd p = true := by
  unfold okd inn
  simp only [Bool.and_eq_true, decide_eq_true_iff]
  exact ⟨h.h, h.c, h.r, h.s⟩
theorem rd_enc {p : Pp} (h : okd p = true) : rd (enc p) = p := by
  have B := okd_bounds h
  clear h
  obtain ⟨a, b, c, d, e⟩ := p
  have b0 := B.h; have b1 := B.c; have b2 := B.r; have b3 := B.s
  simp only at b0 b1 b2 b3
  have e0 := byt_back (n := a) (by omega) (by omega)
  have e1 := byt_back (n := b) (by omega) (by omega)
  have e2 := byt_back (n := c) (by omega) (by omega)
  have e3 := byt_back (n := d) (by omega) (by omega)
  show Pp.mk (((byt a).toNat : Nat) : Int) (((byt b).toNat : Nat) : Int) (((byt c).toNat : Nat) : Int) (((byt d).toNat : Nat) : Int) e = _
  rw [e0, e1, e2, e3]
theorem nought_getD {l : List UInt8} (h : allNought l = true) (k : Nat) : l.getD k 0 = 0 := by
  rw [List.getD_eq_getElem?_getD]
  rcases Nat.lt_or_ge k l.length with h1 | h1
  · rw [List.getElem?_eq_getElem h1]
    have := List.all_eq_true.1 h l[k] (List.getElem_mem h1)
    simpa using this
  · rw [List.getElem?_eq_none h1]; rfl
theorem enc_some (p : Pp) : allNought (enc p) = false := by
  cases h : allNought (enc p)
  · rfl
  · have := nought_getD h 0
    exact absurd this (show ¬ ((1 : UInt8) = 0) by decide)
theorem dcd_enc {p : Pp} (hl : p.d.length = 32) (op : okd p = true) : dcd (enc p) = (p, 1) := by
  unfold dcd gd
  rw [if_pos (enc_len hl), enc_some p, if_neg (by simp), rd_enc op, op, if_pos (by simp)]
theorem noP_len : noP.d.length = 32 := rfl
theorem dcd_len (l : List UInt8) : (dcd l).1.d.length = 32 := by
  unfold dcd
  split
  · rename_i h
    split
    · rfl
    · split
      · exact rd_len h
      · rfl
  · rfl

/-- Data after k bytes of b are laid from place s on, round. -/
def lay (d : List UInt8) (s : Nat) (b : List UInt8) : Nat → List UInt8
  | 0 => d
  | k + 1 => (lay d s b k).set ((s + k) % 32) (b.getD k 0)
/-- The first n bytes from place s on, round. -/
def ahd (d : List UInt8) (s n : Nat) : List UInt8 := (List.range n).map fun i => d.getD ((s + i) % 32) 0
theorem lay_len (d : List UInt8) (s : Nat) (b : List UInt8) : ∀ k, (lay d s b k).length = d.length
  | 0 => rfl
  | k + 1 => by rw [lay, List.length_set, lay_len d s b k]
theorem ahd_len (d : List UInt8) (s n : Nat) : (ahd d s n).length = n := by simp [ahd]
theorem ahd_succ (d : List UInt8) (s n : Nat) : ahd d s (n + 1) = ahd d s n ++ [d.getD ((s + n) % 32) 0] := by
  simp [ahd, List.range_succ]
theorem ahd_get (d : List UInt8) (s n i : Nat) (h : i < n) : (ahd d s n)[i]? = some (d.getD ((s + i) % 32) 0) := by
  simp [ahd, h]
theorem ahd_ext {d d' : List UInt8} {s s' n n' : Nat} (hn : n = n') (h : ∀ i, i < n → d.getD ((s + i) % 32) 0 = d'.getD ((s' + i) % 32) 0) : ahd d s n = ahd d' s' n' := by
  subst hn
  apply List.ext_getElem?
  intro i
  by_cases hi : i < n
  · rw [ahd_get _ _ _ _ hi, ahd_get _ _ _ _ hi, h i hi]
  · rw [List.getElem?_eq_none (by rw [ahd_len]; omega), List.getElem?_eq_none (by rw [ahd_len]; omega)]
theorem ahd_add (d : List UInt8) (s m n : Nat) : ahd d s (m + n) = ahd d s m ++ ahd d (s + m) n := by
  induction n with
  | zero => simp [ahd]
  | succ n ih => rw [← Nat.add_assoc, ahd_succ, ih, ahd_succ, List.append_assoc, Nat.add_assoc]
theorem set_getD {l : List UInt8} {k i : Nat} (y : UInt8) (hk : k < l.length) : (l.set k y).getD i 0 = if k = i then y else l.getD i 0 := by
  rw [List.getD_eq_getElem?_getD, List.getElem?_set]
  by_cases h : k = i
  · subst h; rw [if_pos rfl, if_pos rfl, if_pos hk]; rfl
  · rw [if_neg h, if_neg h, List.getD_eq_getElem?_getD]
/-- What lies at place s + j after k bytes are laid from s on. -/
theorem lay_get {d : List UInt8} (hd : d.length = 32) (s : Nat) (b : List UInt8) : ∀ k, k ≤ 32 → ∀ j, j < 32 → (lay d s b k).getD ((s + j) % 32) 0 = if j < k then b.getD j 0 else d.getD ((s + j) % 32) 0
  | 0, _, j, _ => rfl
  | k + 1, hk, j, hj => by
    rw [lay, set_getD _ (by rw [lay_len, hd]; exact Nat.mod_lt _ (by decide)), lay_get hd s b k (by omega) j hj]
    by_cases h : j = k
    · subst h; rw [if_pos rfl, if_pos (by omega)]
    · rw [if_neg (by omega)]
      by_cases h2 : j < k
      · rw [if_pos h2, if_pos (by omega)]
      · rw [if_neg h2, if_neg (by omega)]
theorem lay_far {d : List UInt8} (hd : d.length = 32) (s : Nat) (b : List UInt8) (k : Nat) (hk : k ≤ 32) (i j : Nat) (hj : j < 32) (hij : (i : Nat) % 32 = (s + j) % 32) (hkj : k ≤ j) : (lay d s b k).getD (i % 32) 0 = d.getD (i % 32) 0 := by
  rw [hij, lay_get hd s b k hk j hj, if_neg (by omega)]
/-- 13.2. -/
def room (p : Pp) : Nat := 32 - p.c.toNat
def pput (p : Pp) (b : List UInt8) : Pp × Nat :=
  if okd p then (⟨p.h, p.c + (min b.length (room p) : Nat), p.r, p.s, lay p.d (p.h.toNat + p.c.toNat) b (min b.length (room p))⟩, min b.length (room p)) else (p, 0)
def few (p : Pp) (n : Int) : Nat := min n.toNat p.c.toNat
def ptake (p : Pp) (n : Int) : Pp × List UInt8 :=
  if okd p then (⟨(p.h + (few p n : Nat)) % 32, p.c - (few p n : Nat), p.r, p.s, p.d⟩, ahd p.d p.h.toNat (few p n)) else (p, [])
def has (p : Pp) : List UInt8 := if okd p then ahd p.d p.h.toNat p.c.toNat else []
theorem pput_len {p : Pp} (h : p.d.length = 32) (b : List UInt8) : (pput p b).1.d.length = 32 := by
  unfold pput
  split
  · show (lay _ _ _ _).length = 32
    rw [lay_len, h]
  · exact h
theorem ptake_len {p : Pp} (h : p.d.length = 32) (n : Int) : (ptake p n).1.d.length = 32 := by
  unfold ptake
  split
  · exact h
  · exact h
theorem pput_ok {p : Pp} (h : okd p = true) (b : List UInt8) : okd (pput p b).1 = true := by
  have B := okd_bounds h
  unfold pput
  rw [if_pos h]
  refine Bounds.ok ⟨B.h, ?_, B.r, B.s⟩
  have := B.c
  unfold room
  show 0 ≤ p.c + ((min b.length (32 - p.c.toNat) : Nat) : Int) ∧ p.c + ((min b.length (32 - p.c.toNat) : Nat) : Int) ≤ 32
  omega
theorem ptake_ok {p : Pp} (h : okd p = true) (n : Int) : okd (ptake p n).1 = true := by
  have B := okd_bounds h
  unfold ptake
  rw [if_pos h]
  refine Bounds.ok ⟨?_, ?_, B.r, B.s⟩
  · show 0 ≤ (p.h + ((few p n : Nat) : Int)) % 32 ∧ (p.h + ((few p n : Nat) : Int)) % 32 ≤ 31
    omega
  · have := B.c
    show 0 ≤ p.c - ((min n.toNat p.c.toNat : Nat) : Int) ∧ p.c - ((min n.toNat p.c.toNat : Nat) : Int) ≤ 32
    omega
/-- First in, first out: what went in is behind what it had. -/
theorem has_put {p : Pp} (hl : p.d.length = 32) (h : okd p = true) (b : List UInt8) : has (pput p b).1 = has p ++ b.take (pput p b).2 := by
  have B := okd_bounds h
  have hk := pput_ok h b
  unfold has
  rw [if_pos hk, if_pos h]
  unfold pput
  rw [if_pos h]
  generalize hm : min b.length (room p) = m
  have hmb : m ≤ b.length := by omega
  have hmr : m ≤ 32 - p.c.toNat := by unfold room at hm; omega
  have hb0 := B.h; have hb1 := B.c
  show ahd (lay p.d (p.h.toNat + p.c.toNat) b m) p.h.toNat (p.c + (m : Int)).toNat = ahd p.d p.h.toNat p.c.toNat ++ b.take m
  rw [show (p.c + (m : Int)).toNat = p.c.toNat + m from by omega, ahd_add]
  congr 1
  · refine ahd_ext rfl (fun i hi => ?_)
    refine lay_far hl _ b m (by omega) _ (32 - p.c.toNat + i) (by omega) (by omega) (by omega)
  · apply List.ext_getElem?
    intro i
    by_cases hi : i < m
    · rw [ahd_get _ _ _ _ hi, lay_get hl _ b m (by omega) i (by omega), if_pos hi, List.getElem?_take, if_pos hi, List.getD_eq_getElem?_getD, List.getElem?_eq_getElem (by omega)]; rfl
    · rw [List.getElem?_eq_none (by rw [ahd_len]; omega), List.getElem?_eq_none (by rw [List.length_take]; omega)]
theorem ahd_mod (d : List UInt8) (s n : Nat) : ahd d (s % 32) n = ahd d s n := ahd_ext rfl (fun i _ => by rw [show (s % 32 + i) % 32 = (s + i) % 32 from by omega])
theorem has_take {p : Pp} (h : okd p = true) (n : Int) : has p = (ptake p n).2 ++ has (ptake p n).1 := by
  have B := okd_bounds h
  have hk := ptake_ok h n
  unfold has
  rw [if_pos hk, if_pos h]
  unfold ptake
  rw [if_pos h]
  have hm : few p n ≤ p.c.toNat := by unfold few; omega
  generalize few p n = m at *
  have hb0 := B.h; have hb1 := B.c
  show ahd p.d p.h.toNat p.c.toNat = ahd p.d p.h.toNat m ++ ahd p.d ((p.h + (m : Int)) % 32).toNat (p.c - (m : Int)).toNat
  rw [show ((p.h + (m : Int)) % 32).toNat = (p.h.toNat + m) % 32 from by omega, ahd_mod, ← ahd_add]
  congr 1
  omega
theorem has_len {p : Pp} (h : okd p = true) : (has p).length = p.c.toNat := by unfold has; rw [if_pos h, ahd_len]
theorem take_len {p : Pp} (h : okd p = true) (n : Int) : (ptake p n).2.length = few p n := by unfold ptake; rw [if_pos h, ahd_len]
end Go.Proofs.Ytojciodjffahnaa.Ri
