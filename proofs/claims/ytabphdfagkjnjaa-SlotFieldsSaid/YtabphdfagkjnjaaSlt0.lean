/- A process as plain data: sixteen numbers (State, Parent, Group, Code, Pending, Mask, Ignored, Caught, the eight Fds), when it is Ok, its bytes, what bytes are. -/
import Derived.Test.YtabphdfagkjnjaaCod0
import Derived.Test.YtabphdfagkjnjaaBits
namespace Go.Proofs.Ytabphdfagkjnjaa
open Go.RowKit
set_option linter.unusedVariables false
set_option linter.unusedSimpArgs false
theorem or_i64 (a b : Int) : bits .or .i64 a b = (BitVec.ofInt 64 a ||| BitVec.ofInt 64 b).toInt := wrap_toInt _
theorem off_i64 (a b : Int) : bits .andNot .i64 a b = (BitVec.ofInt 64 a &&& ~~~ BitVec.ofInt 64 b).toInt := wrap_toInt _
theorem toInt_nought (x : BitVec 64) : x.toInt = 0 ↔ x = 0#64 := by
  constructor
  · intro h; exact BitVec.eq_of_toInt_eq (by rw [h]; rfl)
  · intro h; rw [h]; rfl
theorem bv_or_and (a b c : BitVec 64) : (a ||| b) &&& c = 0#64 ↔ a &&& c = 0#64 ∧ b &&& c = 0#64 := by
  constructor
  · intro h
    constructor
    · apply BitVec.eq_of_getLsbD_eq
      intro i hi
      have := congrArg (fun x => x.getLsbD i) h
      simp at this ⊢
      intro ha
      exact this (.inl ha)
    · apply BitVec.eq_of_getLsbD_eq
      intro i hi
      have := congrArg (fun x => x.getLsbD i) h
      simp at this ⊢
      intro ha
      exact this (.inr ha)
  · rintro ⟨h1, h2⟩
    apply BitVec.eq_of_getLsbD_eq
    intro i hi
    have t1 := congrArg (fun x => x.getLsbD i) h1
    have t2 := congrArg (fun x => x.getLsbD i) h2
    simp at t1 t2 ⊢
    rintro (h | h)
    · exact t1 h
    · exact t2 h
/-- A number that an int can be. -/
def Wf (n : Int) : Prop := -9223372036854775808 ≤ n ∧ n ≤ 9223372036854775807
theorem wf_of {n : Int} (h : (Lit.int .i64 n).wf = true) : Wf n := by
  simp [Lit.wf, IntKind.min, IntKind.max, IntKind.signed, IntKind.bits] at h
  exact ⟨by omega, by omega⟩
theorem wf_bits64 (op : BinOp) (a b : Int) : Wf (bits op .i64 a b) := ⟨bits_lo_i64 op a b, bits_hi_i64 op a b⟩
theorem toInt_wf {n : Int} (h : Wf n) : (BitVec.ofInt 64 n).toInt = n := by
  rw [BitVec.toInt_ofInt]
  exact Int.bmod_eq_of_le (by have := h.1; simp; omega) (by have := h.2; simp; omega)
/-- The bits of signals. -/
def sig (n : Int) : Bool := decide (0 ≤ n ∧ n ≤ 65535) && bits .andNot .i64 n 65534 == 0
theorem sig_off {n : Int} (h : Wf n) : (bits .andNot .i64 n 65534 == 0) = sig n := by
  unfold sig
  by_cases h0 : bits .andNot .i64 n 65534 = 0
  · rw [off_i64, toInt_nought] at h0
    have h1 : BitVec.ofInt 64 n = BitVec.ofInt 64 n &&& BitVec.ofInt 64 65534 := by
      apply BitVec.eq_of_getLsbD_eq
      intro i hi
      have := congrArg (fun x => x.getLsbD i) h0
      simp only [BitVec.getLsbD_and, BitVec.getLsbD_not, hi, decide_true, Bool.true_and, BitVec.getLsbD_zero, Bool.and_eq_false_iff, Bool.not_eq_false'] at this ⊢
      rcases this with t | t
      · rw [t]; rfl
      · rw [t, Bool.and_true]
    have h2 : (BitVec.ofInt 64 n).toNat ≤ 65534 := by
      rw [h1, BitVec.toNat_and]
      exact Nat.le_trans Nat.and_le_right (by decide)
    have h3 := toInt_wf h
    rw [BitVec.toInt_eq_toNat_of_lt (by omega)] at h3
    have h4 : decide (0 ≤ n ∧ n ≤ 65535) = true := decide_eq_true ⟨by omega, by omega⟩
    rw [h4, Bool.true_and]
  · have h1 : (bits .andNot .i64 n 65534 == 0) = false := by simpa using h0
    rw [h1, Bool.and_false]
theorem sig_bounds {n : Int} (h : sig n = true) : 0 ≤ n ∧ n ≤ 65535 := by
  unfold sig at h
  rw [Bool.and_eq_true] at h
  exact of_decide_eq_true h.1
theorem sig_or {a b : Int} (ha : Wf a) (hb : Wf b) : sig (bits .or .i64 a b) = (sig a && sig b) := by
  rw [← sig_off (wf_bits64 _ _ _), ← sig_off ha, ← sig_off hb, Bool.eq_iff_iff, Bool.and_eq_true, beq_iff_eq, beq_iff_eq, beq_iff_eq]
  rw [off_i64, off_i64, off_i64, toInt_nought, toInt_nought, toInt_nought, or_i64, BitVec.ofInt_toInt]
  exact bv_or_and _ _ _
def inn (n lo hi : Int) : Bool := decide (lo ≤ n ∧ n ≤ hi)
theorem inn_out {n lo hi : Int} (h : inn n lo hi = true) : lo ≤ n ∧ n ≤ hi := of_decide_eq_true h
def ruled (m i c : Int) : Int := bits .or .i64 (bits .or .i64 m i) c
def setsOk (pe m i c : Int) : Bool := sig pe && sig m && sig i && sig c && bits .and .i64 (ruled m i c) 16896 == 0 && bits .and .i64 i c == 0
theorem setsOk_is {pe m i c : Int} (h1 : Wf pe) (h2 : Wf m) (h3 : Wf i) (h4 : Wf c) :
    (bits .andNot .i64 (bits .or .i64 pe (ruled m i c)) 65534 == 0 && bits .and .i64 (ruled m i c) 16896 == 0 && bits .and .i64 i c == 0) = setsOk pe m i c := by
  have hr : sig (ruled m i c) = (sig m && sig i && sig c) := by rw [ruled, sig_or (wf_bits64 _ _ _) h4, sig_or h2 h3]
  unfold setsOk
  rw [sig_off (wf_bits64 _ _ _), sig_or h1 (by unfold ruled; exact wf_bits64 _ _ _), hr]
  simp only [Bool.and_assoc]
def fdsOk (f : List Int) : Bool := f.all (inn · 0 12)
def fdsNone (f : List Int) : Bool := f.all (· == 0)
/-- 11.1. -/
def okd (p : List Int) : Bool :=
  inn (p.getD 0 0) 1 3 && inn (p.getD 1 0) 0 8 && inn (p.getD 2 0) 0 7 && inn (p.getD 3 0) 0 255 && setsOk (p.getD 4 0) (p.getD 5 0) (p.getD 6 0) (p.getD 7 0) && fdsOk (p.drop 8) &&
    (if p.getD 0 0 == 2 then fdsNone (p.drop 8) && p.getD 4 0 == 0 else p.getD 3 0 == 0)
def byt (n : Int) : UInt8 := UInt8.ofNat (n % 256).toNat
def pre (p : List Int) : List UInt8 :=
  [byt (p.getD 0 0), byt (p.getD 1 0), byt (p.getD 2 0), byt (p.getD 3 0)] ++ two (p.getD 4 0) ++ two (p.getD 5 0) ++ two (p.getD 6 0) ++ two (p.getD 7 0) ++ (p.drop 8).map byt ++ [167]
def sumb (l : List UInt8) : UInt8 := UInt8.ofNat (tot l % 256)
/-- 11.2. -/
def enc (p : List Int) : List UInt8 := pre p ++ [sumb (pre p), 0, 0]
def rd (l : List UInt8) : List Int :=
  [((l.getD 0 0).toNat : Int), ((l.getD 1 0).toNat : Int), ((l.getD 2 0).toNat : Int), ((l.getD 3 0).toNat : Int), num l 4, num l 6, num l 8, num l 10] ++ ((l.drop 12).take 8).map fun b => (b.toNat : Int)
def gd (l : List UInt8) : Bool := okd (rd l) && enc (rd l) == l
def noP : List Int := List.replicate 16 0
def dcd (l : List UInt8) : List Int × Int := if l.length = 24 then (if allNought l then (noP, 0) else if gd l then (rd l, 1) else (noP, 2)) else (noP, 2)
theorem split16 {p : List Int} (h : p.length = 16) : ∃ a0 a1 a2 a3 a4 a5 a6 a7 f0 f1 f2 f3 f4 f5 f6 f7, p = [a0, a1, a2, a3, a4, a5, a6, a7, f0, f1, f2, f3, f4, f5, f6, f7] := by
  match p, h with
  | [a0, a1, a2, a3, a4, a5, a6, a7, f0, f1, f2, f3, f4, f5, f6, f7], _ => exact ⟨_, _, _, _, _, _, _, _, _, _, _, _, _, _, _, _, rfl⟩
theorem split24 {l : List UInt8} (h : l.length = 24) : ∃ a0 a1 a2 a3 a4 a5 a6 a7 a8 a9 b0 b1 b2 b3 b4 b5 b6 b7 b8 b9 c0 c1 c2 c3, l = [a0, a1, a2, a3, a4, a5, a6, a7, a8, a9, b0, b1, b2, b3, b4, b5, b6, b7, b8, b9, c0, c1, c2, c3] := by
  match l, h with
  | [a0, a1, a2, a3, a4, a5, a6, a7, a8, a9, b0, b1, b2, b3, b4, b5, b6, b7, b8, b9, c0, c1, c2, c3], _ => exact ⟨_, _, _, _, _, _, _, _, _, _, _, _, _, _, _, _, _, _, _, _, _, _, _, _, rfl⟩
theorem pre_len {p : List Int} (h : p.length = 16) : (pre p).length = 21 := by simp [pre, two, h]
theorem enc_len {p : List Int} (h : p.length = 16) : (enc p).length = 24 := by simp [enc, pre_len h]
theorem rd_len {l : List UInt8} (h : l.length = 24) : (rd l).length = 16 := by simp [rd, h]
theorem byt_back {n : Int} (h0 : 0 ≤ n) (h1 : n ≤ 255) : (((byt n).toNat : Nat) : Int) = n := by
  unfold byt
  rw [byte_back]; omega
theorem num_back {n : Int} (h0 : 0 ≤ n) (h1 : n ≤ 65535) : (((UInt8.ofNat (n / 256 % 256).toNat).toNat : Nat) : Int) * 256 + (((UInt8.ofNat (n % 256).toNat).toNat : Nat) : Int) = n := by
  rw [byte_back, byte_back]; omega
structure Bounds (p : List Int) : Prop where
  s : 1 ≤ p.getD 0 0 ∧ p.getD 0 0 ≤ 3
  pa : 0 ≤ p.getD 1 0 ∧ p.getD 1 0 ≤ 8
  g : 0 ≤ p.getD 2 0 ∧ p.getD 2 0 ≤ 7
  c : 0 ≤ p.getD 3 0 ∧ p.getD 3 0 ≤ 255
  pe : 0 ≤ p.getD 4 0 ∧ p.getD 4 0 ≤ 65535
  m : 0 ≤ p.getD 5 0 ∧ p.getD 5 0 ≤ 65535
  i : 0 ≤ p.getD 6 0 ∧ p.getD 6 0 ≤ 65535
  ca : 0 ≤ p.getD 7 0 ∧ p.getD 7 0 ≤ 65535
  f : ∀ x ∈ p.drop 8, 0 ≤ x ∧ x ≤ 12
theorem okd_bounds {p : List Int} (h : okd p = true) : Bounds p := by
  unfold okd setsOk at h
  simp only [Bool.and_eq_true] at h
  obtain ⟨⟨⟨⟨⟨⟨h1, h2⟩, h3⟩, h4⟩, ⟨⟨⟨⟨h5, h6⟩, h7⟩, h8⟩, _⟩, _⟩, h9⟩, _⟩ := h
  refine ⟨inn_out h1, inn_out h2, inn_out h3, inn_out h4, sig_bounds h5, sig_bounds h6, sig_bounds h7, sig_bounds h8, fun x hx => ?_⟩
  unfold fdsOk at h9
  exact inn_out (List.all_eq_true.1 h9 x hx)
set_option maxHeartbeats 1000000 in
theorem rd_enc {p : List Int} (hl : p.length = 16) (h : okd p = true) : rd (enc p) = p := by
  have B := okd_bounds h
  clear h
  obtain ⟨a0, a1, a2, a3, a4, a5, a6, a7, f0, f1, f2, f3, f4, f5, f6, f7, rfl⟩ := split16 hl
  have e0 := byt_back (n := a0) (by have := B.s.1; simp at this; omega) (by have := B.s.2; simp at this; omega)
  have e1 := byt_back (n := a1) (by have := B.pa.1; simp at this; omega) (by have := B.pa.2; simp at this; omega)
  have e2 := byt_back (n := a2) (by have := B.g.1; simp at this; omega) (by have := B.g.2; simp at this; omega)
  have e3 := byt_back (n := a3) (by have := B.c.1; simp at this; omega) (by have := B.c.2; simp at this; omega)
  have e4 := num_back (n := a4) (by have := B.pe.1; simp at this; omega) (by have := B.pe.2; simp at this; omega)
  have e5 := num_back (n := a5) (by have := B.m.1; simp at this; omega) (by have := B.m.2; simp at this; omega)
  have e6 := num_back (n := a6) (by have := B.i.1; simp at this; omega) (by have := B.i.2; simp at this; omega)
  have e7 := num_back (n := a7) (by have := B.ca.1; simp at this; omega) (by have := B.ca.2; simp at this; omega)
  have ef : ∀ x ∈ [f0, f1, f2, f3, f4, f5, f6, f7], (((byt x).toNat : Nat) : Int) = x := fun x hx => by
    have := B.f x hx
    exact byt_back (by omega) (by omega)
  have d0 := ef f0 (by simp)
  have d1 := ef f1 (by simp)
  have d2 := ef f2 (by simp)
  have d3 := ef f3 (by simp)
  have d4 := ef f4 (by simp)
  have d5 := ef f5 (by simp)
  have d6 := ef f6 (by simp)
  have d7 := ef f7 (by simp)
  show [(((byt a0).toNat : Nat) : Int), (((byt a1).toNat : Nat) : Int), (((byt a2).toNat : Nat) : Int), (((byt a3).toNat : Nat) : Int), _ * 256 + _, _ * 256 + _, _ * 256 + _, _ * 256 + _, (((byt f0).toNat : Nat) : Int), (((byt f1).toNat : Nat) : Int), (((byt f2).toNat : Nat) : Int), (((byt f3).toNat : Nat) : Int), (((byt f4).toNat : Nat) : Int), (((byt f5).toNat : Nat) : Int), (((byt f6).toNat : Nat) : Int), (((byt f7).toNat : Nat) : Int)] = _
  rw [e0, e1, e2, e3, d0, d1, d2, d3, d4, d5, d6, d7]
  simp only [List.cons.injEq, and_true, true_and]
  exact ⟨e4, e5, e6, e7⟩
theorem enc_inj {p q : List Int} (hp : p.length = 16) (hq : q.length = 16) (op : okd p = true) (oq : okd q = true) : (enc p == enc q) = decide (p = q) := by
  rw [Bool.eq_iff_iff, beq_iff_eq, decide_eq_true_iff]
  exact ⟨fun h => by rw [← rd_enc hp op, h, rd_enc hq oq], fun h => by rw [h]⟩
theorem enc_mark {p : List Int} (hp : p.length = 16) : (enc p).getD 20 0 = 167 := by
  obtain ⟨a0, a1, a2, a3, a4, a5, a6, a7, f0, f1, f2, f3, f4, f5, f6, f7, rfl⟩ := split16 hp
  rfl
theorem nought_getD {l : List UInt8} (h : allNought l = true) (k : Nat) : l.getD k 0 = 0 := by
  rw [List.getD_eq_getElem?_getD]
  rcases Nat.lt_or_ge k l.length with h1 | h1
  · rw [List.getElem?_eq_getElem h1]
    have := List.all_eq_true.1 h l[k] (List.getElem_mem h1)
    simpa using this
  · rw [List.getElem?_eq_none h1]; rfl
theorem enc_some {p : List Int} (hp : p.length = 16) : allNought (enc p) = false := by
  cases h : allNought (enc p)
  · rfl
  · have := nought_getD h 20
    rw [enc_mark hp] at this
    exact absurd this (by decide)
theorem dcd_enc {p : List Int} (hp : p.length = 16) (op : okd p = true) : dcd (enc p) = (p, 1) := by
  unfold dcd gd
  rw [if_pos (enc_len hp), enc_some hp, if_neg (by simp), rd_enc hp op, op, if_pos (by simp)]
theorem dcd_good {l : List UInt8} {v : List Int} (h : dcd l = (v, 1)) : v.length = 16 ∧ okd v = true ∧ enc v = l := by
  unfold dcd at h
  split at h
  · rename_i hl
    split at h
    · cases h
    · split at h
      · rename_i hg
        cases h
        unfold gd at hg
        simp only [Bool.and_eq_true, beq_iff_eq] at hg
        exact ⟨rd_len hl, hg.1, hg.2⟩
      · cases h
  · cases h
theorem dcd_len (l : List UInt8) : (dcd l).1.length = 16 := by
  unfold dcd
  split
  · rename_i hl
    split
    · rfl
    · split
      · exact rd_len hl
      · rfl
  · rfl
theorem tot_app (a b : List UInt8) : tot (a ++ b) = tot a + tot b := by
  simp [tot, List.map_append, List.sum_append]; omega
theorem tot_cons (a : UInt8) (b : List UInt8) : tot (a :: b) = 1 + a.toNat + tot b := by
  simp [tot]; omega
theorem tot_set {l : List UInt8} {k : Nat} (h : k < l.length) (y : UInt8) : tot (l.set k y) + (l.getD k 0).toNat = tot l + y.toNat := by
  have e : l = l.take k ++ l[k] :: l.drop (k + 1) := by rw [List.getElem_cons_drop, List.take_append_drop]
  have e2 : l.set k y = l.take k ++ y :: l.drop (k + 1) := by rw [List.set_eq_take_append_cons_drop, if_pos h]
  have q1 := tot_app (l.take k) (l[k] :: l.drop (k + 1))
  have q2 := tot_app (l.take k) (y :: l.drop (k + 1))
  rw [← e, tot_cons] at q1
  rw [← e2, tot_cons] at q2
  rw [List.getD_eq_getElem?_getD, List.getElem?_eq_getElem h, Option.getD_some]
  omega
/-- One byte turned: it is no process any more. -/
theorem turned {p : List Int} (hp : p.length = 16) (op : okd p = true) {k : Nat} (hk : k < 24) {y : UInt8} (hy : (enc p).getD k 0 ≠ y) : dcd ((enc p).set k y) = (noP, 2) := by
  have hl : ((enc p).set k y).length = 24 := by rw [List.length_set, enc_len hp]
  have hB := okd_bounds op
  have hn : allNought ((enc p).set k y) = false := by
    cases h : allNought ((enc p).set k y)
    · rfl
    · by_cases h20 : k = 20
      · have h0 := nought_getD h 0
        rw [List.getD_eq_getElem?_getD, List.getElem?_set_ne (by omega), ← List.getD_eq_getElem?_getD] at h0
        have e0 : (enc p).getD 0 0 = byt (p.getD 0 0) := rfl
        rw [e0] at h0
        have := byt_back (n := p.getD 0 0) (by have := hB.s; omega) (by have := hB.s; omega)
        rw [h0] at this
        have := hB.s
        simp at *
        omega
      · have h0 := nought_getD h 20
        rw [List.getD_eq_getElem?_getD, List.getElem?_set_ne h20, ← List.getD_eq_getElem?_getD, enc_mark hp] at h0
        exact absurd h0 (by decide)
  unfold dcd
  rw [if_pos hl, hn, if_neg (by simp)]
  cases hg : gd ((enc p).set k y)
  · rfl
  · exfalso
    unfold gd at hg
    simp only [Bool.and_eq_true, beq_iff_eq] at hg
    obtain ⟨oq, he⟩ := hg
    have hq := rd_len hl
    generalize rd ((enc p).set k y) = q at oq he hq
    have a1 : (pre p).length = 21 := pre_len hp
    have a2 : (pre q).length = 21 := pre_len hq
    have hkl : k < (enc p).length := by rw [enc_len hp]; exact hk
    rcases (show k < 21 ∨ k = 21 ∨ k = 22 ∨ k = 23 from by omega) with h | h | h | h
    · have t1 : pre q = (pre p).set k y := by
        have := congrArg (List.take 21) he
        rw [List.take_set, enc, enc, List.take_append_of_le_length (by omega), List.take_append_of_le_length (by omega), List.take_of_length_le (by omega), List.take_of_length_le (by omega)] at this
        exact this
      have t2 : sumb (pre q) = sumb (pre p) := by
        have := congrArg (fun x => x.getD 21 0) he
        simp only [List.getD_eq_getElem?_getD] at this
        rw [List.getElem?_set_ne (by omega), enc, enc, List.getElem?_append_right (by omega), List.getElem?_append_right (by omega), a1, a2] at this
        simpa using this
      have t3 := tot_set (l := pre p) (k := k) (by omega) y
      rw [← t1] at t3
      have t4 : (enc p).getD k 0 = (pre p).getD k 0 := by
        rw [List.getD_eq_getElem?_getD, List.getD_eq_getElem?_getD, enc, List.getElem?_append_left (by omega)]
      rw [t4] at hy
      have t5 : tot (pre q) % 256 = tot (pre p) % 256 := by
        have := congrArg UInt8.toNat t2
        unfold sumb at this
        rw [UInt8.toNat_ofNat', UInt8.toNat_ofNat'] at this
        omega
      have u1 := ((pre p).getD k 0).toNat_lt
      have u2 := y.toNat_lt
      exact hy (UInt8.toNat_inj.1 (by omega))
    all_goals
      have t1 : pre q = pre p := by
        have := congrArg (List.take 21) he
        rw [List.take_set, List.set_eq_of_length_le (by simp [enc, a1]; omega), enc, enc, List.take_append_of_le_length (by omega), List.take_append_of_le_length (by omega), List.take_of_length_le (by omega), List.take_of_length_le (by omega)] at this
        exact this
      have t2 : enc q = enc p := by unfold enc; rw [t1]
      rw [t2] at he
      have := congrArg (fun x => x.getD k 0) he
      simp only [List.getD_eq_getElem?_getD] at this
      rw [List.getElem?_set_self hkl] at this
      rw [List.getD_eq_getElem?_getD] at hy
      exact hy this
end Go.Proofs.Ytabphdfagkjnjaa
