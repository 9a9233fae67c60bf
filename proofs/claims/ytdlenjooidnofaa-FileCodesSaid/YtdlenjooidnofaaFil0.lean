/- An open file as plain data: four numbers (Kind, Pipe, Refs, Flags), when it is Ok, its bytes, what bytes are. -/
import Derived.Test.YtdlenjooidnofaaCod0
namespace Go.Proofs.Ytdlenjooidnofaa.Fi
open Go.RowKit
set_option linter.unusedVariables false
set_option linter.unusedSimpArgs false
/-- A number that an int can be. -/
def Wf (n : Int) : Prop := -9223372036854775808 ≤ n ∧ n ≤ 9223372036854775807
theorem wf_of {n : Int} (h : (Lit.int .i64 n).wf = true) : Wf n := by
  simp [Lit.wf, IntKind.min, IntKind.max, IntKind.signed, IntKind.bits] at h
  exact ⟨by omega, by omega⟩
def inn (n lo hi : Int) : Bool := decide (lo ≤ n ∧ n ≤ hi)
theorem inn_out {n lo hi : Int} (h : inn n lo hi = true) : lo ≤ n ∧ n ≤ hi := of_decide_eq_true h
def last (n : Int) : Int := if n = 3 then 0 else 7
/-- 12.1. -/
def okd (p : List Int) : Bool :=
  inn (p.getD 0 0) 1 3 && inn (p.getD 1 0) 0 (last (p.getD 0 0)) && inn (p.getD 2 0) 1 64 && inn (p.getD 3 0) 0 1
def byt (n : Int) : UInt8 := UInt8.ofNat (n % 256).toNat
def pre (p : List Int) : List UInt8 := [byt (p.getD 0 0), byt (p.getD 1 0), byt (p.getD 2 0), byt (p.getD 3 0), 179]
def sumb (l : List UInt8) : UInt8 := UInt8.ofNat (tot l % 256)
/-- 12.2. -/
def enc (p : List Int) : List UInt8 := pre p ++ [sumb (pre p), 0, 0]
def rd (l : List UInt8) : List Int := [((l.getD 0 0).toNat : Int), ((l.getD 1 0).toNat : Int), ((l.getD 2 0).toNat : Int), ((l.getD 3 0).toNat : Int)]
def gd (l : List UInt8) : Bool := okd (rd l) && enc (rd l) == l
def noP : List Int := List.replicate 4 0
def dcd (l : List UInt8) : List Int × Int := if l.length = 8 then (if allNought l then (noP, 0) else if gd l then (rd l, 1) else (noP, 2)) else (noP, 2)
theorem split4 {p : List Int} (h : p.length = 4) : ∃ a0 a1 a2 a3, p = [a0, a1, a2, a3] := by
  match p, h with
  | [a0, a1, a2, a3], _ => exact ⟨_, _, _, _, rfl⟩
theorem split8 {l : List UInt8} (h : l.length = 8) : ∃ a0 a1 a2 a3 a4 a5 a6 a7, l = [a0, a1, a2, a3, a4, a5, a6, a7] := by
  match l, h with
  | [a0, a1, a2, a3, a4, a5, a6, a7], _ => exact ⟨_, _, _, _, _, _, _, _, rfl⟩
theorem pre_len (p : List Int) : (pre p).length = 5 := rfl
theorem enc_len (p : List Int) : (enc p).length = 8 := rfl
theorem rd_len (l : List UInt8) : (rd l).length = 4 := rfl
theorem byt_back {n : Int} (h0 : 0 ≤ n) (h1 : n ≤ 255) : (((byt n).toNat : Nat) : Int) = n := by
  unfold byt
  rw [byte_back]; omega
structure Bounds (p : List Int) : Prop where
  k : 1 ≤ p.getD 0 0 ∧ p.getD 0 0 ≤ 3
  pi : 0 ≤ p.getD 1 0 ∧ p.getD 1 0 ≤ 7
  r : 1 ≤ p.getD 2 0 ∧ p.getD 2 0 ≤ 64
  f : 0 ≤ p.getD 3 0 ∧ p.getD 3 0 ≤ 1
theorem okd_bounds {p : List Int} (h : okd p = true) : Bounds p := by
  unfold okd at h
  simp only [Bool.and_eq_true] at h
  obtain ⟨⟨⟨h1, h2⟩, h3⟩, h4⟩ := h
  have h2 := inn_out h2
  refine ⟨inn_out h1, ⟨h2.1, ?_⟩, inn_out h3, inn_out h4⟩
  have := h2.2
  unfold last at this
  split at this <;> omega
theorem wf_ok {p : List Int} (hl : p.length = 4) (h : okd p = true) : ∀ x ∈ p, Wf x := by
  have B := okd_bounds h
  obtain ⟨a0, a1, a2, a3, rfl⟩ := split4 hl
  have b0 := B.k; have b1 := B.pi; have b2 := B.r; have b3 := B.f
  simp only [List.getD_cons_succ, List.getD_cons_zero] at b0 b1 b2 b3
  intro x hx
  simp only [List.mem_cons, List.not_mem_nil, or_false] at hx
  rcases hx with rfl | rfl | rfl | rfl <;> exact ⟨by omega, by omega⟩
theorem rd_enc {p : List Int} (hl : p.length = 4) (h : okd p = true) : rd (enc p) = p := by
  have B := okd_bounds h
  clear h
  obtain ⟨a0, a1, a2, a3, rfl⟩ := split4 hl
  have b0 := B.k; have b1 := B.pi; have b2 := B.r; have b3 := B.f
  simp only [List.getD_cons_succ, List.getD_cons_zero] at b0 b1 b2 b3
  have e0 := byt_back (n := a0) (by omega) (by omega)
  have e1 := byt_back (n := a1) (by omega) (by omega)
  have e2 := byt_back (n := a2) (by omega) (by omega)
  have e3 := byt_back (n := a3) (by omega) (by omega)
  show [(((byt a0).toNat : Nat) : Int), (((byt a1).toNat : Nat) : Int), (((byt a2).toNat : Nat) : Int), (((byt a3).toNat : Nat) : Int)] = _
  rw [e0, e1, e2, e3]
theorem enc_inj {p q : List Int} (hp : p.length = 4) (hq : q.length = 4) (op : okd p = true) (oq : okd q = true) : (enc p == enc q) = decide (p = q) := by
  rw [Bool.eq_iff_iff, beq_iff_eq, decide_eq_true_iff]
  exact ⟨fun h => by rw [← rd_enc hp op, h, rd_enc hq oq], fun h => by rw [h]⟩
theorem enc_mark (p : List Int) : (enc p).getD 4 0 = 179 := rfl
theorem nought_getD {l : List UInt8} (h : allNought l = true) (k : Nat) : l.getD k 0 = 0 := by
  rw [List.getD_eq_getElem?_getD]
  rcases Nat.lt_or_ge k l.length with h1 | h1
  · rw [List.getElem?_eq_getElem h1]
    have := List.all_eq_true.1 h l[k] (List.getElem_mem h1)
    simpa using this
  · rw [List.getElem?_eq_none h1]; rfl
theorem enc_some (p : List Int) : allNought (enc p) = false := by
  cases h : allNought (enc p)
  · rfl
  · have := nought_getD h 4
    rw [enc_mark p] at this
    exact absurd this (by decide)
theorem dcd_enc {p : List Int} (hp : p.length = 4) (op : okd p = true) : dcd (enc p) = (p, 1) := by
  unfold dcd gd
  rw [if_pos (enc_len p), enc_some p, if_neg (by simp), rd_enc hp op, op, if_pos (by simp)]
theorem dcd_good {l : List UInt8} {v : List Int} (h : dcd l = (v, 1)) : v.length = 4 ∧ okd v = true ∧ enc v = l := by
  unfold dcd at h
  split at h
  · split at h
    · cases h
    · split at h
      · rename_i hg
        cases h
        unfold gd at hg
        simp only [Bool.and_eq_true, beq_iff_eq] at hg
        exact ⟨rfl, hg.1, hg.2⟩
      · cases h
  · cases h
theorem dcd_len (l : List UInt8) : (dcd l).1.length = 4 := by
  unfold dcd
  split
  · split
    · rfl
    · split <;> rfl
  · rfl
theorem tot_app (a b : List UInt8) : tot (a ++ b) = tot a + tot b := by
  simp [tot, List.map_append, List.sum_append]; omega
theorem tot_cons (a : UInt8) (b : List UInt8) : tot (a :: b) = 1 + a.toNat + tot b := by
  simp [tot]; omega
theorem tot_set {l : List UInt8} {k : Nat} (h : k < l.length) (y : UInt8) : tot (l.set k y) + (l.getD k 0).toNat = tot l + y.toNat := by
  have e : l = l.take k ++ l[k] :: l.drop (k + 1) := by rw [List.getElem_cons_drop, List.take_append_drop]
  have e2 : l.set k y = l.take k ++ y :: l.drop (k + 1) := by rw [List.set_eq_take_append_cons_drop, if_pos h]
  have q1 := tot_app (l.take k) (l[k] :: l.drop (k + 1))
  have q2 := tot_app (l.take k) (y :: l.drop (k + 1))
  rw [← e, tot_cons] at q1
  rw [← e2, tot_cons] at q2
  rw [List.getD_eq_getElem?_getD, List.getElem?_eq_getElem h, Option.getD_some]
  omega
/-- One byte turned: it is no file any more. -/
theorem turned {p : List Int} (op : okd p = true) {k : Nat} (hk : k < 8) {y : UInt8} (hy : (enc p).getD k 0 ≠ y) : dcd ((enc p).set k y) = (noP, 2) := by
  have hl : ((enc p).set k y).length = 8 := by rw [List.length_set, enc_len]
  have hB := okd_bounds op
  have hn : allNought ((enc p).set k y) = false := by
    cases h : allNought ((enc p).set k y)
    · rfl
    · by_cases h4 : k = 4
      · have h0 := nought_getD h 0
        rw [List.getD_eq_getElem?_getD, List.getElem?_set_ne (by omega), ← List.getD_eq_getElem?_getD] at h0
        have e0 : (enc p).getD 0 0 = byt (p.getD 0 0) := rfl
        rw [e0] at h0
        have := byt_back (n := p.getD 0 0) (by have := hB.k; omega) (by have := hB.k; omega)
        rw [h0] at this
        have := hB.k
        simp at *
        omega
      · have h0 := nought_getD h 4
        rw [List.getD_eq_getElem?_getD, List.getElem?_set_ne h4, ← List.getD_eq_getElem?_getD, enc_mark p] at h0
        exact absurd h0 (by decide)
  unfold dcd
  rw [if_pos hl, hn, if_neg (by simp)]
  cases hg : gd ((enc p).set k y)
  · rfl
  · exfalso
    unfold gd at hg
    simp only [Bool.and_eq_true, beq_iff_eq] at hg
    obtain ⟨oq, he⟩ := hg
    generalize rd ((enc p).set k y) = q at oq he
    have a1 : (pre p).length = 5 := rfl
    have a2 : (pre q).length = 5 := rfl
    have hkl : k < (enc p).length := by rw [enc_len]; exact hk
    rcases (show k < 5 ∨ k = 5 ∨ k = 6 ∨ k = 7 from by omega) with h | h | h | h
    · have t1 : pre q = (pre p).set k y := by
        have := congrArg (List.take 5) he
        rw [List.take_set, enc, enc, List.take_append_of_le_length (by omega), List.take_append_of_le_length (by omega), List.take_of_length_le (by omega), List.take_of_length_le (by omega)] at this
        exact this
      have t2 : sumb (pre q) = sumb (pre p) := by
        have := congrArg (fun x => x.getD 5 0) he
        simp only [List.getD_eq_getElem?_getD] at this
        rw [List.getElem?_set_ne (by omega), enc, enc, List.getElem?_append_right (by omega), List.getElem?_append_right (by omega), a1, a2] at this
        simpa using this
      have t3 := tot_set (l := pre p) (k := k) (by omega) y
      rw [← t1] at t3
      have t4 : (enc p).getD k 0 = (pre p).getD k 0 := by
        rw [List.getD_eq_getElem?_getD, List.getD_eq_getElem?_getD, enc, List.getElem?_append_left (by omega)]
      rw [t4] at hy
      have t5 : tot (pre q) % 256 = tot (pre p) % 256 := by
        have := congrArg UInt8.toNat t2
        unfold sumb at this
        rw [UInt8.toNat_ofNat', UInt8.toNat_ofNat'] at this
        omega
      have u1 := ((pre p).getD k 0).toNat_lt
      have u2 := y.toNat_lt
      exact hy (UInt8.toNat_inj.1 (by omega))
    all_goals
      have t1 : pre q = pre p := by
        have := congrArg (List.take 5) he
        rw [List.take_set, List.set_eq_of_length_le (by simp [enc, a1]; omega), enc, enc, List.take_append_of_le_length (by omega), List.take_append_of_le_length (by omega), List.take_of_length_le (by omega), List.take_of_length_le (by omega)] at this
        exact this
      have t2 : enc q = enc p := by unfold enc; rw [t1]
      rw [t2] at he
      have := congrArg (fun x => x.getD k 0) he
      simp only [List.getD_eq_getElem?_getD] at this
      rw [List.getElem?_set_self hkl] at this
      rw [List.getD_eq_getElem?_getD] at hy
      exact hy this
end Go.Proofs.Ytdlenjooidnofaa.Fi
