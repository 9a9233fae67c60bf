/- Texts Pl9, packed. -/
import Derived.Test.YtifigjccokpcfaaGreatPk0
import Derived.Test.YtifigjccokpcfaaGreatPk3
import Derived.Test.YtifigjccokpcfaaGreatPk5
import Derived.Test.YtifigjccokpcfaaGreatPax0
import Derived.Test.YtifigjccokpcfaaGreatPk18
import Derived.Test.YtifigjccokpcfaaGreatPk19
import Derived.Test.YtifigjccokpcfaaGreatPk1
import Derived.Test.YtifigjccokpcfaaGreatPk8
import Derived.Test.YtifigjccokpcfaaGreatPk12
import Derived.Test.YtifigjccokpcfaaGreatPk21
import Derived.Test.YtifigjccokpcfaaGreatPk22
import Derived.Test.YtifigjccokpcfaaGreatPk13
import Derived.Test.YtifigjccokpcfaaGreatPax2
import Derived.Test.YtifigjccokpcfaaGreatPk15
import Derived.Test.YtifigjccokpcfaaGreatPk14
import Derived.Test.YtifigjccokpcfaaGreatPk16
import Derived.Test.YtifigjccokpcfaaGreatPk17
import Derived.Test.YtifigjccokpcfaaGreatPk24
import Derived.Test.YtifigjccokpcfaaGreatPk23
import Derived.Test.YtifigjccokpcfaaGreatPk6
import Derived.Test.YtifigjccokpcfaaGreatPk9
import Derived.Test.YtifigjccokpcfaaGreatPk20
import Derived.Test.YtifigjccokpcfaaGreatPk2
import Derived.Test.YtifigjccokpcfaaGreatPax1
import Derived.Test.YtifigjccokpcfaaGreatPk25
import Derived.Test.YtifigjccokpcfaaGreatPk26
import Derived.Test.YtifigjccokpcfaaGreatPk10
import Derived.Test.YtifigjccokpcfaaGreatPk11
import Derived.Test.YtifigjccokpcfaaGreatPax3
import Derived.Test.YtifigjccokpcfaaGreatPk27
import Derived.Test.YtifigjccokpcfaaGreatPk7
import Derived.Test.YtifigjccokpcfaaGreatPk28
namespace Go.Proofs.YtifigjccokpcfaaGreat.Pn
open Go.RowKit Co
set_option linter.unusedVariables false
set_option linter.unusedSimpArgs false
/-- A row of noughts but for one nine is no process. -/
theorem dcd_nine : Cd.dcd (List.replicate 5 0 ++ 9 :: List.replicate 18 0) = (Cd.noP, 2) := by decide +kernel
section
variable {i : Nat}
def xs1 (i : Nat) : List UInt8 := splice xs0 (0 + (24 * i + 5)) [9]
theorem xs1_len (h : i ≤ 7) : (xs1 i).length = 2560 := by
  unfold xs1
  rw [splice_len _ _ _ (by rw [xs0_len]; simp; omega), xs0_len]
theorem take_split {l : List UInt8} {a n m : Nat} : (l.drop a).take (n + m) = (l.drop a).take n ++ (l.drop (a + n)).take m := by
  rw [List.take_add, List.drop_drop]
theorem xs0_z {a n : Nat} (h : a + n ≤ 448) : (xs0.drop a).take n = List.replicate n 0 := by
  have := got0 (a := a) (n := n) (by omega)
  rw [← blank_z h, ← this]
  show _ = (xs0.drop (0 + a)).take n
  rw [Nat.zero_add]
theorem xs1_row (h : i ≤ 7) : ((xs1 i).drop (0 + 24 * i)).take 24 = List.replicate 5 0 ++ 9 :: List.replicate 18 0 := by
  have hf : 0 + (24 * i + 5) + [(9 : UInt8)].length ≤ xs0.length := by rw [xs0_len]; simp; omega
  have h1 : [(9 : UInt8)].length = 1 := rfl
  have hs : (((xs1 i).drop (24 * i)).take 24) = ((xs1 i).drop (24 * i)).take 5 ++ (((xs1 i).drop (24 * i + 5)).take 1 ++ ((xs1 i).drop (24 * i + 5 + 1)).take 18) := by
    rw [← take_split, ← take_split]
  rw [Nat.zero_add, hs]
  unfold xs1
  rw [splice_by (a := 24 * i) (n := 5) hf (.inl (by omega)), splice_by (a := 24 * i + 5 + 1) (n := 18) hf (.inr (by omega)), xs0_z (by omega), xs0_z (by omega)]
  have e1 := splice_in (L := xs0) (cs := [9]) (o := 0 + (24 * i + 5)) (a := 0) (n := 1) hf (by simp)
  rw [show 0 + (24 * i + 5) + 0 = 24 * i + 5 by omega] at e1
  rw [e1]
  rfl
theorem spoilt (h : i ≤ 7) : pread Cd.dcd Cd.noP (xs1 i) (src2 0) 2 [] (1, (i : Int)) = ((Cd.noP, 2), [(1, (i : Int))]) := by
  refine (pread_some (x := (0, 24 * i, 24)) (by simp) (by simp [wher]; omega) (v := Cd.noP) (d := 2) ?_).trans rfl
  show Cd.dcd (((xs1 i).drop (0 + 24 * i)).take 24) = _
  rw [xs1_row h]
  exact dcd_nine
def xs2 (i : Nat) (P : List Int) : List UInt8 := splice (xs1 i) (0 + 24 * i) (Cd.enc P)
theorem xs2_len (h : i ≤ 7) {P : List Int} (hP : P.length = 16) : (xs2 i P).length = 2560 := by
  have := Cd.enc_len hP
  unfold xs2
  rw [splice_len _ _ _ (by rw [xs1_len h]; omega), xs1_len h]
/-- A process where it was written. -/
theorem read_at {xs : List UInt8} (hx : xs.length = 2560) (h : i ≤ 7) {P : List Int} (hP : P.length = 16) (ok : Cd.okd P = true) {bad : List Rf} (hb : (1, (i : Int)) ∉ bad) : pread Cd.dcd Cd.noP (splice xs (0 + 24 * i) (Cd.enc P)) (src2 0) 2 bad (1, (i : Int)) = ((P, 1), bad) := by
  have he := Cd.enc_len hP
  refine (pread_some (x := (0, 24 * i, 24)) hb (by simp [wher]; omega) (v := P) (d := 1) ?_).trans rfl
  show Cd.dcd (((splice xs (0 + 24 * i) (Cd.enc P)).drop (0 + 24 * i)).take 24) = _
  have e1 := splice_in (L := xs) (cs := Cd.enc P) (o := 0 + 24 * i) (a := 0) (n := 24) (by omega) (by omega)
  rw [Nat.add_zero] at e1
  rw [e1, List.drop_zero, List.take_of_length_le (by omega)]
  exact Cd.dcd_enc hP ok
/-- .. and another one was written elsewhere. -/
theorem read_by {xs : List UInt8} (hx : xs.length = 2560) (h : i ≤ 7) {j : Nat} (hj : j ≤ 7) (hne : j ≠ i) {P Q : List Int} (hP : P.length = 16) (ok : Cd.okd P = true) (hQ : Q.length = 16) {bad : List Rf} (hb : (1, (i : Int)) ∉ bad) : pread Cd.dcd Cd.noP (splice (splice xs (0 + 24 * i) (Cd.enc P)) (0 + 24 * j) (Cd.enc Q)) (src2 0) 2 bad (1, (i : Int)) = ((P, 1), bad) := by
  have he := Cd.enc_len hP
  have hq := Cd.enc_len hQ
  refine (pread_some (x := (0, 24 * i, 24)) hb (by simp [wher]; omega) (v := P) (d := 1) ?_).trans rfl
  show Cd.dcd (((splice (splice xs (0 + 24 * i) (Cd.enc P)) (0 + 24 * j) (Cd.enc Q)).drop (0 + 24 * i)).take 24) = _
  rw [splice_by (by rw [splice_len _ _ _ (by omega)]; omega) (by omega)]
  have e1 := splice_in (L := xs) (cs := Cd.enc P) (o := 0 + 24 * i) (a := 0) (n := 24) (by omega) (by omega)
  rw [Nat.add_zero] at e1
  rw [e1, List.drop_zero, List.take_of_length_le (by omega)]
  exact Cd.dcd_enc hP ok
theorem set_at {xs : List UInt8} (h : i ≤ 7) {P : List Int} (ok : Cd.okd P = true) {bad : List Rf} (hb : (1, (i : Int)) ∉ bad) : pset (Cd.okd P) (Cd.enc P) xs (src2 0) 2 bad (1, (i : Int)) = (true, splice xs (0 + 24 * i) (Cd.enc P)) := by
  unfold pset
  rw [ok, if_pos rfl, pwrite_some (x := (0, 24 * i, 24)) hb (by simp [wher]; omega) (base := 0) rfl]
end
/-- A load behind a guard that holds. -/
theorem flat_ldw {t : TypeId} {n : Nat} {z q : List Value} (F : Flat t n z) {ops : Array Oper} {rest : List Oper} {o : Oper} {a : Act} {Q : Exit → Act → World → Prop} {w : World} {x : Operand} {g : Nat} (hw : Region.wanted o (yielded ops a.tmps) = true) (ho : o.op = .load t x) (hx : a.eval x = .pointer (some ⟨g, 0, none⟩)) (hq : Cells n q) (hb : Blk w g t q)
    (h : wpList Tryz.prog ops Q rest (a.put o.dst (.agg q.toArray)) w) : wpList Tryz.prog ops Q (o :: rest) a w := by
  refine wpList_step fun K hK => ?_
  rw [if_pos hw]
  have hrun := F.load hq hb
  unfold Oper.wp
  simp [execOp, ho, hx, Instr.loadAt, Instr.sureAddr, hrun, Result.andThen]
  exact hK _ _ h
def xs3 (i : Nat) (P : List Int) (j : Nat) (Q : List Int) : List UInt8 := splice (xs2 i P) (0 + 24 * j) (Cd.enc Q)
/-- The other record that is set. -/
theorem other_i {i : Nat} (hi : i ≤ 7) (m : Int) (hm : 0 ≤ m ∧ m ≤ 6) : ∃ j0 : Nat, j0 ≤ 7 ∧ bits .and .i64 ((i : Int) + 1 + m) 7 = (j0 : Int) ∧ bits .and .i64 ((i : Int) + 1) 7 = (((i + 1) % 8 : Nat) : Int) := by
  have h1 := i64_mask ((i : Int) + 1 + m) 3 (by decide)
  have h2 := i64_mask ((i : Int) + 1) 3 (by decide)
  rw [show (2 : Int) ^ 3 - 1 = 7 from rfl] at h1 h2
  exact ⟨(((i : Int) + 1 + m) % 8).toNat, by omega, by rw [h1]; omega, by rw [h2]; omega⟩
end Go.Proofs.YtifigjccokpcfaaGreat.Pn
