/- Contracts of package bell: Take and Ring in one word each, Either, Drain; a Bell that a call has made; the document's SameInts. -/
import Derived.Test.YtbieffenicojpaaBel0
namespace Go.Proofs.Ytbieffenicojpaa
open Go.RowKit
set_option linter.unusedVariables false
set_option linter.unusedSimpArgs false
theorem infoint : (Try.prog.info? 3).map (fun i => (i.zero, i.size, i.bytes)) = some (some (.int .i64 0), 1, 8) := by kernel_rfl
def lenOf : Value → Nat
  | .slice _ n _ => n
  | _ => 0
/-- A pointer that is none, or points at a Bell. -/
def IsB (w : World) (v : Value) (c : Option Nat) (cap : Nat) (l : List Int) : Prop :=
  match c with
  | none => v = .pointer none ∧ l = []
  | some c => ∃ p, v = .pointer (some ⟨p, 0, none⟩) ∧ IsBell w p c cap l
def At (c : Option Nat) : Nat → Prop := fun k => c = some k
section
variable {w w' : World} {v : Value} {c : Option Nat} {cap : Nat} {l : List Int}
theorem IsB.nil (w : World) : IsB w (.pointer none) none 0 [] := ⟨rfl, rfl⟩
theorem IsBell.isB {p c : Nat} (h : IsBell w p c cap l) : IsB w (.pointer (some ⟨p, 0, none⟩)) (some c) cap l := ⟨p, rfl, h⟩
theorem IsB.nob (h : IsB w v c cap l) (k : Keep Nob w w') : IsB w' v c cap l := by
  cases c with
  | none => exact h
  | some c => obtain ⟨p, rfl, h⟩ := h; exact ⟨p, rfl, h.nob k⟩
/-- What is done at one Bell's channel leaves another one. -/
theorem IsB.far {c' : Option Nat} (h : IsB w v c cap l) {v' : Value} {cap' : Nat} {l' : List Int} (h' : IsB w v' c' cap' l') (hne : ∀ x, c = some x → c' ≠ some x) (k : Keep (At c') w w') : IsB w' v c cap l := by
  cases c with
  | none => exact h
  | some c =>
    obtain ⟨p, rfl, h⟩ := h
    refine ⟨p, rfl, h.keep k (fun e => ?_) (hne c rfl)⟩
    cases c' with
    | none => cases e
    | some c' =>
      cases e
      obtain ⟨p', rfl, h'⟩ := h'
      exact h'.ch.ne_ h.obj rfl
theorem take_is (h : IsB w v c cap l) :
    Calls Try.prog 9 #[v] w fun e w' => e = .returned (.tuple #[.int .i64 (l.headD 0), .bool (!l.isEmpty)]) ∧ IsB w' v c cap l.tail ∧ Keep (At c) w w' ∧ w'.heap.size = w.heap.size := by
  cases c with
  | none =>
    obtain ⟨rfl, rfl⟩ := h
    refine (take_nil w).mono ?_; rintro e w1 ⟨rfl, rfl⟩
    exact ⟨rfl, ⟨rfl, rfl⟩, Keep.refl _ _, rfl⟩
  | some c =>
    obtain ⟨p, rfl, h⟩ := h
    cases l with
    | nil =>
      refine (take_none h).mono ?_; rintro e w1 ⟨rfl, rfl⟩
      exact ⟨rfl, h.isB, Keep.refl _ _, rfl⟩
    | cons x l =>
      refine (take_some h).mono ?_; rintro e w1 ⟨rfl, h1, k1, s1⟩
      exact ⟨rfl, h1.isB, k1.mono (fun _ _ e => congrArg some e.symm), s1⟩
/-- What is kept behind a Ring. -/
def rung (cap : Nat) (l : List Int) (x : Int) : List Int := if l.length < cap then l ++ [x] else l
theorem ring_is {p c : Nat} (h : IsBell w p c cap l) (x : Int) :
    Calls Try.prog 8 #[.pointer (some ⟨p, 0, none⟩), .int .i64 x] w fun e w' => e = .returned (.bool (decide (l.length < cap))) ∧ IsBell w' p c cap (rung cap l x) ∧ Keep (· = c) w w' ∧ w'.heap.size = w.heap.size := by
  by_cases hr : l.length < cap
  · refine (ring_room h x hr).mono ?_; rintro e w1 ⟨rfl, h1, k1, s1⟩
    exact ⟨by simp [hr], by rw [rung, if_pos hr]; exact h1, k1, s1⟩
  · refine (ring_full h x hr).mono ?_; rintro e w1 ⟨rfl, rfl⟩
    exact ⟨by simp [hr], by rw [rung, if_neg hr]; exact h, Keep.refl _ _, rfl⟩
/-- What Either tells of what two Bells keep, and what the second one keeps behind it. -/
def eith (la lb : List Int) : Value :=
  if la.isEmpty = false then .tuple #[.int .i64 (la.headD 0), .int .i64 0, .bool true] else if lb.isEmpty = false then .tuple #[.int .i64 (lb.headD 0), .int .i64 1, .bool true] else .tuple #[.int .i64 0, .int .i64 0, .bool false]
def eithB (la lb : List Int) : List Int := if la.isEmpty = false then lb else lb.tail
/-- Either of two Bells (or none) over channels that differ. -/
theorem either_is {va vb : Value} {ca cb : Option Nat} {na nb : Nat} {la lb : List Int} (ha : IsB w va ca na la) (hb : IsB w vb cb nb lb) (hne : ∀ x, ca = some x → cb ≠ some x) :
    Calls Try.prog 12 #[va, vb] w fun e w' => e = .returned (eith la lb) ∧ IsB w' va ca na la.tail ∧ IsB w' vb cb nb (eithB la lb) ∧ Keep (fun k => At ca k ∨ At cb k) w w' ∧ w'.heap.size = w.heap.size := by
  have ta := take_is ha
  have tb : ∀ w1, Keep (At ca) w w1 → _ := fun w1 k => take_is (hb.far ha (fun x e e' => hne x e' e) k)
  have fin : ∀ w1 v, IsB w1 va ca na la.tail → Keep (At ca) w w1 → w1.heap.size = w.heap.size → la.isEmpty = false → v = .tuple #[.int .i64 (la.headD 0), .int .i64 0, .bool true] → Ending.returned v = .returned (eith la lb) ∧ IsB w1 va ca na la.tail ∧ IsB w1 vb cb nb (eithB la lb) ∧ Keep (fun k => At ca k ∨ At cb k) w w1 ∧ w1.heap.size = w.heap.size := by
    rintro w1 v h1 k1 s1 hA rfl
    exact ⟨by rw [eith, if_pos hA], h1, by rw [eithB, if_pos hA]; exact hb.far ha (fun x e e' => hne x e' e) k1, k1.mono (fun _ _ m => .inl m), s1⟩
  have fin2 : ∀ w1 w2 v, IsB w1 va ca na la.tail → Keep (At ca) w w1 → w1.heap.size = w.heap.size → IsB w2 vb cb nb lb.tail → Keep (At cb) w1 w2 → w2.heap.size = w1.heap.size → la.isEmpty = true → v = (if lb.isEmpty = false then .tuple #[.int .i64 (lb.headD 0), .int .i64 1, .bool true] else .tuple #[.int .i64 0, .int .i64 0, .bool false]) → Ending.returned v = .returned (eith la lb) ∧ IsB w2 va ca na la.tail ∧ IsB w2 vb cb nb (eithB la lb) ∧ Keep (fun k => At ca k ∨ At cb k) w w2 ∧ w2.heap.size = w.heap.size := by
    rintro w1 w2 v h1 k1 s1 h2 k2 s2 hA rfl
    exact ⟨by rw [eith, hA]; rfl, h1.far (hb.far ha (fun x e e' => hne x e' e) k1) hne k2, by rw [eithB, if_neg (by rw [hA]; simp)]; exact h2,
      (k1.mono (fun _ _ m => Or.inl m)).trans k2 (fun _ _ m => Or.inr m), by omega⟩
  clear ha hb hne
  generalize eith la lb = E at *
  generalize eithB la lb = lb2 at *
  generalize la.headD 0 = x at *
  generalize lb.headD 0 = y at *
  generalize hA : la.isEmpty = ea at *
  generalize hB : lb.isEmpty = eb at *
  generalize la.tail = la1 at *
  generalize lb.tail = lb1 at *
  have HF := Lib.hid fin
  have HF2 := Lib.hid fin2
  have HT := Lib.hid tb
  clear fin fin2 tb
  go_enter Try.func12, Try.ntmps12
  go_wp2_with fail
  refine ta.mono ?_; rintro e w1 ⟨rfl, h1, k1, s1⟩
  cases ea with
  | false =>
    go_wp2_with fail
    go_ret3
    exact HF.out _ _ h1 k1 s1 (by trivial) (by rfl)
  | true =>
    go_wp2_with fail
    refine (HT.out w1 k1).mono ?_; rintro e w2 ⟨rfl, h2, k2, s2⟩
    cases eb with
    | false =>
      go_wp2_with fail
      go_ret3
      exact HF2.out _ _ _ h1 k1 s1 h2 k2 s2 (by trivial) (by first | rfl | simp)
    | true =>
      go_wp2_with fail
      go_ret3
      exact HF2.out _ _ _ h1 k1 s1 h2 k2 s2 (by trivial) (by first | rfl | simp)
end
end Go.Proofs.Ytbieffenicojpaa
