/- A section (layer 6) as plain data: who holds, who waits; what each call does with it; what always holds of it. -/
import Derived.Test.YtompckcnpidbdaaGreatRows
import Derived.Test.YtompckcnpidbdaaGreatTab1
import Derived.Test.YtompckcnpidbdaaGreatRead
import Derived.Deep.QuietTactic
import Derived.BigQuiet
import Derived.WalkLawsBesides
import Derived.Outline
import Derived.Deep.DeepCutAuto
import Derived.Deep.CutBlock
import Derived.Deep.RegionLaw
namespace Go.Proofs.YtompckcnpidbdaaGreat.Se
open Go.RowKit
set_option linter.unusedVariables false
set_option linter.unusedSimpArgs false
/-- A section. -/
structure Sec where
  lease : Int
  now : Int
  stamps : Int
  who : Int
  stamp : Int
  since : Int
  q : List Int
  first : Int
namespace Sec
def held (s : Sec) : Bool := decide (0 < s.stamp)
def isH (s : Sec) (who : Int) : Bool := decide (0 < s.stamp) && decide (s.who = who)
def over (s : Sec) (t : Int) : Bool := decide (s.lease ≤ s.now - t)
def holds (s : Sec) (who n : Int) : Bool := s.isH who && decide (s.stamp = n)
def rel (s : Sec) : Sec := { s with who := 0, stamp := 0, since := 0, first := s.now }
def rem (s : Sec) (i : Nat) : Sec := { s with q := s.q.eraseIdx i, first := if i = 0 then s.now else s.first }
def wait (s : Sec) (who : Int) : Sec := if who ∈ s.q then s else { s with q := s.q ++ [who], first := if s.q.length = 0 then s.now else s.first }
def pass1 (s : Sec) : Sec := if s.held && s.over s.since then s.rel else s
def pass2 (s : Sec) (who : Int) : Sec := if !s.held && (decide (s.q.headD 0 ≠ who) && s.over s.first) then s.rem 0 else s
def letIn (s : Sec) : Sec := { s with who := s.q.headD 0, stamp := s.stamps + 1, stamps := s.stamps + 1, since := s.now, q := s.q.eraseIdx 0, first := s.now }
def tick (s : Sec) (now : Int) : Sec := { s with now := max s.now now }
def ask (s : Sec) (who : Int) : Sec := ((s.wait who).pass1).pass2 who
def enterIn (s : Sec) (who : Int) : Int × Bool × Sec :=
  if s.isH who then (s.stamp, true, s)
  else if (s.ask who).q.headD 0 ≠ who then (0, false, s.ask who)
  else if (s.ask who).held then (0, false, { s.ask who with first := (s.ask who).now })
  else ((s.ask who).stamps + 1, true, (s.ask who).letIn)
def enter (s : Sec) (who now : Int) : Int × Bool × Sec := if who < 0 ∨ 99 < who then (0, false, s) else (s.tick now).enterIn who
def leave (s : Sec) (who n : Int) : Bool × Sec := if s.holds who n then (true, s.rel) else (false, s)
def out (s : Sec) (who : Int) : Sec := if who ∈ s.q then s.rem (s.q.idxOf who) else s
def quit (s : Sec) (who : Int) : Sec := if (s.out who).isH who then (s.out who).rel else s.out who
def new (lease : Int) : Sec := ⟨min (max lease 1) 1000, -9223372036854775808, 0, 0, 0, 0, [], 0⟩
/-- What always holds. -/
structure Ok (s : Sec) : Prop where
  l1 : 1 ≤ s.lease
  l2 : s.lease ≤ 1000
  n1 : -9223372036854775808 ≤ s.now
  n2 : s.now ≤ 9223372036854775807
  p0 : 0 ≤ s.stamps
  s0 : 0 ≤ s.stamp
  s1 : s.stamp ≤ s.stamps
  h1 : -9223372036854775808 ≤ s.since
  h2 : 0 < s.stamp → s.since ≤ s.now
  h3 : 0 < s.stamp → s.who ∉ s.q
  w1 : -9223372036854775808 ≤ s.first
  w2 : s.q ≠ [] → s.first ≤ s.now
  w3 : s.first ≤ 9223372036854775807
  h4 : s.since ≤ 9223372036854775807
  nd : s.q.Nodup
  rg : ∀ x ∈ s.q, 0 ≤ x ∧ x ≤ 99
  wr : 0 ≤ s.who ∧ s.who ≤ 99
end Sec
theorem nodup_range {l : List Int} (hn : l.Nodup) : ∀ (n : Nat), (∀ x ∈ l, 0 ≤ x ∧ x < n) → l.length ≤ n := by
  intro n
  induction n generalizing l with
  | zero =>
    intro h
    cases l with
    | nil => simp
    | cons a l => have := h a (by simp); omega
  | succ n ih =>
    intro h
    have h2 : (l.erase (n : Int)).length ≤ n := ih (hn.erase _) (fun x hx => by
      have h3 := (hn.mem_erase_iff).1 hx
      have := h x h3.2
      have := h3.1
      omega)
    by_cases hm : (n : Int) ∈ l
    · rw [List.length_erase_of_mem hm] at h2; omega
    · rw [List.erase_of_not_mem hm] at h2; omega
theorem mem_eraseIdx {α : Type} {l : List α} {i : Nat} {x : α} (h : x ∈ l.eraseIdx i) : x ∈ l := (List.eraseIdx_sublist l i).subset h
namespace Sec
variable {s : Sec}
theorem Ok.len (h : s.Ok) : s.q.length ≤ 100 := nodup_range h.nd 100 (fun x hx => by have := h.rg x hx; omega)
theorem Ok.rel (h : s.Ok) : s.rel.Ok :=
  ⟨h.l1, h.l2, h.n1, h.n2, h.p0, by simp [Sec.rel], by simpa [Sec.rel] using h.p0, by simp [Sec.rel], by simp [Sec.rel], by simp [Sec.rel], h.n1, fun _ => by simp [Sec.rel], h.n2, by simp [Sec.rel], h.nd, h.rg, by simp [Sec.rel]⟩
theorem Ok.rem (h : s.Ok) (i : Nat) : (s.rem i).Ok := by
  refine ⟨h.l1, h.l2, h.n1, h.n2, h.p0, h.s0, h.s1, h.h1, h.h2, fun hs hm => h.h3 hs (mem_eraseIdx hm), ?_, fun hq => ?_, ?_, h.h4, h.nd.sublist (List.eraseIdx_sublist _ _), fun x hx => h.rg x (mem_eraseIdx hx), h.wr⟩
  · simp only [Sec.rem]; split
    · exact h.n1
    · exact h.w1
  · simp only [Sec.rem] at hq ⊢; split
    · omega
    · exact h.w2 (fun e => hq (by rw [e]; rfl))
  · simp only [Sec.rem]; split
    · exact h.n2
    · exact h.w3
theorem Ok.wait (h : s.Ok) {who : Int} (h0 : 0 ≤ who) (h9 : who ≤ 99) (hH : s.isH who = false) : (s.wait who).Ok := by
  unfold Sec.wait
  split
  · exact h
  · rename_i hm
    refine ⟨h.l1, h.l2, h.n1, h.n2, h.p0, h.s0, h.s1, h.h1, h.h2, fun hs hm' => ?_, ?_, fun _ => ?_, ?_, h.h4, ?_, fun x hx => ?_, h.wr⟩
    · rcases List.mem_append.1 hm' with h' | h'
      · exact h.h3 hs h'
      · have := List.mem_singleton.1 h'
        have hs' : 0 < s.stamp := hs
        have hw : s.who = who := this
        simp [isH, hs', hw] at hH
    · dsimp only; split
      · exact h.n1
      · exact h.w1
    · dsimp only; split
      · omega
      · rename_i hl
        exact h.w2 (fun e => hl (by rw [e]; rfl))
    · dsimp only; split
      · exact h.n2
      · exact h.w3
    · dsimp only
      rw [List.nodup_append]
      exact ⟨h.nd, by simp, fun a ha b hb e => by simp at hb; subst hb; subst e; exact hm ha⟩
    · rcases List.mem_append.1 hx with h' | h'
      · exact h.rg x h'
      · simp at h'; subst h'; exact ⟨h0, h9⟩
theorem Ok.pass1 (h : s.Ok) : s.pass1.Ok := by
  unfold Sec.pass1
  split
  · exact h.rel
  · exact h
theorem Ok.pass2 (h : s.Ok) (who : Int) : (s.pass2 who).Ok := by
  unfold Sec.pass2
  split
  · exact h.rem 0
  · exact h
theorem Ok.letIn (h : s.Ok) (hq : s.q ≠ []) : s.letIn.Ok := by
  obtain ⟨x, l, hl⟩ := List.exists_cons_of_ne_nil hq
  have hx := h.rg x (by simp [hl])
  have hnd := h.nd
  rw [hl, List.nodup_cons] at hnd
  have hp := h.p0
  have e1 : s.letIn.q = l := by simp [Sec.letIn, hl]
  have e2 : s.letIn.who = x := by simp [Sec.letIn, hl]
  refine ⟨h.l1, h.l2, h.n1, h.n2, by show 0 ≤ s.stamps + 1; omega, by show 0 ≤ s.stamps + 1; omega, Int.le_refl _, h.n1, fun _ => Int.le_refl _, fun _ => ?_, h.n1, fun _ => Int.le_refl _, h.n2, h.n2, ?_, fun y hy => ?_, ?_⟩
  · rw [e1, e2]; exact hnd.1
  · rw [e1]; exact hnd.2
  · rw [e1] at hy
    exact h.rg y (by simp [hl, hy])
  · rw [e2]; exact hx
theorem Ok.tick (h : s.Ok) {now : Int} (hn : now ≤ 9223372036854775807) : (s.tick now).Ok :=
  ⟨h.l1, h.l2, by have := h.n1; show _ ≤ max s.now now; omega, by have := h.n2; show max s.now now ≤ _; omega, h.p0, h.s0, h.s1, h.h1, fun hs => by have := h.h2 hs; show s.since ≤ max s.now now; omega, h.h3, h.w1, fun hq => by have := h.w2 hq; show s.first ≤ max s.now now; omega, h.w3, h.h4, h.nd, h.rg, h.wr⟩
theorem wait_mem (s : Sec) (who : Int) : who ∈ (s.wait who).q := by
  unfold wait
  split
  · assumption
  · simp
theorem pass1_q (s : Sec) : s.pass1.q = s.q := by unfold pass1; split <;> rfl
theorem pass2_mem {who : Int} (h : who ∈ s.q) : who ∈ (s.pass2 who).q := by
  unfold pass2
  split
  · rename_i hc
    simp only [Bool.and_eq_true, decide_eq_true_eq] at hc
    show who ∈ s.q.eraseIdx 0
    cases hq : s.q with
    | nil => rw [hq] at h; simp at h
    | cons x l =>
      rw [hq] at h hc
      simp at h hc ⊢
      rcases h with h | h
      · exact absurd h.symm hc.2.1
      · exact h
  · exact h
theorem ask_mem (s : Sec) (who : Int) : who ∈ (s.ask who).q := pass2_mem (by rw [pass1_q]; exact wait_mem s who)
theorem ask_ne (s : Sec) (who : Int) : (s.ask who).q ≠ [] := fun e => by have := ask_mem s who; rw [e] at this; simp at this
theorem Ok.ask (h : s.Ok) {who : Int} (h0 : 0 ≤ who) (h9 : who ≤ 99) (hH : s.isH who = false) : (s.ask who).Ok := (h.wait h0 h9 hH).pass1.pass2 who
theorem Ok.enterIn (h : s.Ok) {who : Int} (h0 : 0 ≤ who) (h9 : who ≤ 99) : (s.enterIn who).2.2.Ok := by
  unfold Sec.enterIn
  cases hH : s.isH who with
  | true => exact h
  | false =>
    have ha := h.ask h0 h9 hH
    simp only [Bool.false_eq_true, if_false]
    split
    · exact ha
    · split
      · exact ⟨ha.l1, ha.l2, ha.n1, ha.n2, ha.p0, ha.s0, ha.s1, ha.h1, ha.h2, ha.h3, ha.n1, fun _ => Int.le_refl _, ha.n2, ha.h4, ha.nd, ha.rg, ha.wr⟩
      · exact ha.letIn (ask_ne s who)
theorem Ok.enter (h : s.Ok) {who now : Int} (hn : now ≤ 9223372036854775807) : (s.enter who now).2.2.Ok := by
  unfold Sec.enter
  split
  · exact h
  · exact (h.tick hn).enterIn (by omega) (by omega)
theorem Ok.leave (h : s.Ok) (who n : Int) : (s.leave who n).2.Ok := by
  unfold Sec.leave
  split
  · exact h.rel
  · exact h
theorem Ok.out (h : s.Ok) (who : Int) : (s.out who).Ok := by
  unfold Sec.out
  split
  · exact h.rem _
  · exact h
theorem Ok.quit (h : s.Ok) (who : Int) : (s.quit who).Ok := by
  unfold Sec.quit
  split
  · exact (h.out who).rel
  · exact h.out who
theorem Ok.new (lease : Int) : (Sec.new lease).Ok :=
  ⟨by show 1 ≤ min (max lease 1) 1000; omega, by show min (max lease 1) 1000 ≤ 1000; omega, by simp [Sec.new], by simp [Sec.new], by simp [Sec.new], by simp [Sec.new], by simp [Sec.new], by simp [Sec.new], by simp [Sec.new], by simp [Sec.new], by simp [Sec.new], by simp [Sec.new], by simp [Sec.new], by simp [Sec.new], by simp [Sec.new], by simp [Sec.new], by simp [Sec.new]⟩
theorem wait_stamps (s : Sec) (who : Int) : (s.wait who).stamps = s.stamps := by unfold wait; split <;> rfl
theorem pass1_stamps (s : Sec) : s.pass1.stamps = s.stamps := by unfold pass1; split <;> rfl
theorem pass2_stamps (s : Sec) (who : Int) : (s.pass2 who).stamps = s.stamps := by unfold pass2; split <;> rfl
theorem ask_stamps (s : Sec) (who : Int) : (s.ask who).stamps = s.stamps := by unfold ask; rw [pass2_stamps, pass1_stamps, wait_stamps]
theorem enterIn_stamps (s : Sec) (who : Int) : (s.enterIn who).2.2.stamps ≤ s.stamps + 1 := by
  unfold enterIn
  split
  · dsimp only; omega
  · split
    · dsimp only; rw [ask_stamps]; omega
    · split
      · dsimp only; rw [ask_stamps]; omega
      · show (s.ask who).stamps + 1 ≤ _; rw [ask_stamps]; omega
theorem enter_stamps (s : Sec) (who now : Int) : (s.enter who now).2.2.stamps ≤ s.stamps + 1 := by
  unfold enter
  split
  · dsimp only; omega
  · exact enterIn_stamps (s.tick now) who
end Sec
/-- p points at what is a section. -/
structure IsSec (w : World) (p : Nat) (A : Option Addr) (cap : Nat) (s : Sec) : Prop where
  obj : Blk w p 104 [.int .i64 s.lease, .int .i64 s.now, .int .i64 s.stamps, .int .i64 s.who, .int .i64 s.stamp, .int .i64 s.since, .slice A s.q.length cap, .int .i64 s.first]
  row : Vec w 3 1 A s.q.length cap (ints s.q)
/-- The blocks of a section. -/
def SecB (p : Nat) (A : Option Addr) : Nat → Prop := fun k => k = p ∨ Own A k
section
variable {w w' : World} {p : Nat} {A : Option Addr} {cap : Nat} {s : Sec}
theorem IsSec.keep {M : Nat → Prop} (h : IsSec w p A cap s) (k : Keep M w w') (hp : ¬ M p) (hA : ∀ x, Own A x → ¬ M x) : IsSec w' p A cap s := ⟨h.obj.keep k hp, h.row.keep k hA⟩
theorem IsSec.nob (h : IsSec w p A cap s) (k : Keep Nob w w') : IsSec w' p A cap s := h.keep k (fun f => f) (fun _ _ f => f)
theorem IsSec.ne (h : IsSec w p A cap s) : ∀ x, Own A x → x ≠ p := fun x hx e => by obtain ⟨cur, hb⟩ := h.row.blk hx; exact h.obj.ne_ (e ▸ hb) (by decide) rfl
/-- What a call leaves: the section is s' now, and only its blocks have turned. -/
def SecTo (w : World) (p : Nat) (A : Option Addr) (s' : Sec) (w' : World) : Prop := ∃ A' cap', IsSec w' p A' cap' s' ∧ Keep (SecB p A) w w' ∧ (∀ k, Own A' k → Own A k ∨ w.heap.size ≤ k)
theorem SecTo.same (h : IsSec w p A cap s) : SecTo w p A s w := ⟨A, cap, h, Keep.refl _ _, fun _ hk => .inl hk⟩
theorem SecTo.still (h : IsSec w p A cap s) (k : Keep Nob w w') : SecTo w p A s w' := ⟨A, cap, h.nob k, k.mono (fun _ _ f => f.elim), fun _ hk => .inl hk⟩
theorem SecTo.trans {A1 : Option Addr} {cap1 : Nat} {s1 s2 : Sec} {w1 w2 : World} (h1 : IsSec w1 p A1 cap1 s1) (k1 : Keep (SecB p A) w w1) (o1 : ∀ k, Own A1 k → Own A k ∨ w.heap.size ≤ k) (h2 : SecTo w1 p A1 s2 w2) : SecTo w p A s2 w2 := by
  obtain ⟨A2, cap2, h2, k2, o2⟩ := h2
  refine ⟨A2, cap2, h2, k1.trans k2 (fun x hx m => ?_), fun x hx => ?_⟩
  · rcases m with rfl | m
    · exact .inl rfl
    · rcases o1 x m with m | m
      · exact .inr m
      · omega
  · rcases o2 x hx with m | m
    · exact o1 x m
    · have := k1.size
      exact .inr (by omega)
end
end Go.Proofs.YtompckcnpidbdaaGreat.Se
