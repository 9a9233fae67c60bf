/- Texts Sec0, Sec1, Sec2, Sec3, Sec4, packed. -/
import Derived.Test.YtngchjejmnfanaaGreatRows
import Derived.Deep.QuietTactic
import Derived.BigQuiet
import Derived.WalkLawsBesides
import Derived.Outline
import Derived.Deep.DeepCutAuto
import Derived.Deep.CutBlock
import Derived.Deep.RegionLaw
import Derived.Lib.SliceRun
import Derived.Test.YtngchjejmnfanaaGreatPk0
import Derived.Test.YtngchjejmnfanaaGreatPk3
namespace Go.Proofs.YtngchjejmnfanaaGreat.Se
open Go.RowKit
set_option linter.unusedVariables false
set_option linter.unusedSimpArgs false
/-- A section. -/
structure Sec where
  lease : Int
  now : Int
  stamps : Int
  who : Int
  stamp : Int
  since : Int
  q : List Int
  first : Int
namespace Sec
def held (s : Sec) : Bool := decide (0 < s.stamp)
def isH (s : Sec) (who : Int) : Bool := decide (0 < s.stamp) && decide (s.who = who)
def over (s : Sec) (t : Int) : Bool := decide (s.lease ≤ s.now - t)
def rel (s : Sec) : Sec := { s with who := 0, stamp := 0, since := 0, first := s.now }
def rem (s : Sec) (i : Nat) : Sec := { s with q := s.q.eraseIdx i, first := if i = 0 then s.now else s.first }
def wait (s : Sec) (who : Int) : Sec := if who ∈ s.q then s else { s with q := s.q ++ [who], first := if s.q.length = 0 then s.now else s.first }
def pass1 (s : Sec) : Sec := if s.held && s.over s.since then s.rel else s
def pass2 (s : Sec) (who : Int) : Sec := if !s.held && (decide (s.q.headD 0 ≠ who) && s.over s.first) then s.rem 0 else s
def letIn (s : Sec) : Sec := { s with who := s.q.headD 0, stamp := s.stamps + 1, stamps := s.stamps + 1, since := s.now, q := s.q.eraseIdx 0, first := s.now }
def tick (s : Sec) (now : Int) : Sec := { s with now := max s.now now }
def ask (s : Sec) (who : Int) : Sec := ((s.wait who).pass1).pass2 who
def enterIn (s : Sec) (who : Int) : Int × Bool × Sec :=
  if s.isH who then (s.stamp, true, s)
  else if (s.ask who).q.headD 0 ≠ who then (0, false, s.ask who)
  else if (s.ask who).held then (0, false, { s.ask who with first := (s.ask who).now })
  else ((s.ask who).stamps + 1, true, (s.ask who).letIn)
def enter (s : Sec) (who now : Int) : Int × Bool × Sec := if who < 0 ∨ 99 < who then (0, false, s) else (s.tick now).enterIn who
def out (s : Sec) (who : Int) : Sec := if who ∈ s.q then s.rem (s.q.idxOf who) else s
def new (lease : Int) : Sec := ⟨min (max lease 1) 1000, -9223372036854775808, 0, 0, 0, 0, [], 0⟩
/-- What always holds. -/
structure Ok (s : Sec) : Prop where
  l1 : 1 ≤ s.lease
  l2 : s.lease ≤ 1000
  n1 : -9223372036854775808 ≤ s.now
  n2 : s.now ≤ 9223372036854775807
  p0 : 0 ≤ s.stamps
  s0 : 0 ≤ s.stamp
  s1 : s.stamp ≤ s.stamps
  h1 : -9223372036854775808 ≤ s.since
  h2 : 0 < s.stamp → s.since ≤ s.now
  h3 : 0 < s.stamp → s.who ∉ s.q
  w1 : -9223372036854775808 ≤ s.first
  w2 : s.q ≠ [] → s.first ≤ s.now
  w3 : s.first ≤ 9223372036854775807
  h4 : s.since ≤ 9223372036854775807
  nd : s.q.Nodup
  rg : ∀ x ∈ s.q, 0 ≤ x ∧ x ≤ 99
  wr : 0 ≤ s.who ∧ s.who ≤ 99
end Sec
theorem nodup_range {l : List Int} (hn : l.Nodup) : ∀ (n : Nat), (∀ x ∈ l, 0 ≤ x ∧ x < n) → l.length ≤ n := by
  intro n
  induction n generalizing l with
  | zero =>
    intro h
    cases l with
    | nil => simp
    | cons a l => have := h a (by simp); omega
  | succ n ih =>
    intro h
    have h2 : (l.erase (n : Int)).length ≤ n := ih (hn.erase _) (fun x hx => by
      have h3 := (hn.mem_erase_iff).1 hx
      have := h x h3.2
      have := h3.1
      omega)
    by_cases hm : (n : Int) ∈ l
    · rw [List.length_erase_of_mem hm] at h2; omega
    · rw [List.erase_of_not_mem hm] at h2; omega
theorem mem_eraseIdx {α : Type} {l : List α} {i : Nat} {x : α} (h : x ∈ l.eraseIdx i) : x ∈ l := (List.eraseIdx_sublist l i).subset h
namespace Sec
variable {s : Sec}
theorem Ok.len (h : s.Ok) : s.q.length ≤ 100 := nodup_range h.nd 100 (fun x hx => by have := h.rg x hx; omega)
theorem Ok.rel (h : s.Ok) : s.rel.Ok :=
  ⟨h.l1, h.l2, h.n1, h.n2, h.p0, by simp [Sec.rel], by simpa [Sec.rel] using h.p0, by simp [Sec.rel], by simp [Sec.rel], by simp [Sec.rel], h.n1, fun _ => by simp [Sec.rel], h.n2, by simp [Sec.rel], h.nd, h.rg, by simp [Sec.rel]⟩
theorem Ok.rem (h : s.Ok) (i : Nat) : (s.rem i).Ok := by
  refine ⟨h.l1, h.l2, h.n1, h.n2, h.p0, h.s0, h.s1, h.h1, h.h2, fun hs hm => h.h3 hs (mem_eraseIdx hm), ?_, fun hq => ?_, ?_, h.h4, h.nd.sublist (List.eraseIdx_sublist _ _), fun x hx => h.rg x (mem_eraseIdx hx), h.wr⟩
  · simp only [Sec.rem]; split
    · exact h.n1
    · exact h.w1
  · simp only [Sec.rem] at hq ⊢; split
    · omega
    · exact h.w2 (fun e => hq (by rw [e]; rfl))
  · simp only [Sec.rem]; split
    · exact h.n2
    · exact h.w3
theorem Ok.wait (h : s.Ok) {who : Int} (h0 : 0 ≤ who) (h9 : who ≤ 99) (hH : s.isH who = false) : (s.wait who).Ok := by
  unfold Sec.wait
  split
  · exact h
  · rename_i hm
    refine ⟨h.l1, h.l2, h.n1, h.n2, h.p0, h.s0, h.s1, h.h1, h.h2, fun hs hm' => ?_, ?_, fun _ => ?_, ?_, h.h4, ?_, fun x hx => ?_, h.wr⟩
    · rcases List.mem_append.1 hm' with h' | h'
      · exact h.h3 hs h'
      · have := List.mem_singleton.1 h'
        have hs' : 0 < s.stamp := hs
        have hw : s.who = who := this
        simp [isH, hs', hw] at hH
    · dsimp only; split
      · exact h.n1
      · exact h.w1
    · dsimp only; split
      · omega
      · rename_i hl
        exact h.w2 (fun e => hl (by rw [e]; rfl))
    · dsimp only; split
      · exact h.n2
      · exact h.w3
    · dsimp only
      rw [List.nodup_append]
      exact ⟨h.nd, by simp, fun a ha b hb e => by simp at hb; subst hb; subst e; exact hm ha⟩
    · rcases List.mem_append.1 hx with h' | h'
      · exact h.rg x h'
      · simp at h'; subst h'; exact ⟨h0, h9⟩
theorem Ok.pass1 (h : s.Ok) : s.pass1.Ok := by
  unfold Sec.pass1
  split
  · exact h.rel
  · exact h
theorem Ok.pass2 (h : s.Ok) (who : Int) : (s.pass2 who).Ok := by
  unfold Sec.pass2
  split
  · exact h.rem 0
  · exact h
theorem Ok.letIn (h : s.Ok) (hq : s.q ≠ []) : s.letIn.Ok := by
  obtain ⟨x, l, hl⟩ := List.exists_cons_of_ne_nil hq
  have hx := h.rg x (by simp [hl])
  have hnd := h.nd
  rw [hl, List.nodup_cons] at hnd
  have hp := h.p0
  have e1 : s.letIn.q = l := by simp [Sec.letIn, hl]
  have e2 : s.letIn.who = x := by simp [Sec.letIn, hl]
  refine ⟨h.l1, h.l2, h.n1, h.n2, by show 0 ≤ s.stamps + 1; omega, by show 0 ≤ s.stamps + 1; omega, Int.le_refl _, h.n1, fun _ => Int.le_refl _, fun _ => ?_, h.n1, fun _ => Int.le_refl _, h.n2, h.n2, ?_, fun y hy => ?_, ?_⟩
  · rw [e1, e2]; exact hnd.1
  · rw [e1]; exact hnd.2
  · rw [e1] at hy
    exact h.rg y (by simp [hl, hy])
  · rw [e2]; exact hx
theorem Ok.tick (h : s.Ok) {now : Int} (hn : now ≤ 9223372036854775807) : (s.tick now).Ok :=
  ⟨h.l1, h.l2, by have := h.n1; show _ ≤ max s.now now; omega, by have := h.n2; show max s.now now ≤ _; omega, h.p0, h.s0, h.s1, h.h1, fun hs => by have := h.h2 hs; show s.since ≤ max s.now now; omega, h.h3, h.w1, fun hq => by have := h.w2 hq; show s.first ≤ max s.now now; omega, h.w3, h.h4, h.nd, h.rg, h.wr⟩
theorem wait_mem (s : Sec) (who : Int) : who ∈ (s.wait who).q := by
  unfold wait
  split
  · assumption
  · simp
theorem pass1_q (s : Sec) : s.pass1.q = s.q := by unfold pass1; split <;> rfl
theorem pass2_mem {who : Int} (h : who ∈ s.q) : who ∈ (s.pass2 who).q := by
  unfold pass2
  split
  · rename_i hc
    simp only [Bool.and_eq_true, decide_eq_true_eq] at hc
    show who ∈ s.q.eraseIdx 0
    cases hq : s.q with
    | nil => rw [hq] at h; simp at h
    | cons x l =>
      rw [hq] at h hc
      simp at h hc ⊢
      rcases h with h | h
      · exact absurd h.symm hc.2.1
      · exact h
  · exact h
theorem ask_mem (s : Sec) (who : Int) : who ∈ (s.ask who).q := pass2_mem (by rw [pass1_q]; exact wait_mem s who)
theorem ask_ne (s : Sec) (who : Int) : (s.ask who).q ≠ [] := fun e => by have := ask_mem s who; rw [e] at this; simp at this
theorem Ok.ask (h : s.Ok) {who : Int} (h0 : 0 ≤ who) (h9 : who ≤ 99) (hH : s.isH who = false) : (s.ask who).Ok := (h.wait h0 h9 hH).pass1.pass2 who
theorem Ok.enterIn (h : s.Ok) {who : Int} (h0 : 0 ≤ who) (h9 : who ≤ 99) : (s.enterIn who).2.2.Ok := by
  unfold Sec.enterIn
  cases hH : s.isH who with
  | true => exact h
  | false =>
    have ha := h.ask h0 h9 hH
    simp only [Bool.false_eq_true, if_false]
    split
    · exact ha
    · split
      · exact ⟨ha.l1, ha.l2, ha.n1, ha.n2, ha.p0, ha.s0, ha.s1, ha.h1, ha.h2, ha.h3, ha.n1, fun _ => Int.le_refl _, ha.n2, ha.h4, ha.nd, ha.rg, ha.wr⟩
      · exact ha.letIn (ask_ne s who)
theorem Ok.enter (h : s.Ok) {who now : Int} (hn : now ≤ 9223372036854775807) : (s.enter who now).2.2.Ok := by
  unfold Sec.enter
  split
  · exact h
  · exact (h.tick hn).enterIn (by omega) (by omega)
theorem Ok.out (h : s.Ok) (who : Int) : (s.out who).Ok := by
  unfold Sec.out
  split
  · exact h.rem _
  · exact h
theorem Ok.new (lease : Int) : (Sec.new lease).Ok :=
  ⟨by show 1 ≤ min (max lease 1) 1000; omega, by show min (max lease 1) 1000 ≤ 1000; omega, by simp [Sec.new], by simp [Sec.new], by simp [Sec.new], by simp [Sec.new], by simp [Sec.new], by simp [Sec.new], by simp [Sec.new], by simp [Sec.new], by simp [Sec.new], by simp [Sec.new], by simp [Sec.new], by simp [Sec.new], by simp [Sec.new], by simp [Sec.new], by simp [Sec.new]⟩
theorem wait_stamps (s : Sec) (who : Int) : (s.wait who).stamps = s.stamps := by unfold wait; split <;> rfl
theorem pass1_stamps (s : Sec) : s.pass1.stamps = s.stamps := by unfold pass1; split <;> rfl
theorem pass2_stamps (s : Sec) (who : Int) : (s.pass2 who).stamps = s.stamps := by unfold pass2; split <;> rfl
theorem ask_stamps (s : Sec) (who : Int) : (s.ask who).stamps = s.stamps := by unfold ask; rw [pass2_stamps, pass1_stamps, wait_stamps]
end Sec
/-- p points at what is a section. -/
structure IsSec (w : World) (p : Nat) (A : Option Addr) (cap : Nat) (s : Sec) : Prop where
  obj : Blk w p 296 [.int .i64 s.lease, .int .i64 s.now, .int .i64 s.stamps, .int .i64 s.who, .int .i64 s.stamp, .int .i64 s.since, .slice A s.q.length cap, .int .i64 s.first]
  row : Vec w 3 1 A s.q.length cap (ints s.q)
/-- The blocks of a section. -/
def SecB (p : Nat) (A : Option Addr) : Nat → Prop := fun k => k = p ∨ Own A k
section
variable {w w' : World} {p : Nat} {A : Option Addr} {cap : Nat} {s : Sec}
theorem IsSec.keep {M : Nat → Prop} (h : IsSec w p A cap s) (k : Keep M w w') (hp : ¬ M p) (hA : ∀ x, Own A x → ¬ M x) : IsSec w' p A cap s := ⟨h.obj.keep k hp, h.row.keep k hA⟩
theorem IsSec.nob (h : IsSec w p A cap s) (k : Keep Nob w w') : IsSec w' p A cap s := h.keep k (fun f => f) (fun _ _ f => f)
theorem IsSec.ne (h : IsSec w p A cap s) : ∀ x, Own A x → x ≠ p := fun x hx e => by obtain ⟨cur, hb⟩ := h.row.blk hx; exact h.obj.ne_ (e ▸ hb) (by decide) rfl
/-- What a call leaves: the section is s' now, and only its blocks have turned. -/
def SecTo (w : World) (p : Nat) (A : Option Addr) (s' : Sec) (w' : World) : Prop := ∃ A' cap', IsSec w' p A' cap' s' ∧ Keep (SecB p A) w w' ∧ (∀ k, Own A' k → Own A k ∨ w.heap.size ≤ k)
theorem SecTo.same (h : IsSec w p A cap s) : SecTo w p A s w := ⟨A, cap, h, Keep.refl _ _, fun _ hk => .inl hk⟩
theorem SecTo.still (h : IsSec w p A cap s) (k : Keep Nob w w') : SecTo w p A s w' := ⟨A, cap, h.nob k, k.mono (fun _ _ f => f.elim), fun _ hk => .inl hk⟩
theorem SecTo.trans {A1 : Option Addr} {cap1 : Nat} {s1 s2 : Sec} {w1 w2 : World} (h1 : IsSec w1 p A1 cap1 s1) (k1 : Keep (SecB p A) w w1) (o1 : ∀ k, Own A1 k → Own A k ∨ w.heap.size ≤ k) (h2 : SecTo w1 p A1 s2 w2) : SecTo w p A s2 w2 := by
  obtain ⟨A2, cap2, h2, k2, o2⟩ := h2
  refine ⟨A2, cap2, h2, k1.trans k2 (fun x hx m => ?_), fun x hx => ?_⟩
  · rcases m with rfl | m
    · exact .inl rfl
    · rcases o1 x m with m | m
      · exact .inr m
      · omega
  · rcases o2 x hx with m | m
    · exact o1 x m
    · have := k1.size
      exact .inr (by omega)
end
end Go.Proofs.YtngchjejmnfanaaGreat.Se
namespace Go.Proofs.YtngchjejmnfanaaGreat.Se
open Go.RowKit
set_option linter.unusedVariables false
set_option linter.unusedSimpArgs false
theorem infointS : (Tryz.prog.info? 3).map (fun i => (i.zero, i.size, i.bytes)) = some (some (.int .i64 0), 1, 8) := by kernel_rfl
section
variable {w : World} {p : Nat} {A : Option Addr} {cap : Nat} {s : Sec}
theorem IsSec.c0 (h : IsSec w p A cap s) : w.cell? ⟨p, 0, none⟩ = some (.int .i64 s.lease) := h.obj.cell 0
theorem IsSec.c1 (h : IsSec w p A cap s) : w.cell? ⟨p, 1, none⟩ = some (.int .i64 s.now) := h.obj.cell 1
theorem IsSec.c2 (h : IsSec w p A cap s) : w.cell? ⟨p, 2, none⟩ = some (.int .i64 s.stamps) := h.obj.cell 2
theorem IsSec.c3 (h : IsSec w p A cap s) : w.cell? ⟨p, 3, none⟩ = some (.int .i64 s.who) := h.obj.cell 3
theorem IsSec.c4 (h : IsSec w p A cap s) : w.cell? ⟨p, 4, none⟩ = some (.int .i64 s.stamp) := h.obj.cell 4
theorem IsSec.c5 (h : IsSec w p A cap s) : w.cell? ⟨p, 5, none⟩ = some (.int .i64 s.since) := h.obj.cell 5
theorem IsSec.c6 (h : IsSec w p A cap s) : w.cell? ⟨p, 6, none⟩ = some (.slice A s.q.length cap) := h.obj.cell 6
theorem IsSec.c7 (h : IsSec w p A cap s) : w.cell? ⟨p, 7, none⟩ = some (.int .i64 s.first) := h.obj.cell 7
theorem isHeld_is (h : IsSec w p A cap s) (v : Bool) (hv : s.held = v) : Calls Tryz.prog 274 #[.pointer (some ⟨p, 0, none⟩)] w fun e w' => e = .returned (.bool v) ∧ w = w' := by
  have c4 := h.c4
  subst hv
  go_enter Tryz.func274, Tryz.ntmps274
  go_wp2
  go_ret
  exact ⟨rfl, rfl⟩
theorem isHolder_is (h : IsSec w p A cap s) (who : Int) (v : Bool) (hv : s.isH who = v) : Calls Tryz.prog 271 #[.pointer (some ⟨p, 0, none⟩), .int .i64 who] w fun e w' => e = .returned (.bool v) ∧ w = w' := by
  have c3 := h.c3
  by_cases h0 : 0 < s.stamp
  · have hh : s.held = true := by simpa [Sec.held] using h0
    have e : s.isH who = decide (s.who = who) := by simp [Sec.isH, h0]
    rw [e] at hv
    subst hv
    go_enter Tryz.func271, Tryz.ntmps271
    go_wp2_with fail
    refine (isHeld_is h true hh).mono ?_; rintro e w' ⟨rfl, rfl⟩
    go_wp2
    go_ret
    exact ⟨rfl, rfl⟩
  · have hh : s.held = false := by simpa [Sec.held] using h0
    have e : s.isH who = false := by simp [Sec.isH, h0]
    rw [e] at hv
    subst hv
    go_enter Tryz.func271, Tryz.ntmps271
    go_wp2_with fail
    refine (isHeld_is h false hh).mono ?_; rintro e w' ⟨rfl, rfl⟩
    go_wp2
    go_ret
    exact ⟨rfl, rfl⟩
theorem u64_sub (n t : Int) (h : 0 ≤ n - t) (h2 : n - t < 18446744073709551616) : IntKind.u64.wrap (IntKind.u64.wrap n - IntKind.u64.wrap t) = n - t := by
  simp only [IntKind.wrap, IntKind.bits, IntKind.signed]
  simp
  omega
theorem isOver_is (h : IsSec w p A cap s) (O : s.Ok) (t : Int) (h1 : -9223372036854775808 ≤ t) (h2 : t ≤ s.now) (v : Bool) (hv : s.over t = v) :
    Calls Tryz.prog 301 #[.pointer (some ⟨p, 0, none⟩), .int .i64 t] w fun e w' => e = .returned (.bool v) ∧ ∃ m, w' = w.drewN m := by
  have c0 := h.c0
  have c1 := h.c1
  have l1 := O.l1
  have l2 := O.l2
  have n2 := O.n2
  subst hv
  unfold Sec.over
  generalize s.lease = l at *
  generalize s.now = n at *
  go_enter Tryz.func301, Tryz.ntmps301
  go_wp2_with fail
  go_quiet (fail)
  go_wp2
  go_ret
  refine ⟨?_, _, rfl⟩
  rw [u64_sub n t (by omega) (by omega)]
  rfl
theorem IsSec.f (h : IsSec w p A cap s) (i : Nat) : w.frozen? ⟨p, i, none⟩ = false := h.obj.frozen i
theorem IsSec.turn {w' : World} {s' : Sec} (h : IsSec w p A cap s) (k : Keep (· = p) w w') (hb : Blk w' p 296 [.int .i64 s'.lease, .int .i64 s'.now, .int .i64 s'.stamps, .int .i64 s'.who, .int .i64 s'.stamp, .int .i64 s'.since, .slice A s'.q.length cap, .int .i64 s'.first]) (hq : s'.q = s.q) : IsSec w' p A cap s' :=
  ⟨hb, by rw [hq]; exact h.row.keep k (fun x hx e => h.ne x hx e)⟩
theorem release_is (h : IsSec w p A cap s) : Calls Tryz.prog 277 #[.pointer (some ⟨p, 0, none⟩)] w fun e w' => e = .returned (.tuple #[]) ∧ IsSec w' p A cap s.rel ∧ Keep (· = p) w w' := by
  have c0 := h.c0
  have c1 := h.c1
  have c2 := h.c2
  have c3 := h.c3
  have c4 := h.c4
  have c5 := h.c5
  have c6 := h.c6
  have c7 := h.c7
  have f3 := h.f 3
  have f4 := h.f 4
  have f5 := h.f 5
  have f7 := h.f 7
  go_enter Tryz.func277, Tryz.ntmps277
  go_wp2
  go_end0
  have kk : Keep (· = p) w ((((w.setCell ⟨p, 3, none⟩ (.int .i64 0)).setCell ⟨p, 4, none⟩ (.int .i64 0)).setCell ⟨p, 5, none⟩ (.int .i64 0)).setCell ⟨p, 7, none⟩ (.int .i64 s.now)) :=
    ((((Keep.refl (· = p) w).setCell ⟨p, 3, none⟩ _ (fun _ => rfl)).setCell ⟨p, 4, none⟩ _ (fun _ => rfl)).setCell ⟨p, 5, none⟩ _ (fun _ => rfl)).setCell ⟨p, 7, none⟩ _ (fun _ => rfl)
  exact ⟨rfl, h.turn kk ((((h.obj.setCell 3 _).setCell 4 _).setCell 5 _).setCell 7 _) rfl, kk⟩
theorem idx_bef {x : Int} {l : List Int} {k : Nat} (h : k < l.idxOf x) : (x == l.getD k 0) = false := by
  induction l generalizing k with
  | nil => simp at h
  | cons y l ih =>
    rw [List.idxOf_cons] at h
    by_cases e : y = x
    · simp [e] at h
    · have e2 : (y == x) = false := by simpa using e
      rw [e2] at h
      cases k with
      | zero => simp; exact fun e' => e e'.symm
      | succ k =>
        simp at h
        simpa using ih (k := k) (by omega)
theorem splice_len {α : Type} (L : List α) (off : Nat) (cs : List α) (h : off + cs.length ≤ L.length) : (splice L off cs).length = L.length := by
  unfold splice
  simp
  omega
theorem index_is {n c : Nat} {xs : List Int} {B : Option Addr} (hr : Reads w B n (ints xs)) (hn : n ≤ 1000000) (x v : Int) (hv : (if x ∈ xs then ((xs.idxOf x : Nat) : Int) else -1) = v) :
    Calls Tryz.prog 261 #[.slice B n c, .int .i64 x] w fun e w' => e = .returned (.int .i64 v) ∧ w = w' := by
  have hl : xs.length = n := by have := hr.1; rwa [ints_len] at this
  rcases Nat.eq_zero_or_pos n with rfl | h0
  · obtain rfl : xs = [] := List.eq_nil_of_length_eq_zero hl
    simp at hv
    subst hv
    go_enter Tryz.func261, Tryz.ntmps261
    go_wp2
    go_loop [8] (fun s => s = .int .i64 0) (fun _ => 0)
    case atStart => rfl
    case round =>
      subst hrel
      go_wp2
      go_ret
      exact ⟨rfl, rfl⟩
  · obtain ⟨b, off, rfl, hc⟩ := hr.lit h0
    have hcell : ∀ j, j < n → w.cell? ⟨b, off + j, none⟩ = some (.int .i64 (xs.getD j 0)) := fun j hj => hc j _ (by rw [ints_get, List.getD_eq_getElem?_getD, List.getElem?_eq_getElem (by omega)]; rfl)
    have hbef : ∀ j, j < xs.idxOf x → (x == xs.getD j 0) = false := fun j hj => idx_bef hj
    have hle : xs.idxOf x ≤ n := by rw [← hl]; exact List.idxOf_le_length
    have hat : xs.idxOf x < n → (x == xs.getD (xs.idxOf x) 0) = true := fun hlt => by
      rw [List.getD_eq_getElem?_getD, List.getElem?_eq_getElem (by omega)]
      simp
    have hv2 : v = if xs.idxOf x < n then ((xs.idxOf x : Nat) : Int) else -1 := by
      rw [← hv]
      by_cases hm : x ∈ xs
      · rw [if_pos hm, if_pos (by rw [← hl]; exact List.idxOf_lt_length_of_mem hm)]
      · rw [if_neg hm, if_neg (by rw [← hl]; exact fun h => hm (by
          have := List.getElem_idxOf h
          rw [← this]
          exact List.getElem_mem _))]
    generalize xs.idxOf x = k at *
    have HV := Lib.hid hv2
    have HC := Lib.hid hcell
    have HB := Lib.hid hbef
    have HA := Lib.hid hat
    clear hv2 hv hcell hbef hat hc hr
    go_enter Tryz.func261, Tryz.ntmps261
    go_wp2
    go_loop [8] (fun s => ∃ j : Nat, j ≤ k ∧ s = .int .i64 j) (fun s => k - (intOf s).toNat)
    case atStart => exact ⟨0, Nat.zero_le _, rfl⟩
    case round =>
      obtain ⟨j, hj, rfl⟩ := hrel
      by_cases h : j < k
      · have hj2 : j < n := by omega
        have hc := HC.out j hj2
        have hb := HB.out j h
        generalize xs.getD j 0 = y at hc hb
        go_wp2
        go_round
        case rel => exact ⟨j + 1, by omega, by go_num⟩
        case measure => simp [intOf]; omega
      · obtain rfl : j = k := by omega
        by_cases hlt : j < n
        · have hc := HC.out j hlt
          have hb := HA.out hlt
          generalize xs.getD j 0 = y at hc hb
          have e := HV.out
          rw [if_pos hlt] at e
          subst e
          go_wp2
          go_ret
          exact ⟨rfl, rfl⟩
        · have e := HV.out
          rw [if_neg hlt] at e
          subst e
          go_wp2
          go_ret
          exact ⟨rfl, rfl⟩
theorem contains_is {n c : Nat} {xs : List Int} {B : Option Addr} (hr : Reads w B n (ints xs)) (hn : n ≤ 1000000) (x : Int) (v : Bool) (hv : decide (x ∈ xs) = v) :
    Calls Tryz.prog 190 #[.slice B n c, .int .i64 x] w fun e w' => e = .returned (.bool v) ∧ w = w' := by
  subst hv
  by_cases hm : x ∈ xs
  · rw [decide_eq_true hm]
    go_enter Tryz.func190, Tryz.ntmps190
    go_wp2_with fail
    refine (index_is hr hn x _ (if_pos hm)).mono ?_; rintro e w' ⟨rfl, rfl⟩
    go_wp2
    go_ret
    exact ⟨rfl, rfl⟩
  · rw [decide_eq_false hm]
    go_enter Tryz.func190, Tryz.ntmps190
    go_wp2_with fail
    refine (index_is hr hn x _ (if_neg hm)).mono ?_; rintro e w' ⟨rfl, rfl⟩
    go_wp2
    go_ret
    exact ⟨rfl, rfl⟩
def setAll (cs : List Value) : Nat → List Value → List Value
  | _, [] => cs
  | o, v :: r => setAll (cs.set o v) (o + 1) r
theorem _root_.Go.Proofs.YtngchjejmnfanaaGreat.Blk.setCells {g : Nat} {t : TypeId} : ∀ (vs : List Value) (o : Nat) (w : World) (cs : List Value), Blk w g t cs → Blk (w.setCells g o vs) g t (setAll cs o vs)
  | [], _, _, _, h => h
  | v :: r, o, w, cs, h => Blk.setCells r (o + 1) _ _ (h.setCell o v)
theorem _root_.Go.Proofs.YtngchjejmnfanaaGreat.Keep.setCells {M : Nat → Prop} {w0 : World} {g : Nat} : ∀ (vs : List Value) (o : Nat) (w : World), Keep M w0 w → (g < w0.heap.size → M g) → Keep M w0 (w.setCells g o vs)
  | [], _, _, h, _ => h
  | v :: r, o, w, h, hm => Keep.setCells r (o + 1) _ (h.setCell _ v hm) hm
theorem setAll_splice : ∀ (vs : List Value) (o : Nat) (cs : List Value), o + vs.length ≤ cs.length → setAll cs o vs = splice cs o vs
  | [], o, cs, _ => by simp [setAll, splice]
  | v :: r, o, cs, h => by
    rw [setAll, setAll_splice r (o + 1) (cs.set o v) (by simp at h ⊢; omega)]
    apply List.ext_getElem?
    intro i
    simp at h
    rw [splice_get _ _ _ (by simp; omega), splice_get _ _ _ (by simp; omega), List.getElem?_set]
    by_cases h1 : o + 1 ≤ i ∧ i < o + 1 + r.length
    · rw [if_pos h1, if_pos (by simp; omega), show i - o = (i - (o + 1)) + 1 from by omega, List.getElem?_cons_succ]
    · rw [if_neg h1]
      by_cases h2 : o = i
      · subst h2
        rw [if_pos rfl, if_pos (by omega), if_pos (by simp)]
        simp
      · rw [if_neg h2, if_neg (by simp; omega)]
set_option maxRecDepth 100000 in
set_option maxHeartbeats 4000000 in
theorem delete_is {g n cap i : Nat} {xs : List Int} (hv : Vec w 3 1 (some ⟨g, 0, none⟩) n cap (ints xs)) (hi : i < n) (j : Int) (hj : ((i + 1 : Nat) : Int) = j) :
    Calls Tryz.prog 317 #[.slice (some ⟨g, 0, none⟩) n cap, .int .i64 i, .int .i64 j] w fun e w' => e = .returned (.slice (some ⟨g, 0, none⟩) (n - 1) cap) ∧ Vec w' 3 1 (some ⟨g, 0, none⟩) (n - 1) cap (ints (xs.eraseIdx i)) ∧ Keep (· = g) w w' := by
  subst hj
  obtain ⟨i0, hi0, hz⟩ := Option.map_eq_some_iff.1 infointS
  simp only [Prod.mk.injEq] at hz
  have hlen : xs.length = n := by have := hv.len; simpa using this
  obtain ⟨g', cur, e, hb, hnc, hcl, ht⟩ := hv.at_ (by omega)
  simp only [Option.some.injEq, Addr.mk.injEq, and_true] at e
  subst e
  rw [Nat.mul_one] at ht hcl
  have hm : cap ≤ maxLen := by
    rcases hv.2 with ⟨he, _⟩ | ⟨g', cap', cur', he, _, _, _, h2, _⟩
    · simp at he
    · simp only [Value.slice.injEq, true_and] at he
      rw [he.2]; exact h2
  unfold maxLen at hm
  obtain ⟨news, hnews⟩ : ∃ news, news = (ints xs).drop (i + 1) := ⟨_, rfl⟩
  have hnl : news.length = n - (i + 1) := by rw [hnews]; simp [hlen]
  obtain ⟨B, hB, hsrc⟩ : ∃ B : Addr, (if cap = i + 1 then some (⟨g, 0, none⟩ : Addr) else some ⟨g, i + 1, none⟩) = some B ∧ (∀ t u, news[t]? = some u → w.drew.cell? (B.add t) = some u) := by
    by_cases hc : cap = i + 1
    · refine ⟨⟨g, 0, none⟩, by simp [hc], fun t u hu => ?_⟩
      rw [List.eq_nil_of_length_eq_zero (show news.length = 0 by omega)] at hu
      simp at hu
    · refine ⟨⟨g, i + 1, none⟩, by simp [hc], fun t u hu => ?_⟩
      rw [add_lit, (hb.drew).cell]
      have htl := (List.getElem?_eq_some_iff.1 hu).1
      rw [hnews, ← ht, List.getElem?_drop, List.getElem?_take, if_pos (by omega)] at hu
      exact hu
  have h1 : ∀ u ∈ news, u.oneCell' = true := fun u hu => ints_one xs u (by rw [hnews] at hu; exact List.mem_of_mem_drop hu)
  have hspare : ∀ t, t < news.length → (w.drew.cell? ⟨g, 0 + i * 1 + t, none⟩).isSome = true ∧ w.drew.frozen? ⟨g, 0 + i * 1 + t, none⟩ = false := fun t ht => by
    refine ⟨?_, hb.drew.frozen _⟩
    rw [hb.drew.cell, List.getElem?_eq_getElem (by omega)]
    rfl
  obtain ⟨W1, hW1⟩ : ∃ W1, W1 = w.drew.setCells g (0 + i * 1) news := ⟨_, rfl⟩
  have hb1 : Blk W1 g 3 (splice cur i news) := by
    rw [hW1, ← setAll_splice news i cur (by omega), show 0 + i * 1 = i from by omega]
    exact hb.drew.setCells news i
  have k1 : Keep (· = g) w W1 := by
    rw [hW1]
    exact ((Keep.refl _ w).drew).setCells news _ _ (fun _ => rfl)
  have hsl : (splice cur i news).length = cap := by rw [splice_len _ _ _ (by omega)]; exact hcl
  have hcl2 := fun ty => run_clear_row (P := Tryz.prog) W1 35 3 ty (.int .i64 0) 8 Tryz.underlying35 infointS rfl rfl g (i + (n - (i + 1))) (n - (i + (n - (i + 1)))) (cap - (i + (n - (i + 1)))) 3 (splice cur i news) hb1 (by omega)
  have hfin : Vec (W1.setRow g (splice (splice cur i news) (i + (n - (i + 1))) (List.replicate (n - (i + (n - (i + 1)))) (.int .i64 0))).toArray) 3 1 (some ⟨g, 0, none⟩) (n - 1) cap (ints (xs.eraseIdx i)) := by
    refine ⟨by simp [List.length_eraseIdx, hlen, hi], .inr ⟨g, cap, _, rfl, Nat.zero_le _, hb1.setRow _, by omega, by unfold maxLen; omega, ?_, ?_⟩⟩
    · simp only [List.size_toArray, Nat.mul_one]
      rw [splice_len _ _ _ (by simp; omega)]
      exact hsl
    · simp only [Nat.mul_one]
      have e1 := splice_before (splice cur i news) (i + (n - (i + 1))) (List.replicate (n - (i + (n - (i + 1)))) (Value.int .i64 0)) (by simp; omega) 0 (n - 1) (by omega)
      rw [List.drop_zero, List.drop_zero] at e1
      rw [e1]
      unfold splice
      have l1 : (cur.take i).length = i := by simp; omega
      rw [← List.append_assoc, List.take_append_of_le_length (by simp; omega), List.take_of_length_le (by simp; omega), List.eraseIdx_eq_take_drop_succ, ints_append, hnews]
      congr 1
      · rw [show cur.take i = (cur.take n).take i from by rw [List.take_take]; congr 1; omega, ht]
        simp [ints]
      · simp [ints]
  have k2 : Keep (· = g) w (W1.setRow g (splice (splice cur i news) (i + (n - (i + 1))) (List.replicate (n - (i + (n - (i + 1)))) (.int .i64 0))).toArray) := k1.setRow _ _ (fun _ => rfl)
  have HF := Lib.hid (And.intro hfin k2)
  have HW := Lib.hid hW1
  have hic : i ≤ cap := by omega
  have hjc : i + 1 ≤ cap := by omega
  have a1 : (0 : Int) ≤ (i : Int) + 1 := by omega
  have a2 : (i : Int) + 1 ≤ (n : Int) := by omega
  have HN := Lib.hid hnl
  have HS := Lib.hid hsrc
  have H1 := Lib.hid h1
  have HP := Lib.hid hspare
  clear hfin k2 hW1 k1 hb1 hsl hnl hsrc h1 hspare hnews ht hcl hb hv hlen
  go_enter Tryz.func317, Tryz.ntmps317
  go_wp2_with fail
  go_region_law (refine step_append_room rfl (.tmp 22) (.tmp 25) 35 rfl 3 i0 1 Tryz.underlying35 hi0 hz.2.1 g 0 i cap (by simp [Act.eval, Act.put]) B (n - (i + 1)) (cap - (i + 1)) news (by simp [Act.eval, Act.put]) (by rw [Nat.mul_one]; exact HN.out) HS.out H1.out (by omega) HP.out ?_; rw [← HW.out])
  go_wp2
  go_ret
  exact ⟨by rw [show n - 1 = i + (n - (i + 1)) from by omega]; rfl, HF.out.1, HF.out.2⟩
end
end Go.Proofs.YtngchjejmnfanaaGreat.Se
namespace Go.Proofs.YtngchjejmnfanaaGreat.Se
open Go.RowKit
set_option linter.unusedVariables false
set_option linter.unusedSimpArgs false
section
variable {w : World} {p : Nat} {A : Option Addr} {cap : Nat} {s : Sec}
theorem IsSec.own (h : IsSec w p A cap s) (h0 : s.q ≠ []) : ∃ g, A = some ⟨g, 0, none⟩ ∧ g ≠ p ∧ w.cell? ⟨g, 0, none⟩ = some (.int .i64 (s.q.headD 0)) ∧ s.q.length ≤ cap := by
  obtain ⟨x, l, hl⟩ := List.exists_cons_of_ne_nil h0
  have hlen : 0 < s.q.length := by rw [hl]; simp
  obtain ⟨g, cur, rfl, hb, hc, _, ht⟩ := h.row.at_ hlen
  refine ⟨g, rfl, h.ne g ⟨_, rfl, rfl⟩, ?_, hc⟩
  rw [hb.cell]
  have : (cur.take (s.q.length * 1))[0]? = (ints s.q)[0]? := by rw [ht]
  rw [List.getElem?_take, if_pos (by omega)] at this
  rw [this, ints_get, hl]
  rfl
set_option maxHeartbeats 1000000 in
theorem remove_is (h : IsSec w p A cap s) (i : Nat) (hi : i < s.q.length) : Calls Tryz.prog 302 #[.pointer (some ⟨p, 0, none⟩), .int .i64 i] w fun e w' => e = .returned (.tuple #[]) ∧ IsSec w' p A cap (s.rem i) ∧ Keep (SecB p A) w w' := by
  have hne : s.q ≠ [] := fun e => by rw [e] at hi; simp at hi
  obtain ⟨g, rfl, hgp, _, hcap⟩ := h.own hne
  have c6 := h.c6
  have hv := h.row
  have hd := delete_is hv hi
  have hsm : s.q.length ≤ maxLen := by
    rcases hv.2 with ⟨he, _⟩ | ⟨g', cap', cur', he, _, _, h1, h2, _⟩
    · simp at he
    · omega
  unfold maxLen at hsm
  have hlq : (s.q.eraseIdx i).length = s.q.length - 1 := by rw [List.length_eraseIdx, if_pos hi]
  have HQ := Lib.hid hlq
  clear hlq hv
  have obj : ∀ {w1 : World}, Keep (· = g) w w1 → Blk w1 p 296 [.int .i64 s.lease, .int .i64 s.now, .int .i64 s.stamps, .int .i64 s.who, .int .i64 s.stamp, .int .i64 s.since, .slice (some ⟨g, 0, none⟩) s.q.length cap, .int .i64 s.first] :=
    fun k => h.obj.keep k (fun e => hgp e.symm)
  have kp : ∀ {w1 : World}, Keep (· = g) w w1 → Keep (SecB p (some ⟨g, 0, none⟩)) w w1 := fun k => k.mono (fun x _ e => .inr ⟨_, rfl, e.symm⟩)
  generalize hn : s.q.length = n at *
  have HN := Lib.hid hn
  clear hn
  by_cases hz : i = 0
  · subst hz
    go_enter Tryz.func302, Tryz.ntmps302
    go_wp2_with fail
    refine (hd _ (by rfl)).mono ?_; rintro e w1 ⟨rfl, hv1, k1⟩
    have b1 := obj k1
    have f6 := b1.frozen 6
    have f7 := b1.frozen 7
    have d1 : w1.cell? ⟨p, 1, none⟩ = some (.int .i64 s.now) := b1.cell 1
    have d6 : w1.cell? ⟨p, 6, none⟩ = some (.slice (some ⟨g, 0, none⟩) n cap) := b1.cell 6
    have d7 : w1.cell? ⟨p, 7, none⟩ = some (.int .i64 s.first) := b1.cell 7
    go_wp2
    go_end0
    have k2 : Keep (· = p) w1 ((w1.setCell ⟨p, 6, none⟩ (.slice (some ⟨g, 0, none⟩) (n - 1) cap)).setCell ⟨p, 7, none⟩ (.int .i64 s.now)) := ((Keep.refl (· = p) w1).setCell ⟨p, 6, none⟩ _ (fun _ => rfl)).setCell ⟨p, 7, none⟩ _ (fun _ => rfl)
    refine ⟨rfl, ⟨?_, ?_⟩, (kp k1).trans k2 (fun x _ e => .inl e)⟩
    · have := (b1.setCell 6 (.slice (some ⟨g, 0, none⟩) (n - 1) cap)).setCell 7 (.int .i64 s.now)
      simp only [Sec.rem, HQ.out, if_true]
      exact this
    · simp only [Sec.rem, HQ.out]
      exact hv1.keep k2 (fun x ⟨a, ha, hb⟩ e => by cases ha; exact hgp (hb.trans e))
  · have hz2 : (i : Int) ≠ 0 := by omega
    go_enter Tryz.func302, Tryz.ntmps302
    go_wp2_with fail
    refine (hd _ (by rfl)).mono ?_; rintro e w1 ⟨rfl, hv1, k1⟩
    have b1 := obj k1
    have f6 := b1.frozen 6
    have d6 : w1.cell? ⟨p, 6, none⟩ = some (.slice (some ⟨g, 0, none⟩) n cap) := b1.cell 6
    go_wp2
    go_end0
    have k2 : Keep (· = p) w1 (w1.setCell ⟨p, 6, none⟩ (.slice (some ⟨g, 0, none⟩) (n - 1) cap)) := (Keep.refl (· = p) w1).setCell ⟨p, 6, none⟩ _ (fun _ => rfl)
    refine ⟨rfl, ⟨?_, ?_⟩, (kp k1).trans k2 (fun x _ e => .inl e)⟩
    · have := b1.setCell 6 (.slice (some ⟨g, 0, none⟩) (n - 1) cap)
      simp only [Sec.rem, HQ.out, if_neg hz]
      exact this
    · simp only [Sec.rem, HQ.out]
      exact hv1.keep k2 (fun x ⟨a, ha, hb⟩ e => by cases ha; exact hgp (hb.trans e))
theorem IsSec.snoc_to (h : IsSec w p A cap s) (who f : Int) {n : Nat} (hn : s.q.length = n) {w1 w2 : World} {A2 : Option Addr} {c2 : Nat} (k1 : Keep (· = p) w w1)
    (b2 : Blk w2 p 296 [.int .i64 s.lease, .int .i64 s.now, .int .i64 s.stamps, .int .i64 s.who, .int .i64 s.stamp, .int .i64 s.since, .slice A n cap, .int .i64 f]) (hv2 : Vec w2 3 1 A2 (n + 1) c2 (ints s.q ++ [.int .i64 who])) (hk2 : Keep (Own A) w1 w2) (ho2 : ∀ g, Own A2 g → Own A g ∨ g = w1.heap.size) :
    SecTo w p A { s with q := s.q ++ [who], first := f } (w2.setCell ⟨p, 6, none⟩ (.slice A2 (n + 1) c2)) := by
  subst hn
  have hp := h.obj.lt
  have h1 := k1.size
  have k3 : Keep (· = p) w2 (w2.setCell ⟨p, 6, none⟩ (.slice A2 (s.q.length + 1) c2)) := (Keep.refl (· = p) w2).setCell ⟨p, 6, none⟩ _ (fun _ => rfl)
  have hne : ∀ x, Own A2 x → x ≠ p := fun x hx e => by
    rcases ho2 x hx with m | m
    · exact h.ne x m e
    · omega
  refine ⟨A2, c2, ⟨?_, ?_⟩, ?_, fun k hk => ?_⟩
  · have := b2.setCell 6 (.slice A2 (s.q.length + 1) c2)
    rw [List.length_append, List.length_singleton]
    exact this
  · rw [List.length_append, List.length_singleton, ints_append]
    exact hv2.keep k3 (fun x hx e => hne x hx e)
  · exact ((k1.mono (fun x _ e => .inl e) : Keep (SecB p A) w w1).trans hk2 (fun x _ m => .inr m)).trans k3 (fun x _ e => .inl e)
  · rcases ho2 k hk with m | m
    · exact .inl m
    · exact .inr (by omega)
set_option maxHeartbeats 1000000 in
theorem wait_is (h : IsSec w p A cap s) (hl : s.q.length ≤ 1000000) (who : Int) : Calls Tryz.prog 272 #[.pointer (some ⟨p, 0, none⟩), .int .i64 who] w fun e w' => e = .returned (.tuple #[]) ∧ SecTo w p A (s.wait who) w' := by
  have c6 := h.c6
  have hci := contains_is (c := cap) h.row.reads (by omega) who _ rfl
  rw [Nat.mul_one] at hci
  unfold Sec.wait
  by_cases hm : who ∈ s.q
  · rw [decide_eq_true hm] at hci
    rw [if_pos hm]
    go_enter Tryz.func272, Tryz.ntmps272
    go_wp2_with fail
    refine hci.mono ?_; rintro e w1 ⟨rfl, rfl⟩
    go_wp2
    first | go_end0 | refine bodyPost_ret (results_none rfl _ _ _) rfl ?_
    exact ⟨rfl, SecTo.same h⟩
  · rw [decide_eq_false hm] at hci
    rw [if_neg hm]
    have c1 := h.c1
    have c7 := h.c7
    have f6 := h.f 6
    have f7 := h.f 7
    have H := Lib.hid h
    have hv0 := h.row
    have hq0 : ∀ {w1 : World}, Keep (· = p) w w1 → Vec w1 3 1 A s.q.length cap (ints s.q) := fun k => h.row.keep k (fun x hx e => h.ne x hx e)
    have hobj := h.obj
    generalize hn : s.q.length = n at *
    have HN := Lib.hid hn
    clear hn h hm
    by_cases hz : n = 0
    · subst hz
      go_enter Tryz.func272, Tryz.ntmps272
      go_wp2_with fail
      refine hci.mono ?_; rintro e w1 ⟨rfl, rfl⟩
      have b1 := hobj.setCell 7 (.int .i64 s.now)
      have k1 : Keep (· = p) w (w.setCell ⟨p, 7, none⟩ (.int .i64 s.now)) := (Keep.refl (· = p) w).setCell ⟨p, 7, none⟩ _ (fun _ => rfl)
      have hv1 := (hq0 k1).nob ((Keep.refl Nob _).alloc (.cells #[.int .i64 who] 3))
      have hr1 : Reads ((w.setCell ⟨p, 7, none⟩ (.int .i64 s.now)).alloc (.cells #[.int .i64 who] 3)) (some ⟨w.heap.size, 0, none⟩) 1 [.int .i64 who] := by
        have := reads_all (n := 1) (Blk.new (w.setCell ⟨p, 7, none⟩ (.int .i64 s.now)) 3 [.int .i64 who]) rfl
        simpa [World.setCell] using this
      have hnA : ¬ Own A p := fun ho => H.out.ne p ho rfl
      have b2 := b1.alloc (.cells #[.int .i64 who] 3)
      have ka := k1.alloc (.cells #[.int .i64 who] 3)
      go_wp2_with (at_builtin; go_loud (refine wpList_ap rfl _ _ 35 rfl 3 1 8 (.int .i64 0) Tryz.underlying35 infointS rfl (by decide) A 0 cap _ rfl hv1 (some ⟨w.heap.size, 0, none⟩) 1 1 [.int .i64 who] rfl _ (Nat.mul_one _) hr1 (by simp [Value.oneCell']) (by unfold maxLen; omega) (by omega) ?_; intro A2 c2 w2 hv2 hk2 ho2; have b3 := b2.keep hk2 hnA; have z6 := b3.cell 6; have g6 := b3.frozen 6))
      go_wp2
      go_end0
      exact ⟨rfl, H.out.snoc_to who s.now HN.out ka b3 hv2 hk2 ho2⟩
    · go_enter Tryz.func272, Tryz.ntmps272
      go_wp2_with fail
      refine hci.mono ?_; rintro e w1 ⟨rfl, rfl⟩
      have hv1 := hv0.nob ((Keep.refl Nob w).alloc (.cells #[.int .i64 who] 3))
      have hr1 : Reads (w.alloc (.cells #[.int .i64 who] 3)) (some ⟨w.heap.size, 0, none⟩) 1 [.int .i64 who] := by
        have := reads_all (n := 1) (Blk.new w 3 [.int .i64 who]) rfl
        simpa [World.setCell] using this
      have hnA : ¬ Own A p := fun ho => H.out.ne p ho rfl
      have b2 := hobj.alloc (.cells #[.int .i64 who] 3)
      have ka := (Keep.refl (· = p) w).alloc (.cells #[.int .i64 who] 3)
      go_wp2_with (at_builtin; go_loud (refine wpList_ap rfl _ _ 35 rfl 3 1 8 (.int .i64 0) Tryz.underlying35 infointS rfl (by decide) A n cap _ rfl hv1 (some ⟨w.heap.size, 0, none⟩) 1 1 [.int .i64 who] rfl _ (Nat.mul_one _) hr1 (by simp [Value.oneCell']) (by unfold maxLen; omega) (by omega) ?_; intro A2 c2 w2 hv2 hk2 ho2; have b3 := b2.keep hk2 hnA; have z6 := b3.cell 6; have g6 := b3.frozen 6))
      go_wp2
      go_end0
      exact ⟨rfl, H.out.snoc_to who s.first HN.out ka b3 hv2 hk2 ho2⟩
theorem rem_pass2 {s : Sec} (O : s.Ok) (who : Int) : (s.rem 0).pass2 who = s.rem 0 := by
  have h1 := O.l1
  unfold Sec.pass2
  rw [if_neg]
  simp [Sec.over, Sec.rem]
  omega
def qlen (p : Nat) (w : World) : Nat := match w.cell? ⟨p, 6, none⟩ with
  | some (.slice _ n _) => n
  | _ => 0
theorem IsSec.qlen (h : IsSec w p A cap s) : qlen p w = s.q.length := by unfold Se.qlen; rw [h.c6]
set_option maxHeartbeats 4000000 in
theorem passBy_is (h : IsSec w p A cap s) (O : s.Ok) (who : Int) (hm : who ∈ s.q) : Calls Tryz.prog 273 #[.pointer (some ⟨p, 0, none⟩), .int .i64 who] w fun e w' => e = .returned (.tuple #[]) ∧ IsSec w' p A cap (s.pass1.pass2 who) ∧ Keep (SecB p A) w w' := by
  have c5 := h.c5
  have c7 := h.c7
  obtain ⟨s1, hs1⟩ : ∃ s1, s.pass1 = s1 := ⟨_, rfl⟩
  have O1 : s1.Ok := hs1 ▸ O.pass1
  have hm1 : who ∈ s1.q := by rw [← hs1, Sec.pass1_q]; exact hm
  cases hh : s.held with
  | false =>
    have hs2 : s1 = s := by rw [← hs1]; unfold Sec.pass1; rw [hh]; rfl
    have H1 : IsSec w p A cap s1 := hs2 ▸ h
    have k1 := Keep.refl (SecB p A) w
    go_enter Tryz.func273, Tryz.ntmps273
    go_wp2_with fail
    refine (isHeld_is h false hh).mono ?_; rintro e w1 ⟨rfl, rfl⟩
    clear c5 c7
    go_wp2_with fail
    go_loopw [17] (fun _ wx => ∃ s2 : Sec, IsSec wx p A cap s2 ∧ s2.Ok ∧ who ∈ s2.q ∧ s2.pass2 who = s1.pass2 who ∧ Keep (SecB p A) w wx) (fun _ wx => qlen p wx)
    case atStart => exact ⟨s1, H1, O1, hm1, rfl, k1⟩
    case round =>
      obtain ⟨s2, H2, O2, hm2, hp2, k2⟩ := hrel
      have hne2 : s2.q ≠ [] := fun e => by rw [e] at hm2; simp at hm2
      have hql := H2.qlen
      have hlen2 : 0 < s2.q.length := List.length_pos_iff.2 hne2
      have HQ := Lib.hid hql
      clear H1 O1 hm1 k1 hql
      cases hh2 : s2.held with
      | true =>
        have e : s2.pass2 who = s2 := by unfold Sec.pass2; rw [hh2]; rfl
        go_wp2_with fail
        refine (isHeld_is H2 true hh2).mono ?_; rintro e2 w3 ⟨rfl, rfl⟩
        go_wp2_with fail
        go_end0
        exact ⟨rfl, by rw [hs1, ← hp2, e]; exact H2, k2⟩
      | false =>
        have hr2 := H2.own hne2
        have c6 := H2.c6
        have c7 := H2.c7
        obtain ⟨g, hA, hgp, cg, hcap⟩ := hr2
        by_cases hhd : s2.q.headD 0 = who
        · have e : s2.pass2 who = s2 := by unfold Sec.pass2; simp only [hhd]; simp
          have hf := e.symm ▸ hp2
          have hH := Lib.hid H2
          subst hA
          generalize s2.q.headD 0 = hd at *
          generalize s2.q.length = n2 at *
          subst hhd
          go_wp2_with fail
          refine (isHeld_is H2 false hh2).mono ?_; rintro e2 w3 ⟨rfl, rfl⟩
          go_wp2_with fail
          go_end0
          exact ⟨rfl, by rw [hs1, ← hp2, e]; exact H2, k2⟩
        · have hw2 := O2.w2 hne2
          have hw1 := O2.w1
          cases ho2 : s2.over s2.first with
          | false =>
            have e : s2.pass2 who = s2 := by unfold Sec.pass2; rw [ho2]; simp
            subst hA
            have ho := isOver_is H2 O2 s2.first hw1 hw2 _ ho2
            generalize s2.q.headD 0 = hd at *
            generalize s2.q.length = n2 at *
            go_wp2_with fail
            refine (isHeld_is H2 false hh2).mono ?_; rintro e2 w3 ⟨rfl, rfl⟩
            go_wp2_with fail
            refine ho.mono ?_; rintro e2 w4 ⟨rfl, m, rfl⟩
            go_wp2_with fail
            go_end0
            exact ⟨rfl, by rw [hs1, ← hp2, e]; exact H2.nob ((Keep.refl Nob _).drewN m), k2.drewN m⟩
          | true =>
            have e : s2.pass2 who = s2.rem 0 := by unfold Sec.pass2; rw [if_pos]; rw [hh2, ho2]; simpa using hhd
            have e3 : (s2.rem 0).pass2 who = s1.pass2 who := by rw [rem_pass2 O2, ← e, hp2]
            have hm3 : who ∈ (s2.rem 0).q := by rw [← e]; exact Sec.pass2_mem hm2
            have ho := isOver_is H2 O2 s2.first hw1 hw2 _ ho2
            have hre := fun m => remove_is (H2.nob ((Keep.refl Nob _).drewN m)) 0 hlen2
            have hl3 : (s2.rem 0).q.length < s2.q.length := by show (s2.q.eraseIdx 0).length < _; rw [List.length_eraseIdx, if_pos hlen2]; omega
            have HL := Lib.hid hl3
            have O3 := O2.rem 0
            clear hl3
            subst hA
            generalize s2.q.headD 0 = hd at *
            generalize s2.q.length = n2 at *
            go_wp2_with fail
            refine (isHeld_is H2 false hh2).mono ?_; rintro e2 w3 ⟨rfl, rfl⟩
            go_wp2_with fail
            refine ho.mono ?_; rintro e2 w4 ⟨rfl, m, rfl⟩
            go_wp2_with fail
            refine (hre m).mono ?_; rintro e2 w5 ⟨rfl, H5, k5⟩
            go_wp2_with fail
            go_roundw
            case rel => exact ⟨_, H5, O3, hm3, e3, (k2.drewN m).trans k5 (fun _ _ x => x)⟩
            case measure => rw [H5.qlen, HQ.out]; exact HL.out
  | true =>
    have hst : 0 < s.stamp := by simpa [Sec.held] using hh
    cases ho : s.over s.since with
    | false =>
      have hs2 : s1 = s := by rw [← hs1]; unfold Sec.pass1; rw [hh, ho]; rfl
      go_enter Tryz.func273, Tryz.ntmps273
      go_wp2_with fail
      refine (isHeld_is h true hh).mono ?_; rintro e w1 ⟨rfl, rfl⟩
      go_wp2_with fail
      refine (isOver_is h O s.since O.h1 (O.h2 hst) false ho).mono ?_; rintro e w1 ⟨rfl, m, rfl⟩
      have H1 : IsSec (w.drewN m) p A cap s1 := hs2 ▸ h.nob ((Keep.refl Nob w).drewN m)
      have k1 := (Keep.refl (SecB p A) w).drewN m
      clear c5 c7
      go_wp2_with fail
      go_loopw [17] (fun _ wx => ∃ s2 : Sec, IsSec wx p A cap s2 ∧ s2.Ok ∧ who ∈ s2.q ∧ s2.pass2 who = s1.pass2 who ∧ Keep (SecB p A) w wx) (fun _ wx => qlen p wx)
      case atStart => exact ⟨s1, H1, O1, hm1, rfl, k1⟩
      case round =>
        obtain ⟨s2, H2, O2, hm2, hp2, k2⟩ := hrel
        have hne2 : s2.q ≠ [] := fun e => by rw [e] at hm2; simp at hm2
        have hql := H2.qlen
        have hlen2 : 0 < s2.q.length := List.length_pos_iff.2 hne2
        have HQ := Lib.hid hql
        clear H1 O1 hm1 k1 hql
        cases hh2 : s2.held with
        | true =>
          have e : s2.pass2 who = s2 := by unfold Sec.pass2; rw [hh2]; rfl
          go_wp2_with fail
          refine (isHeld_is H2 true hh2).mono ?_; rintro e2 w3 ⟨rfl, rfl⟩
          go_wp2_with fail
          go_end0
          exact ⟨rfl, by rw [hs1, ← hp2, e]; exact H2, k2⟩
        | false =>
          have hr2 := H2.own hne2
          have c6 := H2.c6
          have c7 := H2.c7
          obtain ⟨g, hA, hgp, cg, hcap⟩ := hr2
          by_cases hhd : s2.q.headD 0 = who
          · have e : s2.pass2 who = s2 := by unfold Sec.pass2; simp only [hhd]; simp
            have hf := e.symm ▸ hp2
            have hH := Lib.hid H2
            subst hA
            generalize s2.q.headD 0 = hd at *
            generalize s2.q.length = n2 at *
            subst hhd
            go_wp2_with fail
            refine (isHeld_is H2 false hh2).mono ?_; rintro e2 w3 ⟨rfl, rfl⟩
            go_wp2_with fail
            go_end0
            exact ⟨rfl, by rw [hs1, ← hp2, e]; exact H2, k2⟩
          · have hw2 := O2.w2 hne2
            have hw1 := O2.w1
            cases ho2 : s2.over s2.first with
            | false =>
              have e : s2.pass2 who = s2 := by unfold Sec.pass2; rw [ho2]; simp
              subst hA
              have ho := isOver_is H2 O2 s2.first hw1 hw2 _ ho2
              generalize s2.q.headD 0 = hd at *
              generalize s2.q.length = n2 at *
              go_wp2_with fail
              refine (isHeld_is H2 false hh2).mono ?_; rintro e2 w3 ⟨rfl, rfl⟩
              go_wp2_with fail
              refine ho.mono ?_; rintro e2 w4 ⟨rfl, m, rfl⟩
              go_wp2_with fail
              go_end0
              exact ⟨rfl, by rw [hs1, ← hp2, e]; exact H2.nob ((Keep.refl Nob _).drewN m), k2.drewN m⟩
            | true =>
              have e : s2.pass2 who = s2.rem 0 := by unfold Sec.pass2; rw [if_pos]; rw [hh2, ho2]; simpa using hhd
              have e3 : (s2.rem 0).pass2 who = s1.pass2 who := by rw [rem_pass2 O2, ← e, hp2]
              have hm3 : who ∈ (s2.rem 0).q := by rw [← e]; exact Sec.pass2_mem hm2
              have ho := isOver_is H2 O2 s2.first hw1 hw2 _ ho2
              have hre := fun m => remove_is (H2.nob ((Keep.refl Nob _).drewN m)) 0 hlen2
              have hl3 : (s2.rem 0).q.length < s2.q.length := by show (s2.q.eraseIdx 0).length < _; rw [List.length_eraseIdx, if_pos hlen2]; omega
              have HL := Lib.hid hl3
              have O3 := O2.rem 0
              clear hl3
              subst hA
              generalize s2.q.headD 0 = hd at *
              generalize s2.q.length = n2 at *
              go_wp2_with fail
              refine (isHeld_is H2 false hh2).mono ?_; rintro e2 w3 ⟨rfl, rfl⟩
              go_wp2_with fail
              refine ho.mono ?_; rintro e2 w4 ⟨rfl, m, rfl⟩
              go_wp2_with fail
              refine (hre m).mono ?_; rintro e2 w5 ⟨rfl, H5, k5⟩
              go_wp2_with fail
              go_roundw
              case rel => exact ⟨_, H5, O3, hm3, e3, (k2.drewN m).trans k5 (fun _ _ x => x)⟩
              case measure => rw [H5.qlen, HQ.out]; exact HL.out
    | true =>
      have hs2 : s1 = s.rel := by rw [← hs1]; unfold Sec.pass1; rw [hh, ho]; rfl
      go_enter Tryz.func273, Tryz.ntmps273
      go_wp2_with fail
      refine (isHeld_is h true hh).mono ?_; rintro e w1 ⟨rfl, rfl⟩
      go_wp2_with fail
      refine (isOver_is h O s.since O.h1 (O.h2 hst) true ho).mono ?_; rintro e w1 ⟨rfl, m, rfl⟩
      go_wp2_with fail
      refine (release_is (h.nob ((Keep.refl Nob w).drewN m))).mono ?_; rintro e w1 ⟨rfl, h1, kr⟩
      have H1 : IsSec w1 p A cap s1 := hs2 ▸ h1
      have k1 : Keep (SecB p A) w w1 := ((Keep.refl (SecB p A) w).drewN m).trans kr (fun x _ e => .inl e)
      clear c5 c7
      go_wp2_with fail
      go_loopw [17] (fun _ wx => ∃ s2 : Sec, IsSec wx p A cap s2 ∧ s2.Ok ∧ who ∈ s2.q ∧ s2.pass2 who = s1.pass2 who ∧ Keep (SecB p A) w wx) (fun _ wx => qlen p wx)
      case atStart => exact ⟨s1, H1, O1, hm1, rfl, k1⟩
      case round =>
        obtain ⟨s2, H2, O2, hm2, hp2, k2⟩ := hrel
        have hne2 : s2.q ≠ [] := fun e => by rw [e] at hm2; simp at hm2
        have hql := H2.qlen
        have hlen2 : 0 < s2.q.length := List.length_pos_iff.2 hne2
        have HQ := Lib.hid hql
        clear H1 O1 hm1 k1 hql
        cases hh2 : s2.held with
        | true =>
          have e : s2.pass2 who = s2 := by unfold Sec.pass2; rw [hh2]; rfl
          go_wp2_with fail
          refine (isHeld_is H2 true hh2).mono ?_; rintro e2 w3 ⟨rfl, rfl⟩
          go_wp2_with fail
          go_end0
          exact ⟨rfl, by rw [hs1, ← hp2, e]; exact H2, k2⟩
        | false =>
          have hr2 := H2.own hne2
          have c6 := H2.c6
          have c7 := H2.c7
          obtain ⟨g, hA, hgp, cg, hcap⟩ := hr2
          by_cases hhd : s2.q.headD 0 = who
          · have e : s2.pass2 who = s2 := by unfold Sec.pass2; simp only [hhd]; simp
            have hf := e.symm ▸ hp2
            have hH := Lib.hid H2
            subst hA
            generalize s2.q.headD 0 = hd at *
            generalize s2.q.length = n2 at *
            subst hhd
            go_wp2_with fail
            refine (isHeld_is H2 false hh2).mono ?_; rintro e2 w3 ⟨rfl, rfl⟩
            go_wp2_with fail
            go_end0
            exact ⟨rfl, by rw [hs1, ← hp2, e]; exact H2, k2⟩
          · have hw2 := O2.w2 hne2
            have hw1 := O2.w1
            cases ho2 : s2.over s2.first with
            | false =>
              have e : s2.pass2 who = s2 := by unfold Sec.pass2; rw [ho2]; simp
              subst hA
              have ho := isOver_is H2 O2 s2.first hw1 hw2 _ ho2
              generalize s2.q.headD 0 = hd at *
              generalize s2.q.length = n2 at *
              go_wp2_with fail
              refine (isHeld_is H2 false hh2).mono ?_; rintro e2 w3 ⟨rfl, rfl⟩
              go_wp2_with fail
              refine ho.mono ?_; rintro e2 w4 ⟨rfl, m, rfl⟩
              go_wp2_with fail
              go_end0
              exact ⟨rfl, by rw [hs1, ← hp2, e]; exact H2.nob ((Keep.refl Nob _).drewN m), k2.drewN m⟩
            | true =>
              have e : s2.pass2 who = s2.rem 0 := by unfold Sec.pass2; rw [if_pos]; rw [hh2, ho2]; simpa using hhd
              have e3 : (s2.rem 0).pass2 who = s1.pass2 who := by rw [rem_pass2 O2, ← e, hp2]
              have hm3 : who ∈ (s2.rem 0).q := by rw [← e]; exact Sec.pass2_mem hm2
              have ho := isOver_is H2 O2 s2.first hw1 hw2 _ ho2
              have hre := fun m => remove_is (H2.nob ((Keep.refl Nob _).drewN m)) 0 hlen2
              have hl3 : (s2.rem 0).q.length < s2.q.length := by show (s2.q.eraseIdx 0).length < _; rw [List.length_eraseIdx, if_pos hlen2]; omega
              have HL := Lib.hid hl3
              have O3 := O2.rem 0
              clear hl3
              subst hA
              generalize s2.q.headD 0 = hd at *
              generalize s2.q.length = n2 at *
              go_wp2_with fail
              refine (isHeld_is H2 false hh2).mono ?_; rintro e2 w3 ⟨rfl, rfl⟩
              go_wp2_with fail
              refine ho.mono ?_; rintro e2 w4 ⟨rfl, m, rfl⟩
              go_wp2_with fail
              refine (hre m).mono ?_; rintro e2 w5 ⟨rfl, H5, k5⟩
              go_wp2_with fail
              go_roundw
              case rel => exact ⟨_, H5, O3, hm3, e3, (k2.drewN m).trans k5 (fun _ _ x => x)⟩
              case measure => rw [H5.qlen, HQ.out]; exact HL.out
end
end Go.Proofs.YtngchjejmnfanaaGreat.Se
namespace Go.Proofs.YtngchjejmnfanaaGreat.Se
open Go.RowKit
set_option linter.unusedVariables false
set_option linter.unusedSimpArgs false
section
variable {w : World} {p : Nat} {A : Option Addr} {cap : Nat} {s : Sec}
set_option maxHeartbeats 2000000 in
theorem letIn_is (h : IsSec w p A cap s) (hne : s.q ≠ []) (hst : s.stamps < 4611686018427387904) (hst0 : 0 ≤ s.stamps) (v : Int) (hv : s.stamps + 1 = v) : Calls Tryz.prog 275 #[.pointer (some ⟨p, 0, none⟩)] w fun e w' => e = .returned (.int .i64 v) ∧ IsSec w' p A cap s.letIn ∧ Keep (SecB p A) w w' := by
  obtain ⟨g, hA, hgp, cg, hcap⟩ := h.own hne
  have hq0 : 0 < s.q.length := List.length_pos_iff.2 hne
  have k1 : Keep (· = p) w (w.setCell ⟨p, 2, none⟩ (.int .i64 v)) := (Keep.refl (· = p) w).setCell ⟨p, 2, none⟩ _ (fun _ => rfl)
  have b1 := h.obj.setCell 2 (.int .i64 v)
  have c2 := h.c2
  have f2 := h.f 2
  have e3 := h.c3
  have e4 := h.c4
  have e5 := h.c5
  have q3 := h.f 3
  have q4 := h.f 4
  have q5 := h.f 5
  have H1 : IsSec (w.setCell ⟨p, 2, none⟩ (.int .i64 v)) p A cap { s with stamps := v } := h.turn k1 b1 rfl
  have H2 := H1.nob ((Keep.refl Nob _).drew)
  have cg1 : (w.setCell ⟨p, 2, none⟩ (.int .i64 v)).drew.cell? ⟨g, 0, none⟩ = some (.int .i64 (s.q.headD 0)) := by
    obtain ⟨g', hA', _, cg', _⟩ := H2.own hne
    rw [hA] at hA'
    cases hA'
    exact cg'
  have d1 := H2.c1
  have d2 := H2.c2
  have d3 := H2.c3
  have d4 := H2.c4
  have d5 := H2.c5
  have d6 := H2.c6
  have f3 := H2.f 3
  have f4 := H2.f 4
  have f5 := H2.f 5
  dsimp only at d1 d2 d3 d4 d5 d6
  have HH := Lib.hid (And.intro h (And.intro H2 k1))
  have hob := H2.obj
  clear H1 H2 b1 h k1
  subst hA
  obtain ⟨hd, hhd⟩ : ∃ hd, s.q.headD 0 = hd := ⟨_, rfl⟩
  rw [hhd] at cg cg1
  obtain ⟨n, hn⟩ : ∃ n, s.q.length = n := ⟨_, rfl⟩
  rw [hn] at d6 hq0 hcap
  obtain ⟨st, hst1⟩ : ∃ st, s.stamps = st := ⟨_, rfl⟩
  rw [hst1] at c2 hst hst0 hv
  have HV := Lib.hid hv
  have HS := Lib.hid hst1
  have HD := Lib.hid hhd
  have HN := Lib.hid hn
  clear hst1 hhd hn hne
  subst hv
  have h := HH.out.1
  have k5 : Keep (· = p) w (((((w.setCell ⟨p, 2, none⟩ (.int .i64 (st + 1))).setCell ⟨p, 3, none⟩ (.int .i64 hd)).setCell ⟨p, 4, none⟩ (.int .i64 (st + 1))).setCell ⟨p, 5, none⟩ (.int .i64 s.now))).drew :=
    (((((Keep.refl (· = p) w).setCell ⟨p, 2, none⟩ _ (fun _ => rfl)).setCell ⟨p, 3, none⟩ _ (fun _ => rfl)).setCell ⟨p, 4, none⟩ _ (fun _ => rfl)).setCell ⟨p, 5, none⟩ _ (fun _ => rfl)).drew
  have H5 : IsSec (((((w.setCell ⟨p, 2, none⟩ (.int .i64 (st + 1))).setCell ⟨p, 3, none⟩ (.int .i64 hd)).setCell ⟨p, 4, none⟩ (.int .i64 (st + 1))).setCell ⟨p, 5, none⟩ (.int .i64 s.now))).drew p (some ⟨g, 0, none⟩) cap { s with stamps := st + 1, who := hd, stamp := st + 1, since := s.now } :=
    h.turn k5 (((((h.obj.setCell 2 (.int .i64 (st + 1))).setCell 3 (.int .i64 hd)).setCell 4 (.int .i64 (st + 1))).setCell 5 (.int .i64 s.now)).drew) rfl
  have hre := remove_is H5 0 (by dsimp only; rw [HN.out]; exact hq0)
  have he : ({ s with stamps := st + 1, who := hd, stamp := st + 1, since := s.now } : Sec).rem 0 = s.letIn := by
    unfold Sec.letIn Sec.rem
    rw [HD.out, HS.out]
    rfl
  rw [he] at hre
  have HR := Lib.hid (And.intro hre k5)
  have hsl : s.letIn.stamps = st + 1 := by show s.stamps + 1 = _; rw [HS.out]
  clear hre k5 H5 he h hob
  go_enter Tryz.func275, Tryz.ntmps275
  go_wp2_with fail
  go_region
  all_goals
    go_wp2_with fail
    refine HR.out.1.mono ?_; rintro e w6 ⟨rfl, H6, k6⟩
    have z2 := H6.c2
    rw [hsl] at z2
    go_wp2_with fail
    go_ret
    exact ⟨rfl, H6, (HR.out.2.mono (fun x _ e => .inl e) : Keep (SecB p (some ⟨g, 0, none⟩)) w _).trans k6 (fun x _ m => m)⟩
theorem isSec_small (h : IsSec w p A cap s) (O : s.Ok) : s.q.length ≤ 1000000 := by have := O.len; omega
theorem new_sec (lease : Int) : Calls Tryz.prog 98 #[.int .i64 lease] w fun e w' => ∃ p, e = .returned (.pointer (some ⟨p, 0, none⟩)) ∧ IsSec w' p none 0 (Sec.new lease) ∧ w.heap.size ≤ p ∧ Keep Nob w w' := by
  have fin : ∀ l, min (max lease 1) 1000 = l → IsSec (w.alloc (.cells #[.int .i64 l, .int .i64 (-9223372036854775808), .int .i64 0, .int .i64 0, .int .i64 0, .int .i64 0, .slice none 0 0, .int .i64 0] 296)) w.heap.size none 0 (Sec.new lease) := fun l hl => by
    unfold Sec.new
    rw [hl]
    exact ⟨Blk.new w 296 _, Vec.nil _ _ _⟩
  by_cases h1 : lease < 1
  · go_enter Tryz.func98, Tryz.ntmps98
    go_wp2
    go_ret
    exact ⟨_, rfl, fin 1 (by omega), Nat.le_refl _, (Keep.refl Nob w).alloc _⟩
  · by_cases h2 : 1000 < lease
    · go_enter Tryz.func98, Tryz.ntmps98
      go_wp2
      go_ret
      exact ⟨_, rfl, fin 1000 (by omega), Nat.le_refl _, (Keep.refl Nob w).alloc _⟩
    · go_enter Tryz.func98, Tryz.ntmps98
      go_wp2
      go_ret
      exact ⟨_, rfl, fin lease (by omega), Nat.le_refl _, (Keep.refl Nob w).alloc _⟩
end
end Go.Proofs.YtngchjejmnfanaaGreat.Se
namespace Go.Proofs.YtngchjejmnfanaaGreat.Se
open Go.RowKit
set_option linter.unusedVariables false
set_option linter.unusedSimpArgs false
section
variable {w : World} {p : Nat} {A : Option Addr} {cap : Nat} {s : Sec}
set_option maxHeartbeats 2000000 in
theorem enter_in (h : IsSec w p A cap s) (O : s.Ok) (who now : Int) (h0 : 0 ≤ who) (h9 : who ≤ 99) (hn : now ≤ 9223372036854775807) (hst : s.stamps < 4611686018427387904) (v : Int) (b : Bool) (s' : Sec) (hv : s.enter who now = (v, b, s')) :
    Calls Tryz.prog 210 #[.pointer (some ⟨p, 0, none⟩), .int .i64 who, .int .i64 now] w fun e w' => e = .returned (.tuple #[.int .i64 v, .bool b]) ∧ SecTo w p A s' w' := by
  have c1 := h.c1
  have f1 := h.f 1
  obtain ⟨m, hm⟩ : ∃ m, max s.now now = m := ⟨_, rfl⟩
  have k0 : Keep (· = p) w (w.setCell ⟨p, 1, none⟩ (.int .i64 m)) := (Keep.refl (· = p) w).setCell ⟨p, 1, none⟩ _ (fun _ => rfl)
  have ht : s.tick now = { s with now := m } := by unfold Sec.tick; rw [hm]
  have H0 : IsSec (w.setCell ⟨p, 1, none⟩ (.int .i64 m)) p A cap (s.tick now) := by rw [ht]; exact h.turn k0 (h.obj.setCell 1 (.int .i64 m)) rfl
  have O0 := O.tick (now := now) hn
  have hst0 : (s.tick now).stamps < 4611686018427387904 := hst
  have hmax : (s.now < now ∧ m = now) ∨ (¬ s.now < now ∧ m = s.now) := by omega
  unfold Sec.enter at hv
  rw [if_neg (by omega)] at hv
  have HK := Lib.hid (And.intro k0 (And.intro H0 O0))
  clear k0 H0 O0 ht h
  generalize s.tick now = s0 at *
  have HV := Lib.hid hv
  clear hv
  rcases hmax with ⟨hx, rfl⟩ | ⟨hx, rfl⟩
  all_goals
    go_enter Tryz.func210, Tryz.ntmps210
    go_wp2_with fail
    obtain ⟨k0, H0, O0⟩ := HK.out
    have up : ∀ {w9 : World}, SecTo _ p A s' w9 → SecTo w p A s' w9 := fun t => SecTo.trans H0 (k0.mono (fun x _ e => .inl e)) (fun _ hk => .inl hk) t
    have c4 := H0.c4
    have hv := HV.out
    unfold Sec.enterIn at hv
    cases hh : s0.isH who with
    | true =>
      rw [if_pos hh] at hv
      cases hv
      refine (isHolder_is H0 who true hh).mono ?_; rintro e w1 ⟨rfl, rfl⟩
      clear c1 f1
      go_wp2_with fail
      go_ret2
      exact ⟨rfl, up (SecTo.same H0)⟩
    | false =>
      rw [if_neg (by rw [hh]; simp)] at hv
      refine (isHolder_is H0 who false hh).mono ?_; rintro e w1 ⟨rfl, rfl⟩
      clear c1 f1 c4
      go_wp2_with fail
      refine (wait_is H0 (isSec_small H0 O0) who).mono ?_; rintro e w2 ⟨rfl, A1, cap1, H1, k1, o1⟩
      have O1 := O0.wait h0 h9 hh
      go_wp2_with fail
      refine (passBy_is H1 O1 who (Sec.wait_mem s0 who)).mono ?_; rintro e w3 ⟨rfl, H2, k2⟩
      have H2 : IsSec w3 p A1 cap1 (s0.ask who) := H2
      have O2 := O0.ask h0 h9 hh
      have hne := Sec.ask_ne s0 who
      have hss := Lib.hid (Sec.ask_stamps s0 who)
      have up2 : ∀ {w9 : World}, (∃ A9 c9, IsSec w9 p A9 c9 s' ∧ Keep (SecB p A1) w3 w9 ∧ A9 = A1) → SecTo w p A s' w9 := fun ⟨A9, c9, h9, k9, e9⟩ => up (SecTo.trans H1 k1 o1 ⟨A9, c9, h9, k2.trans k9 (fun _ _ x => x), fun _ hk => .inl (e9 ▸ hk)⟩)
      clear up O1 H0 H1
      generalize s0.ask who = s2 at *
      obtain ⟨g, rfl, hgp, cg, hcap⟩ := H2.own hne
      have c6 := H2.c6
      have c7 := H2.c7
      have c1 := H2.c1
      have f7 := H2.f 7
      have hpos : 0 < s2.q.length := List.length_pos_iff.2 hne
      have HH := Lib.hid (And.intro H2 (And.intro O2 hne))
      clear H2 O2 hne k1 k2 o1
      by_cases hd : s2.q.headD 0 = who
      · rw [if_neg (by simpa using hd)] at hv
        rw [hd] at cg
        generalize s2.q.length = n at *
        cases hl : s2.held with
        | true =>
          rw [if_pos hl] at hv
          cases hv
          go_wp2_with fail
          refine (isHeld_is HH.out.1 true hl).mono ?_; rintro e w4 ⟨rfl, rfl⟩
          go_wp2_with fail
          go_ret2
          have k7 : Keep (· = p) w3 (w3.setCell ⟨p, 7, none⟩ (.int .i64 s2.now)) := (Keep.refl (· = p) w3).setCell ⟨p, 7, none⟩ _ (fun _ => rfl)
          exact ⟨rfl, up2 ⟨_, _, HH.out.1.turn k7 (HH.out.1.obj.setCell 7 (.int .i64 s2.now)) rfl, k7.mono (fun x _ e => .inl e), rfl⟩⟩
        | false =>
          rw [if_neg (by rw [hl]; simp)] at hv
          cases hv
          go_wp2_with fail
          refine (isHeld_is HH.out.1 false hl).mono ?_; rintro e w4 ⟨rfl, rfl⟩
          go_wp2_with fail
          refine (letIn_is HH.out.1 HH.out.2.2 (by rw [hss.out]; exact hst0) HH.out.2.1.p0 _ rfl).mono ?_; rintro e w5 ⟨rfl, H5, k5⟩
          go_wp2_with fail
          go_ret2
          exact ⟨rfl, up2 ⟨_, _, H5, k5, rfl⟩⟩
      · rw [if_pos (by simpa using hd)] at hv
        generalize s2.q.length = n at *
        generalize s2.q.headD 0 = hd at *
        cases hv
        go_wp2_with fail
        go_ret2
        exact ⟨rfl, up2 ⟨_, _, HH.out.1, Keep.refl _ _, rfl⟩⟩
theorem enter_is (h : IsSec w p A cap s) (O : s.Ok) (who now : Int) (hn : now ≤ 9223372036854775807) (hst : s.stamps < 4611686018427387904) (v : Int) (b : Bool) (s' : Sec) (hv : s.enter who now = (v, b, s')) :
    Calls Tryz.prog 210 #[.pointer (some ⟨p, 0, none⟩), .int .i64 who, .int .i64 now] w fun e w' => e = .returned (.tuple #[.int .i64 v, .bool b]) ∧ SecTo w p A s' w' := by
  by_cases hw : who < 0 ∨ 99 < who
  · unfold Sec.enter at hv
    rw [if_pos hw] at hv
    cases hv
    rcases hw with hw | hw
    · go_enter Tryz.func210, Tryz.ntmps210
      go_wp2_with fail
      go_ret2
      exact ⟨rfl, SecTo.same h⟩
    · go_enter Tryz.func210, Tryz.ntmps210
      go_wp2_with fail
      go_ret2
      exact ⟨rfl, SecTo.same h⟩
  · exact enter_in h O who now (by omega) (by omega) hn hst v b s' hv
theorem clone_is {xs : List Int} {n c : Nat} {B : Option Addr} (hr : Reads w B n (ints xs)) (hn : n ≤ 1000000) :
    Calls Tryz.prog 93 #[.slice B n c] w fun e w' => ∃ A' c', e = .returned (.slice A' n c') ∧ Vec w' 3 1 A' n c' (ints xs) ∧ (∀ k, Own A' k → w.heap.size ≤ k) ∧ Keep Nob w w' := by
  have hl : xs.length = n := by have := hr.1; rwa [ints_len] at this
  have hnil := fun (w : World) (a : Option Addr) (n c n' c' : Nat) => Lib.run_eql_slice_nil (P := Tryz.prog) w 35 3 a n c n' c' Tryz.underlying35
  by_cases hB : B = none
  · subst hB
    have h0 : n = 0 := by
      rcases Nat.eq_zero_or_pos n with h | h
      · exact h
      · obtain ⟨ad, e, _⟩ := hr.2 h
        cases e
    subst h0
    obtain rfl : xs = [] := List.eq_nil_of_length_eq_zero hl
    go_enter Tryz.func93, Tryz.ntmps93
    go_wp2
    go_ret
    exact ⟨none, 0, rfl, Vec.nil _ _ _, (fun k ⟨a, ha, _⟩ => by cases ha), Keep.refl _ _⟩
  · obtain ⟨ad, rfl⟩ := Option.ne_none_iff_exists'.1 hB
    have hv1 : Vec (w.alloc (.cells #[] 3)) 3 1 (some ⟨w.heap.size, 0, none⟩) 0 0 [] := Vec.of_blk (Blk.new w 3 []) rfl (by decide)
    have hr1 := hr.nob ((Keep.refl Nob w).alloc (.cells #[] 3))
    go_enter Tryz.func93, Tryz.ntmps93
    go_wp2_with (at_builtin; go_loud (refine wpList_ap rfl _ _ 35 rfl 3 1 8 (.int .i64 0) Tryz.underlying35 infointS rfl (by decide) (some ⟨w.heap.size, 0, none⟩) 0 0 [] rfl hv1 (some ad) n c (ints xs) rfl _ (Nat.mul_one _) hr1 (ints_one xs) (by unfold maxLen; omega) (by omega) ?_; intro A2 c2 w2 hv2 hk2 ho2))
    go_wp2
    go_ret
    refine ⟨A2, c2, by simp, by simpa using hv2, fun k hk => ?_, ?_⟩
    · rcases ho2 k hk with ⟨a, ha, hb⟩ | m
      · cases ha; exact Nat.le_of_eq hb
      · rw [m]; simp
    · exact (((Keep.refl Nob w).alloc _).trans hk2 (fun x hx ⟨a, ha, hb⟩ => by cases ha; dsimp only at hb; omega))
/-- A section that a call has made, with its calls. -/
structure S0 (w0 w : World) (p : Nat) (A : Option Addr) (cap : Nat) (s : Sec) : Prop where
  is : IsSec w p A cap s
  ok : s.Ok
  lo : w0.heap.size ≤ p
  own : ∀ k, Own A k → w0.heap.size ≤ k
  keep : Keep (From w0.heap.size) w0 w
section
variable {w0 w' : World}
theorem S0.nob (h : S0 w0 w p A cap s) (k : Keep Nob w w') : S0 w0 w' p A cap s := ⟨h.is.nob k, h.ok, h.lo, h.own, h.keep.nob k⟩
theorem S0.blocks (h : S0 w0 w p A cap s) (k : Keep (SecB p A) w w') : Keep (From w0.heap.size) w0 w' := h.keep.from_ k (fun x m => by
  rcases m with rfl | m
  · exact h.lo
  · exact h.own x m)
theorem S0.new (hk : Keep (From w0.heap.size) w0 w) (lease : Int) : Calls Tryz.prog 98 #[.int .i64 lease] w fun e w' => ∃ p, e = .returned (.pointer (some ⟨p, 0, none⟩)) ∧ S0 w0 w' p none 0 (Sec.new lease) ∧ Keep Nob w w' :=
  (new_sec lease).mono fun e w' ⟨p, he, hi, hp, hn⟩ => ⟨p, he, ⟨hi, Sec.Ok.new lease, by have := hk.size; omega, (fun k ⟨a, ha, _⟩ => by cases ha), hk.nob hn⟩, hn⟩
theorem S0.enter (h : S0 w0 w p A cap s) (who now : Int) (hn : now ≤ 9223372036854775807) (hst : s.stamps < 4611686018427387904) (v : Int) (b : Bool) (s' : Sec) (hv : s.enter who now = (v, b, s')) :
    Calls Tryz.prog 210 #[.pointer (some ⟨p, 0, none⟩), .int .i64 who, .int .i64 now] w fun e w' => e = .returned (.tuple #[.int .i64 v, .bool b]) ∧ ∃ A' cap', S0 w0 w' p A' cap' s' ∧ Keep (SecB p A) w w' :=
  (enter_is h.is h.ok who now hn hst v b s' hv).mono fun e w' ⟨he, A', cap', hi, hk, ho⟩ => ⟨he, A', cap', ⟨hi, by have := h.ok.enter (who := who) hn; rw [hv] at this; exact this, h.lo, fun k hk' => by
    rcases ho k hk' with m | m
    · exact h.own k m
    · have := h.keep.size; omega, h.blocks hk⟩, hk⟩
/-- What is of another type stays. -/
theorem S0.offT {g : Nat} {t : TypeId} {cs : List Value} (h : S0 w0 w p A cap s) (hb : Blk w g t cs) (h1 : t ≠ 296) (h2 : t ≠ 3) (k : Keep (SecB p A) w w') : Blk w' g t cs :=
  hb.keep k (fun m => by
    rcases m with m | m
    · subst m
      exact hb.ne_ h.is.obj h1 rfl
    · obtain ⟨cur, hc⟩ := h.is.row.blk m
      exact hb.ne_ hc h2 rfl)
end
end
end Go.Proofs.YtngchjejmnfanaaGreat.Se
