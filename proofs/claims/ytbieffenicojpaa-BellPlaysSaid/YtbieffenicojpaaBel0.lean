/- Bells (layer 9) as plain data, and contracts of package bell. -/
import Derived.Test.YtbieffenicojpaaRows
import Derived.Test.YtbieffenicojpaaTab1
import Derived.Test.YtbieffenicojpaaRead
import Derived.Deep.QuietTactic
import Derived.Deep.RegionHeld3
import Derived.BigQuiet
import Derived.WalkLawsBesides
import Derived.Outline
import Derived.Laws.EntriesVeiled
import Derived.Conc.LoneCalls
import Derived.Conc.LoneSelect
import Derived.Conc.LoneSelectN
namespace Go.Proofs.Ytbieffenicojpaa
open Go.RowKit
set_option linter.unusedVariables false
set_option linter.unusedSimpArgs false
open Go.Conc
/-- Block c is an open channel with room for cap, in which l lies. -/
def IsCh (w : World) (c cap : Nat) (l : List Int) : Prop := ∃ s r, w.heap[c]? = some (.chan cap (ints l).toArray false s r false)
/-- p points at a Bell over the channel c. -/
structure IsBell (w : World) (p c cap : Nat) (l : List Int) : Prop where
  obj : Blk w p 45 [.chan (some c)]
  ch : IsCh w c cap l
  room : l.length ≤ cap
  small : cap ≤ 64
section
variable {w w' : World} {p c cap : Nat} {l : List Int} {M : Nat → Prop}
theorem IsCh.lt (h : IsCh w c cap l) : c < w.heap.size := by obtain ⟨s, r, h⟩ := h; exact (Array.getElem?_eq_some_iff.1 h).1
theorem IsCh.keep (h : IsCh w c cap l) (k : Keep M w w') (hm : ¬ M c) : IsCh w' c cap l := by
  obtain ⟨s, r, hc⟩ := h
  exact ⟨s, r, (k.block c (Array.getElem?_eq_some_iff.1 hc).1 hm).trans hc⟩
theorem IsCh.ne_ {g : Nat} {t : TypeId} {cs : List Value} (h : IsCh w c cap l) (hb : Blk w g t cs) : c ≠ g := by
  rintro rfl
  obtain ⟨s, r, hc⟩ := h
  have e := Option.some.inj (hc.symm.trans hb)
  cases e
theorem IsBell.keep (h : IsBell w p c cap l) (k : Keep M w w') (hp : ¬ M p) (hc : ¬ M c) : IsBell w' p c cap l := ⟨h.obj.keep k hp, h.ch.keep k hc, h.room, h.small⟩
theorem IsBell.nob (h : IsBell w p c cap l) (k : Keep Nob w w') : IsBell w' p c cap l := h.keep k (fun f => f) (fun f => f)
theorem keep_chan {a : World} (h : Keep M a w) (c : Nat) (hc : c < a.heap.size → M c) (cap : Nat) (buf : Array Value) (cl : Bool) (s r : Nat) (tm : Bool) : Keep M a (w.setChan c cap buf cl s r tm) :=
  ⟨h.os, h.tape, h.output, by simpa [World.setChan] using h.size, fun k hk hn => by
    simp only [World.setChan]
    rw [Array.getElem?_setIfInBounds_ne (by rintro rfl; exact hn (hc hk))]
    exact h.block k hk hn⟩
end
theorem nm14 : (Try.f14.name == "runtime.NumGoroutine") = false := by kernel_rfl
/-- What is done at a channel turns that block alone. -/
theorem bell_turn {w : World} {p c cap : Nat} {l l' : List Int} (h : IsBell w p c cap l) (hr : l'.length ≤ cap) (s r : Nat) : IsBell (w.setChan c cap (ints l').toArray false s r false) p c cap l' ∧ Keep (· = c) w (w.setChan c cap (ints l').toArray false s r false) :=
  have k : Keep (· = c) w (w.setChan c cap (ints l').toArray false s r false) := keep_chan (Keep.refl (· = c) w) c (fun _ => rfl) cap _ false s r false
  ⟨⟨h.obj.keep k (fun e => h.ch.ne_ h.obj e.symm), ⟨s, r, heap_setChan w c cap _ false s r false h.ch.lt⟩, hr, h.small⟩, k⟩
set_option maxRecDepth 100000 in
theorem take_none {w : World} {p c cap : Nat} (h : IsBell w p c cap []) :
    Calls Try.prog 9 #[.pointer (some ⟨p, 0, none⟩)] w fun e w' => e = .returned (.tuple #[.int .i64 0, .bool false]) ∧ w' = w := by
  obtain ⟨s, r, hc⟩ := h.ch
  have c0 : w.cell? ⟨p, 0, none⟩ = some (.chan (some c)) := h.obj.cell 0
  have hb := h.obj
  unfold Blk at hb
  refine calls_of_loneTo fun cs => ?_
  have e : Frame.enter Try.prog 9 #[.pointer (some ⟨p, 0, none⟩)] .normal = (base 9).at ⟨#[.pointer (some ⟨p, 0, none⟩), undef, undef, undef, undef, undef, undef, undef, undef, undef, undef, undef], []⟩ [.code (Try.f9.body.getD .skip)] := by
    simp [Frame.enter, Frame.at, Try.func9, base, Try.f9]
  rw [e]
  refine LoneTo.goes (n := 60) ?_
  simp only [Try.f9, Option.getD_some]
  repeat (first | s_c stepG_seq | s_c stepG_block | s_c stepG_region_end | s_reg | s_op | s_cond true | s_cond false | s_c stepG_ret' | s_c stepG_skip)
  s_call Try.func14 nm14 Try.f14
  repeat (first | s_c stepG_seq | s_c stepG_block | s_c stepG_region_end | s_reg | s_op | s_cond true | s_cond false | s_c stepG_ret' | s_c stepG_skip)
  s_leave1 Try.func14
  repeat (first | s_c stepG_seq | s_c stepG_block | s_c stepG_region_end | s_reg | s_op | s_cond true | s_cond false | s_c stepG_ret' | s_c stepG_skip)
  s_stop
  refine LoneTo.step (step_lone_select_default (c := c) (z := .int .i64 0) (cap := cap) (s := s) (r := r) (tm := false) (stepG_comm (cases := #[rcase c (.int .i64 0)]) (blocking := false) (shape := .select) (w' := w) rfl rfl (by decide) (by simp [go_sem, execOp, rcase, scase, rcaseNil, scaseNil, Act.eval])) hc) ?_
  rw [Frame.finish_at]
  walk_nrm
  refine LoneTo.goes (n := 60) ?_
  repeat (first | s_c stepG_seq | s_c stepG_block | s_c stepG_region_end | s_reg | s_op | s_cond true | s_cond false | s_c stepG_ret' | s_c stepG_skip)
  s_stop
  refine LoneTo.done ⟨.returned (.tuple #[.int .i64 0, .bool false]), _, rfl, ⟨rfl, rfl⟩, rfl, rfl, rfl, rfl, _, Try.func9, by simp [results, Try.f9, Frame.at]⟩
set_option maxRecDepth 100000 in
theorem take_nil (w : World) :
    Calls Try.prog 9 #[.pointer none] w fun e w' => e = .returned (.tuple #[.int .i64 0, .bool false]) ∧ w' = w := by
  refine calls_of_loneTo fun cs => ?_
  have e : Frame.enter Try.prog 9 #[.pointer none] .normal = (base 9).at ⟨#[.pointer none, undef, undef, undef, undef, undef, undef, undef, undef, undef, undef, undef], []⟩ [.code (Try.f9.body.getD .skip)] := by
    simp [Frame.enter, Frame.at, Try.func9, base, Try.f9]
  rw [e]
  refine LoneTo.goes (n := 60) ?_
  simp only [Try.f9, Option.getD_some]
  repeat (first | s_c stepG_seq | s_c stepG_block | s_c stepG_region_end | s_reg | s_op | s_cond true | s_cond false | s_c stepG_ret' | s_c stepG_skip)
  s_call Try.func14 nm14 Try.f14
  repeat (first | s_c stepG_seq | s_c stepG_block | s_c stepG_region_end | s_reg | s_op | s_cond true | s_cond false | s_c stepG_ret' | s_c stepG_skip)
  s_leave1 Try.func14
  repeat (first | s_c stepG_seq | s_c stepG_block | s_c stepG_region_end | s_reg | s_op | s_cond true | s_cond false | s_c stepG_ret' | s_c stepG_skip)
  s_stop
  refine LoneTo.step (step_lone_select_recv_nil (z := .int .i64 0) (stepG_comm (cases := #[rcaseNil (.int .i64 0)]) (blocking := false) (shape := .select) (w' := w) rfl rfl (by decide) (by simp [go_sem, execOp, rcase, scase, rcaseNil, scaseNil, Act.eval]))) ?_
  rw [Frame.finish_at]
  walk_nrm
  refine LoneTo.goes (n := 60) ?_
  repeat (first | s_c stepG_seq | s_c stepG_block | s_c stepG_region_end | s_reg | s_op | s_cond true | s_cond false | s_c stepG_ret' | s_c stepG_skip)
  s_stop
  refine LoneTo.done ⟨.returned (.tuple #[.int .i64 0, .bool false]), _, rfl, ⟨rfl, rfl⟩, rfl, rfl, rfl, rfl, _, Try.func9, by simp [results, Try.f9, Frame.at]⟩
set_option maxRecDepth 100000 in
theorem take_some {w : World} {p c cap : Nat} {x : Int} {l : List Int} (h : IsBell w p c cap (x :: l)) :
    Calls Try.prog 9 #[.pointer (some ⟨p, 0, none⟩)] w fun e w' => e = .returned (.tuple #[.int .i64 x, .bool true]) ∧ IsBell w' p c cap l ∧ Keep (· = c) w w' ∧ w'.heap.size = w.heap.size := by
  obtain ⟨s, r, hc⟩ := h.ch
  have c0 : w.cell? ⟨p, 0, none⟩ = some (.chan (some c)) := h.obj.cell 0
  have hb := h.obj
  unfold Blk at hb
  refine calls_of_loneTo fun cs => ?_
  have e : Frame.enter Try.prog 9 #[.pointer (some ⟨p, 0, none⟩)] .normal = (base 9).at ⟨#[.pointer (some ⟨p, 0, none⟩), undef, undef, undef, undef, undef, undef, undef, undef, undef, undef, undef], []⟩ [.code (Try.f9.body.getD .skip)] := by
    simp [Frame.enter, Frame.at, Try.func9, base, Try.f9]
  rw [e]
  refine LoneTo.goes (n := 60) ?_
  simp only [Try.f9, Option.getD_some]
  repeat (first | s_c stepG_seq | s_c stepG_block | s_c stepG_region_end | s_reg | s_op | s_cond true | s_cond false | s_c stepG_ret' | s_c stepG_skip)
  s_call Try.func14 nm14 Try.f14
  repeat (first | s_c stepG_seq | s_c stepG_block | s_c stepG_region_end | s_reg | s_op | s_cond true | s_cond false | s_c stepG_ret' | s_c stepG_skip)
  s_leave1 Try.func14
  repeat (first | s_c stepG_seq | s_c stepG_block | s_c stepG_region_end | s_reg | s_op | s_cond true | s_cond false | s_c stepG_ret' | s_c stepG_skip)
  s_stop
  refine LoneTo.step (step_lone_select_recv_buf (c := c) (z := .int .i64 0) (cap := cap) (buf := (ints (x :: l)).toArray) (closed := false) (s := s) (r := r) (tm := false) (stepG_comm (cases := #[rcase c (.int .i64 0)]) (blocking := false) (shape := .select) (w' := w) rfl rfl (by decide) (by simp [go_sem, execOp, rcase, scase, rcaseNil, scaseNil, Act.eval])) hc (by simp [ints])) ?_
  have e1 : (ints (x :: l)).toArray.getD 0 undef = .int .i64 x := by simp [ints]
  have e2 : (ints (x :: l)).toArray.extract 1 (ints (x :: l)).toArray.size = (ints l).toArray := by simp [ints, List.take_of_length_le]
  rw [e1, e2]
  rw [Frame.finish_at]
  walk_nrm
  refine LoneTo.goes (n := 60) ?_
  repeat (first | s_c stepG_seq | s_c stepG_block | s_c stepG_region_end | s_reg | s_op | s_cond true | s_cond false | s_c stepG_ret' | s_c stepG_skip)
  s_stop
  refine LoneTo.done ⟨.returned (.tuple #[.int .i64 x, .bool true]), _, rfl, ⟨rfl, (bell_turn h (by have := h.room; simp at this; omega) s (r + 1)).1, (bell_turn h (by have := h.room; simp at this; omega) s (r + 1)).2, size_setChan _ _ _ _ _ _ _ _⟩, rfl, rfl, rfl, rfl, _, Try.func9, by simp [results, Try.f9, Frame.at]⟩
set_option maxRecDepth 100000 in
theorem ring_room {w : World} {p c cap : Nat} {l : List Int} (h : IsBell w p c cap l) (x : Int) (hr : l.length < cap) :
    Calls Try.prog 8 #[.pointer (some ⟨p, 0, none⟩), .int .i64 x] w fun e w' => e = .returned (.bool true) ∧ IsBell w' p c cap (l ++ [x]) ∧ Keep (· = c) w w' ∧ w'.heap.size = w.heap.size := by
  obtain ⟨s, r, hc⟩ := h.ch
  have c0 : w.cell? ⟨p, 0, none⟩ = some (.chan (some c)) := h.obj.cell 0
  have hb := h.obj
  unfold Blk at hb
  refine calls_of_loneTo fun cs => ?_
  have e : Frame.enter Try.prog 8 #[.pointer (some ⟨p, 0, none⟩), .int .i64 x] .normal = (base 8).at ⟨#[.pointer (some ⟨p, 0, none⟩), .int .i64 x, undef, undef, undef, undef, undef, undef, undef, undef, undef], []⟩ [.code (Try.f8.body.getD .skip)] := by
    simp [Frame.enter, Frame.at, Try.func8, base, Try.f8]
  rw [e]
  refine LoneTo.goes (n := 60) ?_
  simp only [Try.f8, Option.getD_some]
  repeat (first | s_c stepG_seq | s_c stepG_block | s_c stepG_region_end | s_reg | s_op | s_cond true | s_cond false | s_c stepG_ret' | s_c stepG_skip)
  s_call Try.func14 nm14 Try.f14
  repeat (first | s_c stepG_seq | s_c stepG_block | s_c stepG_region_end | s_reg | s_op | s_cond true | s_cond false | s_c stepG_ret' | s_c stepG_skip)
  s_leave1 Try.func14
  repeat (first | s_c stepG_seq | s_c stepG_block | s_c stepG_region_end | s_reg | s_op | s_cond true | s_cond false | s_c stepG_ret' | s_c stepG_skip)
  s_stop
  refine LoneTo.step (step_lone_select_send_room (c := c) (v := .int .i64 x) (z' := .int .i64 0) (cap := cap) (buf := (ints l).toArray) (s := s) (r := r) (tm := false) (stepG_comm (cases := #[scase c (.int .i64 x) (.int .i64 0)]) (blocking := false) (shape := .select) (w' := w) rfl rfl (by decide) (by simp [go_sem, execOp, rcase, scase, rcaseNil, scaseNil, Act.eval])) hc (by simpa using hr)) ?_
  have e2 : (ints l).toArray.push (.int .i64 x) = (ints (l ++ [x])).toArray := by simp [ints]
  rw [e2]
  rw [Frame.finish_at]
  walk_nrm
  refine LoneTo.goes (n := 60) ?_
  repeat (first | s_c stepG_seq | s_c stepG_block | s_c stepG_region_end | s_reg | s_op | s_cond true | s_cond false | s_c stepG_ret' | s_c stepG_skip)
  s_stop
  refine LoneTo.done ⟨.returned (.bool true), _, rfl, ⟨rfl, (bell_turn h (by simp; omega) (s + 1) r).1, (bell_turn h (by simp; omega) (s + 1) r).2, size_setChan _ _ _ _ _ _ _ _⟩, rfl, rfl, rfl, rfl, _, Try.func8, by simp [results, Try.f8, Frame.at]⟩
set_option maxRecDepth 100000 in
theorem ring_full {w : World} {p c cap : Nat} {l : List Int} (h : IsBell w p c cap l) (x : Int) (hr : ¬ l.length < cap) :
    Calls Try.prog 8 #[.pointer (some ⟨p, 0, none⟩), .int .i64 x] w fun e w' => e = .returned (.bool false) ∧ w' = w := by
  obtain ⟨s, r, hc⟩ := h.ch
  have c0 : w.cell? ⟨p, 0, none⟩ = some (.chan (some c)) := h.obj.cell 0
  have hb := h.obj
  unfold Blk at hb
  refine calls_of_loneTo fun cs => ?_
  have e : Frame.enter Try.prog 8 #[.pointer (some ⟨p, 0, none⟩), .int .i64 x] .normal = (base 8).at ⟨#[.pointer (some ⟨p, 0, none⟩), .int .i64 x, undef, undef, undef, undef, undef, undef, undef, undef, undef], []⟩ [.code (Try.f8.body.getD .skip)] := by
    simp [Frame.enter, Frame.at, Try.func8, base, Try.f8]
  rw [e]
  refine LoneTo.goes (n := 60) ?_
  simp only [Try.f8, Option.getD_some]
  repeat (first | s_c stepG_seq | s_c stepG_block | s_c stepG_region_end | s_reg | s_op | s_cond true | s_cond false | s_c stepG_ret' | s_c stepG_skip)
  s_call Try.func14 nm14 Try.f14
  repeat (first | s_c stepG_seq | s_c stepG_block | s_c stepG_region_end | s_reg | s_op | s_cond true | s_cond false | s_c stepG_ret' | s_c stepG_skip)
  s_leave1 Try.func14
  repeat (first | s_c stepG_seq | s_c stepG_block | s_c stepG_region_end | s_reg | s_op | s_cond true | s_cond false | s_c stepG_ret' | s_c stepG_skip)
  s_stop
  refine LoneTo.step (step_lone_select_send_full (c := c) (v := .int .i64 x) (z' := .int .i64 0) (cap := cap) (buf := (ints l).toArray) (s := s) (r := r) (tm := false) (stepG_comm (cases := #[scase c (.int .i64 x) (.int .i64 0)]) (blocking := false) (shape := .select) (w' := w) rfl rfl (by decide) (by simp [go_sem, execOp, rcase, scase, rcaseNil, scaseNil, Act.eval])) hc (by simp; omega)) ?_
  rw [Frame.finish_at]
  walk_nrm
  refine LoneTo.goes (n := 60) ?_
  repeat (first | s_c stepG_seq | s_c stepG_block | s_c stepG_region_end | s_reg | s_op | s_cond true | s_cond false | s_c stepG_ret' | s_c stepG_skip)
  s_stop
  refine LoneTo.done ⟨.returned (.bool false), _, rfl, ⟨rfl, rfl⟩, rfl, rfl, rfl, rfl, _, Try.func8, by simp [results, Try.f8, Frame.at]⟩
theorem numbers_is {w : World} {p c cap : Nat} {l : List Int} (h : IsBell w p c cap l) :
    Calls Try.prog 14 #[.pointer (some ⟨p, 0, none⟩)] w fun e w' => e = .returned (.chan (some c)) ∧ w' = w := by
  have c0 : w.cell? ⟨p, 0, none⟩ = some (.chan (some c)) := h.obj.cell 0
  have f0 := h.obj.frozen 0
  go_enter Try.func14, Try.ntmps14
  go_wp2_with fail
  go_ret
  exact ⟨rfl, rfl⟩
theorem len_is {w : World} {p c cap : Nat} {l : List Int} (h : IsBell w p c cap l) :
    Calls Try.prog 13 #[.pointer (some ⟨p, 0, none⟩)] w fun e w' => e = .returned (.int .i64 l.length) ∧ w' = w := by
  obtain ⟨s, r, hc⟩ := h.ch
  have hlen := fun ty => run_len_chan (P := Try.prog) 43 ty Try.underlying43 hc
  rw [show (ints l).toArray.size = l.length from by simp] at hlen
  go_enter Try.func13, Try.ntmps13
  go_wp2_with fail
  refine (numbers_is h).mono ?_; rintro e w1 ⟨rfl, rfl⟩
  go_wp2_with fail
  go_ret
  exact ⟨rfl, rfl⟩
theorem chan_bytes : ∃ i, Try.prog.info? 3 = some i ∧ i.bytes = 8 := by
  have h : (Try.prog.info? 3).map (·.bytes) = some 8 := by kernel_rfl
  obtain ⟨i, hi, hb⟩ := Option.map_eq_some_iff.1 h
  exact ⟨i, hi, hb⟩
theorem mk_chan (w : World) (n : Int) (k : Nat) (hk : n = k) (h : k ≤ 64) : (Instr.makeChan 43 (.int .i64 n)).run Try.prog w = .ok (.chan (some w.heap.size)) (w.alloc (.chan k #[] false 0 0 false)) := by
  subst hk
  obtain ⟨i, hi, hb⟩ := chan_bytes
  exact run_makeChan (P := Try.prog) (w := w) Try.underlying43 hi .i64 k (by omega) (by rw [hb]; omega)
/-- A Bell that a call has made. -/
theorem new_is (w : World) (n : Int) (k : Nat) (hk : min (max n 1) 64 = k) :
    Calls Try.prog 6 #[.int .i64 n] w fun e w' => ∃ p, e = .returned (.pointer (some ⟨p, 0, none⟩)) ∧ IsBell w' p w.heap.size k [] ∧ p = w.heap.size + 1 ∧ Keep Nob w w' ∧ w'.heap.size = w.heap.size + 2 := by
  have fin : ∀ w', w' = (w.alloc (.chan k #[] false 0 0 false)).alloc (.cells #[.chan (some w.heap.size)] 45) → IsBell w' (w.heap.size + 1) w.heap.size k [] ∧ w.heap.size + 1 = w.heap.size + 1 ∧ Keep Nob w w' ∧ w'.heap.size = w.heap.size + 2 := by
    rintro w' rfl
    refine ⟨⟨?_, ⟨0, 0, ?_⟩, Nat.zero_le _, by omega⟩, rfl, ((Keep.refl Nob w).alloc _).alloc _, by simp⟩
    · have := Blk.new (w.alloc (.chan k #[] false 0 0 false)) 45 [.chan (some w.heap.size)]
      simpa using this
    · rw [Below.heap_alloc _ _ _ (by simp)]
      exact heap_alloc_new w _
  have hmc := fun (m : Int) (hm : m = k) => mk_chan w m k hm (by omega)
  by_cases h1 : n < 1
  · obtain rfl : k = 1 := by omega
    have hm := hmc 1 rfl
    clear hmc
    go_enter Try.func6, Try.ntmps6
    go_wp2_with fail
    go_ret
    exact ⟨_, rfl, (fin _ rfl).1, rfl, (fin _ rfl).2.2⟩
  · by_cases h2 : 64 < n
    · obtain rfl : k = 64 := by omega
      have hm := hmc 64 rfl
      clear hmc
      go_enter Try.func6, Try.ntmps6
      go_wp2_with fail
      go_ret
      exact ⟨_, rfl, (fin _ rfl).1, rfl, (fin _ rfl).2.2⟩
    · have hm := hmc n (by omega)
      clear hmc
      go_enter Try.func6, Try.ntmps6
      go_wp2_with fail
      go_ret
      exact ⟨_, rfl, (fin _ rfl).1, rfl, (fin _ rfl).2.2⟩
end Go.Proofs.Ytbieffenicojpaa
