/- Contracts of package sect (layer 6): letIn, Enter, Leave, Quit, Queue, Holder, New. -/
import Derived.Test.YtompckcnpidbdaaGreatSec2
namespace Go.Proofs.YtompckcnpidbdaaGreat.Se
open Go.RowKit
set_option linter.unusedVariables false
set_option linter.unusedSimpArgs false
section
variable {w : World} {p : Nat} {A : Option Addr} {cap : Nat} {s : Sec}
set_option maxHeartbeats 2000000 in
theorem letIn_is (h : IsSec w p A cap s) (hne : s.q ≠ []) (hst : s.stamps < 4611686018427387904) (hst0 : 0 ≤ s.stamps) (v : Int) (hv : s.stamps + 1 = v) : Calls Tryz.prog 90 #[.pointer (some ⟨p, 0, none⟩)] w fun e w' => e = .returned (.int .i64 v) ∧ IsSec w' p A cap s.letIn ∧ Keep (SecB p A) w w' := by
  obtain ⟨g, hA, hgp, cg, hcap⟩ := h.own hne
  have hq0 : 0 < s.q.length := List.length_pos_iff.2 hne
  have k1 : Keep (· = p) w (w.setCell ⟨p, 2, none⟩ (.int .i64 v)) := (Keep.refl (· = p) w).setCell ⟨p, 2, none⟩ _ (fun _ => rfl)
  have b1 := h.obj.setCell 2 (.int .i64 v)
  have c2 := h.c2
  have f2 := h.f 2
  have e3 := h.c3
  have e4 := h.c4
  have e5 := h.c5
  have q3 := h.f 3
  have q4 := h.f 4
  have q5 := h.f 5
  have H1 : IsSec (w.setCell ⟨p, 2, none⟩ (.int .i64 v)) p A cap { s with stamps := v } := h.turn k1 b1 rfl
  have H2 := H1.nob ((Keep.refl Nob _).drew)
  have cg1 : (w.setCell ⟨p, 2, none⟩ (.int .i64 v)).drew.cell? ⟨g, 0, none⟩ = some (.int .i64 (s.q.headD 0)) := by
    obtain ⟨g', hA', _, cg', _⟩ := H2.own hne
    rw [hA] at hA'
    cases hA'
    exact cg'
  have d1 := H2.c1
  have d2 := H2.c2
  have d3 := H2.c3
  have d4 := H2.c4
  have d5 := H2.c5
  have d6 := H2.c6
  have f3 := H2.f 3
  have f4 := H2.f 4
  have f5 := H2.f 5
  dsimp only at d1 d2 d3 d4 d5 d6
  have HH := Lib.hid (And.intro h (And.intro H2 k1))
  have hob := H2.obj
  clear H1 H2 b1 h k1
  subst hA
  obtain ⟨hd, hhd⟩ : ∃ hd, s.q.headD 0 = hd := ⟨_, rfl⟩
  rw [hhd] at cg cg1
  obtain ⟨n, hn⟩ : ∃ n, s.q.length = n := ⟨_, rfl⟩
  rw [hn] at d6 hq0 hcap
  obtain ⟨st, hst1⟩ : ∃ st, s.stamps = st := ⟨_, rfl⟩
  rw [hst1] at c2 hst hst0 hv
  have HV := Lib.hid hv
  have HS := Lib.hid hst1
  have HD := Lib.hid hhd
  have HN := Lib.hid hn
  clear hst1 hhd hn hne
  subst hv
  have h := HH.out.1
  have k5 : Keep (· = p) w (((((w.setCell ⟨p, 2, none⟩ (.int .i64 (st + 1))).setCell ⟨p, 3, none⟩ (.int .i64 hd)).setCell ⟨p, 4, none⟩ (.int .i64 (st + 1))).setCell ⟨p, 5, none⟩ (.int .i64 s.now))).drew :=
    (((((Keep.refl (· = p) w).setCell ⟨p, 2, none⟩ _ (fun _ => rfl)).setCell ⟨p, 3, none⟩ _ (fun _ => rfl)).setCell ⟨p, 4, none⟩ _ (fun _ => rfl)).setCell ⟨p, 5, none⟩ _ (fun _ => rfl)).drew
  have H5 : IsSec (((((w.setCell ⟨p, 2, none⟩ (.int .i64 (st + 1))).setCell ⟨p, 3, none⟩ (.int .i64 hd)).setCell ⟨p, 4, none⟩ (.int .i64 (st + 1))).setCell ⟨p, 5, none⟩ (.int .i64 s.now))).drew p (some ⟨g, 0, none⟩) cap { s with stamps := st + 1, who := hd, stamp := st + 1, since := s.now } :=
    h.turn k5 (((((h.obj.setCell 2 (.int .i64 (st + 1))).setCell 3 (.int .i64 hd)).setCell 4 (.int .i64 (st + 1))).setCell 5 (.int .i64 s.now)).drew) rfl
  have hre := remove_is H5 0 (by dsimp only; rw [HN.out]; exact hq0)
  have he : ({ s with stamps := st + 1, who := hd, stamp := st + 1, since := s.now } : Sec).rem 0 = s.letIn := by
    unfold Sec.letIn Sec.rem
    rw [HD.out, HS.out]
    rfl
  rw [he] at hre
  have HR := Lib.hid (And.intro hre k5)
  have hsl : s.letIn.stamps = st + 1 := by show s.stamps + 1 = _; rw [HS.out]
  clear hre k5 H5 he h hob
  go_enter Tryz.func90, Tryz.ntmps90
  go_wp2_with fail
  go_region
  all_goals
    go_wp2_with fail
    refine HR.out.1.mono ?_; rintro e w6 ⟨rfl, H6, k6⟩
    have z2 := H6.c2
    rw [hsl] at z2
    go_wp2_with fail
    go_ret
    exact ⟨rfl, H6, (HR.out.2.mono (fun x _ e => .inl e) : Keep (SecB p (some ⟨g, 0, none⟩)) w _).trans k6 (fun x _ m => m)⟩
theorem leave_is (h : IsSec w p A cap s) (who n : Int) (v : Bool) (s' : Sec) (hv : s.leave who n = (v, s')) : Calls Tryz.prog 72 #[.pointer (some ⟨p, 0, none⟩), .int .i64 who, .int .i64 n] w fun e w' => e = .returned (.bool v) ∧ IsSec w' p A cap s' ∧ Keep (SecB p A) w w' := by
  unfold Sec.leave at hv
  cases hh : s.holds who n with
  | true =>
    rw [hh] at hv
    cases hv
    go_enter Tryz.func72, Tryz.ntmps72
    go_wp2_with fail
    refine (holds_is h who n true hh).mono ?_; rintro e w1 ⟨rfl, rfl⟩
    go_wp2_with fail
    refine (release_is h).mono ?_; rintro e w1 ⟨rfl, h1, k1⟩
    go_wp2_with fail
    go_ret
    exact ⟨rfl, h1, k1.mono (fun x _ e => .inl e)⟩
  | false =>
    rw [hh] at hv
    cases hv
    go_enter Tryz.func72, Tryz.ntmps72
    go_wp2_with fail
    refine (holds_is h who n false hh).mono ?_; rintro e w1 ⟨rfl, rfl⟩
    go_wp2_with fail
    go_ret
    exact ⟨rfl, h, Keep.refl _ _⟩
theorem isSec_small (h : IsSec w p A cap s) (O : s.Ok) : s.q.length ≤ 1000000 := by have := O.len; omega
theorem new_sec (lease : Int) : Calls Tryz.prog 28 #[.int .i64 lease] w fun e w' => ∃ p, e = .returned (.pointer (some ⟨p, 0, none⟩)) ∧ IsSec w' p none 0 (Sec.new lease) ∧ w.heap.size ≤ p ∧ Keep Nob w w' := by
  have fin : ∀ l, min (max lease 1) 1000 = l → IsSec (w.alloc (.cells #[.int .i64 l, .int .i64 (-9223372036854775808), .int .i64 0, .int .i64 0, .int .i64 0, .int .i64 0, .slice none 0 0, .int .i64 0] 104)) w.heap.size none 0 (Sec.new lease) := fun l hl => by
    unfold Sec.new
    rw [hl]
    exact ⟨Blk.new w 104 _, Vec.nil _ _ _⟩
  by_cases h1 : lease < 1
  · go_enter Tryz.func28, Tryz.ntmps28
    go_wp2
    go_ret
    exact ⟨_, rfl, fin 1 (by omega), Nat.le_refl _, (Keep.refl Nob w).alloc _⟩
  · by_cases h2 : 1000 < lease
    · go_enter Tryz.func28, Tryz.ntmps28
      go_wp2
      go_ret
      exact ⟨_, rfl, fin 1000 (by omega), Nat.le_refl _, (Keep.refl Nob w).alloc _⟩
    · go_enter Tryz.func28, Tryz.ntmps28
      go_wp2
      go_ret
      exact ⟨_, rfl, fin lease (by omega), Nat.le_refl _, (Keep.refl Nob w).alloc _⟩
end
end Go.Proofs.YtompckcnpidbdaaGreat.Se
