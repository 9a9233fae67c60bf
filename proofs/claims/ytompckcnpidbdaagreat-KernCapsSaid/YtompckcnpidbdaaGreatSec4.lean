/- Contracts of package sect (layer 6): Enter, Queue, Holder; a section that a call has made, with its calls. -/
import Derived.Test.YtompckcnpidbdaaGreatSec3
import Derived.Lib.SliceRun
namespace Go.Proofs.YtompckcnpidbdaaGreat.Se
open Go.RowKit
set_option linter.unusedVariables false
set_option linter.unusedSimpArgs false
theorem results_tmp4 {fn : Func} {t u v x : Tmp} (h : fn.results = #[.tmp t, .tmp u, .tmp v, .tmp x]) (tmps : Array Value) (P : Program) (w : World) :
    (results fn tmps).run P w = .ok (.tuple #[tmps.getD t undef, tmps.getD u undef, tmps.getD v undef, tmps.getD x undef]) w := by
  simp [results, h]
section
variable {w : World} {p : Nat} {A : Option Addr} {cap : Nat} {s : Sec}
theorem Sec.Ok.ask2 {s : Sec} (O : s.Ok) {who : Int} (h0 : 0 ≤ who) (h9 : who ≤ 99) (hH : s.isH who = false) : (s.wait who).Ok := O.wait h0 h9 hH
set_option maxHeartbeats 2000000 in
theorem enter_in (h : IsSec w p A cap s) (O : s.Ok) (who now : Int) (h0 : 0 ≤ who) (h9 : who ≤ 99) (hn : now ≤ 9223372036854775807) (hst : s.stamps < 4611686018427387904) (v : Int) (b : Bool) (s' : Sec) (hv : s.enter who now = (v, b, s')) :
    Calls Tryz.prog 71 #[.pointer (some ⟨p, 0, none⟩), .int .i64 who, .int .i64 now] w fun e w' => e = .returned (.tuple #[.int .i64 v, .bool b]) ∧ SecTo w p A s' w' := by
  have c1 := h.c1
  have f1 := h.f 1
  obtain ⟨m, hm⟩ : ∃ m, max s.now now = m := ⟨_, rfl⟩
  have k0 : Keep (· = p) w (w.setCell ⟨p, 1, none⟩ (.int .i64 m)) := (Keep.refl (· = p) w).setCell ⟨p, 1, none⟩ _ (fun _ => rfl)
  have ht : s.tick now = { s with now := m } := by unfold Sec.tick; rw [hm]
  have H0 : IsSec (w.setCell ⟨p, 1, none⟩ (.int .i64 m)) p A cap (s.tick now) := by rw [ht]; exact h.turn k0 (h.obj.setCell 1 (.int .i64 m)) rfl
  have O0 := O.tick (now := now) hn
  have hst0 : (s.tick now).stamps < 4611686018427387904 := hst
  have hmax : (s.now < now ∧ m = now) ∨ (¬ s.now < now ∧ m = s.now) := by omega
  unfold Sec.enter at hv
  rw [if_neg (by omega)] at hv
  have HK := Lib.hid (And.intro k0 (And.intro H0 O0))
  clear k0 H0 O0 ht h
  generalize s.tick now = s0 at *
  have HV := Lib.hid hv
  clear hv
  rcases hmax with ⟨hx, rfl⟩ | ⟨hx, rfl⟩
  all_goals
    go_enter Tryz.func71, Tryz.ntmps71
    go_wp2_with fail
    obtain ⟨k0, H0, O0⟩ := HK.out
    have up : ∀ {w9 : World}, SecTo _ p A s' w9 → SecTo w p A s' w9 := fun t => SecTo.trans H0 (k0.mono (fun x _ e => .inl e)) (fun _ hk => .inl hk) t
    have c4 := H0.c4
    have hv := HV.out
    unfold Sec.enterIn at hv
    cases hh : s0.isH who with
    | true =>
      rw [if_pos hh] at hv
      cases hv
      refine (isHolder_is H0 who true hh).mono ?_; rintro e w1 ⟨rfl, rfl⟩
      clear c1 f1
      go_wp2_with fail
      go_ret2
      exact ⟨rfl, up (SecTo.same H0)⟩
    | false =>
      rw [if_neg (by rw [hh]; simp)] at hv
      refine (isHolder_is H0 who false hh).mono ?_; rintro e w1 ⟨rfl, rfl⟩
      clear c1 f1 c4
      go_wp2_with fail
      refine (wait_is H0 (isSec_small H0 O0) who).mono ?_; rintro e w2 ⟨rfl, A1, cap1, H1, k1, o1⟩
      have O1 := O0.wait h0 h9 hh
      go_wp2_with fail
      refine (passBy_is H1 O1 who (Sec.wait_mem s0 who)).mono ?_; rintro e w3 ⟨rfl, H2, k2⟩
      have H2 : IsSec w3 p A1 cap1 (s0.ask who) := H2
      have O2 := O0.ask h0 h9 hh
      have hne := Sec.ask_ne s0 who
      have hss := Lib.hid (Sec.ask_stamps s0 who)
      have up2 : ∀ {w9 : World}, (∃ A9 c9, IsSec w9 p A9 c9 s' ∧ Keep (SecB p A1) w3 w9 ∧ A9 = A1) → SecTo w p A s' w9 := fun ⟨A9, c9, h9, k9, e9⟩ => up (SecTo.trans H1 k1 o1 ⟨A9, c9, h9, k2.trans k9 (fun _ _ x => x), fun _ hk => .inl (e9 ▸ hk)⟩)
      clear up O1 H0 H1
      generalize s0.ask who = s2 at *
      obtain ⟨g, rfl, hgp, cg, hcap⟩ := H2.own hne
      have c6 := H2.c6
      have c7 := H2.c7
      have c1 := H2.c1
      have f7 := H2.f 7
      have hpos : 0 < s2.q.length := List.length_pos_iff.2 hne
      have HH := Lib.hid (And.intro H2 (And.intro O2 hne))
      clear H2 O2 hne k1 k2 o1
      by_cases hd : s2.q.headD 0 = who
      · rw [if_neg (by simpa using hd)] at hv
        rw [hd] at cg
        generalize s2.q.length = n at *
        cases hl : s2.held with
        | true =>
          rw [if_pos hl] at hv
          cases hv
          go_wp2_with fail
          refine (isHeld_is HH.out.1 true hl).mono ?_; rintro e w4 ⟨rfl, rfl⟩
          go_wp2_with fail
          go_ret2
          have k7 : Keep (· = p) w3 (w3.setCell ⟨p, 7, none⟩ (.int .i64 s2.now)) := (Keep.refl (· = p) w3).setCell ⟨p, 7, none⟩ _ (fun _ => rfl)
          exact ⟨rfl, up2 ⟨_, _, HH.out.1.turn k7 (HH.out.1.obj.setCell 7 (.int .i64 s2.now)) rfl, k7.mono (fun x _ e => .inl e), rfl⟩⟩
        | false =>
          rw [if_neg (by rw [hl]; simp)] at hv
          cases hv
          go_wp2_with fail
          refine (isHeld_is HH.out.1 false hl).mono ?_; rintro e w4 ⟨rfl, rfl⟩
          go_wp2_with fail
          refine (letIn_is HH.out.1 HH.out.2.2 (by rw [hss.out]; exact hst0) HH.out.2.1.p0 _ rfl).mono ?_; rintro e w5 ⟨rfl, H5, k5⟩
          go_wp2_with fail
          go_ret2
          exact ⟨rfl, up2 ⟨_, _, H5, k5, rfl⟩⟩
      · rw [if_pos (by simpa using hd)] at hv
        generalize s2.q.length = n at *
        generalize s2.q.headD 0 = hd at *
        cases hv
        go_wp2_with fail
        go_ret2
        exact ⟨rfl, up2 ⟨_, _, HH.out.1, Keep.refl _ _, rfl⟩⟩
theorem enter_is (h : IsSec w p A cap s) (O : s.Ok) (who now : Int) (hn : now ≤ 9223372036854775807) (hst : s.stamps < 4611686018427387904) (v : Int) (b : Bool) (s' : Sec) (hv : s.enter who now = (v, b, s')) :
    Calls Tryz.prog 71 #[.pointer (some ⟨p, 0, none⟩), .int .i64 who, .int .i64 now] w fun e w' => e = .returned (.tuple #[.int .i64 v, .bool b]) ∧ SecTo w p A s' w' := by
  by_cases hw : who < 0 ∨ 99 < who
  · unfold Sec.enter at hv
    rw [if_pos hw] at hv
    cases hv
    rcases hw with hw | hw
    · go_enter Tryz.func71, Tryz.ntmps71
      go_wp2_with fail
      go_ret2
      exact ⟨rfl, SecTo.same h⟩
    · go_enter Tryz.func71, Tryz.ntmps71
      go_wp2_with fail
      go_ret2
      exact ⟨rfl, SecTo.same h⟩
  · exact enter_in h O who now (by omega) (by omega) hn hst v b s' hv
theorem clone_is {xs : List Int} {n c : Nat} {B : Option Addr} (hr : Reads w B n (ints xs)) (hn : n ≤ 1000000) :
    Calls Tryz.prog 23 #[.slice B n c] w fun e w' => ∃ A' c', e = .returned (.slice A' n c') ∧ Vec w' 3 1 A' n c' (ints xs) ∧ (∀ k, Own A' k → w.heap.size ≤ k) ∧ Keep Nob w w' := by
  have hl : xs.length = n := by have := hr.1; rwa [ints_len] at this
  have hnil := fun (w : World) (a : Option Addr) (n c n' c' : Nat) => Lib.run_eql_slice_nil (P := Tryz.prog) w 27 3 a n c n' c' Tryz.underlying27
  by_cases hB : B = none
  · subst hB
    have h0 : n = 0 := by
      rcases Nat.eq_zero_or_pos n with h | h
      · exact h
      · obtain ⟨ad, e, _⟩ := hr.2 h
        cases e
    subst h0
    obtain rfl : xs = [] := List.eq_nil_of_length_eq_zero hl
    go_enter Tryz.func23, Tryz.ntmps23
    go_wp2
    go_ret
    exact ⟨none, 0, rfl, Vec.nil _ _ _, (fun k ⟨a, ha, _⟩ => by cases ha), Keep.refl _ _⟩
  · obtain ⟨ad, rfl⟩ := Option.ne_none_iff_exists'.1 hB
    have hv1 : Vec (w.alloc (.cells #[] 3)) 3 1 (some ⟨w.heap.size, 0, none⟩) 0 0 [] := Vec.of_blk (Blk.new w 3 []) rfl (by decide)
    have hr1 := hr.nob ((Keep.refl Nob w).alloc (.cells #[] 3))
    go_enter Tryz.func23, Tryz.ntmps23
    go_wp2_with (at_builtin; go_loud (refine wpList_ap rfl _ _ 27 rfl 3 1 8 (.int .i64 0) Tryz.underlying27 infointS rfl (by decide) (some ⟨w.heap.size, 0, none⟩) 0 0 [] rfl hv1 (some ad) n c (ints xs) rfl _ (Nat.mul_one _) hr1 (ints_one xs) (by unfold maxLen; omega) (by omega) ?_; intro A2 c2 w2 hv2 hk2 ho2))
    go_wp2
    go_ret
    refine ⟨A2, c2, by simp, by simpa using hv2, fun k hk => ?_, ?_⟩
    · rcases ho2 k hk with ⟨a, ha, hb⟩ | m
      · cases ha; exact Nat.le_of_eq hb
      · rw [m]; simp
    · exact (((Keep.refl Nob w).alloc _).trans hk2 (fun x hx ⟨a, ha, hb⟩ => by cases ha; dsimp only at hb; omega))
theorem holder_is (h : IsSec w p A cap s) : Calls Tryz.prog 12 #[.pointer (some ⟨p, 0, none⟩)] w fun e w' => e = .returned (.tuple #[.int .i64 s.who, .int .i64 s.stamp, .int .i64 s.since, .bool s.held]) ∧ ∃ m, w' = w.drewN m := by
  have c3 := h.c3
  have c4 := h.c4
  have c5 := h.c5
  have hq : ∀ m, Calls Tryz.prog 41 #[.pointer (some ⟨p, 0, none⟩)] (w.drewN m) fun e w'' => e = .returned (.bool s.held) ∧ ∃ k, w'' = w.drewN k := fun m => (isHeld_is (h.nob ((Keep.refl Nob w).drewN m)) _ rfl).mono fun e w'' ⟨he, hw⟩ => ⟨he, m, hw.symm⟩
  go_enter Tryz.func12, Tryz.ntmps12
  go_wp2_with fail
  go_quiet (first | (go_at_call 41; exact hq _))
  go_wp2
  (try simp only [Exit.inBlock, Exit.then])
  refine bodyPost_ret (results_tmp4 rfl _ _ _) rfl ?_
  exact ⟨rfl, _, rfl⟩
/-- A section that a call has made, with its calls. -/
structure S0 (w0 w : World) (p : Nat) (A : Option Addr) (cap : Nat) (s : Sec) : Prop where
  is : IsSec w p A cap s
  ok : s.Ok
  lo : w0.heap.size ≤ p
  own : ∀ k, Own A k → w0.heap.size ≤ k
  keep : Keep (From w0.heap.size) w0 w
section
variable {w0 w' : World}
theorem S0.nob (h : S0 w0 w p A cap s) (k : Keep Nob w w') : S0 w0 w' p A cap s := ⟨h.is.nob k, h.ok, h.lo, h.own, h.keep.nob k⟩
theorem S0.blocks (h : S0 w0 w p A cap s) (k : Keep (SecB p A) w w') : Keep (From w0.heap.size) w0 w' := h.keep.from_ k (fun x m => by
  rcases m with rfl | m
  · exact h.lo
  · exact h.own x m)
theorem S0.new (hk : Keep (From w0.heap.size) w0 w) (lease : Int) : Calls Tryz.prog 28 #[.int .i64 lease] w fun e w' => ∃ p, e = .returned (.pointer (some ⟨p, 0, none⟩)) ∧ S0 w0 w' p none 0 (Sec.new lease) ∧ Keep Nob w w' :=
  (new_sec lease).mono fun e w' ⟨p, he, hi, hp, hn⟩ => ⟨p, he, ⟨hi, Sec.Ok.new lease, by have := hk.size; omega, (fun k ⟨a, ha, _⟩ => by cases ha), hk.nob hn⟩, hn⟩
theorem S0.enter (h : S0 w0 w p A cap s) (who now : Int) (hn : now ≤ 9223372036854775807) (hst : s.stamps < 4611686018427387904) (v : Int) (b : Bool) (s' : Sec) (hv : s.enter who now = (v, b, s')) :
    Calls Tryz.prog 71 #[.pointer (some ⟨p, 0, none⟩), .int .i64 who, .int .i64 now] w fun e w' => e = .returned (.tuple #[.int .i64 v, .bool b]) ∧ ∃ A' cap', S0 w0 w' p A' cap' s' ∧ Keep (SecB p A) w w' :=
  (enter_is h.is h.ok who now hn hst v b s' hv).mono fun e w' ⟨he, A', cap', hi, hk, ho⟩ => ⟨he, A', cap', ⟨hi, by have := h.ok.enter (who := who) hn; rw [hv] at this; exact this, h.lo, fun k hk' => by
    rcases ho k hk' with m | m
    · exact h.own k m
    · have := h.keep.size; omega, h.blocks hk⟩, hk⟩
/-- What is of another type stays. -/
theorem S0.offT {g : Nat} {t : TypeId} {cs : List Value} (h : S0 w0 w p A cap s) (hb : Blk w g t cs) (h1 : t ≠ 104) (h2 : t ≠ 3) (k : Keep (SecB p A) w w') : Blk w' g t cs :=
  hb.keep k (fun m => by
    rcases m with m | m
    · subst m
      exact hb.ne_ h.is.obj h1 rfl
    · obtain ⟨cur, hc⟩ := h.is.row.blk m
      exact hb.ne_ hc h2 rfl)
/-- What is written elsewhere leaves the section. -/
theorem S0.farT {g : Nat} {t : TypeId} {cs : List Value} (h : S0 w0 w p A cap s) (hb : Blk w g t cs) (h1 : t ≠ 104) (h2 : t ≠ 3) (hg : w0.heap.size ≤ g) (k : Keep (· = g) w w') : S0 w0 w' p A cap s :=
  ⟨h.is.keep k (fun e => hb.ne_ h.is.obj h1 e.symm) (fun x hx e => by obtain ⟨cur, hc⟩ := h.is.row.blk hx; exact hb.ne_ hc h2 e.symm), h.ok, h.lo, h.own, h.keep.at_ k hg⟩
theorem S0.leave (h : S0 w0 w p A cap s) (who n : Int) (v : Bool) (s' : Sec) (hv : s.leave who n = (v, s')) :
    Calls Tryz.prog 72 #[.pointer (some ⟨p, 0, none⟩), .int .i64 who, .int .i64 n] w fun e w' => e = .returned (.bool v) ∧ S0 w0 w' p A cap s' ∧ Keep (SecB p A) w w' :=
  (leave_is h.is who n v s' hv).mono fun e w' ⟨he, hi, hk⟩ => ⟨he, ⟨hi, by have := h.ok.leave who n; rw [hv] at this; exact this, h.lo, h.own, h.blocks hk⟩, hk⟩
end
end
end Go.Proofs.YtompckcnpidbdaaGreat.Se
