/- The walk of SectComes. -/
import Derived.Test.YtflibnoidhljpaaLaw6d
namespace Go.Proofs.Ytflibnoidhljpaa
open Go.RowKit
set_option linter.unusedVariables false
set_option linter.unusedSimpArgs false
namespace Sec
variable {s : Sec} {who now : Int}
theorem wait_same (s : Sec) (who : Int) : (s.wait who).lease = s.lease ∧ (s.wait who).now = s.now := by unfold wait; split <;> exact ⟨rfl, rfl⟩
theorem pass1_same (s : Sec) : s.pass1.lease = s.lease ∧ s.pass1.now = s.now := by unfold pass1; split <;> exact ⟨rfl, rfl⟩
theorem pass2_same (s : Sec) (who : Int) : (s.pass2 who).lease = s.lease ∧ (s.pass2 who).now = s.now := by unfold pass2; split <;> exact ⟨rfl, rfl⟩
theorem ask_same (s : Sec) (who : Int) : (s.ask who).lease = s.lease ∧ (s.ask who).now = s.now := by
  unfold ask
  rw [(pass2_same _ _).1, (pass2_same _ _).2, (pass1_same _).1, (pass1_same _).2, (wait_same _ _).1, (wait_same _ _).2]
  exact ⟨rfl, rfl⟩
theorem wait_q (s : Sec) (who y : Int) (h : y ∈ (s.wait who).q) : y ∈ s.q ∨ y = who := by
  unfold wait at h
  split at h
  · exact .inl h
  · simpa using h
theorem pass2_q (s : Sec) (who y : Int) (h : y ∈ (s.pass2 who).q) : y ∈ s.q := by
  unfold pass2 at h
  split at h
  · exact mem_eraseIdx h
  · exact h
theorem ask_q (s : Sec) (who y : Int) (h : y ∈ (s.ask who).q) : y ∈ s.q ∨ y = who := by
  have := pass2_q _ _ _ h
  rw [pass1_q] at this
  exact wait_q s who y this
theorem enterIn_same (s : Sec) (who : Int) : (s.enterIn who).2.2.lease = s.lease ∧ (s.enterIn who).2.2.now = s.now ∧ ∀ y ∈ (s.enterIn who).2.2.q, y ∈ s.q ∨ y = who := by
  have h := ask_same s who
  have hq := ask_q s who
  unfold enterIn
  split
  · exact ⟨rfl, rfl, fun y hy => .inl hy⟩
  · split
    · exact ⟨h.1, h.2, hq⟩
    · split
      · exact ⟨h.1, h.2, hq⟩
      · exact ⟨h.1, h.2, fun y hy => hq y (mem_eraseIdx hy)⟩
theorem quit_same (s : Sec) (who : Int) : (s.quit who).lease = s.lease ∧ (s.quit who).now = s.now ∧ (s.quit who).stamps = s.stamps ∧ ∀ y ∈ (s.quit who).q, y ∈ s.q := by
  have h : (s.out who).lease = s.lease ∧ (s.out who).now = s.now ∧ (s.out who).stamps = s.stamps ∧ ∀ y ∈ (s.out who).q, y ∈ s.q := by
    unfold out
    split
    · exact ⟨rfl, rfl, rfl, fun y hy => mem_eraseIdx hy⟩
    · exact ⟨rfl, rfl, rfl, fun y hy => hy⟩
  unfold quit
  split
  · exact h
  · exact h
/-- How many Enters who may have to wait. -/
def mu (s : Sec) (who : Int) : Nat := (if 0 < s.stamp then 1 else 0) + (if who ∈ s.q then s.q.idxOf who else s.q.length)
theorem idx_snoc {who : Int} : ∀ {l : List Int}, who ∉ l → (l ++ [who]).idxOf who = l.length
  | [], _ => by simp
  | y :: l, h => by
    have hy : (y == who) = false := by simp; exact fun e => h (by rw [e]; simp)
    rw [List.cons_append, List.idxOf_cons, hy, idx_snoc (fun hm => h (by simp [hm]))]
    rfl
theorem wait_mu (s : Sec) (who : Int) : (s.wait who).q.idxOf who = (if who ∈ s.q then s.q.idxOf who else s.q.length) := by
  unfold wait
  by_cases h : who ∈ s.q
  · rw [if_pos h, if_pos h]
  · rw [if_neg h, if_neg h]
    exact idx_snoc h
theorem wait_rest (s : Sec) (who : Int) : (s.wait who).stamp = s.stamp ∧ (s.wait who).since = s.since ∧ (s.wait who).stamps = s.stamps := by unfold wait; split <;> exact ⟨rfl, rfl, rfl⟩
theorem letIn_holds {s : Sec} {who : Int} (h0 : 0 ≤ s.stamps) (hd : s.q.headD 0 = who) : s.letIn.holds who (s.stamps + 1) = true := by
  have : 0 < s.stamps + 1 := by omega
  simp only [holds, isH, letIn, hd, this, decide_true, Bool.and_self]
/-- From here on nobody holds, and the queue is l. -/
theorem come_end {t a : Sec} (h0 : 0 ≤ a.stamps) (ha : t.ask who = a) (hs : a.stamp = 0) (hm : who ∈ a.q) (hH : ¬ t.isH who = true) {m : Nat} (hmu : a.q.idxOf who + 1 ≤ m ∨ a.q.headD 0 = who) {v : Int} {b : Bool} {s' : Sec} (h : t.enterIn who = (v, b, s')) :
    (b = true ∧ s'.holds who v = true) ∨ (b = false ∧ s'.mu who + 1 ≤ m) := by
  unfold enterIn at h
  rw [if_neg hH, ha] at h
  by_cases hd : a.q.headD 0 = who
  · rw [if_neg (by simpa using hd), if_neg (by simp [held, hs])] at h
    cases h
    exact .inl ⟨rfl, letIn_holds h0 hd⟩
  · rw [if_pos hd] at h
    cases h
    refine .inr ⟨rfl, ?_⟩
    unfold mu
    rw [if_pos hm, if_neg (by omega)]
    rcases hmu with e | e
    · omega
    · exact absurd e hd
theorem comesIn {t : Sec} (O : t.Ok) (hs : 0 < t.stamp → t.lease ≤ t.now - t.since) (hf : t.q ≠ [] → t.lease ≤ t.now - t.first) {v : Int} {b : Bool} {s' : Sec} (h : t.enterIn who = (v, b, s')) :
    (b = true ∧ s'.holds who v = true) ∨ (b = false ∧ s'.mu who + 1 ≤ t.mu who) := by
  have hl := O.l1
  by_cases hH : t.isH who = true
  · unfold enterIn at h
    rw [if_pos hH] at h
    cases h
    exact .inl ⟨rfl, by unfold holds; rw [hH]; simp⟩
  · have hmem := ask_mem t who
    have hst := ask_stamps t who
    have hp := O.p0
    obtain ⟨e1, e2, e3⟩ := wait_rest t who
    obtain ⟨e4, e5⟩ := wait_same t who
    by_cases h1 : 0 < t.stamp
    · have hp1 : (t.wait who).pass1 = (t.wait who).rel := by
        unfold pass1
        rw [if_pos]
        have := hs h1
        simp only [held, over, e1, e2, e4, e5, Bool.and_eq_true, decide_eq_true_eq]
        exact ⟨h1, this⟩
      have hp2 : t.ask who = (t.wait who).rel := by
        unfold ask
        rw [hp1]
        unfold pass2
        rw [if_neg]
        have : (t.wait who).rel.over (t.wait who).rel.first = false := by
          unfold over
          refine decide_eq_false ?_
          show ¬ (t.wait who).lease ≤ (t.wait who).now - (t.wait who).now
          omega
        rw [this]
        simp
      refine come_end (by rw [hst]; exact hp) rfl (by rw [hp2]; rfl) hmem hH (.inl ?_) h
      rw [hp2]
      show (t.wait who).q.idxOf who + 1 ≤ _
      rw [wait_mu]
      unfold mu
      rw [if_pos h1]
      omega
    · have h2 : t.stamp = 0 := by have := O.s0; omega
      have hp1 : (t.wait who).pass1 = t.wait who := by
        unfold pass1
        rw [if_neg]
        simp [held, e1, h2]
      have hz : (t.ask who).stamp = 0 := by
        unfold ask
        rw [hp1]
        unfold pass2
        split
        · show (t.wait who).stamp = 0; rw [e1]; exact h2
        · rw [e1]; exact h2
      refine come_end (by rw [hst]; exact hp) rfl hz hmem hH ?_ h
      by_cases hd : (t.wait who).q.headD 0 = who
      · refine .inr ?_
        unfold ask
        rw [hp1]
        unfold pass2
        rw [if_neg (by simp; intro _ h3; exact absurd (by simpa using hd) h3)]
        exact hd
      · have hne : t.q ≠ [] := fun e => hd (by unfold wait; rw [e]; simp)
        have hw : who ∈ (t.wait who).q := wait_mem t who
        have hov : (t.wait who).over (t.wait who).first = true := by
          have h3 := hf hne
          have e6 : (t.wait who).first = t.first := by
            unfold wait
            split
            · rfl
            · exact if_neg (fun e => hne (List.eq_nil_of_length_eq_zero e))
          unfold over
          rw [e4, e5, e6]
          exact decide_eq_true h3
        have hp2 : t.ask who = (t.wait who).rem 0 := by
          unfold ask
          rw [hp1]
          unfold pass2
          rw [if_pos]
          rw [hov, show (t.wait who).held = false from by simp [held, e1, h2]]
          simpa using hd
        refine .inl ?_
        rw [hp2]
        show ((t.wait who).q.eraseIdx 0).idxOf who + 1 ≤ _
        have hx : (t.wait who).q.idxOf who = t.mu who := by
          rw [wait_mu]
          unfold mu
          rw [if_neg h1]
          omega
        rw [← hx]
        obtain ⟨y, l, hyl⟩ := List.exists_cons_of_ne_nil (show (t.wait who).q ≠ [] from fun e => by rw [e] at hw; simp at hw)
        rw [hyl] at hd ⊢
        have hy : (y == who) = false := by simpa using hd
        rw [List.idxOf_cons, hy]
        simp
theorem comes (O : s.Ok) (h0 : 0 ≤ who) (h9 : who ≤ 99) (hn : s.now + s.lease ≤ now) (hn2 : now ≤ 9223372036854775807) {v : Int} {b : Bool} {s' : Sec} (h : s.enter who now = (v, b, s')) : (b = true ∧ s'.holds who v = true) ∨ (b = false ∧ s'.mu who + 1 ≤ s.mu who) := by
  have hl := O.l1
  have hm : max s.now now = now := by omega
  unfold enter at h
  rw [if_neg (by omega)] at h
  refine comesIn (O.tick hn2) (fun hs => ?_) (fun hq => ?_) h
  · have := O.h2 hs
    show s.lease ≤ max s.now now - s.since
    omega
  · have := O.w2 hq
    show s.lease ≤ max s.now now - s.first
    omega
theorem enter_same (s : Sec) (who now : Int) (hn : s.now ≤ now) (h0 : 0 ≤ who) (h9 : who ≤ 99) : (s.enter who now).2.2.lease = s.lease ∧ (s.enter who now).2.2.now = now ∧ ∀ y ∈ (s.enter who now).2.2.q, y ∈ s.q ∨ y = who := by
  unfold enter
  rw [if_neg (by omega)]
  have h := enterIn_same (s.tick now) who
  exact ⟨h.1, h.2.1.trans (by show max s.now now = now; omega), h.2.2⟩
end Sec
set_option maxRecDepth 100000 in
set_option maxHeartbeats 4000000 in
theorem SectComes_core (w : World) (a0 : Int) (A1 : Option Addr) (n1 c1 : Nat) (x1 : Ty.den (.sl 32 OpTy6)) (w1 : Holds w (.sl 32 OpTy6) x1 [.slice A1 n1 c1]) (a2 : Int) (m d : Nat) (hm : bits .and .i64 a0 15 = m) (hm8 : m < 16) (hd : bits .and .i64 a2 7 = d) (hd8 : d < 8) :
    Calls Try.prog 6 #[.int .i64 a0, .slice A1 n1 c1, .int .i64 a2] w fun e w' => e = .returned (.bool true) ∧ Below w.heap.size w w' := by
  have W1 := Lib.hid w1
  clear w1
  go_enter Try.func6, Try.ntmps6
  go_wp2_with fail
  refine (S0.new (Keep.refl (From w.heap.size) w) ((m : Int) + 1)).mono ?_; rintro e w2 ⟨p, rfl, h2, k2⟩
  have hl2 : (Sec.new ((m : Int) + 1)).lease = m + 1 := by show min (max _ 1) 1000 = _; omega
  go_wp2_with fail
  go_loopw [8, 9] (fun s8 s9 wx => ∃ (i : Nat) (now : Int) (s : Sec) (A : Option Addr) (cap : Nat), i ≤ n1 ∧ i ≤ 80 ∧ s8 = .int .i64 now ∧ s9 = .int .i64 i ∧ 0 ≤ now ∧ now ≤ 7 * i ∧ s.now ≤ now ∧ s.lease = m + 1 ∧ s.stamps ≤ i ∧ (∀ y ∈ s.q, 0 ≤ y ∧ y < 8) ∧ S0 w wx p A cap s) (fun _ s9 _ => 80 - (intOf s9).toNat)
  case atStart => exact ⟨0, 0, Sec.new ((m : Int) + 1), none, 0, Nat.zero_le _, Nat.zero_le _, rfl, rfl, by omega, by omega, by show (-9223372036854775808 : Int) ≤ 0; decide, hl2, by simp [Sec.new], fun y hy => by simp [Sec.new] at hy, h2⟩
  case round =>
    obtain ⟨i, now, s, A, cap, hi1, hi2, rfl, rfl, hn0, hn1, hsn, hsl, hst, hsq, H⟩ := hrel
    clear h2 k2 hl2
    obtain ⟨bo, hbo⟩ : ∃ bo, bo = decide (i < n1 ∧ i < 80) := ⟨_, rfl⟩
    have Hbo := Lib.hid hbo
    clear hbo
    go_upto_region 8 with fail
    go_cut [29] from 22 to 29 (fun s29 wx => s29 = .bool bo ∧ wx = wr)
    case first =>
      by_cases h1 : i < n1
      · by_cases h2 : i < 80
        · have h3 : decide (i < n1 ∧ i < 80) = true := by simp [h1, h2]
          go_wp2_with fail
          go_meet
          exact ⟨by (try rw [Hbo.out, h3]); (first | rfl | exact congrArg Value.bool (decide_eq_true (by omega)) | exact congrArg Value.bool (decide_eq_false (by omega)) | skip), rfl⟩
        · have h3 : decide (i < n1 ∧ i < 80) = false := by simp [h2]
          go_wp2_with fail
          go_meet
          exact ⟨by (try rw [Hbo.out, h3]); (first | rfl | exact congrArg Value.bool (decide_eq_true (by omega)) | exact congrArg Value.bool (decide_eq_false (by omega)) | skip), rfl⟩
      · have h3 : decide (i < n1 ∧ i < 80) = false := by simp [h1]
        go_wp2_with fail
        go_meet
        exact ⟨by (try rw [Hbo.out, h3]); (first | rfl | exact congrArg Value.bool (decide_eq_true (by omega)) | exact congrArg Value.bool (decide_eq_false (by omega)) | skip), rfl⟩
    case rest =>
    obtain ⟨rfl, hw⟩ := hcut
    have hw := hw.symm
    subst hw
    cases bo with
    | true =>
      obtain ⟨hl1, hl2⟩ : i < n1 ∧ i < 80 := of_decide_eq_true Hbo.out.symm
      obtain ⟨bb, off, cs', hA0, hcl, hcc, hk', hh⟩ := holds_at W1.out (by decide) hl1
      obtain ⟨o0, o1, o2, o3, rfl⟩ := op6_cells hh
      subst hA0
      have f0 := H.keep.cell_from (hcc 0 _ rfl)
      have f1 := H.keep.cell_from (hcc 1 _ rfl)
      have f3 := H.keep.cell_from (hcc 3 _ rfl)
      simp only [show OpTy6.size = 4 from rfl, Nat.add_zero] at f0 f1 f3
      clear hcc hcl hh hk'
      obtain ⟨k, hk⟩ : ∃ k : Nat, o1 % 8 = (k : Int) := ⟨(o1 % 8).toNat, by omega⟩
      obtain ⟨t, htt⟩ : ∃ t : Nat, o3 % 8 = (t : Int) := ⟨(o3 % 8).toNat, by omega⟩
      have hk8 : k < 8 := by omega
      have ht8 : t < 8 := by omega
      by_cases ho : o0 < 3
      · obtain ⟨v, b, s', hen⟩ : ∃ v b s', s.enter k (now + t) = (v, b, s') := ⟨_, _, _, rfl⟩
        have he := H.enter k (now + t) (by omega) (by omega) v b s' hen
        have hsm := Sec.enter_same s k (now + t) (by omega) (by omega) (by omega)
        have hsp := Sec.enter_stamps s k (now + t)
        rw [hen] at hsm hsp
        have HS := Lib.hid (And.intro hsm (And.intro hsp hsq))
        have HL := Lib.hid hsl
        clear hsm hsp hen hsl hsq
        go_wp2_with fail
        refine he.mono ?_; rintro e w4 ⟨rfl, A4, c4, h4, k4⟩
        go_wp2_with fail
        go_roundw
        case rel => exact ⟨i + 1, now + t, s', A4, c4, by omega, by omega, rfl, by go_num, by omega, by omega, by have := HS.out.1.2.1; omega, HS.out.1.1.trans HL.out, by have := HS.out.2.1; omega, fun y hy => by
          rcases HS.out.1.2.2 y hy with h | h
          · exact HS.out.2.2 y h
          · omega, h4⟩
        case measure => simp [intOf]; omega
      · have hq := Sec.quit_same s k
        have he := H.quit k _ rfl
        have HS := Lib.hid (And.intro hq hsq)
        have HL := Lib.hid hsl
        clear hq hsq hsl
        go_wp2_with fail
        refine he.mono ?_; rintro e w4 ⟨rfl, h4, k4⟩
        go_wp2_with fail
        go_roundw
        case rel => exact ⟨i + 1, now + t, s.quit k, A, cap, by omega, by omega, rfl, by go_num, by omega, by omega, by rw [HS.out.1.2.1]; omega, HS.out.1.1.trans HL.out, by rw [HS.out.1.2.2.1]; omega, fun y hy => HS.out.2 y (HS.out.1.2.2.2 y hy), h4⟩
        case measure => simp [intOf]; omega
    | false =>
      have hmu : s.mu d ≤ 9 := by
        have hql := nodup_range H.ok.nd 8 (fun y hy => by have := hsq y hy; omega)
        have hix : s.q.idxOf (d : Int) ≤ s.q.length := List.idxOf_le_length
        unfold Sec.mu
        split <;> split <;> omega
      clear hsq
      go_wp2_with fail
      go_loopw [8, 10] (fun s8 s10 wx => ∃ (j : Nat) (now : Int) (s : Sec) (A : Option Addr) (cap : Nat), j ≤ 9 ∧ s8 = .int .i64 now ∧ s10 = .int .i64 j ∧ 0 ≤ now ∧ now ≤ 560 + 16 * j ∧ s.now ≤ now ∧ s.lease = m + 1 ∧ s.stamps ≤ 80 + j ∧ s.mu d ≤ 9 - j ∧ S0 w wx p A cap s) (fun _ s10 _ => 10 - (intOf s10).toNat)
      case atStart => exact ⟨0, now, s, A, cap, by omega, rfl, rfl, by omega, by omega, hsn, hsl, by omega, by omega, H⟩
      case round =>
        clear hmu hst hsl hsn hn0 hn1 H
        obtain ⟨j, now, s, A, cap, hj, rfl, rfl, hn0, hn1, hsn, hsl, hst, hmu, H⟩ := hrel
        obtain ⟨v, b, s', hen⟩ : ∃ v b s', s.enter d (now + ((m : Int) + 1)) = (v, b, s') := ⟨_, _, _, rfl⟩
        have hco := Sec.comes H.ok (by omega) (by omega) (by omega) (by omega) hen
        have he := H.enter d (now + ((m : Int) + 1)) (by omega) (by omega) v b s' hen
        have hsm := Sec.enter_same s d (now + ((m : Int) + 1)) (by omega) (by omega) (by omega)
        have hsp := Sec.enter_stamps s d (now + ((m : Int) + 1))
        rw [hen] at hsm hsp
        have HS := Lib.hid (And.intro hsm hsp)
        have HL := Lib.hid hsl
        clear hsm hsp hen hsl
        rcases hco with ⟨rfl, hh⟩ | ⟨rfl, hh⟩
        · have HH := Lib.hid hh
          clear hh
          go_wp2_with fail
          refine he.mono ?_; rintro e w4 ⟨rfl, A4, c4, h4, k4⟩
          go_wp2_with fail
          refine (holds_is h4.is d v true HH.out).mono ?_; rintro e w5 ⟨rfl, rfl⟩
          go_wp2_with fail
          refine (awake_true _).mono ?_; rintro e w7 ⟨rfl, k7⟩
          go_wp2_with fail
          go_ret
          exact ⟨rfl, (h4.nob k7).keep.done⟩
        · have hj8 : j ≤ 8 := by omega
          have HH := Lib.hid hh
          clear hh
          go_wp2_with fail
          refine he.mono ?_; rintro e w4 ⟨rfl, A4, c4, h4, k4⟩
          go_wp2_with fail
          go_roundw
          case rel => exact ⟨j + 1, now + ((m : Int) + 1), s', A4, c4, by omega, rfl, by go_num, by omega, by omega, by have := HS.out.1.2.1; omega, HS.out.1.1.trans HL.out, by have := HS.out.2; omega, by have := HH.out; omega, h4⟩
          case measure => simp [intOf]; omega
theorem SectComes_walk (w : World) (a0 : Int) (w0 : (Lit.int .i64 a0).wf = true) (A1 : Option Addr) (n1 c1 : Nat) (x1 : Ty.den (.sl 32 (.pair (.int .i64) (.pair (.int .i64) (.pair (.int .i64) (.pair (.int .i64) .unit)))))) (w1 : Holds w (.sl 32 (.pair (.int .i64) (.pair (.int .i64) (.pair (.int .i64) (.pair (.int .i64) .unit))))) x1 [.slice A1 n1 c1]) (a2 : Int) (w2 : (Lit.int .i64 a2).wf = true) :
    Calls Try.prog 6 #[.int .i64 a0, .slice A1 n1 c1, .int .i64 a2] w fun e w' => e = .returned (.bool true) ∧ Below w.heap.size w w' := by
  obtain ⟨m, hm⟩ := Int.eq_ofNat_of_zero_le (show 0 ≤ a0 % 16 by omega)
  obtain ⟨d, hd⟩ := Int.eq_ofNat_of_zero_le (show 0 ≤ a2 % 8 by omega)
  exact SectComes_core w a0 A1 n1 c1 x1 w1 a2 m d ((i64_and15 a0).trans hm) (by omega) ((i64_and7 a2).trans hd) (by omega)
end Go.Proofs.Ytflibnoidhljpaa
