/- Contracts of package sect (layer 6), the greater ones. -/
import Derived.Test.YtompckcnpidbdaaGreatSec1
namespace Go.Proofs.YtompckcnpidbdaaGreat.Se
open Go.RowKit
set_option linter.unusedVariables false
set_option linter.unusedSimpArgs false
section
variable {w : World} {p : Nat} {A : Option Addr} {cap : Nat} {s : Sec}
theorem IsSec.own (h : IsSec w p A cap s) (h0 : s.q ≠ []) : ∃ g, A = some ⟨g, 0, none⟩ ∧ g ≠ p ∧ w.cell? ⟨g, 0, none⟩ = some (.int .i64 (s.q.headD 0)) ∧ s.q.length ≤ cap := by
  obtain ⟨x, l, hl⟩ := List.exists_cons_of_ne_nil h0
  have hlen : 0 < s.q.length := by rw [hl]; simp
  obtain ⟨g, cur, rfl, hb, hc, _, ht⟩ := h.row.at_ hlen
  refine ⟨g, rfl, h.ne g ⟨_, rfl, rfl⟩, ?_, hc⟩
  rw [hb.cell]
  have : (cur.take (s.q.length * 1))[0]? = (ints s.q)[0]? := by rw [ht]
  rw [List.getElem?_take, if_pos (by omega)] at this
  rw [this, ints_get, hl]
  rfl
set_option maxHeartbeats 1000000 in
theorem remove_is (h : IsSec w p A cap s) (i : Nat) (hi : i < s.q.length) : Calls Tryz.prog 99 #[.pointer (some ⟨p, 0, none⟩), .int .i64 i] w fun e w' => e = .returned (.tuple #[]) ∧ IsSec w' p A cap (s.rem i) ∧ Keep (SecB p A) w w' := by
  have hne : s.q ≠ [] := fun e => by rw [e] at hi; simp at hi
  obtain ⟨g, rfl, hgp, _, hcap⟩ := h.own hne
  have c6 := h.c6
  have hv := h.row
  have hd := delete_is hv hi
  have hsm : s.q.length ≤ maxLen := by
    rcases hv.2 with ⟨he, _⟩ | ⟨g', cap', cur', he, _, _, h1, h2, _⟩
    · simp at he
    · omega
  unfold maxLen at hsm
  have hlq : (s.q.eraseIdx i).length = s.q.length - 1 := by rw [List.length_eraseIdx, if_pos hi]
  have HQ := Lib.hid hlq
  clear hlq hv
  have obj : ∀ {w1 : World}, Keep (· = g) w w1 → Blk w1 p 104 [.int .i64 s.lease, .int .i64 s.now, .int .i64 s.stamps, .int .i64 s.who, .int .i64 s.stamp, .int .i64 s.since, .slice (some ⟨g, 0, none⟩) s.q.length cap, .int .i64 s.first] :=
    fun k => h.obj.keep k (fun e => hgp e.symm)
  have kp : ∀ {w1 : World}, Keep (· = g) w w1 → Keep (SecB p (some ⟨g, 0, none⟩)) w w1 := fun k => k.mono (fun x _ e => .inr ⟨_, rfl, e.symm⟩)
  generalize hn : s.q.length = n at *
  have HN := Lib.hid hn
  clear hn
  by_cases hz : i = 0
  · subst hz
    go_enter Tryz.func99, Tryz.ntmps99
    go_wp2_with fail
    refine (hd _ (by rfl)).mono ?_; rintro e w1 ⟨rfl, hv1, k1⟩
    have b1 := obj k1
    have f6 := b1.frozen 6
    have f7 := b1.frozen 7
    have d1 : w1.cell? ⟨p, 1, none⟩ = some (.int .i64 s.now) := b1.cell 1
    have d6 : w1.cell? ⟨p, 6, none⟩ = some (.slice (some ⟨g, 0, none⟩) n cap) := b1.cell 6
    have d7 : w1.cell? ⟨p, 7, none⟩ = some (.int .i64 s.first) := b1.cell 7
    go_wp2
    go_end0
    have k2 : Keep (· = p) w1 ((w1.setCell ⟨p, 6, none⟩ (.slice (some ⟨g, 0, none⟩) (n - 1) cap)).setCell ⟨p, 7, none⟩ (.int .i64 s.now)) := ((Keep.refl (· = p) w1).setCell ⟨p, 6, none⟩ _ (fun _ => rfl)).setCell ⟨p, 7, none⟩ _ (fun _ => rfl)
    refine ⟨rfl, ⟨?_, ?_⟩, (kp k1).trans k2 (fun x _ e => .inl e)⟩
    · have := (b1.setCell 6 (.slice (some ⟨g, 0, none⟩) (n - 1) cap)).setCell 7 (.int .i64 s.now)
      simp only [Sec.rem, HQ.out, if_true]
      exact this
    · simp only [Sec.rem, HQ.out]
      exact hv1.keep k2 (fun x ⟨a, ha, hb⟩ e => by cases ha; exact hgp (hb.trans e))
  · have hz2 : (i : Int) ≠ 0 := by omega
    go_enter Tryz.func99, Tryz.ntmps99
    go_wp2_with fail
    refine (hd _ (by rfl)).mono ?_; rintro e w1 ⟨rfl, hv1, k1⟩
    have b1 := obj k1
    have f6 := b1.frozen 6
    have d6 : w1.cell? ⟨p, 6, none⟩ = some (.slice (some ⟨g, 0, none⟩) n cap) := b1.cell 6
    go_wp2
    go_end0
    have k2 : Keep (· = p) w1 (w1.setCell ⟨p, 6, none⟩ (.slice (some ⟨g, 0, none⟩) (n - 1) cap)) := (Keep.refl (· = p) w1).setCell ⟨p, 6, none⟩ _ (fun _ => rfl)
    refine ⟨rfl, ⟨?_, ?_⟩, (kp k1).trans k2 (fun x _ e => .inl e)⟩
    · have := b1.setCell 6 (.slice (some ⟨g, 0, none⟩) (n - 1) cap)
      simp only [Sec.rem, HQ.out, if_neg hz]
      exact this
    · simp only [Sec.rem, HQ.out]
      exact hv1.keep k2 (fun x ⟨a, ha, hb⟩ e => by cases ha; exact hgp (hb.trans e))
theorem IsSec.snoc_to (h : IsSec w p A cap s) (who f : Int) {n : Nat} (hn : s.q.length = n) {w1 w2 : World} {A2 : Option Addr} {c2 : Nat} (k1 : Keep (· = p) w w1)
    (b2 : Blk w2 p 104 [.int .i64 s.lease, .int .i64 s.now, .int .i64 s.stamps, .int .i64 s.who, .int .i64 s.stamp, .int .i64 s.since, .slice A n cap, .int .i64 f]) (hv2 : Vec w2 3 1 A2 (n + 1) c2 (ints s.q ++ [.int .i64 who])) (hk2 : Keep (Own A) w1 w2) (ho2 : ∀ g, Own A2 g → Own A g ∨ g = w1.heap.size) :
    SecTo w p A { s with q := s.q ++ [who], first := f } (w2.setCell ⟨p, 6, none⟩ (.slice A2 (n + 1) c2)) := by
  subst hn
  have hp := h.obj.lt
  have h1 := k1.size
  have k3 : Keep (· = p) w2 (w2.setCell ⟨p, 6, none⟩ (.slice A2 (s.q.length + 1) c2)) := (Keep.refl (· = p) w2).setCell ⟨p, 6, none⟩ _ (fun _ => rfl)
  have hne : ∀ x, Own A2 x → x ≠ p := fun x hx e => by
    rcases ho2 x hx with m | m
    · exact h.ne x m e
    · omega
  refine ⟨A2, c2, ⟨?_, ?_⟩, ?_, fun k hk => ?_⟩
  · have := b2.setCell 6 (.slice A2 (s.q.length + 1) c2)
    rw [List.length_append, List.length_singleton]
    exact this
  · rw [List.length_append, List.length_singleton, ints_append]
    exact hv2.keep k3 (fun x hx e => hne x hx e)
  · exact ((k1.mono (fun x _ e => .inl e) : Keep (SecB p A) w w1).trans hk2 (fun x _ m => .inr m)).trans k3 (fun x _ e => .inl e)
  · rcases ho2 k hk with m | m
    · exact .inl m
    · exact .inr (by omega)
set_option maxHeartbeats 1000000 in
theorem wait_is (h : IsSec w p A cap s) (hl : s.q.length ≤ 1000000) (who : Int) : Calls Tryz.prog 88 #[.pointer (some ⟨p, 0, none⟩), .int .i64 who] w fun e w' => e = .returned (.tuple #[]) ∧ SecTo w p A (s.wait who) w' := by
  have c6 := h.c6
  have hci := contains_is (c := cap) h.row.reads (by omega) who _ rfl
  rw [Nat.mul_one] at hci
  unfold Sec.wait
  by_cases hm : who ∈ s.q
  · rw [decide_eq_true hm] at hci
    rw [if_pos hm]
    go_enter Tryz.func88, Tryz.ntmps88
    go_wp2_with fail
    refine hci.mono ?_; rintro e w1 ⟨rfl, rfl⟩
    go_wp2
    first | go_end0 | refine bodyPost_ret (results_none rfl _ _ _) rfl ?_
    exact ⟨rfl, SecTo.same h⟩
  · rw [decide_eq_false hm] at hci
    rw [if_neg hm]
    have c1 := h.c1
    have c7 := h.c7
    have f6 := h.f 6
    have f7 := h.f 7
    have H := Lib.hid h
    have hv0 := h.row
    have hq0 : ∀ {w1 : World}, Keep (· = p) w w1 → Vec w1 3 1 A s.q.length cap (ints s.q) := fun k => h.row.keep k (fun x hx e => h.ne x hx e)
    have hobj := h.obj
    generalize hn : s.q.length = n at *
    have HN := Lib.hid hn
    clear hn h hm
    by_cases hz : n = 0
    · subst hz
      go_enter Tryz.func88, Tryz.ntmps88
      go_wp2_with fail
      refine hci.mono ?_; rintro e w1 ⟨rfl, rfl⟩
      have b1 := hobj.setCell 7 (.int .i64 s.now)
      have k1 : Keep (· = p) w (w.setCell ⟨p, 7, none⟩ (.int .i64 s.now)) := (Keep.refl (· = p) w).setCell ⟨p, 7, none⟩ _ (fun _ => rfl)
      have hv1 := (hq0 k1).nob ((Keep.refl Nob _).alloc (.cells #[.int .i64 who] 3))
      have hr1 : Reads ((w.setCell ⟨p, 7, none⟩ (.int .i64 s.now)).alloc (.cells #[.int .i64 who] 3)) (some ⟨w.heap.size, 0, none⟩) 1 [.int .i64 who] := by
        have := reads_all (n := 1) (Blk.new (w.setCell ⟨p, 7, none⟩ (.int .i64 s.now)) 3 [.int .i64 who]) rfl
        simpa [World.setCell] using this
      have hnA : ¬ Own A p := fun ho => H.out.ne p ho rfl
      have b2 := b1.alloc (.cells #[.int .i64 who] 3)
      have ka := k1.alloc (.cells #[.int .i64 who] 3)
      go_wp2_with (at_builtin; go_loud (refine wpList_ap rfl _ _ 27 rfl 3 1 8 (.int .i64 0) Tryz.underlying27 infointS rfl (by decide) A 0 cap _ rfl hv1 (some ⟨w.heap.size, 0, none⟩) 1 1 [.int .i64 who] rfl _ (Nat.mul_one _) hr1 (by simp [Value.oneCell']) (by unfold maxLen; omega) (by omega) ?_; intro A2 c2 w2 hv2 hk2 ho2; have b3 := b2.keep hk2 hnA; have z6 := b3.cell 6; have g6 := b3.frozen 6))
      go_wp2
      go_end0
      exact ⟨rfl, H.out.snoc_to who s.now HN.out ka b3 hv2 hk2 ho2⟩
    · go_enter Tryz.func88, Tryz.ntmps88
      go_wp2_with fail
      refine hci.mono ?_; rintro e w1 ⟨rfl, rfl⟩
      have hv1 := hv0.nob ((Keep.refl Nob w).alloc (.cells #[.int .i64 who] 3))
      have hr1 : Reads (w.alloc (.cells #[.int .i64 who] 3)) (some ⟨w.heap.size, 0, none⟩) 1 [.int .i64 who] := by
        have := reads_all (n := 1) (Blk.new w 3 [.int .i64 who]) rfl
        simpa [World.setCell] using this
      have hnA : ¬ Own A p := fun ho => H.out.ne p ho rfl
      have b2 := hobj.alloc (.cells #[.int .i64 who] 3)
      have ka := (Keep.refl (· = p) w).alloc (.cells #[.int .i64 who] 3)
      go_wp2_with (at_builtin; go_loud (refine wpList_ap rfl _ _ 27 rfl 3 1 8 (.int .i64 0) Tryz.underlying27 infointS rfl (by decide) A n cap _ rfl hv1 (some ⟨w.heap.size, 0, none⟩) 1 1 [.int .i64 who] rfl _ (Nat.mul_one _) hr1 (by simp [Value.oneCell']) (by unfold maxLen; omega) (by omega) ?_; intro A2 c2 w2 hv2 hk2 ho2; have b3 := b2.keep hk2 hnA; have z6 := b3.cell 6; have g6 := b3.frozen 6))
      go_wp2
      go_end0
      exact ⟨rfl, H.out.snoc_to who s.first HN.out ka b3 hv2 hk2 ho2⟩
theorem rem_pass2 {s : Sec} (O : s.Ok) (who : Int) : (s.rem 0).pass2 who = s.rem 0 := by
  have h1 := O.l1
  unfold Sec.pass2
  rw [if_neg]
  simp [Sec.over, Sec.rem]
  omega
def qlen (p : Nat) (w : World) : Nat := match w.cell? ⟨p, 6, none⟩ with
  | some (.slice _ n _) => n
  | _ => 0
theorem IsSec.qlen (h : IsSec w p A cap s) : qlen p w = s.q.length := by unfold Se.qlen; rw [h.c6]
set_option maxHeartbeats 4000000 in
theorem passBy_is (h : IsSec w p A cap s) (O : s.Ok) (who : Int) (hm : who ∈ s.q) : Calls Tryz.prog 89 #[.pointer (some ⟨p, 0, none⟩), .int .i64 who] w fun e w' => e = .returned (.tuple #[]) ∧ IsSec w' p A cap (s.pass1.pass2 who) ∧ Keep (SecB p A) w w' := by
  have c5 := h.c5
  have c7 := h.c7
  obtain ⟨s1, hs1⟩ : ∃ s1, s.pass1 = s1 := ⟨_, rfl⟩
  have O1 : s1.Ok := hs1 ▸ O.pass1
  have hm1 : who ∈ s1.q := by rw [← hs1, Sec.pass1_q]; exact hm
  cases hh : s.held with
  | false =>
    have hs2 : s1 = s := by rw [← hs1]; unfold Sec.pass1; rw [hh]; rfl
    have H1 : IsSec w p A cap s1 := hs2 ▸ h
    have k1 := Keep.refl (SecB p A) w
    go_enter Tryz.func89, Tryz.ntmps89
    go_wp2_with fail
    refine (isHeld_is h false hh).mono ?_; rintro e w1 ⟨rfl, rfl⟩
    clear c5 c7
    go_wp2_with fail
    go_loopw [17] (fun _ wx => ∃ s2 : Sec, IsSec wx p A cap s2 ∧ s2.Ok ∧ who ∈ s2.q ∧ s2.pass2 who = s1.pass2 who ∧ Keep (SecB p A) w wx) (fun _ wx => qlen p wx)
    case atStart => exact ⟨s1, H1, O1, hm1, rfl, k1⟩
    case round =>
      obtain ⟨s2, H2, O2, hm2, hp2, k2⟩ := hrel
      have hne2 : s2.q ≠ [] := fun e => by rw [e] at hm2; simp at hm2
      have hql := H2.qlen
      have hlen2 : 0 < s2.q.length := List.length_pos_iff.2 hne2
      have HQ := Lib.hid hql
      clear H1 O1 hm1 k1 hql
      cases hh2 : s2.held with
      | true =>
        have e : s2.pass2 who = s2 := by unfold Sec.pass2; rw [hh2]; rfl
        go_wp2_with fail
        refine (isHeld_is H2 true hh2).mono ?_; rintro e2 w3 ⟨rfl, rfl⟩
        go_wp2_with fail
        go_end0
        exact ⟨rfl, by rw [hs1, ← hp2, e]; exact H2, k2⟩
      | false =>
        have hr2 := H2.own hne2
        have c6 := H2.c6
        have c7 := H2.c7
        obtain ⟨g, hA, hgp, cg, hcap⟩ := hr2
        by_cases hhd : s2.q.headD 0 = who
        · have e : s2.pass2 who = s2 := by unfold Sec.pass2; simp only [hhd]; simp
          have hf := e.symm ▸ hp2
          have hH := Lib.hid H2
          subst hA
          generalize s2.q.headD 0 = hd at *
          generalize s2.q.length = n2 at *
          subst hhd
          go_wp2_with fail
          refine (isHeld_is H2 false hh2).mono ?_; rintro e2 w3 ⟨rfl, rfl⟩
          go_wp2_with fail
          go_end0
          exact ⟨rfl, by rw [hs1, ← hp2, e]; exact H2, k2⟩
        · have hw2 := O2.w2 hne2
          have hw1 := O2.w1
          cases ho2 : s2.over s2.first with
          | false =>
            have e : s2.pass2 who = s2 := by unfold Sec.pass2; rw [ho2]; simp
            subst hA
            have ho := isOver_is H2 O2 s2.first hw1 hw2 _ ho2
            generalize s2.q.headD 0 = hd at *
            generalize s2.q.length = n2 at *
            go_wp2_with fail
            refine (isHeld_is H2 false hh2).mono ?_; rintro e2 w3 ⟨rfl, rfl⟩
            go_wp2_with fail
            refine ho.mono ?_; rintro e2 w4 ⟨rfl, m, rfl⟩
            go_wp2_with fail
            go_end0
            exact ⟨rfl, by rw [hs1, ← hp2, e]; exact H2.nob ((Keep.refl Nob _).drewN m), k2.drewN m⟩
          | true =>
            have e : s2.pass2 who = s2.rem 0 := by unfold Sec.pass2; rw [if_pos]; rw [hh2, ho2]; simpa using hhd
            have e3 : (s2.rem 0).pass2 who = s1.pass2 who := by rw [rem_pass2 O2, ← e, hp2]
            have hm3 : who ∈ (s2.rem 0).q := by rw [← e]; exact Sec.pass2_mem hm2
            have ho := isOver_is H2 O2 s2.first hw1 hw2 _ ho2
            have hre := fun m => remove_is (H2.nob ((Keep.refl Nob _).drewN m)) 0 hlen2
            have hl3 : (s2.rem 0).q.length < s2.q.length := by show (s2.q.eraseIdx 0).length < _; rw [List.length_eraseIdx, if_pos hlen2]; omega
            have HL := Lib.hid hl3
            have O3 := O2.rem 0
            clear hl3
            subst hA
            generalize s2.q.headD 0 = hd at *
            generalize s2.q.length = n2 at *
            go_wp2_with fail
            refine (isHeld_is H2 false hh2).mono ?_; rintro e2 w3 ⟨rfl, rfl⟩
            go_wp2_with fail
            refine ho.mono ?_; rintro e2 w4 ⟨rfl, m, rfl⟩
            go_wp2_with fail
            refine (hre m).mono ?_; rintro e2 w5 ⟨rfl, H5, k5⟩
            go_wp2_with fail
            go_roundw
            case rel => exact ⟨_, H5, O3, hm3, e3, (k2.drewN m).trans k5 (fun _ _ x => x)⟩
            case measure => rw [H5.qlen, HQ.out]; exact HL.out
  | true =>
    have hst : 0 < s.stamp := by simpa [Sec.held] using hh
    cases ho : s.over s.since with
    | false =>
      have hs2 : s1 = s := by rw [← hs1]; unfold Sec.pass1; rw [hh, ho]; rfl
      go_enter Tryz.func89, Tryz.ntmps89
      go_wp2_with fail
      refine (isHeld_is h true hh).mono ?_; rintro e w1 ⟨rfl, rfl⟩
      go_wp2_with fail
      refine (isOver_is h O s.since O.h1 (O.h2 hst) false ho).mono ?_; rintro e w1 ⟨rfl, m, rfl⟩
      have H1 : IsSec (w.drewN m) p A cap s1 := hs2 ▸ h.nob ((Keep.refl Nob w).drewN m)
      have k1 := (Keep.refl (SecB p A) w).drewN m
      clear c5 c7
      go_wp2_with fail
      go_loopw [17] (fun _ wx => ∃ s2 : Sec, IsSec wx p A cap s2 ∧ s2.Ok ∧ who ∈ s2.q ∧ s2.pass2 who = s1.pass2 who ∧ Keep (SecB p A) w wx) (fun _ wx => qlen p wx)
      case atStart => exact ⟨s1, H1, O1, hm1, rfl, k1⟩
      case round =>
        obtain ⟨s2, H2, O2, hm2, hp2, k2⟩ := hrel
        have hne2 : s2.q ≠ [] := fun e => by rw [e] at hm2; simp at hm2
        have hql := H2.qlen
        have hlen2 : 0 < s2.q.length := List.length_pos_iff.2 hne2
        have HQ := Lib.hid hql
        clear H1 O1 hm1 k1 hql
        cases hh2 : s2.held with
        | true =>
          have e : s2.pass2 who = s2 := by unfold Sec.pass2; rw [hh2]; rfl
          go_wp2_with fail
          refine (isHeld_is H2 true hh2).mono ?_; rintro e2 w3 ⟨rfl, rfl⟩
          go_wp2_with fail
          go_end0
          exact ⟨rfl, by rw [hs1, ← hp2, e]; exact H2, k2⟩
        | false =>
          have hr2 := H2.own hne2
          have c6 := H2.c6
          have c7 := H2.c7
          obtain ⟨g, hA, hgp, cg, hcap⟩ := hr2
          by_cases hhd : s2.q.headD 0 = who
          · have e : s2.pass2 who = s2 := by unfold Sec.pass2; simp only [hhd]; simp
            have hf := e.symm ▸ hp2
            have hH := Lib.hid H2
            subst hA
            generalize s2.q.headD 0 = hd at *
            generalize s2.q.length = n2 at *
            subst hhd
            go_wp2_with fail
            refine (isHeld_is H2 false hh2).mono ?_; rintro e2 w3 ⟨rfl, rfl⟩
            go_wp2_with fail
            go_end0
            exact ⟨rfl, by rw [hs1, ← hp2, e]; exact H2, k2⟩
          · have hw2 := O2.w2 hne2
            have hw1 := O2.w1
            cases ho2 : s2.over s2.first with
            | false =>
              have e : s2.pass2 who = s2 := by unfold Sec.pass2; rw [ho2]; simp
              subst hA
              have ho := isOver_is H2 O2 s2.first hw1 hw2 _ ho2
              generalize s2.q.headD 0 = hd at *
              generalize s2.q.length = n2 at *
              go_wp2_with fail
              refine (isHeld_is H2 false hh2).mono ?_; rintro e2 w3 ⟨rfl, rfl⟩
              go_wp2_with fail
              refine ho.mono ?_; rintro e2 w4 ⟨rfl, m, rfl⟩
              go_wp2_with fail
              go_end0
              exact ⟨rfl, by rw [hs1, ← hp2, e]; exact H2.nob ((Keep.refl Nob _).drewN m), k2.drewN m⟩
            | true =>
              have e : s2.pass2 who = s2.rem 0 := by unfold Sec.pass2; rw [if_pos]; rw [hh2, ho2]; simpa using hhd
              have e3 : (s2.rem 0).pass2 who = s1.pass2 who := by rw [rem_pass2 O2, ← e, hp2]
              have hm3 : who ∈ (s2.rem 0).q := by rw [← e]; exact Sec.pass2_mem hm2
              have ho := isOver_is H2 O2 s2.first hw1 hw2 _ ho2
              have hre := fun m => remove_is (H2.nob ((Keep.refl Nob _).drewN m)) 0 hlen2
              have hl3 : (s2.rem 0).q.length < s2.q.length := by show (s2.q.eraseIdx 0).length < _; rw [List.length_eraseIdx, if_pos hlen2]; omega
              have HL := Lib.hid hl3
              have O3 := O2.rem 0
              clear hl3
              subst hA
              generalize s2.q.headD 0 = hd at *
              generalize s2.q.length = n2 at *
              go_wp2_with fail
              refine (isHeld_is H2 false hh2).mono ?_; rintro e2 w3 ⟨rfl, rfl⟩
              go_wp2_with fail
              refine ho.mono ?_; rintro e2 w4 ⟨rfl, m, rfl⟩
              go_wp2_with fail
              refine (hre m).mono ?_; rintro e2 w5 ⟨rfl, H5, k5⟩
              go_wp2_with fail
              go_roundw
              case rel => exact ⟨_, H5, O3, hm3, e3, (k2.drewN m).trans k5 (fun _ _ x => x)⟩
              case measure => rw [H5.qlen, HQ.out]; exact HL.out
    | true =>
      have hs2 : s1 = s.rel := by rw [← hs1]; unfold Sec.pass1; rw [hh, ho]; rfl
      go_enter Tryz.func89, Tryz.ntmps89
      go_wp2_with fail
      refine (isHeld_is h true hh).mono ?_; rintro e w1 ⟨rfl, rfl⟩
      go_wp2_with fail
      refine (isOver_is h O s.since O.h1 (O.h2 hst) true ho).mono ?_; rintro e w1 ⟨rfl, m, rfl⟩
      go_wp2_with fail
      refine (release_is (h.nob ((Keep.refl Nob w).drewN m))).mono ?_; rintro e w1 ⟨rfl, h1, kr⟩
      have H1 : IsSec w1 p A cap s1 := hs2 ▸ h1
      have k1 : Keep (SecB p A) w w1 := ((Keep.refl (SecB p A) w).drewN m).trans kr (fun x _ e => .inl e)
      clear c5 c7
      go_wp2_with fail
      go_loopw [17] (fun _ wx => ∃ s2 : Sec, IsSec wx p A cap s2 ∧ s2.Ok ∧ who ∈ s2.q ∧ s2.pass2 who = s1.pass2 who ∧ Keep (SecB p A) w wx) (fun _ wx => qlen p wx)
      case atStart => exact ⟨s1, H1, O1, hm1, rfl, k1⟩
      case round =>
        obtain ⟨s2, H2, O2, hm2, hp2, k2⟩ := hrel
        have hne2 : s2.q ≠ [] := fun e => by rw [e] at hm2; simp at hm2
        have hql := H2.qlen
        have hlen2 : 0 < s2.q.length := List.length_pos_iff.2 hne2
        have HQ := Lib.hid hql
        clear H1 O1 hm1 k1 hql
        cases hh2 : s2.held with
        | true =>
          have e : s2.pass2 who = s2 := by unfold Sec.pass2; rw [hh2]; rfl
          go_wp2_with fail
          refine (isHeld_is H2 true hh2).mono ?_; rintro e2 w3 ⟨rfl, rfl⟩
          go_wp2_with fail
          go_end0
          exact ⟨rfl, by rw [hs1, ← hp2, e]; exact H2, k2⟩
        | false =>
          have hr2 := H2.own hne2
          have c6 := H2.c6
          have c7 := H2.c7
          obtain ⟨g, hA, hgp, cg, hcap⟩ := hr2
          by_cases hhd : s2.q.headD 0 = who
          · have e : s2.pass2 who = s2 := by unfold Sec.pass2; simp only [hhd]; simp
            have hf := e.symm ▸ hp2
            have hH := Lib.hid H2
            subst hA
            generalize s2.q.headD 0 = hd at *
            generalize s2.q.length = n2 at *
            subst hhd
            go_wp2_with fail
            refine (isHeld_is H2 false hh2).mono ?_; rintro e2 w3 ⟨rfl, rfl⟩
            go_wp2_with fail
            go_end0
            exact ⟨rfl, by rw [hs1, ← hp2, e]; exact H2, k2⟩
          · have hw2 := O2.w2 hne2
            have hw1 := O2.w1
            cases ho2 : s2.over s2.first with
            | false =>
              have e : s2.pass2 who = s2 := by unfold Sec.pass2; rw [ho2]; simp
              subst hA
              have ho := isOver_is H2 O2 s2.first hw1 hw2 _ ho2
              generalize s2.q.headD 0 = hd at *
              generalize s2.q.length = n2 at *
              go_wp2_with fail
              refine (isHeld_is H2 false hh2).mono ?_; rintro e2 w3 ⟨rfl, rfl⟩
              go_wp2_with fail
              refine ho.mono ?_; rintro e2 w4 ⟨rfl, m, rfl⟩
              go_wp2_with fail
              go_end0
              exact ⟨rfl, by rw [hs1, ← hp2, e]; exact H2.nob ((Keep.refl Nob _).drewN m), k2.drewN m⟩
            | true =>
              have e : s2.pass2 who = s2.rem 0 := by unfold Sec.pass2; rw [if_pos]; rw [hh2, ho2]; simpa using hhd
              have e3 : (s2.rem 0).pass2 who = s1.pass2 who := by rw [rem_pass2 O2, ← e, hp2]
              have hm3 : who ∈ (s2.rem 0).q := by rw [← e]; exact Sec.pass2_mem hm2
              have ho := isOver_is H2 O2 s2.first hw1 hw2 _ ho2
              have hre := fun m => remove_is (H2.nob ((Keep.refl Nob _).drewN m)) 0 hlen2
              have hl3 : (s2.rem 0).q.length < s2.q.length := by show (s2.q.eraseIdx 0).length < _; rw [List.length_eraseIdx, if_pos hlen2]; omega
              have HL := Lib.hid hl3
              have O3 := O2.rem 0
              clear hl3
              subst hA
              generalize s2.q.headD 0 = hd at *
              generalize s2.q.length = n2 at *
              go_wp2_with fail
              refine (isHeld_is H2 false hh2).mono ?_; rintro e2 w3 ⟨rfl, rfl⟩
              go_wp2_with fail
              refine ho.mono ?_; rintro e2 w4 ⟨rfl, m, rfl⟩
              go_wp2_with fail
              refine (hre m).mono ?_; rintro e2 w5 ⟨rfl, H5, k5⟩
              go_wp2_with fail
              go_roundw
              case rel => exact ⟨_, H5, O3, hm3, e3, (k2.drewN m).trans k5 (fun _ _ x => x)⟩
              case measure => rw [H5.qlen, HQ.out]; exact HL.out
end
end Go.Proofs.YtompckcnpidbdaaGreat.Se
