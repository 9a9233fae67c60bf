/- The walk of SectOne. -/
import Derived.Test.YtflibnoidhljpaaLaw6a
namespace Go.Proofs.Ytflibnoidhljpaa
open Go.RowKit
set_option linter.unusedVariables false
set_option linter.unusedSimpArgs false
abbrev OpTy6 : Ty := .pair (.int .i64) (.pair (.int .i64) (.pair (.int .i64) (.pair (.int .i64) .unit)))
theorem op6_cells {w : World} {x : OpTy6.den} {cs : List Value} (h : Holds w OpTy6 x cs) : ∃ o0 o1 o2 o3 : Int, cs = [.int .i64 o0, .int .i64 o1, .int .i64 o2, .int .i64 o3] := by
  obtain ⟨c1, c2, rfl, ⟨rfl, _⟩, d1, d2, rfl, ⟨rfl, _⟩, e1, e2, rfl, ⟨rfl, _⟩, f1, f2, rfl, ⟨rfl, _⟩, h4⟩ := h
  simp only [Holds] at h4
  subst h4
  exact ⟨_, _, _, _, rfl⟩
theorem pass1_hold (s : Sec) : (s.pass1.stamp = s.stamp ∧ s.pass1.who = s.who) ∨ s.pass1.stamp = 0 := by
  unfold Sec.pass1
  split
  · exact .inr rfl
  · exact .inl ⟨rfl, rfl⟩
theorem ask_hold (s : Sec) (who : Int) : ((s.ask who).stamp = s.stamp ∧ (s.ask who).who = s.who) ∨ (s.ask who).stamp = 0 := by
  have e1 : (s.wait who).stamp = s.stamp ∧ (s.wait who).who = s.who := by unfold Sec.wait; split <;> exact ⟨rfl, rfl⟩
  have e2 : (s.ask who).stamp = (s.wait who).pass1.stamp ∧ (s.ask who).who = (s.wait who).pass1.who := by unfold Sec.ask Sec.pass2; split <;> exact ⟨rfl, rfl⟩
  rcases pass1_hold (s.wait who) with h | h
  · exact .inl ⟨by rw [e2.1, h.1, e1.1], by rw [e2.2, h.2, e1.2]⟩
  · exact .inr (by rw [e2.1, h])
/-- What an Enter can be. -/
theorem enter_cases {s : Sec} {who now : Int} (h0 : 0 ≤ who) (h9 : who ≤ 99) {v : Int} {b : Bool} {s' : Sec} (h : s.enter who now = (v, b, s')) :
    (b = true ∧ s.isH who = true ∧ v = s.stamp ∧ s' = s.tick now) ∨ (b = true ∧ v = s.stamps + 1 ∧ s'.stamps = v ∧ s'.stamp = v ∧ s'.who = who) ∨
    (b = false ∧ v = 0 ∧ s'.stamps = s.stamps ∧ ((s'.stamp = s.stamp ∧ s'.who = s.who) ∨ s'.stamp = 0)) := by
  unfold Sec.enter at h
  rw [if_neg (by omega)] at h
  unfold Sec.enterIn at h
  have ha := ask_hold (s.tick now) who
  have hs := Sec.ask_stamps (s.tick now) who
  by_cases h1 : (s.tick now).isH who = true
  · rw [if_pos h1] at h
    cases h
    exact .inl ⟨rfl, h1, rfl, rfl⟩
  · rw [if_neg h1] at h
    by_cases h2 : ((s.tick now).ask who).q.headD 0 ≠ who
    · rw [if_pos h2] at h
      cases h
      exact .inr (.inr ⟨rfl, rfl, hs, ha⟩)
    · rw [if_neg h2] at h
      by_cases h3 : ((s.tick now).ask who).held = true
      · rw [if_pos h3] at h
        cases h
        exact .inr (.inr ⟨rfl, rfl, hs, ha⟩)
      · rw [if_neg h3] at h
        cases h
        refine .inr (.inl ⟨rfl, by rw [hs]; rfl, rfl, rfl, ?_⟩)
        exact Decidable.not_not.1 h2
structure Once (s : Sec) (top : Int) (F : Nat → Int) : Prop where
  st : s.stamps = top
  hold : 0 < s.stamp → s.stamp = top ∧ ∃ k : Nat, k < 8 ∧ s.who = k ∧ F k = top
  le : ∀ k, 0 ≤ F k ∧ F k ≤ top
def upi (F : Nat → Int) (k : Nat) (v : Int) : Nat → Int := fun j => if j = k then v else F j
section
variable {s s' : Sec} {top v now : Int} {F : Nat → Int} {k : Nat}
theorem Once.yes (h : Once s top F) (hk : k < 8) (hH : s.isH k = true) : F k = top ∧ s.stamp = top := by
  simp only [Sec.isH, Bool.and_eq_true, decide_eq_true_eq] at hH
  obtain ⟨e, j, hj, hw, hF⟩ := h.hold hH.1
  have : j = k := by have := hH.2; omega
  subst this
  exact ⟨hF, e⟩
theorem Once.tick (h : Once s top F) : Once (s.tick now) top F := ⟨h.st, h.hold, h.le⟩
theorem Once.next (h : Once s top F) (hk : k < 8) (h1 : s'.stamps = top + 1) (h2 : s'.stamp = top + 1) (h3 : s'.who = k) : Once s' (top + 1) (upi F k (top + 1)) := by
  refine ⟨h1, fun _ => ⟨h2, k, hk, h3, by simp [upi]⟩, fun j => ?_⟩
  unfold upi
  have := h.le k
  have := h.le j
  split <;> omega
theorem Once.stay (h : Once s top F) (h1 : s'.stamps = s.stamps) (h2 : (s'.stamp = s.stamp ∧ s'.who = s.who) ∨ s'.stamp = 0) : Once s' top F := by
  refine ⟨h1.trans h.st, fun h0 => ?_, h.le⟩
  rcases h2 with ⟨e1, e2⟩ | e
  · rw [e1, e2]; rw [e1] at h0; exact h.hold h0
  · omega
/-- A round of counting who holds. -/
theorem Once.see (h : Once s top F) (hk : k < 8) : (0 < F k ∧ s.holds k (F k) = true ∧ F k = top ∧ 0 < s.stamp ∧ s.who = k) ∨ (0 < F k ∧ s.holds k (F k) = false ∧ ¬ (0 < s.stamp ∧ s.who = k)) ∨ (¬ 0 < F k ∧ ¬ (0 < s.stamp ∧ s.who = k)) := by
  by_cases hH : 0 < s.stamp ∧ s.who = k
  · have e := h.yes hk (by simp [Sec.isH, hH.1, hH.2])
    have ht : 0 < top := by rw [← e.2]; exact hH.1
    exact .inl ⟨by rw [e.1]; exact ht, by simp [Sec.holds, Sec.isH, hH.2, e.1, e.2, ht], e.1, hH.1, hH.2⟩
  · by_cases h0 : 0 < F k
    · refine .inr (.inl ⟨h0, ?_, hH⟩)
      cases hh : s.holds k (F k) with
      | false => rfl
      | true =>
        simp only [Sec.holds, Sec.isH, Bool.and_eq_true, decide_eq_true_eq] at hh
        exact absurd hh.1 hH
    · exact .inr (.inr ⟨h0, hH⟩)
end
def arr8 (F : Nat → Int) : List Value := mk 8 fun i => .int .i64 (F i)
theorem arr8_get {F : Nat → Int} {i : Nat} (h : i < 8) : (arr8 F)[i]? = some (.int .i64 (F i)) := mk_get h
theorem arr8_set {F : Nat → Int} {k : Nat} {v : Int} (hk : k < 8) : (arr8 F).set k (.int .i64 v) = arr8 (upi F k v) := mk_set _ (fun j hj => by unfold upi; split <;> rfl)
set_option maxRecDepth 100000 in
set_option maxHeartbeats 4000000 in
theorem SectOne_core (w : World) (a0 : Int) (A1 : Option Addr) (n1 c1 : Nat) (x1 : Ty.den (.sl 32 OpTy6)) (w1 : Holds w (.sl 32 OpTy6) x1 [.slice A1 n1 c1]) (m : Nat) (hm : bits .and .i64 a0 7 = m) (hm8 : m < 8) :
    Calls Try.prog 5 #[.int .i64 a0, .slice A1 n1 c1] w fun e w' => e = .returned (.bool true) ∧ Below w.heap.size w w' := by
  have W1 := Lib.hid w1
  clear w1
  go_enter Try.func5, Try.ntmps5
  go_wp2_with fail
  refine (S0.new (Keep.refl (From w.heap.size) w) ((m : Int) + 1)).mono ?_; rintro e w2 ⟨p, rfl, h2, k2⟩
  go_wp2_with fail
  have b0 : Blk (w2.alloc (.cells #[.int .i64 0, .int .i64 0, .int .i64 0, .int .i64 0, .int .i64 0, .int .i64 0, .int .i64 0, .int .i64 0] 33)) w2.heap.size 33 (arr8 (fun _ => 0)) := Blk.new w2 33 _
  have h3 := h2.nob ((Keep.refl Nob w2).alloc (.cells #[.int .i64 0, .int .i64 0, .int .i64 0, .int .i64 0, .int .i64 0, .int .i64 0, .int .i64 0, .int .i64 0] 33))
  have hg : w.heap.size ≤ w2.heap.size := h2.keep.size
  obtain ⟨g, hge⟩ : ∃ g, w2.heap.size = g := ⟨_, rfl⟩
  rw [hge] at b0 hg
  have HG := Lib.hid hge
  clear h2 k2
  go_loopw [6, 7, 9] (fun s6 s7 s9 wx => ∃ (i : Nat) (now top : Int) (F : Nat → Int) (s : Sec) (A : Option Addr) (cap : Nat), i ≤ n1 ∧ i ≤ 120 ∧ s6 = .int .i64 now ∧ s7 = .int .i64 top ∧ s9 = .int .i64 i ∧ 0 ≤ now ∧ now ≤ 3 * i ∧ 0 ≤ top ∧ top ≤ i ∧ Once s top F ∧ S0 w wx p A cap s ∧ Blk wx g 33 (arr8 F)) (fun _ _ s9 _ => 120 - (intOf s9).toNat)
  case atStart => exact ⟨0, 0, 0, fun _ => 0, Sec.new ((m : Int) + 1), none, 0, Nat.zero_le _, Nat.zero_le _, rfl, rfl, rfl, by omega, by omega, by omega, by omega, ⟨rfl, fun h => absurd h (by show ¬ (0 : Int) < 0; decide), fun _ => ⟨by omega, by omega⟩⟩, h3, b0⟩
  case round =>
    obtain ⟨i, now, top, F, s, A, cap, hi1, hi2, rfl, rfl, rfl, hn0, hn1, ht0, ht1, HO, H, hb⟩ := hrel
    rw [hge]
    clear h3 b0
    obtain ⟨bo, hbo⟩ : ∃ bo, bo = decide (i < n1 ∧ i < 120) := ⟨_, rfl⟩
    have Hbo := Lib.hid hbo
    clear hbo
    go_upto_region 8 with fail
    go_cut [29] from 22 to 29 (fun s29 wx => s29 = .bool bo ∧ wx = wr)
    case first =>
      by_cases h1 : i < n1
      · by_cases h2 : i < 120
        · have h3 : decide (i < n1 ∧ i < 120) = true := by simp [h1, h2]
          go_wp2_with fail
          go_meet
          exact ⟨by (try rw [Hbo.out, h3]); (first | rfl | exact congrArg Value.bool (decide_eq_true (by omega)) | exact congrArg Value.bool (decide_eq_false (by omega)) | skip), rfl⟩
        · have h3 : decide (i < n1 ∧ i < 120) = false := by simp [h2]
          go_wp2_with fail
          go_meet
          exact ⟨by (try rw [Hbo.out, h3]); (first | rfl | exact congrArg Value.bool (decide_eq_true (by omega)) | exact congrArg Value.bool (decide_eq_false (by omega)) | skip), rfl⟩
      · have h3 : decide (i < n1 ∧ i < 120) = false := by simp [h1]
        go_wp2_with fail
        go_meet
        exact ⟨by (try rw [Hbo.out, h3]); (first | rfl | exact congrArg Value.bool (decide_eq_true (by omega)) | exact congrArg Value.bool (decide_eq_false (by omega)) | skip), rfl⟩
    case rest =>
    obtain ⟨rfl, hw⟩ := hcut
    have hw := hw.symm
    subst hw
    cases bo with
    | true =>
      obtain ⟨hl1, hl2⟩ : i < n1 ∧ i < 120 := of_decide_eq_true Hbo.out.symm
      obtain ⟨bb, off, cs', hA0, hcl, hcc, hk', hh⟩ := holds_at W1.out (by decide) hl1
      obtain ⟨o0, o1, o2, o3, rfl⟩ := op6_cells hh
      subst hA0
      have f0 := H.keep.cell_from (hcc 0 _ rfl)
      have f1 := H.keep.cell_from (hcc 1 _ rfl)
      have f3 := H.keep.cell_from (hcc 3 _ rfl)
      simp only [show OpTy6.size = 4 from rfl, Nat.add_zero] at f0 f1 f3
      clear hcc hcl hh hk'
      obtain ⟨k, hk⟩ : ∃ k : Nat, o1 % 8 = (k : Int) := ⟨(o1 % 8).toNat, by omega⟩
      obtain ⟨t, htt⟩ : ∃ t : Nat, o3 % 4 = (t : Int) := ⟨(o3 % 4).toNat, by omega⟩
      have hk8 : k < 8 := by omega
      have ht4 : t < 4 := by omega
      have HE := Lib.hid hge
      clear hge
      have hcell : ∀ {wx : World} {F : Nat → Int} {j : Nat}, Blk wx g 33 (arr8 F) → j < 8 → wx.cell? ⟨g, j, none⟩ = some (.int .i64 (F j)) := fun h hj => by rw [h.cell, arr8_get hj]
      have hck := hcell hb hk8
      go_upto_if 52 with fail
      go_cut [7, 11, 12] from 51 to 88 (fun s7 _ _ wx => ∃ (top : Int) (F : Nat → Int) (s : Sec) (A : Option Addr) (cap : Nat), s7 = .int .i64 top ∧ 0 ≤ top ∧ top ≤ i + 1 ∧ Once s top F ∧ S0 w wx p A cap s ∧ Blk wx g 33 (arr8 F))
      case first =>
        by_cases ho : o0 % 2 = 0
        · obtain ⟨v, b, s', hen⟩ : ∃ v b s', s.enter k (now + t) = (v, b, s') := ⟨_, _, _, rfl⟩
          have hcs := enter_cases (by omega) (by omega) hen
          have he := H.enter k (now + t) (by omega) (by rw [HO.st]; omega) v b s' hen
          rcases hcs with ⟨rfl, hH, hv, hs'⟩ | ⟨rfl, hv, h1, h2, h3⟩ | ⟨rfl, hv, h1, h2⟩
          · have hy := HO.yes hk8 hH
            have hvF : v = F k := by rw [hv, hy.1, hy.2]
            subst hvF
            have HS := Lib.hid (And.intro hs' HO)
            clear hs' hv hy hen HO
            generalize F k = v at *
            go_wp2_with fail
            refine he.mono ?_; rintro e w4 ⟨rfl, A4, c4, h4, k4⟩
            have b4 := H.offT hb (by decide) (by decide) k4
            have hck4 : w4.cell? ⟨g, k, none⟩ = some (.int .i64 v) := by rw [← hck, b4.cell, hb.cell]
            go_wp2_with fail
            go_meet
            exact ⟨top, F, s', A4, c4, rfl, ht0, by omega, by rw [HS.out.1]; exact HS.out.2.tick, h4, b4⟩
          · have hle := HO.le k
            have HS := Lib.hid (And.intro (And.intro h1 h2) (And.intro h3 HO))
            have hvt : v = top + 1 := by rw [hv, HO.st]
            subst hvt
            clear hv h1 h2 h3 hen HO
            obtain ⟨f, hf⟩ : ∃ f, F k = f := ⟨_, rfl⟩
            rw [hf] at hle hck
            have hne : ((top + 1) == f) = false := by simp; omega
            go_wp2_with fail
            refine he.mono ?_; rintro e w4 ⟨rfl, A4, c4, h4, k4⟩
            have b4 := H.offT hb (by decide) (by decide) k4
            have hck4 : w4.cell? ⟨g, k, none⟩ = some (.int .i64 f) := by rw [← hck, b4.cell, hb.cell]
            have hfr := b4.frozen k
            have k5 : Keep (· = g) w4 (w4.setCell ⟨g, k, none⟩ (.int .i64 (top + 1))) := (Keep.refl (· = g) w4).setCell ⟨g, k, none⟩ _ (fun _ => rfl)
            have b5 := b4.setCell k (.int .i64 (top + 1))
            rw [arr8_set hk8] at b5
            have h5 := h4.farT b4 (by decide) (by decide) hg k5
            go_wp2_with fail
            go_meet
            exact ⟨top + 1, _, s', A4, c4, rfl, by omega, by omega, HS.out.2.2.next hk8 HS.out.1.1 HS.out.1.2 HS.out.2.1, h5, b5⟩
          · subst hv
            have HS := Lib.hid (And.intro (And.intro h1 h2) HO)
            clear h1 h2 hen HO
            go_wp2_with fail
            refine he.mono ?_; rintro e w4 ⟨rfl, A4, c4, h4, k4⟩
            have b4 := H.offT hb (by decide) (by decide) k4
            go_wp2_with fail
            go_meet
            exact ⟨top, F, s', A4, c4, rfl, ht0, by omega, HS.out.2.stay HS.out.1.1 HS.out.1.2, h4, b4⟩
        · obtain ⟨f, hf⟩ : ∃ f, F k = f := ⟨_, rfl⟩
          rw [hf] at hck
          cases hh : s.holds k f with
          | true =>
            have he := H.leave k f true s.rel (by unfold Sec.leave; rw [hh]; rfl)
            go_wp2_with fail
            refine he.mono ?_; rintro e w4 ⟨rfl, h4, k4⟩
            have b4 := H.offT hb (by decide) (by decide) k4
            have hck4 : w4.cell? ⟨g, k, none⟩ = some (.int .i64 f) := by rw [← hck, b4.cell, hb.cell]
            go_wp2_with fail
            refine (holds_is h4.is k f false rfl).mono ?_; rintro e w5 ⟨rfl, rfl⟩
            go_wp2_with fail
            go_meet
            exact ⟨top, F, s.rel, A, cap, rfl, ht0, by omega, HO.stay rfl (.inr rfl), h4, b4⟩
          | false =>
            have he := H.leave k f false s (by unfold Sec.leave; rw [hh]; rfl)
            go_wp2_with fail
            refine he.mono ?_; rintro e w4 ⟨rfl, h4, k4⟩
            have b4 := H.offT hb (by decide) (by decide) k4
            go_wp2_with fail
            go_meet
            exact ⟨top, F, s, A, cap, rfl, ht0, by omega, HO, h4, b4⟩
      case rest =>
      obtain ⟨top', F', s', A', cap', rfl, ht0', ht1', HO', H', hb'⟩ := hcut
      clear HO H hb hck ht0 ht1
      go_wp2_with fail
      go_loop [13, 14] (fun s13 s14 => ∃ (j : Nat) (c : Int), j ≤ 8 ∧ s14 = .int .i64 j ∧ s13 = .int .i64 c ∧ c = (if 0 < s'.stamp ∧ s'.who < j then 1 else 0)) (fun _ s14 => 8 - (intOf s14).toNat)
      case atStart => exact ⟨0, 0, Nat.zero_le _, rfl, rfl, by rw [if_neg]; rintro ⟨_, h2⟩; have := H'.ok.wr; omega⟩
      case round =>
        obtain ⟨j, c, hj, rfl, rfl, hc⟩ := hrel
        by_cases hj8 : j < 8
        · have hcj := hcell hb' hj8
          have hsee := HO'.see hj8
          have hC := Lib.hid hc
          clear hc
          obtain ⟨f, hf⟩ : ∃ f, F' j = f := ⟨_, rfl⟩
          rw [hf] at hsee hcj
          clear hf
          rcases hsee with ⟨h1, h2, h3, h4, h5⟩ | ⟨h1, h2, h3⟩ | ⟨h1, h3⟩
          · have hc0 : c = 0 := by rw [hC.out, if_neg]; omega
            subst hc0
            subst h3
            have hq := holds_is H'.is j f true h2
            clear h2
            go_wp2_with fail
            refine hq.mono ?_; rintro e w5 ⟨rfl, rfl⟩
            go_wp2_with fail
            go_round
            case rel => exact ⟨j + 1, 1, by omega, by go_num, rfl, by rw [if_pos]; exact ⟨h4, by omega⟩⟩
            case measure => simp [intOf]; omega
          · have hq := holds_is H'.is j f false h2
            have hcn : c = (if 0 < s'.stamp ∧ s'.who < ((j + 1 : Nat) : Int) then 1 else 0) := by
              rw [hC.out]
              by_cases hx : 0 < s'.stamp ∧ s'.who < j
              · rw [if_pos hx, if_pos ⟨hx.1, by omega⟩]
              · rw [if_neg hx, if_neg (fun hy => by
                  by_cases hz : s'.who = j
                  · exact h3 ⟨hy.1, hz⟩
                  · exact hx ⟨hy.1, by omega⟩)]
            have hCN := Lib.hid hcn
            clear h2 h3 hcn
            go_wp2_with fail
            refine hq.mono ?_; rintro e w5 ⟨rfl, rfl⟩
            go_wp2_with fail
            go_round
            case rel => exact ⟨j + 1, c, by omega, by go_num, rfl, hCN.out⟩
            case measure => simp [intOf]; omega
          · have hcn : c = (if 0 < s'.stamp ∧ s'.who < ((j + 1 : Nat) : Int) then 1 else 0) := by
              rw [hC.out]
              by_cases hx : 0 < s'.stamp ∧ s'.who < j
              · rw [if_pos hx, if_pos ⟨hx.1, by omega⟩]
              · rw [if_neg hx, if_neg (fun hy => by
                  by_cases hz : s'.who = j
                  · exact h3 ⟨hy.1, hz⟩
                  · exact hx ⟨hy.1, by omega⟩)]
            have hCN := Lib.hid hcn
            clear h3 hcn
            go_wp2_with fail
            go_round
            case rel => exact ⟨j + 1, c, by omega, by go_num, rfl, hCN.out⟩
            case measure => simp [intOf]; omega
        · have hcl : c ≤ 1 := by rw [hc]; split <;> omega
          clear hc
          obtain rfl : j = 8 := by omega
          go_wp2_with fail
          go_roundw
          case rel => exact ⟨i + 1, now + t, top', F', s', A', cap', by omega, by omega, rfl, rfl, by go_num, by omega, by omega, ht0', by omega, HO', H', hb'⟩
          case measure => simp [intOf]; omega
    | false =>
      go_wp2_with fail
      refine (awake_true _).mono ?_; rintro e w7 ⟨rfl, k7⟩
      go_wp2_with fail
      go_ret
      exact ⟨rfl, (H.nob k7).keep.done⟩
theorem SectOne_walk (w : World) (a0 : Int) (w0 : (Lit.int .i64 a0).wf = true) (A1 : Option Addr) (n1 c1 : Nat) (x1 : Ty.den (.sl 32 (.pair (.int .i64) (.pair (.int .i64) (.pair (.int .i64) (.pair (.int .i64) .unit)))))) (w1 : Holds w (.sl 32 (.pair (.int .i64) (.pair (.int .i64) (.pair (.int .i64) (.pair (.int .i64) .unit))))) x1 [.slice A1 n1 c1]) :
    Calls Try.prog 5 #[.int .i64 a0, .slice A1 n1 c1] w fun e w' => e = .returned (.bool true) ∧ Below w.heap.size w w' := by
  obtain ⟨m, hm⟩ := Int.eq_ofNat_of_zero_le (show 0 ≤ a0 % 8 by omega)
  exact SectOne_core w a0 A1 n1 c1 x1 w1 m ((i64_and7 a0).trans hm) (by omega)
end Go.Proofs.Ytflibnoidhljpaa
