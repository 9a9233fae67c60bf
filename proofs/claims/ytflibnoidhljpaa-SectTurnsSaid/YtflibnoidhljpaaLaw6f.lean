/- The walk of SectTurns. -/
import Derived.Test.YtflibnoidhljpaaLaw6d
namespace Go.Proofs.Ytflibnoidhljpaa
open Go.RowKit
set_option linter.unusedVariables false
set_option linter.unusedSimpArgs false
theorem enter_empty {s : Sec} {x now : Int} (h0 : 0 ≤ x) (h9 : x ≤ 99) (hs : s.stamp = 0) (hq : s.q = []) :
    s.enter x now = (s.stamps + 1, true, { s with now := max s.now now, who := x, stamp := s.stamps + 1, stamps := s.stamps + 1, since := max s.now now, q := [], first := max s.now now }) := by
  have h1 : ¬ (x < 0 ∨ 99 < x) := by omega
  have e1 : (s.tick now).isH x = false := by simp [Sec.tick, Sec.isH, hs]
  have e3 : (s.tick now).ask x = { s with now := max s.now now, q := [x], first := max s.now now } := by
    unfold Sec.ask Sec.wait
    rw [if_neg (by show x ∉ s.q; rw [hq]; simp)]
    unfold Sec.pass1
    rw [if_neg (by simp [Sec.held, Sec.tick, hs])]
    unfold Sec.pass2
    rw [if_neg (by simp [Sec.tick, hq])]
    simp [Sec.tick, hq]
  unfold Sec.enter
  rw [if_neg h1]
  unfold Sec.enterIn
  rw [e1, e3]
  simp [Sec.held, Sec.letIn, hs]
theorem turn_step {s : Sec} {x : Int} (h0 : 0 ≤ x) (h9 : x ≤ 99) (hs : s.stamp = 0) (hq : s.q = []) (hp : 0 ≤ s.stamps) : ∃ s', s.enter x 0 = (s.stamps + 1, true, s') ∧ s'.leave x (s.stamps + 1) = (true, s'.rel) ∧ s'.q = [] ∧ s'.stamps = s.stamps + 1 := by
  refine ⟨_, enter_empty h0 h9 hs hq, ?_, rfl, rfl⟩
  have : 0 < s.stamps + 1 := by omega
  unfold Sec.leave
  rw [if_pos]
  simp only [Sec.holds, Sec.isH, this, decide_true, Bool.and_self]
theorem turn_all {n kk j : Nat} (h2 : 2 ≤ n) (hj : j < n) : ∃ i, i < n ∧ (i + kk) % n = j := by
  refine ⟨(j + (n - kk % n)) % n, Nat.mod_lt _ (by omega), ?_⟩
  have hk : kk % n < n := Nat.mod_lt _ (by omega)
  rw [Nat.add_mod, Nat.mod_mod, ← Nat.add_mod, Nat.add_mod, show (j + (n - kk % n)) % n = (j + (n - kk % n)) % n from rfl, ← Nat.add_mod]
  have e : j + (n - kk % n) + kk = j + n * (1 + kk / n) := by
    have := Nat.div_add_mod kk n
    rw [Nat.mul_add, Nat.mul_one]
    omega
  rw [e, Nat.add_mul_mod_self_left, Nat.mod_eq_of_lt hj]
set_option maxRecDepth 100000 in
set_option maxHeartbeats 4000000 in
theorem SectTurns_core (w : World) (a0 a1 : Int) (A2 : Option Addr) (n2 c2 : Nat) (x2 : List Int) (w2 : Holds w (.sl 8 (.int .i64)) x2 [.slice A2 n2 c2]) (m b q : Nat) (hm : bits .and .i64 a0 15 = m) (hm8 : m < 16) (hb : bits .and .i64 a1 255 = b) (hq1 : (b : Int) % 7 = q) (hq2 : (b : Int).tmod 7 = q) (hq7 : q < 7) :
    Calls Try.prog 7 #[.int .i64 a0, .int .i64 a1, .slice A2 n2 c2] w fun e w' => e = .returned (.bool true) ∧ Below w.heap.size w w' := by
  have W2 := Lib.hid w2
  clear w2
  go_enter Try.func7, Try.ntmps7
  go_wp2_with fail
  refine (S0.new (Keep.refl (From w.heap.size) w) ((m : Int) + 2)).mono ?_; rintro e w3 ⟨p, rfl, h2, k2⟩
  have b0 : Blk (w3.alloc (.cells #[.int .i64 0, .int .i64 0, .int .i64 0, .int .i64 0, .int .i64 0, .int .i64 0, .int .i64 0, .int .i64 0] 33)) w3.heap.size 33 (arr8 (fun _ => 0)) := Blk.new w3 33 _
  have h3 := h2.nob ((Keep.refl Nob w3).alloc (.cells #[.int .i64 0, .int .i64 0, .int .i64 0, .int .i64 0, .int .i64 0, .int .i64 0, .int .i64 0, .int .i64 0] 33))
  have hg : w.heap.size ≤ w3.heap.size := h2.keep.size
  obtain ⟨g, hge⟩ : ∃ g, w3.heap.size = g := ⟨_, rfl⟩
  rw [hge] at b0 hg
  clear h2 k2
  go_wp2_with fail
  go_loopw [9] (fun s9 wx => ∃ (r : Nat) (F : Nat → Int) (s : Sec) (A : Option Addr) (cap : Nat), r ≤ 20 ∧ s9 = .int .i64 r ∧ (∀ k, 0 ≤ F k ∧ F k ≤ 8 * r) ∧ (1 ≤ r → ∀ k, k < q + 2 → 1 ≤ F k) ∧ s.stamp = 0 ∧ s.q = [] ∧ s.stamps ≤ 8 * r ∧ S0 w wx p A cap s ∧ Blk wx g 33 (arr8 F)) (fun s9 _ => 20 - (intOf s9).toNat)
  case atStart => exact ⟨0, fun _ => 0, Sec.new ((m : Int) + 2), none, 0, by omega, rfl, fun _ => ⟨Int.le_refl _, by show (0 : Int) ≤ _; omega⟩, fun h => by omega, rfl, rfl, by show (0 : Int) ≤ _; omega, h3, b0⟩
  case round =>
    obtain ⟨r, F, s, A, cap, hr, rfl, hF, hF1, hs0, hsq, hst, H, hbk⟩ := hrel
    clear h3 b0
    by_cases hlt : r < 20
    · go_upto_if 36 with fail
      go_cut [10] from 36 to 41 (fun s10 wx => (∃ kk : Nat, s10 = .int .i64 kk ∧ kk < 8) ∧ wx = wr)
      case first =>
        by_cases hn : r < n2
        · obtain ⟨bb, off, rfl, x, hx⟩ := holds_int_at W2.out hn
          have hxr := H.keep.cell_from hx
          obtain ⟨kk, hkk⟩ : ∃ kk : Nat, x % 8 = (kk : Int) := ⟨(x % 8).toNat, by omega⟩
          go_wp2_with fail
          go_meet
          exact ⟨⟨kk, rfl, by omega⟩, rfl⟩
        · go_wp2_with fail
          go_meet
          exact ⟨⟨0, rfl, by omega⟩, rfl⟩
      case rest =>
      obtain ⟨⟨kk, rfl, hk8⟩, hw⟩ := hcut
      have hw := hw.symm
      subst hw
      go_wp2_with fail
      go_loopw [11] (fun s11 wx => ∃ (i : Nat) (F : Nat → Int) (s : Sec) (A : Option Addr) (cap : Nat), i ≤ q + 2 ∧ s11 = .int .i64 i ∧ (∀ k, 0 ≤ F k ∧ F k ≤ 8 * r + i) ∧ (∀ i', i' < i → 1 ≤ F ((i' + kk) % (q + 2))) ∧ s.stamp = 0 ∧ s.q = [] ∧ s.stamps ≤ 8 * r + i ∧ S0 w wx p A cap s ∧ Blk wx g 33 (arr8 F)) (fun s11 _ => 10 - (intOf s11).toNat)
      case atStart => exact ⟨0, F, s, A, cap, by omega, rfl, fun k => by have := hF k; omega, fun i' h => by omega, hs0, hsq, by omega, H, hbk⟩
      case round =>
        clear hF hF1 hs0 hsq hst H hbk
        obtain ⟨i, F, s, A, cap, hi, rfl, hF, hF1, hs0, hsq, hst, H, hbk⟩ := hrel
        by_cases hlt2 : i < q + 2
        · obtain ⟨j, hj⟩ : ∃ j, (i + kk) % (q + 2) = j := ⟨_, rfl⟩
          have hj8 : j < q + 2 := by rw [← hj]; exact Nat.mod_lt _ (by omega)
          have hj1 : ((i : Int) + (kk : Int)) % ((q : Int) + 2) = j := by rw [← hj]; simp
          have hj2 : ((i : Int) + (kk : Int)).tmod ((q : Int) + 2) = j := by rw [Int.tmod_eq_emod_of_nonneg (by omega)]; exact hj1
          have hp := H.ok.p0
          obtain ⟨s', hen, hlv, hq', hs'⟩ := turn_step (s := s) (x := j) (by omega) (by omega) hs0 hsq hp
          have he := H.enter j 0 (by decide) (by omega) _ _ _ hen
          obtain ⟨st, hst1⟩ : ∃ st, s.stamps + 1 = st := ⟨_, rfl⟩
          have hcj : wr.cell? ⟨g, j, none⟩ = some (.int .i64 (F j)) := by rw [hbk.cell, arr8_get (by omega)]
          have hFj := hF j
          have HF := Lib.hid (And.intro hF hF1)
          rw [hst1] at hlv he hs'
          have HS := Lib.hid (And.intro (show s'.rel.q = [] from hq') (show s'.rel.stamps = st from hs'))
          have HV := Lib.hid hlv
          clear hF hF1 hs0 hsq hen hlv hq' hs' hp
          obtain ⟨f, hf⟩ : ∃ f, F j = f := ⟨_, rfl⟩
          rw [hf] at hcj hFj
          have HFJ := Lib.hid hf
          have HJ := Lib.hid hj
          have HST := Lib.hid hst1
          clear hf hj hst1
          go_wp2_with fail
          refine he.mono ?_; rintro e w4 ⟨rfl, A4, c4, h4, k4⟩
          have b4 := H.offT hbk (by decide) (by decide) k4
          have hc4 : w4.cell? ⟨g, j, none⟩ = some (.int .i64 f) := by rw [← hcj, b4.cell, hbk.cell]
          have hfr := b4.frozen j
          have k5 : Keep (· = g) w4 (w4.setCell ⟨g, j, none⟩ (.int .i64 (f + 1))) := (Keep.refl (· = g) w4).setCell ⟨g, j, none⟩ _ (fun _ => rfl)
          have b5 := b4.setCell j (.int .i64 (f + 1))
          rw [arr8_set (by omega)] at b5
          have h5 := h4.farT b4 (by decide) (by decide) hg k5
          go_wp2_with fail
          refine (h5.leave j st true _ HV.out).mono ?_; rintro e w6 ⟨rfl, h6, k6⟩
          have b6 := h5.offT b5 (by decide) (by decide) k6
          go_wp2_with fail
          go_roundw
          case rel => exact ⟨i + 1, upi F j (f + 1), s'.rel, A4, c4, by omega, by go_num, fun k => by
              have := HF.out.1 k
              unfold upi
              split <;> omega, fun i' hi' => by
              unfold upi
              by_cases e : (i' + kk) % (q + 2) = j
              · rw [if_pos e]; omega
              · rw [if_neg e]
                exact HF.out.2 i' (by
                  rcases Nat.lt_or_ge i' i with h | h
                  · exact h
                  · obtain rfl : i' = i := by omega
                    exact absurd HJ.out e), rfl, HS.out.1, by rw [HS.out.2]; have := HST.out; omega, h6, b6⟩
          case measure => simp [intOf]; omega
        · obtain rfl : i = q + 2 := by omega
          have hall : ∀ k, k < q + 2 → 1 ≤ F k := fun k hk => by
            obtain ⟨i, hi, he⟩ := turn_all (n := q + 2) (kk := kk) (j := k) (by omega) hk
            rw [← he]
            exact hF1 i hi
          have HF := Lib.hid (And.intro hF hall)
          clear hF hF1 hall
          go_wp2_with fail
          go_roundw
          case rel => exact ⟨r + 1, F, s, A, cap, by omega, by go_num, fun k => by have := HF.out.1 k; omega, fun _ => HF.out.2, hs0, hsq, by omega, H, hbk⟩
          case measure => simp [intOf]; omega
    · have hF1 := hF1 (by omega)
      have hc0 : wr.cell? ⟨g, 0, none⟩ = some (.int .i64 (F 0)) := by rw [hbk.cell, arr8_get (by omega)]
      have hcd : wr.drew.cell? ⟨g, 0, none⟩ = some (.int .i64 (F 0)) := hc0
      have hF0 := hF1 0 (by omega)
      have HF := Lib.hid (And.intro hF hF1)
      clear hF hF1
      go_wp2_with fail
      go_region
      all_goals
        go_wp2_with fail
        go_loopw [15, 16, 17] (fun s15 s16 s17 wx => ∃ (k : Nat) (lo hi : Int), 1 ≤ k ∧ k ≤ q + 2 ∧ s15 = .int .i64 lo ∧ s16 = .int .i64 hi ∧ s17 = .int .i64 k ∧ 0 < lo ∧ S0 w wx p A cap s ∧ Blk wx g 33 (arr8 F)) (fun _ _ s17 _ => 10 - (intOf s17).toNat)
        case atStart => exact ⟨1, F 0, F 0, by omega, by omega, rfl, rfl, rfl, by omega, H.nob ((Keep.refl Nob _).drew), hbk.drew⟩
        case round =>
          clear hc0 hcd H hbk
          obtain ⟨k, lo, hi, hk1, hk2, rfl, rfl, rfl, hlo, H, hbk⟩ := hrel
          by_cases hlt3 : k < q + 2
          · have hfk := HF.out.2 k hlt3
            obtain ⟨f, hf⟩ : ∃ f, F k = f := ⟨_, rfl⟩
            have hc0 : wr.cell? ⟨g, k, none⟩ = some (.int .i64 f) := by rw [hbk.cell, arr8_get (by omega), hf]
            have hcd : wr.drew.cell? ⟨g, k, none⟩ = some (.int .i64 f) := hc0
            rw [hf] at hfk
            have hk8 : k < 8 := by omega
            clear hf
            by_cases h1 : f < lo
            · by_cases h2 : hi < f
              · go_wp2_with fail
                go_region
                all_goals
                  go_wp2_with fail
                  go_roundw
                  case rel => exact ⟨k + 1, _, _, by omega, by omega, rfl, rfl, by go_num, by omega, H.nob ((Keep.refl Nob _).drew), hbk.drew⟩
                  case measure => simp [intOf]; omega
              · go_wp2_with fail
                go_region
                all_goals
                  go_wp2_with fail
                  go_roundw
                  case rel => exact ⟨k + 1, _, _, by omega, by omega, rfl, rfl, by go_num, by omega, H.nob ((Keep.refl Nob _).drew), hbk.drew⟩
                  case measure => simp [intOf]; omega
            · by_cases h2 : hi < f
              · go_wp2_with fail
                go_region
                all_goals
                  go_wp2_with fail
                  go_roundw
                  case rel => exact ⟨k + 1, _, _, by omega, by omega, rfl, rfl, by go_num, by omega, H.nob ((Keep.refl Nob _).drew), hbk.drew⟩
                  case measure => simp [intOf]; omega
              · go_wp2_with fail
                go_region
                all_goals
                  go_wp2_with fail
                  go_roundw
                  case rel => exact ⟨k + 1, _, _, by omega, by omega, rfl, rfl, by go_num, by omega, H.nob ((Keep.refl Nob _).drew), hbk.drew⟩
                  case measure => simp [intOf]; omega
          · go_wp2_with fail
            refine (awake_true _).mono ?_; rintro e w7 ⟨rfl, k7⟩
            go_wp2_with fail
            go_ret
            exact ⟨rfl, (H.nob k7).keep.done⟩
theorem SectTurns_walk (w : World) (a0 : Int) (w0 : (Lit.int .i64 a0).wf = true) (a1 : Int) (w1 : (Lit.int .i64 a1).wf = true) (A2 : Option Addr) (n2 c2 : Nat) (x2 : Ty.den (.sl 8 (.int .i64))) (w2 : Holds w (.sl 8 (.int .i64)) x2 [.slice A2 n2 c2]) :
    Calls Try.prog 7 #[.int .i64 a0, .int .i64 a1, .slice A2 n2 c2] w fun e w' => e = .returned (.bool true) ∧ Below w.heap.size w w' := by
  obtain ⟨m, hm⟩ := Int.eq_ofNat_of_zero_le (show 0 ≤ a0 % 16 by omega)
  obtain ⟨b, hb⟩ := Int.eq_ofNat_of_zero_le (show 0 ≤ a1 % 256 by omega)
  exact SectTurns_core w a0 a1 A2 n2 c2 x2 w2 m b (b % 7) ((i64_and15 a0).trans hm) (by omega) ((i64_and255 a1).trans hb) (by omega) (by rw [Int.tmod_eq_emod_of_nonneg (by omega)]; omega) (Nat.mod_lt _ (by decide))
end Go.Proofs.Ytflibnoidhljpaa
