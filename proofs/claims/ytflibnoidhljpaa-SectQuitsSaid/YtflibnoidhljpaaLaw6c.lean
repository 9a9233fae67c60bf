/- The walk of SectQuits. -/
import Derived.Test.YtflibnoidhljpaaLaw6b
namespace Go.Proofs.Ytflibnoidhljpaa
open Go.RowKit
set_option linter.unusedVariables false
set_option linter.unusedSimpArgs false
/-- 50 holds; q waits. -/
def qh (now : Int) (q : List Int) : Sec := ⟨100, now, 1, 50, 1, 0, q, now⟩
def qf (q : List Int) : Sec := ⟨100, 1, 1, 0, 0, 0, q, 1⟩
theorem qh_wait {now : Int} {i : Nat} (hi : i ≤ 20) (hn : now = if i = 0 then 0 else 1) : (qh now (run 0 i)).enter i 1 = (0, false, qh 1 (run 0 (i + 1))) := by
  have hm : max now 1 = 1 := by rw [hn]; split <;> omega
  have h := enter_waits (s := qh now (run 0 i)) (x := i) (now := 1) (by omega) (by omega) (by show (0 : Int) < 1; decide) (by simp [qh]; omega) (by simp only [qh]; rw [run_mem]; omega) (by simp [qh, hm])
  rw [h]
  simp only [qh, hm]
  rw [show (i : Int) = 0 + i from by omega, run_snoc, run_len]
  by_cases e : i = 0
  · simp [e]
  · rw [if_neg e]
    rw [if_neg e] at hn
    rw [hn]
theorem qh_quit {m j : Nat} (hj : j < m + 1) (hm : m ≤ 20) : (qh 1 (run 0 (m + 1))).quit j = qh 1 ((run 0 (m + 1)).eraseIdx j) := by
  have h1 : (j : Int) ∈ run 0 (m + 1) := by rw [run_mem]; omega
  have h2 := run_idx (m + 1) 0 j hj
  rw [Int.zero_add] at h2
  have e : (qh 1 (run 0 (m + 1))).out j = qh 1 ((run 0 (m + 1)).eraseIdx j) := by
    unfold Sec.out
    rw [if_pos (by exact h1)]
    simp only [qh, Sec.rem, h2]
    split <;> rfl
  unfold Sec.quit
  rw [e, if_neg (show ¬ (qh 1 ((run 0 (m + 1)).eraseIdx j)).isH j = true from fun h => by
    unfold Sec.isH at h
    rw [Bool.and_eq_true, decide_eq_true_eq, decide_eq_true_eq] at h
    have h3 : (50 : Int) = (j : Int) := h.2
    omega)]
theorem qh_gone {q : List Int} (hq : (50 : Int) ∉ q) : (qh 1 q).quit 50 = qf q := by
  have e : (qh 1 q).out 50 = qh 1 q := by unfold Sec.out; exact if_neg hq
  unfold Sec.quit
  rw [e]
  rfl
theorem er_get {m j i : Nat} (hj : j < m + 1) (hi : i < m) : ((run 0 (m + 1)).eraseIdx j)[i]? = some (if i < j then (i : Int) else i + 1) := by
  rw [List.getElem?_eraseIdx]
  by_cases h : i < j
  · rw [if_pos h, if_pos h, run_get _ _ _ (by omega)]; simp
  · rw [if_neg h, if_neg h, run_get _ _ _ (by omega)]; simp
set_option maxRecDepth 100000 in
set_option maxHeartbeats 4000000 in
theorem SectQuits_core (w : World) (a0 a1 : Int) (m b j : Nat) (hm : bits .and .i64 a0 7 = m) (hm8 : m < 8) (hb : bits .and .i64 a1 255 = b) (hj1 : (b : Int) % ((m : Int) + 1) = j) (hj2 : (b : Int).tmod ((m : Int) + 1) = j) (hj : j < m + 1) :
    Calls Try.prog 8 #[.int .i64 a0, .int .i64 a1] w fun e w' => e = .returned (.bool true) ∧ Below w.heap.size w w' := by
  go_enter Try.func8, Try.ntmps8
  go_wp2_with fail
  refine (S0.new (Keep.refl (From w.heap.size) w) 100).mono ?_; rintro e w2 ⟨p, rfl, h2, k2⟩
  go_wp2_with fail
  refine (h2.enter 50 0 (by decide) (by decide) 1 true (qh 0 []) rfl).mono ?_; rintro e w3 ⟨rfl, A3, c3, h3, k3⟩
  clear h2 k2 k3
  go_wp2_with fail
  go_loopw [8] (fun s8 wx => ∃ (i : Nat) (now : Int) (A : Option Addr) (cap : Nat), i ≤ m + 1 ∧ s8 = .int .i64 i ∧ now = (if i = 0 then 0 else 1) ∧ S0 w wx p A cap (qh now (run 0 i))) (fun s8 _ => 10 - (intOf s8).toNat)
  case atStart => exact ⟨0, 0, A3, c3, Nat.zero_le _, rfl, rfl, h3⟩
  case round =>
    obtain ⟨i, now, A, cap, hi, rfl, hnow, H⟩ := hrel
    clear h3
    by_cases hlt : i < m + 1
    · have he := H.enter i 1 (by decide) (by show (1 : Int) < 4611686018427387904; decide) 0 false _ (qh_wait (by omega) hnow)
      clear hnow
      go_wp2_with fail
      refine he.mono ?_; rintro e w4 ⟨rfl, A4, c4, h4, k4⟩
      go_wp2_with fail
      go_roundw
      case rel => exact ⟨i + 1, 1, A4, c4, by omega, by go_num, by simp, h4⟩
      case measure => simp [intOf]; omega
    · obtain rfl : i = m + 1 := by omega
      obtain rfl : now = 1 := by rw [hnow]; simp
      clear hnow hlt hi
      go_wp2_with fail
      refine (H.quit j _ (qh_quit hj (by omega))).mono ?_; rintro e w4 ⟨rfl, h4, k4⟩
      have hql : ((run 0 (m + 1)).eraseIdx j).length = m := by rw [List.length_eraseIdx, run_len, if_pos hj]; omega
      have hqu := queue_is h4.is h4.ok
      rw [show (qh 1 ((run 0 (m + 1)).eraseIdx j)).q.length = m from hql] at hqu
      have hget := fun i hi => er_get (m := m) (j := j) (i := i) hj hi
      have h50 : (50 : Int) ∉ (run 0 (m + 1)).eraseIdx j := fun hx => by
        have := mem_eraseIdx hx
        rw [run_mem] at this
        omega
      have hqe : (qh 1 ((run 0 (m + 1)).eraseIdx j)).q = (run 0 (m + 1)).eraseIdx j := rfl
      rw [hqe] at hqu
      have HQ := Lib.hid hql
      have HG := Lib.hid hget
      clear H k4 hql hget hqe
      generalize (run 0 (m + 1)).eraseIdx j = q at *
      go_wp2_with fail
      refine hqu.mono ?_; rintro e w5 ⟨A5, c5, rfl, hv5, ho5, k5⟩
      have h5 := h4.nob k5
      have far : ∀ ad, A5 = some ad → ¬ SecB p A ad.block := fun ad e m => by
        have h1 := ho5 ad.block ⟨ad, e, rfl⟩
        rcases m with m | m
        · have := h4.is.obj.lt; omega
        · have := h4.is.row.lt _ m; omega
      have hr5 := hv5.reads
      rw [Nat.mul_one] at hr5
      clear hqu h4 k5 hv5 ho5
      have HR := Lib.hid hr5
      go_wp2_with fail
      go_loop [12] (fun s => ∃ i : Nat, i ≤ m ∧ s = .int .i64 i) (fun s => m - (intOf s).toNat)
      case atStart => exact ⟨0, Nat.zero_le _, rfl⟩
      case round =>
        obtain ⟨i, hi, rfl⟩ := hrel
        by_cases hlt : i < m
        · obtain ⟨g, off, rfl, hc⟩ := HR.out.lit (by omega)
          have hci := hc i (.int .i64 (if i < j then (i : Int) else i + 1)) (by rw [ints_get, HG.out i hlt]; rfl)
          clear hc
          by_cases hij : i < j
          · rw [if_pos hij] at hci
            go_wp2_with fail
            go_round
            case rel => exact ⟨i + 1, by omega, by go_num⟩
            case measure => simp [intOf]; omega
          · rw [if_neg hij] at hci
            go_wp2_with fail
            go_round
            case rel => exact ⟨i + 1, by omega, by go_num⟩
            case measure => simp [intOf]; omega
        · obtain rfl : i = m := by omega
          go_wp2_with fail
          refine (holds_is h5.is 50 1 true rfl).mono ?_; rintro e w6 ⟨rfl, rfl⟩
          go_wp2_with fail
          refine (h5.quit 50 _ (qh_gone h50)).mono ?_; rintro e w6 ⟨rfl, h6, k6⟩
          go_wp2_with fail
          refine (holder_is h6.is).mono ?_; rintro e w7 ⟨rfl, mm, rfl⟩
          have h7 := h6.nob ((Keep.refl Nob w6).drewN mm)
          go_wp2_with fail
          refine (holds_is h7.is 50 1 false rfl).mono ?_; rintro e w8 ⟨rfl, rfl⟩
          by_cases hz : i = 0
          · subst hz
            go_wp2_with fail
            refine (awake_true _).mono ?_; rintro e w8 ⟨rfl, k8⟩
            go_wp2_with fail
            go_ret
            exact ⟨rfl, (h7.nob k8).keep.done⟩
          · have hx := HG.out 0 (by omega)
            obtain ⟨x, hx1, hx2⟩ : ∃ x : Int, (if 0 < j then (0 : Int) else 0 + 1) = x ∧ 0 ≤ x ∧ x ≤ 99 := ⟨_, rfl, by split <;> omega, by split <;> omega⟩
            have hx3 : (if 0 < j then ((0 : Nat) : Int) else ((0 : Nat) : Int) + 1) = x := hx1
            rw [hx3] at hx
            have hcx := ((hr5.keep k6 far).nob ((Keep.refl Nob w6).drewN mm))
            obtain ⟨g, off, hA5, hc⟩ := hcx.lit (by omega)
            have hc0 := hc 0 (.int .i64 x) (by rw [ints_get, hx]; rfl)
            rw [Nat.add_zero] at hc0
            obtain ⟨l, hl⟩ : ∃ l, q = x :: l := by
              cases q with
              | nil => simp at hx
              | cons y l => simp at hx; exact ⟨l, by rw [hx]⟩
            have hen := h7.enter x 2 (by decide) (by show (1 : Int) < 4611686018427387904; decide) 2 true ⟨100, 2, 2, x, 2, 2, l, 2⟩ (by rw [enter_first hx2.1 hx2.2 rfl l hl]; rfl)
            subst hA5
            have hz2 : ((i : Int) == 0) = false := by simp; omega
            have hz3 : 0 < i := by omega
            have hz4 : (0 : Int) < (i : Int) := by omega
            clear hx hx1 hx3 hc HR HG HQ hz
            go_wp2_with fail
            refine hen.mono ?_; rintro e w8 ⟨rfl, A8, c8, h8, k8⟩
            have hcy := hcx.keep k8 far
            obtain ⟨g', off', hA5, hc⟩ := hcy.lit (by omega)
            cases hA5
            have hc8 := hc 0 (.int .i64 x) (by rw [ints_get, hl]; rfl)
            rw [Nat.add_zero] at hc8
            clear hc
            go_wp2_with fail
            refine (holds_is h8.is x 2 true (by simp [Sec.holds, Sec.isH])).mono ?_; rintro e w9 ⟨rfl, rfl⟩
            go_wp2_with fail
            refine (awake_true _).mono ?_; rintro e w9 ⟨rfl, k9⟩
            go_wp2_with fail
            go_ret
            exact ⟨rfl, (h8.nob k9).keep.done⟩
theorem SectQuits_walk (w : World) (a0 : Int) (w0 : (Lit.int .i64 a0).wf = true) (a1 : Int) (w1 : (Lit.int .i64 a1).wf = true) :
    Calls Try.prog 8 #[.int .i64 a0, .int .i64 a1] w fun e w' => e = .returned (.bool true) ∧ Below w.heap.size w w' := by
  obtain ⟨m, hm⟩ := Int.eq_ofNat_of_zero_le (show 0 ≤ a0 % 8 by omega)
  obtain ⟨b, hb⟩ := Int.eq_ofNat_of_zero_le (show 0 ≤ a1 % 256 by omega)
  have e : (b : Int) % ((m : Int) + 1) = ((b % (m + 1) : Nat) : Int) := by simp
  exact SectQuits_core w a0 a1 m b (b % (m + 1)) ((i64_and7 a0).trans hm) (by omega) ((i64_and255 a1).trans hb) e (by rw [Int.tmod_eq_emod_of_nonneg (by omega)]; exact e) (Nat.mod_lt _ (by omega))
end Go.Proofs.Ytflibnoidhljpaa
