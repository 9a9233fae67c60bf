/- Package pred (layer 7): contracts of the document's named, bit, Check and Eval. -/
import Derived.Test.YtlkknmbdikoldaaPrd1
namespace Go.Proofs.Ytlkknmbdikoldaa
open Go.RowKit
set_option linter.unusedVariables false
set_option linter.unusedSimpArgs false
theorem named_is (w : World) (op : Int) (z : Bool) (hz : decide (op = 1 ∨ op = 3 ∨ op = 4 ∨ op = 5) = z) : Calls Try.prog 23 #[.int .i64 op] w fun e w' => e = .returned (.bool z) ∧ w' = w := by
  subst hz
  rcases (by omega : op = 1 ∨ op = 3 ∨ op = 4 ∨ op = 5 ∨ (op ≠ 1 ∧ op ≠ 3 ∧ op ≠ 4 ∧ op ≠ 5)) with rfl | rfl | rfl | rfl | ⟨h1, h3, h4, h5⟩
  all_goals
    go_enter Try.func23, Try.ntmps23
    go_wp2
    go_ret
    first | exact ⟨rfl, rfl⟩ | exact ⟨by rw [decide_eq_false (by omega)]; simp [h1, h3, h4, h5], rfl⟩
theorem bit_is (w : World) (b : Bool) (v : Int) (hv : (if b then 1 else 0) = v) : Calls Try.prog 24 #[.bool b] w fun e w' => e = .returned (.int .i64 v) ∧ w' = w := by
  subst hv
  cases b
  all_goals
    go_enter Try.func24, Try.ntmps24
    go_wp2
    go_ret
    exact ⟨rfl, rfl⟩
theorem sound_iff {op a d k : Int} (hk : k ≤ 65535) : (Prim.mk op a d).sound k = true ↔ (1 ≤ op ∧ op ≤ 7 ∧ 0 ≤ a ∧ a ≤ 65535 ∧ d = 0 ∧ ((op = 2 ∨ op = 6 ∨ op = 7) → a = 0) ∧ (op = 5 → a ≤ k)) := by
  unfold Prim.sound
  dsimp only
  split
  · simp only [Bool.and_eq_true, decide_eq_true_eq]; omega
  · split
    · simp only [Bool.and_eq_true, decide_eq_true_eq]; omega
    · split
      · simp only [Bool.and_eq_true, decide_eq_true_eq]; omega
      · simp only [Bool.and_false, Bool.false_eq_true, false_iff]; omega
theorem sound_no {op a d k : Int} (hk : k ≤ 65535) (h : ¬ (1 ≤ op ∧ op ≤ 7 ∧ 0 ≤ a ∧ a ≤ 65535 ∧ d = 0 ∧ ((op = 2 ∨ op = 6 ∨ op = 7) → a = 0) ∧ (op = 5 → a ≤ k))) : (Prim.mk op a d).sound k = false :=
  Bool.eq_false_iff.2 (fun e => h ((sound_iff hk).1 e))
theorem str_at (l : List UInt8) (i : Nat) (h : i < (str l).size) : (str l)[i] = l.getD i 0 := by
  have hl : i < l.length := by rw [← str_size]; exact h
  rw [List.getD_eq_getElem?_getD, List.getElem?_eq_getElem hl]
  rfl
theorem wrap_byte (b : UInt8) : wrap64 ((b.toNat : Nat) : Int) = ((b.toNat : Nat) : Int) := by
  have := b.toNat_lt
  unfold wrap64
  omega
set_option maxHeartbeats 4000000 in
theorem dcheck_is {w : World} {A : Option Addr} {n c : Nat} {l : List Prim} (h : IsProg w A n l) (v : Int) (hv : check l = v) :
    Calls Try.prog 11 #[.slice A n c] w fun e w' => e = .returned (.int .i64 v) ∧ Keep Nob w w' := by
  have hl := h.1
  by_cases hb : 32 < n
  · obtain rfl : v = 6 := hv ▸ check_big (by omega)
    clear h hl
    go_enter Try.func11, Try.ntmps11
    go_wp2_with fail
    go_ret
    exact ⟨rfl, Keep.refl _ _⟩
  · have HV := Lib.hid hv
    clear hv
    go_enter Try.func11, Try.ntmps11
    go_wp2_with fail
    go_loopw [3] (fun s wx => ∃ i : Nat, i ≤ n ∧ s = .int .i64 i ∧ sounds l = sounds (l.drop i) ∧ Keep Nob w wx) (fun s _ => n - (intOf s).toNat)
    case atStart => exact ⟨0, Nat.zero_le _, rfl, rfl, Keep.refl _ _⟩
    case round =>
      obtain ⟨i, hi, rfl, hs, hk⟩ := hrel
      by_cases hlt : i < n
      · obtain ⟨b, off, ⟨op, a, d⟩, rfl, hx, c0, c1, c2⟩ := (h.nob hk).at_ hlt
        rw [sounds_step hx, hl] at hs
        dsimp only at c0 c1 c2
        have hk1 := (hk.alloc (.cells #[.int .i64 op, .int .i64 a, .int .i64 d] 25))
        clear h
        have no : (Prim.mk op a d).sound ((n : Int) - i - 1) = false → v = 1 := fun hz => HV.out ▸ check_no (by omega) (by rw [hs, hz]; rfl)
        have yes : (Prim.mk op a d).sound ((n : Int) - i - 1) = true → sounds l = sounds (l.drop (i + 1)) := fun hz => by rw [hs, hz]; rfl
        have no := Lib.hid no
        have yes := Lib.hid yes
        clear hs hx hl
        by_cases h1 : op < 1
        · obtain rfl := no.out (sound_no (by omega) (by omega))
          go_wp2_with fail
          go_ret
          exact ⟨rfl, hk1⟩
        by_cases h7 : 7 < op
        · obtain rfl := no.out (sound_no (by omega) (by omega))
          go_wp2_with fail
          go_ret
          exact ⟨rfl, hk1⟩
        by_cases ha : a < 0
        · obtain rfl := no.out (sound_no (by omega) (by omega))
          go_wp2_with fail
          go_ret
          exact ⟨rfl, hk1⟩
        by_cases ha2 : 65535 < a
        · obtain rfl := no.out (sound_no (by omega) (by omega))
          go_wp2_with fail
          go_ret
          exact ⟨rfl, hk1⟩
        by_cases hd : d = 0
        · subst hd
          obtain ⟨z, hz⟩ : ∃ z, decide (op = 1 ∨ op = 3 ∨ op = 4 ∨ op = 5) = z := ⟨_, rfl⟩
          cases z with
          | false =>
            have hz' := of_decide_eq_false hz
            by_cases ha0 : a = 0
            · subst ha0
              have hy := yes.out ((sound_iff (by omega)).2 (by omega))
              have h5 : ¬ op = 5 := by omega
              go_wp2_with fail
              refine (named_is _ op false hz).mono ?_; rintro e w1 ⟨rfl, rfl⟩
              go_wp2_with fail
              go_roundw
              case rel => exact ⟨i + 1, by omega, by go_num, hy, hk1⟩
              case measure => simp [intOf]; omega
            · obtain rfl := no.out (sound_no (by omega) (by omega))
              go_wp2_with fail
              refine (named_is _ op false hz).mono ?_; rintro e w1 ⟨rfl, rfl⟩
              go_wp2_with fail
              go_ret
              exact ⟨rfl, hk1⟩
          | true =>
            have hz' := of_decide_eq_true hz
            by_cases h5 : op = 5
            · subst h5
              by_cases hak : (n : Int) - 1 - i < a
              · obtain rfl := no.out (sound_no (by omega) (by omega))
                go_wp2_with fail
                refine (named_is _ 5 true hz).mono ?_; rintro e w1 ⟨rfl, rfl⟩
                go_wp2_with fail
                go_ret
                exact ⟨rfl, hk1⟩
              · have hy := yes.out ((sound_iff (by omega)).2 (by omega))
                go_wp2_with fail
                refine (named_is _ 5 true hz).mono ?_; rintro e w1 ⟨rfl, rfl⟩
                go_wp2_with fail
                go_roundw
                case rel => exact ⟨i + 1, by omega, by go_num, hy, hk1⟩
                case measure => simp [intOf]; omega
            · have hy := yes.out ((sound_iff (by omega)).2 (by omega))
              go_wp2_with fail
              refine (named_is _ op true hz).mono ?_; rintro e w1 ⟨rfl, rfl⟩
              go_wp2_with fail
              go_roundw
              case rel => exact ⟨i + 1, by omega, by go_num, hy, hk1⟩
              case measure => simp [intOf]; omega
        · obtain rfl := no.out (sound_no (by omega) (by omega))
          go_wp2_with fail
          go_ret
          exact ⟨rfl, hk1⟩
      · obtain rfl : i = n := by omega
        rw [List.drop_of_length_le (by omega)] at hs
        obtain rfl : v = 0 := HV.out ▸ check_yes (by omega) hs
        go_wp2_with fail
        go_ret
        exact ⟨rfl, hk⟩
set_option maxHeartbeats 4000000 in
theorem deval_is {w : World} {A : Option Addr} {n cc : Nat} (view : List UInt8) (now : Int) {l : List Prim} (h : IsProg w A n l) (z : Bool) (k : Nat) (hv : eval view now l = (z, k)) :
    Calls Try.prog 12 #[.string (str view), .int .i64 now, .slice A n cc] w fun e w' => e = .returned (.tuple #[.bool z, .int .i64 k]) ∧ Keep Nob w w' := by
  have hl := h.1
  obtain ⟨v, hc⟩ : ∃ v, check l = v := ⟨_, rfl⟩
  have hsz := str_size view
  by_cases h0 : v = 0
  · subst h0
    obtain ⟨hle, hso⟩ := check_zero hc
    unfold eval at hv
    rw [if_pos hc] at hv
    have hr := Rest.start hv
    have HH := Lib.hid h
    go_enter Try.func12, Try.ntmps12
    go_wp2_with fail
    refine (dcheck_is h 0 hc).mono ?_; rintro e w1 ⟨rfl, k1⟩
    clear hv hc h
    go_wp2_with fail
    go_loopw [8, 9, 10, 11] (fun s8 s9 s10 s11 wx => ∃ (y : Int) (d i : Nat), d ≤ i ∧ i ≤ n ∧ s8 = .int .i64 y ∧ s9 = .int .i64 d ∧ s10 = .int .i64 i ∧ Rest view now l (z, k) i d y ∧ wx = w1) (fun _ _ s10 _ _ => n - (intOf s10).toNat)
    case atStart => exact ⟨0, 0, 0, Nat.zero_le _, Nat.zero_le _, rfl, rfl, rfl, hr, rfl⟩
    case round =>
      obtain ⟨y, d, i, hd, hi, rfl, rfl, rfl, hR, hw⟩ := hrel
      subst hw
      have hR := Lib.hid hR
      clear hr
      by_cases hlt : i < n
      · obtain ⟨b, off, ⟨op, a, q⟩, rfl, hx, c0, c1, c2⟩ := (HH.out.nob k1).at_ hlt
        dsimp only at c0 c1 c2
        obtain ⟨rfl, ha, hop⟩ := Prim.sound_op (sounds_at hso hx)
        rw [hl] at hop
        rcases hop with rfl | rfl | rfl | rfl | ⟨rfl, hak⟩ | rfl | rfl
        · obtain ⟨a', rfl⟩ := Int.eq_ofNat_of_zero_le ha
          by_cases hal : a' < view.length
          · have hR := hR.out.next hx (show (1 : Int) ≠ 5 by decide) (show (1 : Int) ≠ 6 by decide) (((view.getD a' 0).toNat : Nat) : Int) (by simp [Prim.next, byteAt])
            go_wp2_with fail
            go_roundw
            case rel => exact ⟨_, d + 1, i + 1, by omega, by omega, rfl, by go_num, by go_num, by rw [str_at, wrap_byte]; exact hR, (by first | rfl | trivial)⟩
            case measure => simp [intOf]; omega
          · have hR := hR.out.next hx (show (1 : Int) ≠ 5 by decide) (show (1 : Int) ≠ 6 by decide) 0 (by simp [Prim.next, byteAt, List.getD_eq_getElem?_getD, List.getElem?_eq_none (show view.length ≤ a' by omega)])
            go_wp2_with fail
            go_roundw
            case rel => exact ⟨_, d + 1, i + 1, by omega, by omega, rfl, by go_num, by go_num, hR, (by first | rfl | trivial)⟩
            case measure => simp [intOf]; omega
        · have hR := hR.out.next hx (show (2 : Int) ≠ 5 by decide) (show (2 : Int) ≠ 6 by decide) _ rfl
          go_wp2_with fail
          go_roundw
          case rel => exact ⟨_, d + 1, i + 1, by omega, by omega, rfl, by go_num, by go_num, hR, (by first | rfl | trivial)⟩
          case measure => simp [intOf]; omega
        · have hR := hR.out.next hx (show (3 : Int) ≠ 5 by decide) (show (3 : Int) ≠ 6 by decide) _ rfl
          go_wp2_with fail
          go_roundw
          case rel => exact ⟨_, d + 1, i + 1, by omega, by omega, rfl, by go_num, by go_num, hR, (by first | rfl | trivial)⟩
          case measure => simp [intOf]; omega
        · have hR := hR.out.next hx (show (4 : Int) ≠ 5 by decide) (show (4 : Int) ≠ 6 by decide) (if y < a then 1 else 0) (by simp [Prim.next])
          go_wp2_with fail
          refine (bit_is _ _ (if y < a then 1 else 0) (by simp)).mono ?_; rintro e w2 ⟨rfl, rfl⟩
          go_wp2_with fail
          go_roundw
          case rel => exact ⟨_, d + 1, i + 1, by omega, by omega, rfl, by go_num, by go_num, hR, (by first | rfl | trivial)⟩
          case measure => simp [intOf]; omega
        · obtain ⟨a', rfl⟩ := Int.eq_ofNat_of_zero_le ha
          by_cases hy : y = 0
          · subst hy
            have hR := hR.out.over hx rfl 0 rfl
            go_wp2_with fail
            go_roundw
            case rel => exact ⟨_, d + 1, i + 1, by omega, by omega, rfl, by go_num, by go_num, hR, (by first | rfl | trivial)⟩
            case measure => simp [intOf]; omega
          · have hR := hR.out.over hx rfl a' (by rw [if_neg hy]; simp)
            go_wp2_with fail
            go_roundw
            case rel => exact ⟨_, d + 1, i + 1 + a', by omega, by omega, rfl, by go_num, by go_num, hR, (by first | rfl | trivial)⟩
            case measure => simp [intOf]; omega
        · obtain ⟨rfl, rfl⟩ := Prod.mk.inj (hR.out.true_ hx rfl)
          go_wp2_with fail
          go_ret2
          exact ⟨rfl, k1⟩
        · have hR := hR.out.next hx (show (7 : Int) ≠ 5 by decide) (show (7 : Int) ≠ 6 by decide) (if y = 0 then 1 else 0) (by simp [Prim.next])
          go_wp2_with fail
          refine (bit_is _ _ (if y = 0 then 1 else 0) (by simp)).mono ?_; rintro e w2 ⟨rfl, rfl⟩
          go_wp2_with fail
          go_roundw
          case rel => exact ⟨_, d + 1, i + 1, by omega, by omega, rfl, by go_num, by go_num, hR, (by first | rfl | trivial)⟩
          case measure => simp [intOf]; omega
      · obtain rfl : i = n := by omega
        obtain ⟨rfl, rfl⟩ := Prod.mk.inj (hR.out.end_ (by omega))
        go_wp2_with fail
        go_ret2
        exact ⟨rfl, k1⟩
  · unfold eval at hv
    rw [if_neg (by rw [hc]; exact h0)] at hv
    obtain ⟨rfl, rfl⟩ := Prod.mk.inj hv.symm
    go_enter Try.func12, Try.ntmps12
    go_wp2_with fail
    refine (dcheck_is h v hc).mono ?_; rintro e w1 ⟨rfl, k1⟩
    go_wp2_with fail
    go_ret2
    exact ⟨rfl, k1⟩
end Go.Proofs.Ytlkknmbdikoldaa
