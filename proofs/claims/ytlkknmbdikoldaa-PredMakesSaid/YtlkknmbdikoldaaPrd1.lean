/- Package pred (layer 7): contracts of Check and Eval, the program's and the document's. -/
import Derived.Test.YtlkknmbdikoldaaPrd0
namespace Go.Proofs.Ytlkknmbdikoldaa
open Go.RowKit
set_option linter.unusedVariables false
set_option linter.unusedSimpArgs false
theorem check_big {l : List Prim} (h : 32 < l.length) : check l = 6 := by unfold check; rw [if_pos h]
theorem check_no {l : List Prim} (h : ¬ 32 < l.length) (h2 : sounds l = false) : check l = 1 := by unfold check; rw [if_neg h, h2]; rfl
theorem check_yes {l : List Prim} (h : ¬ 32 < l.length) (h2 : sounds l = true) : check l = 0 := by unfold check; rw [if_neg h, h2]; rfl
theorem sounds_step {l : List Prim} {i : Nat} {x : Prim} (hx : l[i]? = some x) : sounds (l.drop i) = (x.sound ((l.length : Int) - i - 1) && sounds (l.drop (i + 1))) := by
  have hi := get_lt hx
  rw [drop_at hx, sounds, List.length_drop, show (l.length : Int) - i - 1 = ((l.length - (i + 1) : Nat) : Int) from by omega]
set_option maxHeartbeats 2000000 in
theorem check_is {w : World} {A : Option Addr} {n c : Nat} {l : List Prim} (h : IsProg w A n l) (v : Int) (hv : check l = v) :
    Calls Try.prog 10 #[.slice A n c] w fun e w' => e = .returned (.int .i64 v) ∧ Keep Nob w w' := by
  have hl := h.1
  by_cases hb : 32 < n
  · obtain rfl : v = 6 := hv ▸ check_big (by omega)
    clear h hl
    go_enter Try.func10, Try.ntmps10
    go_wp2_with fail
    go_ret
    exact ⟨rfl, Keep.refl _ _⟩
  · have HV := Lib.hid hv
    clear hv
    go_enter Try.func10, Try.ntmps10
    go_wp2_with fail
    go_loopw [10] (fun s wx => ∃ i : Nat, i ≤ n ∧ s = .int .i64 i ∧ sounds l = sounds (l.drop i) ∧ Keep Nob w wx) (fun s _ => n - (intOf s).toNat)
    case atStart => exact ⟨0, Nat.zero_le _, rfl, rfl, Keep.refl _ _⟩
    case round =>
      obtain ⟨i, hi, rfl, hs, hk⟩ := hrel
      by_cases hlt : i < n
      · obtain ⟨b, off, ⟨op, a, d⟩, rfl, hx, c0, c1, c2⟩ := (h.nob hk).at_ hlt
        rw [sounds_step hx, hl] at hs
        dsimp only at c0 c1 c2
        obtain ⟨z, hz⟩ : ∃ z, (Prim.mk op a d).sound ((n : Int) - i - 1) = z := ⟨_, rfl⟩
        rw [hz] at hs
        have hk1 := (hk.alloc (.cells #[.int .i64 op, .int .i64 a, .int .i64 d] 25))
        clear h
        go_wp2_with fail
        refine (isSound_is _ op a d ((n : Int) - i - 1) (by omega) z hz).mono ?_; rintro e w1 ⟨rfl, k1⟩
        cases z
        · obtain rfl : v = 1 := HV.out ▸ check_no (by omega) (by rw [hs]; rfl)
          go_wp2_with fail
          go_ret
          exact ⟨rfl, hk1.nobt k1⟩
        · go_wp2_with fail
          go_roundw
          case rel => exact ⟨i + 1, by omega, by go_num, hs, hk1.nobt k1⟩
          case measure => simp [intOf]; omega
      · obtain rfl : i = n := by omega
        rw [List.drop_of_length_le (by omega)] at hs
        obtain rfl : v = 0 := HV.out ▸ check_yes (by omega) hs
        go_wp2_with fail
        go_ret
        exact ⟨rfl, hk⟩
/-- What is left to be answered at a place i. -/
theorem ev_next {view : List UInt8} {now n : Int} {l : List Prim} {i : Nat} {x : Prim} (hx : l[i]? = some x) (h5 : x.op ≠ 5) (h6 : x.op ≠ 6) :
    ev view now (l.drop i) 0 n = ((ev view now (l.drop (i + 1)) 0 (x.next view now n)).1, (ev view now (l.drop (i + 1)) 0 (x.next view now n)).2 + 1) := by
  rw [drop_at hx, ev, if_neg h6, if_neg h5]
theorem ev_true {view : List UInt8} {now n : Int} {l : List Prim} {i : Nat} {x : Prim} (hx : l[i]? = some x) (h6 : x.op = 6) :
    ev view now (l.drop i) 0 n = (true, 1) := by
  rw [drop_at hx, ev, if_pos h6]
theorem ev_over {view : List UInt8} {now n : Int} {l : List Prim} {i : Nat} {x : Prim} (hx : l[i]? = some x) (h5 : x.op = 5) :
    ev view now (l.drop i) 0 n = ((ev view now (l.drop (i + 1 + (if n = 0 then 0 else x.a.toNat))) 0 n).1, (ev view now (l.drop (i + 1 + (if n = 0 then 0 else x.a.toNat))) 0 n).2 + 1) := by
  rw [drop_at hx, ev, if_neg (by omega), if_pos h5, ev_skip, List.drop_drop]
/-- So far d are done, and the rest is answered from place i with the number n. -/
def Rest (view : List UInt8) (now : Int) (l : List Prim) (r : Bool × Nat) (i d : Nat) (n : Int) : Prop :=
  (ev view now (l.drop i) 0 n).1 = r.1 ∧ d + (ev view now (l.drop i) 0 n).2 = r.2
section
variable {view : List UInt8} {now n : Int} {l : List Prim} {i d : Nat} {x : Prim} {r : Bool × Nat}
theorem Rest.start (h : ev view now l 0 0 = r) : Rest view now l r 0 0 0 := ⟨by rw [List.drop_zero, h], by rw [List.drop_zero, h]; omega⟩
theorem Rest.next (h : Rest view now l r i d n) (hx : l[i]? = some x) (h5 : x.op ≠ 5) (h6 : x.op ≠ 6) (m : Int) (hm : x.next view now n = m) : Rest view now l r (i + 1) (d + 1) m := by
  unfold Rest at h
  rw [ev_next hx h5 h6, hm] at h
  exact ⟨h.1, by have := h.2; simp only at this; omega⟩
theorem Rest.over (h : Rest view now l r i d n) (hx : l[i]? = some x) (h5 : x.op = 5) (k : Nat) (hk : (if n = 0 then 0 else x.a.toNat) = k) : Rest view now l r (i + 1 + k) (d + 1) n := by
  unfold Rest at h
  rw [ev_over hx h5, hk] at h
  exact ⟨h.1, by have := h.2; simp only at this; omega⟩
theorem Rest.true_ (h : Rest view now l r i d n) (hx : l[i]? = some x) (h6 : x.op = 6) : r = (true, d + 1) := by
  unfold Rest at h
  rw [ev_true hx h6] at h
  exact Prod.ext h.1.symm h.2.symm
theorem Rest.end_ (h : Rest view now l r i d n) (hi : l.length ≤ i) : r = (false, d) := by
  unfold Rest at h
  rw [List.drop_of_length_le hi] at h
  simp only [ev] at h
  exact Prod.ext h.1.symm (by have := h.2; simp only; omega)
end
theorem Prim.sound_op {op a b k : Int} (h : (Prim.mk op a b).sound k = true) : b = 0 ∧ 0 ≤ a ∧ (op = 1 ∨ op = 2 ∨ op = 3 ∨ op = 4 ∨ op = 5 ∧ a ≤ k ∨ op = 6 ∨ op = 7) := by
  unfold Prim.sound at h
  simp only [Bool.and_eq_true, decide_eq_true_eq] at h
  obtain ⟨h1, h2⟩ := h
  refine ⟨h1, ?_⟩
  split at h2
  · simp only [decide_eq_true_eq] at h2; omega
  · split at h2
    · simp only [decide_eq_true_eq] at h2; omega
    · split at h2
      · simp only [decide_eq_true_eq] at h2; omega
      · cases h2
theorem check_zero {l : List Prim} (h : check l = 0) : l.length ≤ 32 ∧ sounds l = true := by
  unfold check at h
  split at h
  · cases h
  · split at h
    · exact ⟨by omega, by assumption⟩
    · cases h
set_option maxHeartbeats 4000000 in
theorem eval_is {w : World} {B A : Option Addr} {m c n cc : Nat} {view : List UInt8} (hm : view.length = m) (hB : Reads w B m (bytes view)) (now : Int) {l : List Prim} (h : IsProg w A n l) (z : Bool) (k : Nat) (hv : eval view now l = (z, k)) :
    Calls Try.prog 9 #[.slice B m c, .int .i64 now, .slice A n cc] w fun e w' => e = .returned (.tuple #[.bool z, .int .i64 k]) ∧ Keep Nob w w' := by
  have hl := h.1
  obtain ⟨v, hc⟩ : ∃ v, check l = v := ⟨_, rfl⟩
  have HB := Lib.hid hB
  clear hB
  by_cases h0 : v = 0
  · subst h0
    obtain ⟨hle, hso⟩ := check_zero hc
    unfold eval at hv
    rw [if_pos hc] at hv
    have hr := Rest.start hv
    have HH := Lib.hid h
    go_enter Try.func9, Try.ntmps9
    go_wp2_with fail
    refine (check_is h 0 hc).mono ?_; rintro e w1 ⟨rfl, k1⟩
    clear hv hc h
    go_wp2_with fail
    go_loopw [8, 9, 10, 11] (fun s8 s9 s10 s11 wx => ∃ (y : Int) (d i : Nat), d ≤ i ∧ i ≤ n ∧ s8 = .int .i64 y ∧ s9 = .int .i64 d ∧ s10 = .int .i64 i ∧ Rest view now l (z, k) i d y ∧ wx = w1) (fun _ _ s10 _ _ => n - (intOf s10).toNat)
    case atStart => exact ⟨0, 0, 0, Nat.zero_le _, Nat.zero_le _, rfl, rfl, rfl, hr, rfl⟩
    case round =>
      obtain ⟨y, d, i, hd, hi, rfl, rfl, rfl, hR, hw⟩ := hrel
      subst hw
      have hR := Lib.hid hR
      clear hr
      by_cases hlt : i < n
      · obtain ⟨b, off, ⟨op, a, q⟩, rfl, hx, c0, c1, c2⟩ := (HH.out.nob k1).at_ hlt
        dsimp only at c0 c1 c2
        obtain ⟨rfl, ha, hop⟩ := Prim.sound_op (sounds_at hso hx)
        rw [hl] at hop
        have hB := HB.out.nob k1
        rcases hop with rfl | rfl | rfl | rfl | ⟨rfl, hak⟩ | rfl | rfl
        · have hR := hR.out.next hx (show (1 : Int) ≠ 5 by decide) (show (1 : Int) ≠ 6 by decide) _ rfl
          go_wp2_with fail
          refine (byteOf_is _ B m c view hm hB a ha _ rfl).mono ?_; rintro e w2 ⟨rfl, rfl⟩
          go_wp2_with fail
          go_roundw
          case rel => exact ⟨_, d + 1, i + 1, by omega, by omega, rfl, by go_num, by go_num, hR, (by first | rfl | trivial)⟩
          case measure => simp [intOf]; omega
        · have hR := hR.out.next hx (show (2 : Int) ≠ 5 by decide) (show (2 : Int) ≠ 6 by decide) _ rfl
          go_wp2_with fail
          go_roundw
          case rel => exact ⟨_, d + 1, i + 1, by omega, by omega, rfl, by go_num, by go_num, hR, (by first | rfl | trivial)⟩
          case measure => simp [intOf]; omega
        · have hR := hR.out.next hx (show (3 : Int) ≠ 5 by decide) (show (3 : Int) ≠ 6 by decide) _ rfl
          go_wp2_with fail
          go_roundw
          case rel => exact ⟨_, d + 1, i + 1, by omega, by omega, rfl, by go_num, by go_num, hR, (by first | rfl | trivial)⟩
          case measure => simp [intOf]; omega
        · have hR := hR.out.next hx (show (4 : Int) ≠ 5 by decide) (show (4 : Int) ≠ 6 by decide) (if y < a then 1 else 0) (by simp [Prim.next])
          go_wp2_with fail
          refine (oneIf_is _ _ (if y < a then 1 else 0) (by simp)).mono ?_; rintro e w2 ⟨rfl, rfl⟩
          go_wp2_with fail
          go_roundw
          case rel => exact ⟨_, d + 1, i + 1, by omega, by omega, rfl, by go_num, by go_num, hR, (by first | rfl | trivial)⟩
          case measure => simp [intOf]; omega
        · obtain ⟨a', rfl⟩ := Int.eq_ofNat_of_zero_le ha
          by_cases hy : y = 0
          · subst hy
            have hR := hR.out.over hx rfl 0 rfl
            go_wp2_with fail
            go_roundw
            case rel => exact ⟨_, d + 1, i + 1, by omega, by omega, rfl, by go_num, by go_num, hR, (by first | rfl | trivial)⟩
            case measure => simp [intOf]; omega
          · have hR := hR.out.over hx rfl a' (by rw [if_neg hy]; simp)
            go_wp2_with fail
            go_roundw
            case rel => exact ⟨_, d + 1, i + 1 + a', by omega, by omega, rfl, by go_num, by go_num, hR, (by first | rfl | trivial)⟩
            case measure => simp [intOf]; omega
        · obtain ⟨rfl, rfl⟩ := Prod.mk.inj (hR.out.true_ hx rfl)
          go_wp2_with fail
          go_ret2
          exact ⟨rfl, k1⟩
        · have hR := hR.out.next hx (show (7 : Int) ≠ 5 by decide) (show (7 : Int) ≠ 6 by decide) (if y = 0 then 1 else 0) (by simp [Prim.next])
          go_wp2_with fail
          refine (oneIf_is _ _ (if y = 0 then 1 else 0) (by simp)).mono ?_; rintro e w2 ⟨rfl, rfl⟩
          go_wp2_with fail
          go_roundw
          case rel => exact ⟨_, d + 1, i + 1, by omega, by omega, rfl, by go_num, by go_num, hR, (by first | rfl | trivial)⟩
          case measure => simp [intOf]; omega
      · obtain rfl : i = n := by omega
        obtain ⟨rfl, rfl⟩ := Prod.mk.inj (hR.out.end_ (by omega))
        go_wp2_with fail
        go_ret2
        exact ⟨rfl, k1⟩
  · unfold eval at hv
    rw [if_neg (by rw [hc]; exact h0)] at hv
    obtain ⟨rfl, rfl⟩ := Prod.mk.inj hv.symm
    go_enter Try.func9, Try.ntmps9
    go_wp2_with fail
    refine (check_is h v hc).mono ?_; rintro e w1 ⟨rfl, k1⟩
    go_wp2_with fail
    go_ret2
    exact ⟨rfl, k1⟩
end Go.Proofs.Ytlkknmbdikoldaa
