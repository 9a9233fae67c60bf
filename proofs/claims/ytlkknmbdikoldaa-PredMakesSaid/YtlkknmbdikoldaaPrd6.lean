/- Package pred (layer 7): Either. -/
import Derived.Test.YtlkknmbdikoldaaPrd5
namespace Go.Proofs.Ytlkknmbdikoldaa
open Go.RowKit
set_option linter.unusedVariables false
set_option linter.unusedSimpArgs false
theorem sounds_append : ∀ {l r : List Prim}, sounds l = true → sounds r = true → l.length + r.length ≤ 60000 → sounds (l ++ r) = true
  | [], _, _, h, _ => h
  | x :: l, r, h, h2, hn => by
    rw [sounds, Bool.and_eq_true] at h
    rw [List.length_cons] at hn
    rw [List.cons_append, sounds, Bool.and_eq_true, List.length_append]
    refine ⟨?_, sounds_append h.2 h2 (by omega)⟩
    obtain ⟨op, a, b⟩ := x
    have h3 := (sound_iff (by omega)).1 h.1
    exact (sound_iff (by omega)).2 (by omega)
theorem check_append {l r : List Prim} (h : check l = 0) (h2 : check r = 0) : check (l ++ r) = if l.length + r.length ≤ 32 then 0 else 6 := by
  obtain ⟨a1, a2⟩ := check_zero h
  obtain ⟨b1, b2⟩ := check_zero h2
  by_cases hc : l.length + r.length ≤ 32
  · rw [if_pos hc]
    exact check_yes (by rw [List.length_append]; omega) (sounds_append a2 b2 (by omega))
  · rw [if_neg hc]
    exact check_big (by rw [List.length_append]; omega)
/-- What Either of two programs answers. -/
def both (l r : List Prim) : Bool := decide (check l = 0 ∧ check r = 0 ∧ l.length + r.length ≤ 32)
def eitherL (l r : List Prim) : List Prim := if both l r then l ++ r else []
theorem notnil (x : Int) (h : x ≠ 0) : (x != 0) = true := by simp [h]
set_option maxHeartbeats 4000000 in
theorem either_is {w : World} {A B : Option Addr} {n m c d : Nat} {l r : List Prim} (h : IsProg w A n l) (h2 : IsProg w B m r) (q : List Prim) (hq : eitherL l r = q) (z : Bool) (hz : both l r = z) :
    Calls Try.prog 19 #[.slice A n c, .slice B m d] w fun e w' => ∃ E cap, e = .returned (.tuple #[.slice E q.length cap, .bool z]) ∧ IsProg w' E q.length q ∧ Keep Nob w w' := by
  have hl := h.1
  have hr := h2.1
  by_cases hc : check l = 0
  · by_cases hd : check r = 0
    · have hap := check_append hc hd
      obtain ⟨a1, _⟩ := check_zero hc
      obtain ⟨b1, _⟩ := check_zero hd
      have HH := Lib.hid h
      have HB := Lib.hid h2
      go_enter Try.func19, Try.ntmps19
      go_wp2_with fail
      refine (check_is h 0 hc).mono ?_; rintro e w1 ⟨rfl, k1⟩
      go_wp2_with fail
      refine (check_is (h2.nob k1) 0 hd).mono ?_; rintro e w2 ⟨rfl, k2⟩
      have k12 := k1.nobt k2
      have hb := Blk.new w2 26 [.slice A n c, .slice B m d]
      have k3 := (Keep.refl Nob w2).alloc (.cells #[.slice A n c, .slice B m d] 26)
      clear k1 k2 h h2
      go_wp2_with fail
      refine (concat_is hb ((HH.out.nob k12).nob k3) ((HB.out.nob k12).nob k3) (by omega) (by omega)).mono ?_; rintro e w3 ⟨E, cap, rfl, hv, k4⟩
      have k34 := (k12.nobt k3).nobt k4
      have hp : IsProg w3 E (n + m) (l ++ r) := IsProg.of_vec hv
      by_cases hs : l.length + r.length ≤ 32
      · rw [if_pos hs] at hap
        have hb2 : both l r = true := decide_eq_true ⟨hc, hd, hs⟩
        have e1 : q = l ++ r := by rw [← hq]; unfold eitherL; rw [if_pos hb2]
        obtain rfl : z = true := hz ▸ hb2
        have e2 : n + m = q.length := by rw [e1, List.length_append]; omega
        rw [← e1, e2] at hp
        rw [e2]
        rw [← e1] at hap
        clear hv hb k12 k3 k4 hl hr e2 e1 hb2
        go_wp2_with fail
        refine (check_is hp 0 hap).mono ?_; rintro e w4 ⟨rfl, k5⟩
        go_wp2_with fail
        go_ret2
        exact ⟨E, cap, rfl, hp.nob k5, k34.nobt k5⟩
      · rw [if_neg hs] at hap
        have hb2 : both l r = false := decide_eq_false (fun h => hs h.2.2)
        obtain rfl : q = [] := by rw [← hq]; unfold eitherL; rw [if_neg (by rw [hb2]; simp)]
        obtain rfl : z = false := hz ▸ hb2
        clear hv hb k12 k3 k4 hl hr hb2
        go_wp2_with fail
        refine (check_is hp 6 hap).mono ?_; rintro e w4 ⟨rfl, k5⟩
        go_wp2_with fail
        go_ret2
        exact ⟨none, 0, rfl, IsProg.nil_ _ _, k34.nobt k5⟩
    · have hb2 : both l r = false := decide_eq_false (fun h => hd h.2.1)
      obtain rfl : q = [] := by rw [← hq]; unfold eitherL; rw [if_neg (by rw [hb2]; simp)]
      obtain rfl : z = false := hz ▸ hb2
      have hd2 := notnil _ hd
      go_enter Try.func19, Try.ntmps19
      go_wp2_with fail
      refine (check_is h 0 hc).mono ?_; rintro e w1 ⟨rfl, k1⟩
      go_wp2_with fail
      refine (check_is (h2.nob k1) _ rfl).mono ?_; rintro e w2 ⟨rfl, k2⟩
      have k12 := k1.nobt k2
      clear k1 k2 h h2
      generalize check r = v at *
      go_wp2_with fail
      go_ret2
      exact ⟨none, 0, rfl, IsProg.nil_ _ _, k12⟩
  · have hb2 : both l r = false := decide_eq_false (fun h => hc h.1)
    obtain rfl : q = [] := by rw [← hq]; unfold eitherL; rw [if_neg (by rw [hb2]; simp)]
    obtain rfl : z = false := hz ▸ hb2
    have hd2 := notnil _ hc
    go_enter Try.func19, Try.ntmps19
    go_wp2_with fail
    refine (check_is h _ rfl).mono ?_; rintro e w1 ⟨rfl, k1⟩
    generalize check l = v at *
    clear h h2
    go_wp2_with fail
    go_ret2
    exact ⟨none, 0, rfl, IsProg.nil_ _ _, k1⟩
end Go.Proofs.Ytlkknmbdikoldaa
