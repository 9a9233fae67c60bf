/- What an Enter of a section can be (layer 6). -/
import Derived.Test.YtompckcnpidbdaaGreatSec4
namespace Go.Proofs.YtompckcnpidbdaaGreat.Se
open Go.RowKit
set_option linter.unusedVariables false
set_option linter.unusedSimpArgs false
theorem pass1_hold (s : Sec) : (s.pass1.stamp = s.stamp ∧ s.pass1.who = s.who) ∨ s.pass1.stamp = 0 := by
  unfold Sec.pass1
  split
  · exact .inr rfl
  · exact .inl ⟨rfl, rfl⟩
theorem ask_hold (s : Sec) (who : Int) : ((s.ask who).stamp = s.stamp ∧ (s.ask who).who = s.who) ∨ (s.ask who).stamp = 0 := by
  have e1 : (s.wait who).stamp = s.stamp ∧ (s.wait who).who = s.who := by unfold Sec.wait; split <;> exact ⟨rfl, rfl⟩
  have e2 : (s.ask who).stamp = (s.wait who).pass1.stamp ∧ (s.ask who).who = (s.wait who).pass1.who := by unfold Sec.ask Sec.pass2; split <;> exact ⟨rfl, rfl⟩
  rcases pass1_hold (s.wait who) with h | h
  · exact .inl ⟨by rw [e2.1, h.1, e1.1], by rw [e2.2, h.2, e1.2]⟩
  · exact .inr (by rw [e2.1, h])
/-- What an Enter can be. -/
theorem enter_cases {s : Sec} {who now : Int} (h0 : 0 ≤ who) (h9 : who ≤ 99) {v : Int} {b : Bool} {s' : Sec} (h : s.enter who now = (v, b, s')) :
    (b = true ∧ s.isH who = true ∧ v = s.stamp ∧ s' = s.tick now) ∨ (b = true ∧ v = s.stamps + 1 ∧ s'.stamps = v ∧ s'.stamp = v ∧ s'.who = who) ∨
    (b = false ∧ v = 0 ∧ s'.stamps = s.stamps ∧ ((s'.stamp = s.stamp ∧ s'.who = s.who) ∨ s'.stamp = 0)) := by
  unfold Sec.enter at h
  rw [if_neg (by omega)] at h
  unfold Sec.enterIn at h
  have ha := ask_hold (s.tick now) who
  have hs := Sec.ask_stamps (s.tick now) who
  by_cases h1 : (s.tick now).isH who = true
  · rw [if_pos h1] at h
    cases h
    exact .inl ⟨rfl, h1, rfl, rfl⟩
  · rw [if_neg h1] at h
    by_cases h2 : ((s.tick now).ask who).q.headD 0 ≠ who
    · rw [if_pos h2] at h
      cases h
      exact .inr (.inr ⟨rfl, rfl, hs, ha⟩)
    · rw [if_neg h2] at h
      by_cases h3 : ((s.tick now).ask who).held = true
      · rw [if_pos h3] at h
        cases h
        exact .inr (.inr ⟨rfl, rfl, hs, ha⟩)
      · rw [if_neg h3] at h
        cases h
        refine .inr (.inl ⟨rfl, by rw [hs]; rfl, rfl, rfl, ?_⟩)
        exact Decidable.not_not.1 h2
end Go.Proofs.YtompckcnpidbdaaGreat.Se
