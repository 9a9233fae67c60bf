/- What one session is told of its frames hangs on its own row alone (layer 4). -/
import Derived.Test.YtompckcnpidbdaaGreatQuoR
namespace Go.Proofs.YtompckcnpidbdaaGreat.Qu
open Go.RowKit
set_option linter.unusedVariables false
set_option linter.unusedSimpArgs false
theorem al_same {n : Nat} {b b2 : Nat → List Bool} {s : Nat} {v er : Int} {b' : Nat → List Bool} (e : b s = b2 s) (h : al n b s = (v, er, b')) : ∃ b2', al n b2 s = (v, er, b2') ∧ b' s = b2' s := by
  unfold al at h ⊢
  rw [Int.toNat_natCast] at h ⊢
  rw [← e]
  by_cases h1 : (0 : Int) ≤ (s : Int) ∧ (s : Int) < n
  · rw [if_pos h1] at h ⊢
    by_cases h2 : (b s).idxOf false < (b s).length
    · rw [if_pos h2] at h ⊢
      cases h
      exact ⟨_, rfl, by simp [up]⟩
    · rw [if_neg h2] at h ⊢
      cases h
      exact ⟨_, rfl, e⟩
  · rw [if_neg h1] at h ⊢
    cases h
    exact ⟨_, rfl, e⟩
theorem fr_same {n : Nat} {b b2 : Nat → List Bool} {s : Nat} {k er : Int} {b' : Nat → List Bool} (e : b s = b2 s) (h : fr n b s k = (er, b')) : ∃ b2', fr n b2 s k = (er, b2') ∧ b' s = b2' s := by
  have eo : owns n b s k = owns n b2 s k := by unfold owns; rw [Int.toNat_natCast, e]
  unfold fr at h ⊢
  rw [Int.toNat_natCast] at h ⊢
  rw [← e, ← eo]
  by_cases h1 : (0 : Int) ≤ (s : Int) ∧ (s : Int) < n
  · rw [if_pos h1] at h ⊢
    by_cases h2 : owns n b s k = true
    · rw [if_pos h2] at h ⊢
      cases h
      exact ⟨_, rfl, by simp [up]⟩
    · rw [if_neg h2] at h ⊢
      cases h
      exact ⟨_, rfl, e⟩
  · rw [if_neg h1] at h ⊢
    cases h
    exact ⟨_, rfl, e⟩
theorem al_other {n : Nat} {b : Nat → List Bool} {s t : Nat} {v er : Int} {b' : Nat → List Bool} (hne : t ≠ s) (h : al n b t = (v, er, b')) : b' s = b s := by
  unfold al at h
  rw [Int.toNat_natCast] at h
  by_cases h1 : (0 : Int) ≤ (t : Int) ∧ (t : Int) < n
  · rw [if_pos h1] at h
    by_cases h2 : (b t).idxOf false < (b t).length
    · rw [if_pos h2] at h
      cases h
      exact if_neg (fun e => hne e.symm)
    · rw [if_neg h2] at h
      cases h
      rfl
  · rw [if_neg h1] at h
    cases h
    rfl
theorem fr_other {n : Nat} {b : Nat → List Bool} {s t : Nat} {k er : Int} {b' : Nat → List Bool} (hne : t ≠ s) (h : fr n b t k = (er, b')) : b' s = b s := by
  unfold fr at h
  rw [Int.toNat_natCast] at h
  by_cases h1 : (0 : Int) ≤ (t : Int) ∧ (t : Int) < n
  · rw [if_pos h1] at h
    by_cases h2 : owns n b t k = true
    · rw [if_pos h2] at h
      cases h
      exact if_neg (fun e => hne e.symm)
    · rw [if_neg h2] at h
      cases h
      rfl
  · rw [if_neg h1] at h
    cases h
    rfl
end Go.Proofs.YtompckcnpidbdaaGreat.Qu
