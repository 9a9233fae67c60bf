/- A process that comes in; what deliver tells is short. -/
import Derived.Test.YtaeiigniakjbpaaDoorSigW
import Derived.Test.YtaeiigniakjbpaaDoorSigF
import Derived.Test.YtaeiigniakjbpaaDoorSigG
import Derived.Test.YtaeiigniakjbpaaDoorSigR
namespace Go.Proofs.YtaeiigniakjbpaaDoor
open Go.RowKit Sg
set_option linter.unusedVariables false
set_option linter.unusedSimpArgs false
theorem ints_of_ : ∀ (cs : List Value), (∀ v ∈ cs, ∃ n, v = .int .i64 n) → ∃ P : List Int, cs = ints P ∧ P.length = cs.length
  | [], _ => ⟨[], rfl, rfl⟩
  | v :: cs, h => by
    obtain ⟨n, rfl⟩ := h v (List.mem_cons_self ..)
    obtain ⟨P, hP, hl⟩ := ints_of_ cs (fun x hx => h x (List.mem_cons_of_mem _ hx))
    exact ⟨n :: P, by rw [hP]; rfl, by simp [hl]⟩
theorem proc_read {w : World} {s : Array Value} {x : Ty.den (.pair (.int .i64) (.pair (.int .i64) (.pair (.int .i64) (.pair (.int .i64) (.pair (.int .i64) (.pair (.int .i64) (.pair (.int .i64) (.pair (.int .i64) (.pair (.pair (.int .i64) (.pair (.int .i64) (.pair (.int .i64) (.pair (.int .i64) (.pair (.int .i64) (.pair (.int .i64) (.pair (.int .i64) (.pair (.int .i64) .unit)))))))) .unit)))))))))} (h : Holds w (.pair (.int .i64) (.pair (.int .i64) (.pair (.int .i64) (.pair (.int .i64) (.pair (.int .i64) (.pair (.int .i64) (.pair (.int .i64) (.pair (.int .i64) (.pair (.pair (.int .i64) (.pair (.int .i64) (.pair (.int .i64) (.pair (.int .i64) (.pair (.int .i64) (.pair (.int .i64) (.pair (.int .i64) (.pair (.int .i64) .unit)))))))) .unit))))))))) x s.toList) : ∃ P : Ps, P.f.length = 8 ∧ s = (pc P).toArray := by
  have hsz : s.toList.length = 16 := holds_size _ _ _ h
  obtain ⟨c0, r0, e0, ⟨h0, f0⟩, t0⟩ := h
  obtain ⟨c1, r1, e1, ⟨h1, f1⟩, t1⟩ := t0
  obtain ⟨c2, r2, e2, ⟨h2, f2⟩, t2⟩ := t1
  obtain ⟨c3, r3, e3, ⟨h3, f3⟩, t3⟩ := t2
  obtain ⟨c4, r4, e4, ⟨h4, f4⟩, t4⟩ := t3
  obtain ⟨c5, r5, e5, ⟨h5, f5⟩, t5⟩ := t4
  obtain ⟨c6, r6, e6, ⟨h6, f6⟩, t6⟩ := t5
  obtain ⟨c7, r7, e7, ⟨h7, f7⟩, t7⟩ := t6
  obtain ⟨c8, r8, e8, u0, t8⟩ := t7
  have t8 : r8 = [] := t8
  obtain ⟨b0, q0, g0, ⟨i0, j0⟩, v0⟩ := u0
  obtain ⟨b1, q1, g1, ⟨i1, j1⟩, v1⟩ := v0
  obtain ⟨b2, q2, g2, ⟨i2, j2⟩, v2⟩ := v1
  obtain ⟨b3, q3, g3, ⟨i3, j3⟩, v3⟩ := v2
  obtain ⟨b4, q4, g4, ⟨i4, j4⟩, v4⟩ := v3
  obtain ⟨b5, q5, g5, ⟨i5, j5⟩, v5⟩ := v4
  obtain ⟨b6, q6, g6, ⟨i6, j6⟩, v6⟩ := v5
  obtain ⟨b7, q7, g7, ⟨i7, j7⟩, v7⟩ := v6
  have v7 : q7 = [] := v7
  subst h0 h1 h2 h3 h4 h5 h6 h7 i0 i1 i2 i3 i4 i5 i6 i7
  have hall : ∀ v ∈ s.toList, ∃ n, v = .int .i64 n := by
    rw [e0, e1, e2, e3, e4, e5, e6, e7, e8, g0, g1, g2, g3, g4, g5, g6, g7, t8, v7]
    intro v hv
    simp only [List.cons_append, List.nil_append, List.append_nil, List.mem_cons, List.not_mem_nil, or_false] at hv
    rcases hv with rfl | rfl | rfl | rfl | rfl | rfl | rfl | rfl | rfl | rfl | rfl | rfl | rfl | rfl | rfl | rfl
    · exact ⟨_, rfl⟩
    · exact ⟨_, rfl⟩
    · exact ⟨_, rfl⟩
    · exact ⟨_, rfl⟩
    · exact ⟨_, rfl⟩
    · exact ⟨_, rfl⟩
    · exact ⟨_, rfl⟩
    · exact ⟨_, rfl⟩
    · exact ⟨_, rfl⟩
    · exact ⟨_, rfl⟩
    · exact ⟨_, rfl⟩
    · exact ⟨_, rfl⟩
    · exact ⟨_, rfl⟩
    · exact ⟨_, rfl⟩
    · exact ⟨_, rfl⟩
    · exact ⟨_, rfl⟩
  obtain ⟨P, hP, hl⟩ := ints_of_ s.toList hall
  have hl16 : P.length = 16 := by rw [hl, hsz]
  refine ⟨ofL P, ofL_len hl16, ?_⟩
  unfold pc
  rw [ls_ofL hl16, ← hP, Array.toArray_toList]
theorem dl_told : ∀ (l : List Int) (p : Ps) (c : List Int), (dl l p c).2.1.length ≤ c.length + l.length
  | [], p, c => by simp [dl]
  | n :: l, p, c => by
    unfold dl
    split
    · have := dl_told l { p with pe := wo p.pe n } (c ++ [n])
      simp only [List.length_append, List.length_cons, List.length_nil] at this ⊢
      omega
    · split
      · simp
      · split
        · simp
        · have := dl_told l { p with pe := wo p.pe n } c
          simp only [List.length_cons]
          omega
theorem deliver_told (p : Ps) : (deliver p).2.1.length ≤ 15 := by
  unfold deliver
  split
  · have h1 := dl_told (rdl p) p []
    have h2 := rdl_len p
    simp only [List.length_nil] at h1
    omega
  · simp
end Go.Proofs.YtaeiigniakjbpaaDoor
