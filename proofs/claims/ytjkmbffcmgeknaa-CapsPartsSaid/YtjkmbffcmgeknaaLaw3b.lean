/- The walks of CapsParts and CapsFull. -/
import Derived.Test.YtjkmbffcmgeknaaLaw3a
namespace Go.Proofs.Ytjkmbffcmgeknaa
open Go.RowKit
set_option linter.unusedVariables false
set_option linter.unusedSimpArgs false
theorem wbit {x : Int} (h : 0 ≤ x ∧ x ≤ 7) : (sub x 5 = true ∧ bits .and .i64 x 2 = 0) ∨ (sub x 5 = false ∧ bits .and .i64 x 2 = 2) := by
  rcases (show x = 0 ∨ x = 1 ∨ x = 2 ∨ x = 3 ∨ x = 4 ∨ x = 5 ∨ x = 6 ∨ x = 7 by omega) with rfl | rfl | rfl | rfl | rfl | rfl | rfl | rfl <;> decide
theorem two_sorted {U : List Rf} {x y : Rf} (hp : U.Perm [x, y]) (hs : U.Pairwise (fun a b => ¬ ltR b a)) (hlt : ltR x y) : U = [x, y] := by
  have hl := hp.length_eq
  match U, hl with
  | [a, b], _ =>
    have ha : a ∈ [x, y] := hp.mem_iff.1 (by simp)
    have hb : b ∈ [x, y] := hp.mem_iff.1 (by simp)
    have hx : x ∈ [a, b] := hp.mem_iff.2 (by simp)
    have hy : y ∈ [a, b] := hp.mem_iff.2 (by simp)
    have hne : x ≠ y := by rintro rfl; unfold ltR at hlt; omega
    simp only [List.pairwise_cons, List.mem_singleton, forall_eq] at hs
    simp only [List.mem_cons, List.not_mem_nil, or_false] at ha hb hx hy
    rcases ha with rfl | rfl
    · rcases hb with rfl | rfl
      · rcases hy with e | e <;> exact absurd e.symm hne
      · rfl
    · rcases hb with rfl | rfl
      · exact absurd hlt hs.1
      · rcases hx with e | e <;> exact absurd e hne
set_option maxRecDepth 100000 in
set_option maxHeartbeats 4000000 in
theorem parts_core (w : World) (a0 a1 a2 a3 a4 lo n at_ m rt : Int) (h0 : bits .and .i64 a0 63 = lo) (h1 : bits .and .i64 a1 63 = n) (h2 : bits .and .i64 a2 127 = at_) (h3 : bits .and .i64 a3 127 = m) (h4 : bits .and .i64 a4 7 = rt)
    (r0 : 0 ≤ lo ∧ lo ≤ 63) (r1 : 0 ≤ n ∧ n ≤ 63) (r2 : 0 ≤ at_ ∧ at_ ≤ 127) (r3 : 0 ≤ m ∧ m ≤ 127) (r4 : 0 ≤ rt ∧ rt ≤ 7) :
    Calls Try.prog 4 #[.int .i64 a0, .int .i64 a1, .int .i64 a2, .int .i64 a3, .int .i64 a4] w fun e w' => e = .returned (.bool true) ∧ Keep (From w.heap.size) w w' := by
  go_enter Try.func4, Try.ntmps4
  go_wp2_with fail
  refine (new0 (w0 := w) 3 3 (by omega) (Keep.refl _ w)).mono ?_; rintro e w1 ⟨s, B, p, r, rfl, S1, _, _⟩
  go_wp2_with fail
  refine (S1.put 0 (by decide) ⟨4, 7, 10, 200, (0, 0)⟩ (by decide) (by decide) (by decide)).mono ?_; rintro e w2 ⟨a, er, T2, rfl, hA, S2, _⟩
  obtain ⟨rfl, hn1, hh1⟩ := hA.room S1.inv (by decide) rfl
  have i1 : T2 1 = init 1 := hA.other (by decide)
  have i2 : T2 2 = init 2 := hA.other (by decide)
  have ch2 : Chain T2 3 [((((0 : Nat) : Int), a), (⟨4, 7, 10, 200, (0, 0)⟩ : Cp))] := Chain.one (fun σ d => by rw [hh1]; exact ⟨fun h => h.elim (fun h => (init_has h).elim) id, .inr⟩) rfl
  go_wp2_with fail
  refine (S2.grant 1 (by decide) ⟨4, 7, 10, 200, (0, 0)⟩ ((hh1 _ _).2 (.inr ⟨rfl, rfl⟩)) (by decide) (by decide) (by decide) (by dsimp only; omega)).mono ?_; rintro e w3 ⟨b, er, T3, rfl, hB, S3, _⟩
  obtain ⟨rfl, hn2, hh2⟩ := hB.room S2.inv (by decide) i1
  have i3 : T3 2 = init 2 := (hB.other (by decide)).trans i2
  have ch3 := ch2.add (k := 0) rfl rfl hn2 hh2 rfl
  have g0 : Has T3 3 (0, a) ⟨4, 7, 10, 200, (0, 0)⟩ := (hh2 _ _).2 (.inl ((hh1 _ _).2 (.inr ⟨rfl, rfl⟩)))
  have g1 : Has T3 3 (1, b) ⟨4, 5, 10 + lo, n, (0, a)⟩ := (hh2 _ _).2 (.inr ⟨rfl, rfl⟩)
  clear i1 i2 hA hB
  go_wp2_with fail
  rcases wbit r4 with ⟨hsub, hbit⟩ | ⟨hsub, hbit⟩
  · by_cases hat : at_ ≤ n ∧ m ≤ n - at_
    · refine (S3.grant 2 (by decide) _ g1 (show sub 4 5 = true by decide) hsub r4 (by dsimp only; omega)).mono ?_; rintro e w4 ⟨c, er, T4, rfl, hC, S4, _⟩
      obtain ⟨rfl, hn4, hh4⟩ := hC.room S3.inv (by decide) i3
      have ch4 := ch3.add (k := 1) rfl rfl hn4 hh4 rfl
      have f0 : Has T4 3 (0, a) ⟨4, 7, 10, 200, (0, 0)⟩ := (hh4 _ _).2 (.inl g0)
      have f2 : Has T4 3 (2, c) ⟨4, rt, 10 + lo + at_, m, (1, b)⟩ := (hh4 _ _).2 (.inr ⟨rfl, rfl⟩)
      obtain ⟨q1, q2⟩ := hat
      clear i3 hC hsub
      go_wp2_with fail
      refine (S4.get _ f2).mono ?_; rintro e w5 ⟨rfl, S5, _⟩
      unfold cval
      have bA : Blk (w5.alloc (.cells #[.int .i64 4, .int .i64 rt, .int .i64 (10 + lo + at_), .int .i64 m, .int .i64 1, .int .i64 b] 29)) w5.heap.size 29 [.int .i64 4, .int .i64 rt, .int .i64 (10 + lo + at_), .int .i64 m, .int .i64 1, .int .i64 b] := Blk.new w5 _ [.int .i64 4, .int .i64 rt, .int .i64 (10 + lo + at_), .int .i64 m, .int .i64 1, .int .i64 b]
      have S6 := S5.nob ((Keep.refl Nob w5).alloc (.cells #[.int .i64 4, .int .i64 rt, .int .i64 (10 + lo + at_), .int .i64 m, .int .i64 1, .int .i64 b] 29))
      go_wp2_with fail
      refine (S6.under _ f0).mono ?_; rintro e w7 ⟨A, cap, U, he, hU1, hU2, hU3, hv, S7, k7⟩
      have hp : U.Perm [((1 : Int), b), ((2 : Int), c)] := ch4.under S6.inv (k := 0) rfl hU1 hU2
      have hU := two_sorted hp hU3 (.inl (show (1 : Int) < 2 by decide))
      subst hU
      subst he
      have bA7 := bA.nob k7
      have d0 := bA7.cell 0
      have d1 := bA7.cell 1
      have d2 := bA7.cell 2
      have d3 := bA7.cell 3
      have d4 := bA7.cell 4
      have d5 := bA7.cell 5
      simp only [List.getElem?_cons_zero, List.getElem?_cons_succ] at d0 d1 d2 d3 d4 d5
      obtain ⟨g, rfl, u0, u1⟩ := hv.rf (j := 0) rfl
      obtain ⟨g', hg', v0, v1⟩ := hv.rf (j := 1) rfl
      cases hg'
      have heq : ∀ W, (Op.equalIn 10000 29 (.agg #[.int .i64 4, .int .i64 rt, .int .i64 (10 + lo + at_), .int .i64 m, .int .i64 1, .int .i64 b]) (.agg #[.int .i64 4, .int .i64 rt, .int .i64 (10 + lo + at_), .int .i64 m, .int .i64 1, .int .i64 b])).run Try.prog W = .ok true W := fun W => cap_same 9997 _ _ _ _ _ _ W
      have req1 : ∀ W, (Op.equalIn 10000 27 (.agg #[.int .i64 1, .int .i64 b]) (.agg #[.int .i64 1, .int .i64 b])).run Try.prog W = .ok true W := fun W => ref_same 9998 _ _ W
      have req2 : ∀ W, (Op.equalIn 10000 27 (.agg #[.int .i64 2, .int .i64 c]) (.agg #[.int .i64 2, .int .i64 c])).run Try.prog W = .ok true W := fun W => ref_same 9998 _ _ W
      clear bA bA7 S6 hv
      clear hU1 hU2 hU3 hp
      go_wp2_with fail
      refine (awake_true _).mono ?_; rintro e w8 ⟨rfl, k8⟩
      go_wp2
      go_ret
      exact ⟨rfl, S7.keep.nob k8⟩
    · refine (S3.grant_nopart _ g1 (show sub 4 5 = true by decide) hsub (fun ⟨_, _, _, _, q1, q2⟩ => hat ⟨by dsimp only at q1 q2; omega, by dsimp only at q1 q2; omega⟩)).mono ?_; rintro e w4 ⟨rfl, S4, _⟩
      by_cases q : at_ ≤ n
      · have q2 : n - at_ < m := by
          have : ¬ m ≤ n - at_ := fun h => hat ⟨q, h⟩
          omega
        clear hat i3 hsub
        go_wp2_with fail
        refine (awake_true _).mono ?_; rintro e w8 ⟨rfl, k8⟩
        go_wp2
        go_ret
        exact ⟨rfl, S4.keep.nob k8⟩
      · clear hat i3 hsub
        go_wp2_with fail
        refine (awake_true _).mono ?_; rintro e w8 ⟨rfl, k8⟩
        go_wp2
        go_ret
        exact ⟨rfl, S4.keep.nob k8⟩
  · refine (S3.grant_noright _ g1 (fun ⟨_, h⟩ => by rw [hsub] at h; cases h)).mono ?_; rintro e w4 ⟨rfl, S4, _⟩
    clear i3 hsub
    go_wp2_with fail
    refine (awake_true _).mono ?_; rintro e w8 ⟨rfl, k8⟩
    go_wp2
    go_ret
    exact ⟨rfl, S4.keep.nob k8⟩
theorem CapsParts_walk (w : World) (a0 : Int) (w0 : (Lit.int .i64 a0).wf = true) (a1 : Int) (w1 : (Lit.int .i64 a1).wf = true) (a2 : Int) (w2 : (Lit.int .i64 a2).wf = true) (a3 : Int) (w3 : (Lit.int .i64 a3).wf = true) (a4 : Int) (w4 : (Lit.int .i64 a4).wf = true) :
    Calls Try.prog 4 #[.int .i64 a0, .int .i64 a1, .int .i64 a2, .int .i64 a3, .int .i64 a4] w fun e w' => e = .returned (.bool true) ∧ Below w.heap.size w w' :=
  (parts_core w a0 a1 a2 a3 a4 _ _ _ _ _ rfl rfl rfl rfl rfl (by rw [i64_and63]; omega) (by rw [i64_and63]; omega) (by rw [i64_and127]; omega) (by rw [i64_and127]; omega) (by rw [i64_and7]; omega)).mono fun _ _ ⟨he, k⟩ => ⟨he, k.done⟩
end Go.Proofs.Ytjkmbffcmgeknaa
