/- The statement Rows.RingPlaysSaid: its row, out of the walk RingPlays_walk: whatever the arguments, the call returns true, and all that was there reads as it did. -/
import Derived.Test.YtojciodjffahnaaLaw13c
import Derived.Test.YtojciodjffahnaaReadA
import Derived.OpenShut
import Derived.ShutString
import Derived.ChangeOld
namespace Go.Proofs.Ytojciodjffahnaa.ringPlaysProof
open Go.ChangeShapes Go.WideShapes Go.ChangeAt Go.RowKit
open Go.ChangeMaps (open_string shut_string)
set_option linter.unusedVariables false
set_option linter.unusedSimpArgs false
theorem own : ownKnob Try.prog.godebug = none := by kernel_rfl
theorem laidOut : laidOutB Try.prog = true := by kernel_rfl
theorem fit0 : Ar.fit Try.prog (.pair (.int .i64) (.pair (.int .i64) (.pair (.int .i64) (.pair (.int .i64) (.pair (.pair .byte (.pair .byte (.pair .byte (.pair .byte (.pair .byte (.pair .byte (.pair .byte (.pair .byte (.pair .byte (.pair .byte (.pair .byte (.pair .byte (.pair .byte (.pair .byte (.pair .byte (.pair .byte (.pair .byte (.pair .byte (.pair .byte (.pair .byte (.pair .byte (.pair .byte (.pair .byte (.pair .byte (.pair .byte (.pair .byte (.pair .byte (.pair .byte (.pair .byte (.pair .byte (.pair .byte (.pair .byte .unit)))))))))))))))))))))))))))))))) .unit))))) (.inl 26) = true := by kernel_rfl
theorem fit2 : Ar.fit Try.prog (.sl 1 .byte) (.inl 22) = true := by kernel_rfl
theorem fit3 : Ar.fit Try.prog (.sl 40 (.pair (.int .i64) (.pair (.int .i64) (.pair (.sl 1 .byte) .unit)))) (.inl 41) = true := by kernel_rfl
set_option maxRecDepth 100000 in
theorem lifted (os : Os) (started : os.Started) (H : Type) (enc : TypeId × Value → H) :
    ReturnsInHanded {} Try.checked os 5 .any (Rows.ringPlaysSpec.pre6 enc Try.prog Try.f5 Rows.ringPlaysRow.domain false) (Rows.ringPlaysSpec.post enc Try.prog Try.f5 false true false false) := by
  refine returnsInHanded_of_change_sized (C := Try.checked) own started (by kernel_rfl) Try.func5
    (ChangeSpec.witness6 (enc := enc) (C := Try.checked) false ⟨#[], #[.agg #[.int .i64 0, .int .i64 0, .int .i64 0, .int .i64 0, .int .u8 0, .int .u8 0, .int .u8 0, .int .u8 0, .int .u8 0, .int .u8 0, .int .u8 0, .int .u8 0, .int .u8 0, .int .u8 0, .int .u8 0, .int .u8 0, .int .u8 0, .int .u8 0, .int .u8 0, .int .u8 0, .int .u8 0, .int .u8 0, .int .u8 0, .int .u8 0, .int .u8 0, .int .u8 0, .int .u8 0, .int .u8 0, .int .u8 0, .int .u8 0, .int .u8 0, .int .u8 0, .int .u8 0, .int .u8 0, .int .u8 0, .int .u8 0], .int .i64 0, .slice none 0 0, .slice none 0 0], []⟩ 8 (by kernel_rfl) (by kernel_rfl) (by kernel_rfl) (by kernel_rfl)) ?_
  intro W base args ds gs before hval0 hW hcnd hsz0 _
  have hval : ∀ (j : Nat) t v, Try.f5.params[j]? = some t → args[j]? = some v → Value.okWide Try.prog W .any base t v := hval0
  have hsz : (DataW.weightsEach Try.prog (Try.f5.params.toList ++ Rows.ringPlaysSpec.plain.varTypes Try.prog) (ds ++ gs)).all (· ≤ reachBytes) = true := hsz0
  clear hsz0
  have hW' := hW
  obtain ⟨p, q, hA0, hV, rfl, hfz, hnd⟩ := hW
  have hA : DataW.TrodAll enc Try.prog W 0 (fun _ => true) true Try.f5.params.toList args.toList ds p := hA0
  rw [Try.params5] at hA hval hsz
  obtain ⟨v0, vs0, d0, ds0, p0, q0, hargs, rfl, rfl, h0, r0⟩ := trodAll_cons hA
  obtain ⟨v1, vs1, d1, ds1, p1, q1, rfl, rfl, rfl, h1, r1⟩ := trodAll_cons r0
  obtain ⟨v2, vs2, d2, ds2, p2, q2, rfl, rfl, rfl, h2, r2⟩ := trodAll_cons r1
  obtain ⟨v3, vs3, d3, ds3, p3, q3, rfl, rfl, rfl, h3, r3⟩ := trodAll_cons r2
  obtain ⟨rfl, rfl, rfl⟩ := trodAll_nil r3
  obtain rfl : args = #[v0, v1, v2, v3] := by cases args; simp_all
  obtain ⟨rfl, rfl⟩ := trodVars_none hV
  obtain ⟨s0, rfl, _⟩ := okWide_struct Try.underlying26 (hval 0 26 v0 rfl rfl)
  have k0 := h0
  have lt0 : ∀ x ∈ p0, x.block < W.heap.size := by obtain ⟨m, hm⟩ := k0; exact DataW.trod_lt m _ _ _ hm
  obtain ⟨x0, w0⟩ : ∃ x : Ty.den (.pair (.int .i64) (.pair (.int .i64) (.pair (.int .i64) (.pair (.int .i64) (.pair (.pair .byte (.pair .byte (.pair .byte (.pair .byte (.pair .byte (.pair .byte (.pair .byte (.pair .byte (.pair .byte (.pair .byte (.pair .byte (.pair .byte (.pair .byte (.pair .byte (.pair .byte (.pair .byte (.pair .byte (.pair .byte (.pair .byte (.pair .byte (.pair .byte (.pair .byte (.pair .byte (.pair .byte (.pair .byte (.pair .byte (.pair .byte (.pair .byte (.pair .byte (.pair .byte (.pair .byte (.pair .byte .unit)))))))))))))))))))))))))))))))) .unit))))), Holds W (.pair (.int .i64) (.pair (.int .i64) (.pair (.int .i64) (.pair (.int .i64) (.pair (.pair .byte (.pair .byte (.pair .byte (.pair .byte (.pair .byte (.pair .byte (.pair .byte (.pair .byte (.pair .byte (.pair .byte (.pair .byte (.pair .byte (.pair .byte (.pair .byte (.pair .byte (.pair .byte (.pair .byte (.pair .byte (.pair .byte (.pair .byte (.pair .byte (.pair .byte (.pair .byte (.pair .byte (.pair .byte (.pair .byte (.pair .byte (.pair .byte (.pair .byte (.pair .byte (.pair .byte (.pair .byte .unit)))))))))))))))))))))))))))))))) .unit))))) x s0.toList := by
    obtain ⟨fuel, hf⟩ := h0
    exact (Ar.reads_as (enc := enc) (P := Try.prog) (w := W) (.pair (.int .i64) (.pair (.int .i64) (.pair (.int .i64) (.pair (.int .i64) (.pair (.pair .byte (.pair .byte (.pair .byte (.pair .byte (.pair .byte (.pair .byte (.pair .byte (.pair .byte (.pair .byte (.pair .byte (.pair .byte (.pair .byte (.pair .byte (.pair .byte (.pair .byte (.pair .byte (.pair .byte (.pair .byte (.pair .byte (.pair .byte (.pair .byte (.pair .byte (.pair .byte (.pair .byte (.pair .byte (.pair .byte (.pair .byte (.pair .byte (.pair .byte (.pair .byte (.pair .byte (.pair .byte .unit)))))))))))))))))))))))))))))))) .unit)))))).1 26 fuel _ _ _ fit0 hf (fun n hn => by
      have := List.all_eq_true.1 hsz n (DataW.weights_mem_each (j := 0) (t := 26) rfl rfl n hn)
      simpa using this)
  obtain ⟨a1, rfl, rfl, rfl, w1⟩ := open_int Try.underlying3 (hval 1 3 v1 rfl rfl) h1
  obtain ⟨A2, n2, c2, rfl⟩ := okWide_slice Try.underlying22 (hval 2 22 v2 rfl rfl)
  have k2 := h2
  have lt2 : ∀ x ∈ p2, x.block < W.heap.size := by obtain ⟨m, hm⟩ := k2; exact DataW.trod_lt m _ _ _ hm
  obtain ⟨x2, w2⟩ : ∃ x : Ty.den (.sl 1 .byte), Holds W (.sl 1 .byte) x [.slice A2 n2 c2] := by
    obtain ⟨fuel, hf⟩ := h2
    exact (Ar.reads_as (enc := enc) (P := Try.prog) (w := W) (.sl 1 .byte)).1 22 fuel _ _ _ fit2 hf (fun n hn => by
      have := List.all_eq_true.1 hsz n (DataW.weights_mem_each (j := 2) (t := 22) rfl rfl n hn)
      simpa using this)
  obtain ⟨A3, n3, c3, rfl⟩ := okWide_slice Try.underlying41 (hval 3 41 v3 rfl rfl)
  have k3 := h3
  have lt3 : ∀ x ∈ p3, x.block < W.heap.size := by obtain ⟨m, hm⟩ := k3; exact DataW.trod_lt m _ _ _ hm
  obtain ⟨x3, w3⟩ : ∃ x : Ty.den (.sl 40 (.pair (.int .i64) (.pair (.int .i64) (.pair (.sl 1 .byte) .unit)))), Holds W (.sl 40 (.pair (.int .i64) (.pair (.int .i64) (.pair (.sl 1 .byte) .unit)))) x [.slice A3 n3 c3] := by
    obtain ⟨fuel, hf⟩ := h3
    exact (Ar.reads_as (enc := enc) (P := Try.prog) (w := W) (.sl 40 (.pair (.int .i64) (.pair (.int .i64) (.pair (.sl 1 .byte) .unit))))).1 41 fuel _ _ _ fit3 hf (fun n hn => by
      have := List.all_eq_true.1 hsz n (DataW.weights_mem_each (j := 3) (t := 41) rfl rfl n hn)
      simpa using this)
  clear hA0 hval0
  refine (RingPlays_walk W s0 x0 w0 a1 w1 A2 n2 c2 x2 w2 A3 n3 c3 x3 w3).mono fun e W' ⟨he, bel⟩ => ?_
  subst he
  exact ⟨_, rfl, _, _, _, [], _, [], hW', trodAll_mk1 (shut_bool Try.underlying4 _), (trodAll_cons_mk (Below.trod laidOut (by kernel_rfl) (of_decide_eq_true (by kernel_rfl)) k0 bel lt0) (trodAll_cons_mk (shut_int Try.underlying3 w1) (trodAll_cons_mk (Below.trod laidOut (by kernel_rfl) (of_decide_eq_true (by kernel_rfl)) k2 bel lt2) (trodAll_cons_mk (Below.trod laidOut (by kernel_rfl) (of_decide_eq_true (by kernel_rfl)) k3 bel lt3) trodAll_mk0)))), rfl, bel.frame _, fun h => by cases h⟩
theorem over : Rows.ringPlaysRow.holds Try.pinned (OpenSpec.ofChange Rows.ringPlaysSpec) :=
  OpenClaim.holds_of_wide 5 Try.f5 rfl rfl rfl rfl rfl rfl rfl ⟨rfl, rfl, rfl, rfl, rfl⟩ rfl rfl rfl rfl rfl (by kernel_rfl) Try.func5 (by kernel_rfl)
    (of_decide_eq_true (by kernel_rfl)) (by unfold Func.isWrapper; first | (rw [if_pos (by decide +kernel)]; kernel_rfl) | (rw [if_neg (by decide +kernel)]; exact ⟨rfl, rfl⟩))
    (fun os started H enc _ => lifted os started H enc)
theorem proved : Rows.RingPlaysSaid := over
#print axioms proved
end Go.Proofs.Ytojciodjffahnaa.ringPlaysProof
