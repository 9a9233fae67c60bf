/- The walk of TablePlays: any script over two tables and over the document's own names is answered alike. -/
import Derived.Test.YtkokcamplhekaaaLaw2e
namespace Go.Proofs.Ytkokcamplhekaaa
open Go.RowKit
set_option linter.unusedVariables false
set_option maxRecDepth 100000 in
set_option maxHeartbeats 16000000 in
theorem TablePlays_walk (w : World) (a0 : Int) (w0 : (Lit.int .i64 a0).wf = true) (A1 : Option Addr) (n1 c1 : Nat) (x1 : Ty.den (.sl 32 OpTy2)) (w1 : Holds w (.sl 32 OpTy2) x1 [.slice A1 n1 c1]) :
    Calls Try.prog 4 #[.int .i64 a0, .slice A1 n1 c1] w fun e w' => e = .returned (.bool true) ∧ Below w.heap.size w w' := by
  go_enter Try.func4, Try.ntmps4
  go_upto_if 25 with fail
  go_cut [0] (fun s0 wx => (∃ z : Int, s0 = .int .i64 z) ∧ wx = w)
  case first =>
    by_cases h : 300 < a0
    · go_wp2_with fail
      go_meet
      exact ⟨⟨_, rfl⟩, rfl⟩
    · go_wp2_with fail
      go_meet
      exact ⟨⟨_, rfl⟩, rfl⟩
  case rest =>
  obtain ⟨⟨z, rfl⟩, hw⟩ := hcut
  have hw := hw.symm
  subst hw
  obtain ⟨n, hn⟩ : ∃ n, (min (max z 0) 256).toNat = n := ⟨_, rfl⟩
  have hn256 : n ≤ 256 := by omega
  have HN := Lib.hid hn
  clear hn
  go_wp2_with fail
  refine (TabI.new_is _ n HN.out _).mono ?_; rintro e wa ⟨p1, r1, rfl, t1, hp1, hr1, k1⟩
  have K1 := (Keep.refl (From w.heap.size) w).nob k1
  go_wp2_with fail
  refine (TabS.new_is _ n HN.out _).mono ?_; rintro e wb ⟨p2, r2, rfl, t2, hp2, hr2, k2⟩
  have K2 := K1.nob k2
  have t1b := t1.nob k2
  have hr2' : w.heap.size ≤ r2 := by have := K1.size; omega
  clear k1 k2 t1 hp1 hp2 hr2 K1
  go_wp2_with fail
  refine (awake_true _).mono ?_; rintro e wc ⟨rfl, k3⟩
  have K3 := K2.nob k3
  have t1c := t1b.nob k3
  have t2c := t2.nob k3
  clear k3 K2 t1b t2
  go_wp2_with fail
  refine (Ref.new_is _ n HN.out _).mono ?_; rintro e wd ⟨q, A, cA, rfl, nd, hq, hA, k4⟩
  have K4 := K3.nob k4
  have t1d := t1c.nob k4
  have t2d := t2c.nob k4
  have hA' : ∀ b, Own A b → w.heap.size ≤ b := fun b hb => by have := hA b hb; have := K3.size; omega
  clear k4 hA hq t1c t2c K3
  go_wp2_with (refine wpList_mk rfl _ _ 22 rfl 3 (.int .i64 0) 8 Try.underlying22 infoint rfl .i64 .i64 256 _ rfl rfl rfl (by decide) (by decide) ?_; intro we be ke se)
  have hgv : w.heap.size ≤ wd.heap.size := K4.size
  have P0 : PS w we n p1 r1 p2 r2 q A cA wd.heap.size none 0 0 (fun _ => 1) (fun _ => false) (fun _ => 0) [] := by
    refine ⟨?_, ?_, ?_, ?_, Vec.nil _ _ _, fun i hi => Nat.le_refl _, Nat.le_refl _, K4.nob ke⟩
    · have := t1d.nob ke
      rw [mk_rep] at this
      exact this
    · have := t2d.nob ke
      rw [mk_rep] at this
      exact this
    · have := nd.nob ke
      rw [mk_rep] at this
      exact this
    · rw [mk_rep] at be
      exact be
  clear t1d t2d nd be ke se
  generalize wd.heap.size = gv at hgv P0 ⊢
  clear K4
  go_loopw [9, 10] (fun s9 s10 wx => ∃ (k : Nat) (B : Option Addr) (cB : Nat) (g : Nat → Nat) (o : Nat → Bool) (y : Nat → Int) (all : List Int), k ≤ n1 ∧ k ≤ 100 ∧ s10 = .int .i64 k ∧ s9 = .slice B all.length cB ∧ PS w wx n p1 r1 p2 r2 q A cA gv B cB k g o y all ∧ (∀ b, Own B b → gv < b)) (fun _ t _ => 100 - (intOf t).toNat)
  case atStart => exact ⟨0, none, 0, _, _, _, [], Nat.zero_le _, Nat.zero_le _, rfl, rfl, P0, fun b ⟨a, ha, _⟩ => by cases ha⟩
  case round =>
    obtain ⟨k, B, cB, g, o, y, all, hk1, hk2, rfl, rfl, h, hB⟩ := hrel
    by_cases hend : k < n1 ∧ k < 100
    · obtain ⟨hk1, hk2⟩ := hend
      obtain ⟨b0, off, cs', rfl, hcl, hcc, hk', hh⟩ := holds_at w1 (by decide) hk1
      obtain ⟨kind, opH, opR, opV, rfl⟩ := op2_cells hh
      have f0 := h.keep.cell_from (hcc 0 _ rfl)
      have f1 := h.keep.cell_from (hcc 1 _ rfl)
      have f2 := h.keep.cell_from (hcc 2 _ rfl)
      have f3 := h.keep.cell_from (hcc 3 _ rfl)
      simp only [show OpTy2.size = 4 from rfl, Nat.add_zero] at f0 f1 f2 f3
      clear hcc hcl hh hk' P0
      go_upto_block 1 with fail
      refine bd2_any w wr n p1 r1 p2 r2 q A cA gv B cB k g o y all n1 c1 b0 off kind opH opR opV hn256 hr1 hr2' hA' hgv h hB hk1 hk2 f0 f1 f2 f3 _ _ _ _ _ _ _ _ _ _ _ _ _ _ _ _ _ _ _ _ _ _ _ _ _ _ _ _ _ _ _ _ _ _ _ _ _ _ _ _ _ _ _ _ _ _ _ _ _ _ _ _ _ _ _ _ _ _ _ _ _ _ _ _ _ _ _ _ _ _ _ _ _ _ _ _ _ _ _ _ _ _ _ _ _ _ _ _ _ _ _ _ _ _ _ _ _ _ _ _ _ _ _ _ _ _ _ _ _ _ _ _ _ _ _ _ _ _ _ _ _ _ _ _ _ _ _ _ _ _ _ _ _ _ _ _ _ _ _ _ _ _ _ _ _ _ _ _ _ _ _ _ _ _ _ _ _ _ _ _ _ _ _ _ _ _ _ _ _ _ _ _ _ _ _ _ _ _ _ _ _ _ _ _ _ _ _ _ _ _ _ _ _ _ _ _ _ _ _ _ _ _ _ _ _ _ _ _ _ _ _ _ _ _ _ _ _ _ _ _ _ _ _ _ _ _ _ _ _ _ _ _ _ _ _ _ _ _ _ _ _ _ _ _ _ _ _ _ _ _ _ _ _ _ _ _ _ _ _ ?_
      intro a' w' h
      obtain ⟨u4, h⟩ := h
      obtain ⟨u11, h⟩ := h
      obtain ⟨u12, h⟩ := h
      obtain ⟨u13, h⟩ := h
      obtain ⟨u14, h⟩ := h
      obtain ⟨u15, h⟩ := h
      obtain ⟨u16, h⟩ := h
      obtain ⟨u17, h⟩ := h
      obtain ⟨u18, h⟩ := h
      obtain ⟨u19, h⟩ := h
      obtain ⟨u20, h⟩ := h
      obtain ⟨u21, h⟩ := h
      obtain ⟨u22, h⟩ := h
      obtain ⟨u23, h⟩ := h
      obtain ⟨u55, h⟩ := h
      obtain ⟨u56, h⟩ := h
      obtain ⟨u57, h⟩ := h
      obtain ⟨u58, h⟩ := h
      obtain ⟨u59, h⟩ := h
      obtain ⟨u60, h⟩ := h
      obtain ⟨u61, h⟩ := h
      obtain ⟨u62, h⟩ := h
      obtain ⟨u63, h⟩ := h
      obtain ⟨u64, h⟩ := h
      obtain ⟨u65, h⟩ := h
      obtain ⟨u66, h⟩ := h
      obtain ⟨u67, h⟩ := h
      obtain ⟨u68, h⟩ := h
      obtain ⟨u69, h⟩ := h
      obtain ⟨u70, h⟩ := h
      obtain ⟨u71, h⟩ := h
      obtain ⟨u72, h⟩ := h
      obtain ⟨u73, h⟩ := h
      obtain ⟨u74, h⟩ := h
      obtain ⟨u75, h⟩ := h
      obtain ⟨u76, h⟩ := h
      obtain ⟨u77, h⟩ := h
      obtain ⟨u78, h⟩ := h
      obtain ⟨u79, h⟩ := h
      obtain ⟨u80, h⟩ := h
      obtain ⟨u81, h⟩ := h
      obtain ⟨u82, h⟩ := h
      obtain ⟨u83, h⟩ := h
      obtain ⟨u84, h⟩ := h
      obtain ⟨u85, h⟩ := h
      obtain ⟨u86, h⟩ := h
      obtain ⟨u87, h⟩ := h
      obtain ⟨u88, h⟩ := h
      obtain ⟨u89, h⟩ := h
      obtain ⟨u90, h⟩ := h
      obtain ⟨u91, h⟩ := h
      obtain ⟨u92, h⟩ := h
      obtain ⟨u93, h⟩ := h
      obtain ⟨u94, h⟩ := h
      obtain ⟨u95, h⟩ := h
      obtain ⟨u96, h⟩ := h
      obtain ⟨u97, h⟩ := h
      obtain ⟨u98, h⟩ := h
      obtain ⟨u99, h⟩ := h
      obtain ⟨u100, h⟩ := h
      obtain ⟨u101, h⟩ := h
      obtain ⟨u102, h⟩ := h
      obtain ⟨u103, h⟩ := h
      obtain ⟨u104, h⟩ := h
      obtain ⟨u105, h⟩ := h
      obtain ⟨u106, h⟩ := h
      obtain ⟨u107, h⟩ := h
      obtain ⟨u108, h⟩ := h
      obtain ⟨u109, h⟩ := h
      obtain ⟨u110, h⟩ := h
      obtain ⟨u111, h⟩ := h
      obtain ⟨u112, h⟩ := h
      obtain ⟨u113, h⟩ := h
      obtain ⟨u114, h⟩ := h
      obtain ⟨u115, h⟩ := h
      obtain ⟨u116, h⟩ := h
      obtain ⟨u117, h⟩ := h
      obtain ⟨u118, h⟩ := h
      obtain ⟨u119, h⟩ := h
      obtain ⟨u120, h⟩ := h
      obtain ⟨u121, h⟩ := h
      obtain ⟨u122, h⟩ := h
      obtain ⟨u123, h⟩ := h
      obtain ⟨u124, h⟩ := h
      obtain ⟨u125, h⟩ := h
      obtain ⟨u126, h⟩ := h
      obtain ⟨u127, h⟩ := h
      obtain ⟨u128, h⟩ := h
      obtain ⟨u129, h⟩ := h
      obtain ⟨u130, h⟩ := h
      obtain ⟨u131, h⟩ := h
      obtain ⟨u132, h⟩ := h
      obtain ⟨u133, h⟩ := h
      obtain ⟨u134, h⟩ := h
      obtain ⟨u135, h⟩ := h
      obtain ⟨u136, h⟩ := h
      obtain ⟨u137, h⟩ := h
      obtain ⟨u138, h⟩ := h
      obtain ⟨u139, h⟩ := h
      obtain ⟨u140, h⟩ := h
      obtain ⟨u141, h⟩ := h
      obtain ⟨u142, h⟩ := h
      obtain ⟨u143, h⟩ := h
      obtain ⟨u144, h⟩ := h
      obtain ⟨u145, h⟩ := h
      obtain ⟨u146, h⟩ := h
      obtain ⟨u147, h⟩ := h
      obtain ⟨u148, h⟩ := h
      obtain ⟨u149, h⟩ := h
      obtain ⟨u150, h⟩ := h
      obtain ⟨u151, h⟩ := h
      obtain ⟨u152, h⟩ := h
      obtain ⟨u153, h⟩ := h
      obtain ⟨u154, h⟩ := h
      obtain ⟨u155, h⟩ := h
      obtain ⟨u156, h⟩ := h
      obtain ⟨u157, h⟩ := h
      obtain ⟨u158, h⟩ := h
      obtain ⟨u159, h⟩ := h
      obtain ⟨u160, h⟩ := h
      obtain ⟨u161, h⟩ := h
      obtain ⟨u162, h⟩ := h
      obtain ⟨u163, h⟩ := h
      obtain ⟨u164, h⟩ := h
      obtain ⟨u165, h⟩ := h
      obtain ⟨u166, h⟩ := h
      obtain ⟨u167, h⟩ := h
      obtain ⟨u168, h⟩ := h
      obtain ⟨u169, h⟩ := h
      obtain ⟨u170, h⟩ := h
      obtain ⟨u171, h⟩ := h
      obtain ⟨u172, h⟩ := h
      obtain ⟨u173, h⟩ := h
      obtain ⟨u174, h⟩ := h
      obtain ⟨u175, h⟩ := h
      obtain ⟨u176, h⟩ := h
      obtain ⟨u177, h⟩ := h
      obtain ⟨u178, h⟩ := h
      obtain ⟨u179, h⟩ := h
      obtain ⟨u180, h⟩ := h
      obtain ⟨u181, h⟩ := h
      obtain ⟨u182, h⟩ := h
      obtain ⟨u183, h⟩ := h
      obtain ⟨u184, h⟩ := h
      obtain ⟨u185, h⟩ := h
      obtain ⟨u186, h⟩ := h
      obtain ⟨u187, h⟩ := h
      obtain ⟨u188, h⟩ := h
      obtain ⟨u189, h⟩ := h
      obtain ⟨u190, h⟩ := h
      obtain ⟨u191, h⟩ := h
      obtain ⟨u192, h⟩ := h
      obtain ⟨u193, h⟩ := h
      obtain ⟨u194, h⟩ := h
      obtain ⟨u195, h⟩ := h
      obtain ⟨u196, h⟩ := h
      obtain ⟨u197, h⟩ := h
      obtain ⟨u198, h⟩ := h
      obtain ⟨u199, h⟩ := h
      obtain ⟨u200, h⟩ := h
      obtain ⟨u201, h⟩ := h
      obtain ⟨u202, h⟩ := h
      obtain ⟨u203, h⟩ := h
      obtain ⟨u204, h⟩ := h
      obtain ⟨u205, h⟩ := h
      obtain ⟨u206, h⟩ := h
      obtain ⟨u207, h⟩ := h
      obtain ⟨u208, h⟩ := h
      obtain ⟨u209, h⟩ := h
      obtain ⟨u210, h⟩ := h
      obtain ⟨u211, h⟩ := h
      obtain ⟨u212, h⟩ := h
      obtain ⟨u213, h⟩ := h
      obtain ⟨u214, h⟩ := h
      obtain ⟨u215, h⟩ := h
      obtain ⟨u216, h⟩ := h
      obtain ⟨u217, h⟩ := h
      obtain ⟨u218, h⟩ := h
      obtain ⟨u219, h⟩ := h
      obtain ⟨u220, h⟩ := h
      obtain ⟨u221, h⟩ := h
      obtain ⟨u222, h⟩ := h
      obtain ⟨u223, h⟩ := h
      obtain ⟨u224, h⟩ := h
      obtain ⟨u225, h⟩ := h
      obtain ⟨u226, h⟩ := h
      obtain ⟨u227, h⟩ := h
      obtain ⟨u228, h⟩ := h
      obtain ⟨u229, h⟩ := h
      obtain ⟨u230, h⟩ := h
      obtain ⟨u231, h⟩ := h
      obtain ⟨u232, h⟩ := h
      obtain ⟨u233, h⟩ := h
      obtain ⟨u234, h⟩ := h
      obtain ⟨u235, h⟩ := h
      obtain ⟨u236, h⟩ := h
      obtain ⟨u237, h⟩ := h
      obtain ⟨u238, h⟩ := h
      obtain ⟨u239, h⟩ := h
      obtain ⟨u240, h⟩ := h
      obtain ⟨u241, h⟩ := h
      obtain ⟨u242, h⟩ := h
      obtain ⟨u243, h⟩ := h
      obtain ⟨u244, h⟩ := h
      obtain ⟨u245, h⟩ := h
      obtain ⟨u246, h⟩ := h
      obtain ⟨u247, h⟩ := h
      obtain ⟨u248, h⟩ := h
      obtain ⟨u249, h⟩ := h
      obtain ⟨u250, h⟩ := h
      obtain ⟨u251, h⟩ := h
      obtain ⟨u252, h⟩ := h
      obtain ⟨u253, h⟩ := h
      obtain ⟨u254, h⟩ := h
      obtain ⟨u255, h⟩ := h
      obtain ⟨u256, h⟩ := h
      obtain ⟨u257, h⟩ := h
      obtain ⟨u258, h⟩ := h
      obtain ⟨u259, h⟩ := h
      obtain ⟨u260, h⟩ := h
      obtain ⟨u261, h⟩ := h
      obtain ⟨u262, h⟩ := h
      obtain ⟨u263, h⟩ := h
      obtain ⟨u264, h⟩ := h
      obtain ⟨B2, cB2, g2, o2, y2, all2, hp, hb, rfl⟩ := h
      dsimp only
      go_wp2_with fail
      go_roundw
      case rel => exact ⟨k + 1, B2, cB2, g2, o2, y2, all2, by omega, by omega, by go_num, rfl, hp, hb⟩
      case measure => simp [intOf]; omega
    · have hout : n1 ≤ k ∨ (k < n1 ∧ 100 ≤ k) := by omega
      rcases hout with h1 | ⟨h1, h2⟩
      all_goals
        go_wp2_with fail
        go_ret
        exact ⟨rfl, h.keep.done⟩
end Go.Proofs.Ytkokcamplhekaaa
