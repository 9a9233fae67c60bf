/- Texts AudF, AudG, packed. -/
import Derived.Deep.RegionHeld3
import Derived.Deep.MidRow
import Derived.BigRegion
import Derived.Test.YtngchjejmnfanaaGreatPk0
import Derived.Test.YtngchjejmnfanaaGreatPk2
import Derived.Test.YtngchjejmnfanaaGreatPk3
import Derived.Test.YtngchjejmnfanaaGreatPk5
import Derived.Test.YtngchjejmnfanaaGreatPk6
import Derived.Test.YtngchjejmnfanaaGreatPk8
import Derived.Test.YtngchjejmnfanaaGreatPbx0
import Derived.Test.YtngchjejmnfanaaGreatPk12
import Derived.Test.YtngchjejmnfanaaGreatPk15
import Derived.Test.YtngchjejmnfanaaGreatPk18
import Derived.Test.YtngchjejmnfanaaGreatPk19
import Derived.Test.YtngchjejmnfanaaGreatPk1
import Derived.Test.YtngchjejmnfanaaGreatPk7
import Derived.Test.YtngchjejmnfanaaGreatPk11
import Derived.Test.YtngchjejmnfanaaGreatPk21
import Derived.Test.YtngchjejmnfanaaGreatPk22
import Derived.Test.YtngchjejmnfanaaGreatPk14
import Derived.Test.YtngchjejmnfanaaGreatPk13
import Derived.Test.YtngchjejmnfanaaGreatPk16
import Derived.Test.YtngchjejmnfanaaGreatPk17
import Derived.Test.YtngchjejmnfanaaGreatPk24
import Derived.Test.YtngchjejmnfanaaGreatPk23
import Derived.Test.YtngchjejmnfanaaGreatPk20
import Derived.Test.YtngchjejmnfanaaGreatPk9
import Derived.Test.YtngchjejmnfanaaGreatPk25
import Derived.Test.YtngchjejmnfanaaGreatPk10
import Derived.Test.YtngchjejmnfanaaGreatPk26
namespace Go.Proofs.YtngchjejmnfanaaGreat.Au
open Go.RowKit Co
set_option linter.unusedVariables false
set_option linter.unusedSimpArgs false
theorem szU2 : (Tryz.prog.info? 5).map (·.size) = some 1 := by kernel_rfl
theorem iP : (Tryz.prog.info? 39).map (·.size) = some 16 := by kernel_rfl
theorem iF : (Tryz.prog.info? 41).map (·.size) = some 4 := by kernel_rfl
theorem iR : (Tryz.prog.info? 44).map (·.size) = some 36 := by kernel_rfl
/-- Commons with records put into them. -/
def putB (b : List UInt8) (P Q F0 F1 : List Int) (R : Ri.Pp) : List UInt8 :=
  splice (splice (splice (splice (splice b 0 (Cd.enc P)) 24 (Cd.enc Q)) 200 (Fi.enc F0)) 208 (Fi.enc F1)) 368 (Ri.enc R)
theorem blk_range {w : World} {g o n : Nat} {t : TypeId} {cs ds : List Value} (hb : Blk w g t cs) (h : (cs.drop o).take n = ds) : w.rangeAt g o ds := fun j v hv => by
  rw [hb.cell]
  rw [← h, List.getElem?_take] at hv
  split at hv
  · rw [List.getElem?_drop] at hv; exact hv
  · cases hv
theorem exec_ld_mid {ρ : Operand → Value} {o : Oper} {x : Operand} {t : TypeId} {w : World} {g off : Nat} {cs : List Value} {d : TypeDesc} (ho : o.op = .load t x) (hx : ρ x = .pointer (some ⟨g, off, none⟩)) (hc : w.rangeAt g off cs) (hu : Tryz.prog.underlying t = some d) (hd : d.isRow = true) (hi : (Tryz.prog.info? t).map (·.size) = some cs.length) : (execOp ρ o).run Tryz.prog w = .ok (.value (.agg cs.toArray)) w := by
  have := run_loadVar_mid (P := Tryz.prog) w g off t cs d hc hu hd hi
  simp [execOp, ho, hx, Instr.loadAt, Instr.sureAddr, this, Result.andThen]
set_option maxRecDepth 100000 in
set_option maxHeartbeats 16000000 in
theorem put_is {w : World} {gB gP gQ gF gR gb : Nat} {b : List UInt8} {P Q F0 F1 : List Int} {R : Ri.Pp} (hB : Blk w gB 36 [.slice (some ⟨gb, 0, none⟩) 492 492]) (hb : Blk w gb 5 (bytes b)) (hl : b.length = 492)
    (hP : Blk w gP 39 (ints P)) (hPl : P.length = 16) (hPo : Cd.okd P = true) (hQ : Blk w gQ 39 (ints Q)) (hQl : Q.length = 16) (hQo : Cd.okd Q = true)
    (hF : Blk w gF 71 (ints F0 ++ ints F1)) (hF0 : F0.length = 4) (hF1 : F1.length = 4) (hR : Blk w gR 44 (Ri.pc R)) (hRl : R.d.length = 32) :
    Calls Tryz.prog 17 #[.pointer (some ⟨gB, 0, none⟩), .pointer (some ⟨gP, 0, none⟩), .pointer (some ⟨gQ, 0, none⟩), .pointer (some ⟨gF, 0, none⟩), .pointer (some ⟨gR, 0, none⟩)] w fun e w' => e = .returned (.tuple #[]) ∧ Blk w' gb 5 (bytes (putB b P Q F0 F1 R)) ∧ Keep (· = gb) w w' := by
  have hc0 : ∀ W, Calls Tryz.prog 18 #[(.agg (ints P).toArray)] W fun e w' => e = .returned (.string (str (Cd.enc P))) ∧ Keep Nob W w' := fun W => Cd.procbytes_is P hPl hPo W
  have hc1 : ∀ W, Calls Tryz.prog 18 #[(.agg (ints Q).toArray)] W fun e w' => e = .returned (.string (str (Cd.enc Q))) ∧ Keep Nob W w' := fun W => Cd.procbytes_is Q hQl hQo W
  have hc2 : ∀ W, Calls Tryz.prog 19 #[(.agg (ints F0).toArray)] W fun e w' => e = .returned (.string (str (Fi.enc F0))) ∧ Keep Nob W w' := fun W => Fi.filebytes_is F0 hF0 W
  have hc3 : ∀ W, Calls Tryz.prog 19 #[(.agg (ints F1).toArray)] W fun e w' => e = .returned (.string (str (Fi.enc F1))) ∧ Keep Nob W w' := fun W => Fi.filebytes_is F1 hF1 W
  have hc4 : ∀ W, Calls Tryz.prog 20 #[(.agg (Ri.pc R).toArray)] W fun e w' => e = .returned (.string (str (Ri.enc R))) ∧ Keep Nob W w' := fun W => Ri.pipebytes_is R hRl W
  have HC := Lib.hid (And.intro hc0 (And.intro hc1 (And.intro hc2 (And.intro hc3 hc4))))
  have HE := Lib.hid (show (Cd.enc P).length = 24 ∧ (Cd.enc Q).length = 24 ∧ (Fi.enc F0).length = 8 ∧ (Fi.enc F1).length = 8 ∧ (Ri.enc R).length = 40 from ⟨Cd.enc_len hPl, Cd.enc_len hQl, Fi.enc_len _, Fi.enc_len _, Ri.enc_len hRl⟩)
  have HI := Lib.hid (show (ints P).length = 16 ∧ (ints Q).length = 16 ∧ (ints F0).length = 4 ∧ (ints F1).length = 4 ∧ (Ri.pc R).length = 36 from ⟨by rw [ints_len, hPl], by rw [ints_len, hQl], by rw [ints_len, hF0], by rw [ints_len, hF1], Ri.pc_len hRl⟩)
  have HS := Lib.hid (show ∀ W, Keep (· = gb) w W → W.cell? ⟨gB, 0, none⟩ = some (.slice (some ⟨gb, 0, none⟩) 492 492) ∧ W.rangeAt gP 0 (ints P) ∧ W.rangeAt gQ 0 (ints Q) ∧ W.rangeAt gF 0 (ints F0) ∧ W.rangeAt gF 4 (ints F1) ∧ W.rangeAt gR 0 (Ri.pc R) from fun W k =>
    ⟨(hB.keep k (hB.ne_ hb (by decide))).cell 0, blk_range (hP.keep k (hP.ne_ hb (by decide))) (by rw [List.drop_zero, List.take_of_length_le (Nat.le_refl _)]), blk_range (hQ.keep k (hQ.ne_ hb (by decide))) (by rw [List.drop_zero, List.take_of_length_le (Nat.le_refl _)]),
      blk_range (n := 4) (hF.keep k (hF.ne_ hb (by decide))) (by rw [List.drop_zero, List.take_append_of_le_length (by rw [ints_len, hF0]; exact Nat.le_refl _), List.take_of_length_le (by rw [ints_len, hF0]; exact Nat.le_refl _)]),
      blk_range (n := 4) (hF.keep k (hF.ne_ hb (by decide))) (by rw [List.drop_append, show (ints F0).length = 4 by rw [ints_len, hF0], Nat.sub_self, List.drop_zero, List.drop_eq_nil_of_le (by rw [ints_len, hF0]; exact Nat.le_refl _), List.nil_append, List.take_of_length_le (by rw [ints_len, hF1]; exact Nat.le_refl _)]), blk_range (hR.keep k (hR.ne_ hb (by decide))) (by rw [List.drop_zero, List.take_of_length_le (Nat.le_refl _)])⟩)
  have HB0 := Lib.hid (And.intro hb hl)
  have HIn := Lib.hid (And.intro iP (And.intro iF iR))
  clear hB hb hl hP hPl hPo hQ hQl hQo hF hF0 hF1 hR hRl hc0 hc1 hc2 hc3 hc4
  have HK0 := Lib.hid (Keep.refl (· = gb) w)
  go_enter Tryz.func17, Tryz.ntmps17
  go_wp2_with fail
  have kd0 := Lib.hid (show Keep (· = gb) w w.drew from HK0.out.drew)
  have s0 := HS.out _ kd0.out
  refine wp_region_held_drew (S := (fun W => W.cell? ⟨gB, 0, none⟩ = some (.slice (some ⟨gb, 0, none⟩) 492 492) ∧ W.rangeAt gP 0 (ints P) ∧ W.rangeAt gQ 0 (ints Q) ∧ W.rangeAt gF 0 (ints F0) ∧ W.rangeAt gF 4 (ints F1) ∧ W.rangeAt gR 0 (Ri.pc R))) (by kernel_rfl) s0 (fun hHeld => ?_)
  refine wpAnyH_take (i := 0) (v := ?_) rfl (by kernel_rfl) (by kernel_rfl) (by kernel_rfl) (fun _ _ _ h => h) (Or.inl ⟨by rfl, ?_⟩) (by assumption) ?_
  rotate_left
  · (intro w hSw; (try dsimp only at hSw); obtain ⟨sB, sP, sQ, sF, sG, sR⟩ := hSw; go_simp; try with_reducible rfl)
  try simp only [Act.put, List.getElem_toArray, List.getElem_cons_zero, List.getElem_cons_succ, List.setIfInBounds_toArray, List.set_cons_zero, List.set_cons_succ]
  refine wpAnyH_take (i := 1) (v := ?_) rfl (by kernel_rfl) (by kernel_rfl) (by kernel_rfl) (fun _ _ _ h => h) (Or.inl ⟨by rfl, ?_⟩) (by assumption) ?_
  rotate_left
  · (intro w hSw; (try dsimp only at hSw); obtain ⟨sB, sP, sQ, sF, sG, sR⟩ := hSw; refine exec_ld_mid (x := .tmp 1) ?_ ?_ sP Tryz.underlying39 rfl (by rw [HI.out.1]; exact HIn.out.1) <;> rfl)
  try simp only [Act.put, List.getElem_toArray, List.getElem_cons_zero, List.getElem_cons_succ, List.setIfInBounds_toArray, List.set_cons_zero, List.set_cons_succ]
  refine wpAnyH_ready (rs := [2]) (by kernel_rfl) (by simp) ?_
  refine AllReadyH.cons rfl (fun K hK => ?_) AllReadyH.nil
  go_simp
  with_reducible_and_instances apply Calls.mono (HC.out.1 w.drew); rintro e x0 ⟨rfl, y0⟩
  have KX0 := Lib.hid (show Keep (· = gb) w x0 from kd0.out.trans (y0.mono (fun _ _ f => f.elim)) (fun _ _ m => m))
  obtain ⟨z0, hcp0, hb0, hk0, _⟩ := run_cps (P := Tryz.prog) x0 36 9 5 Tryz.underlying36 szU2 (some ⟨gb, 0, none⟩) 492 492 gb 0 _ 5 ((HB0.out.1.drew).nob y0) (Cd.enc P) (fun _ => rfl) (by rw [bytes_length, HB0.out.2]; decide) (by rw [HE.out.1]; decide)
  have HK1 := Lib.hid (KX0.out.trans hk0 (fun _ _ m => m))
  refine hK.out _ _ ?_ (fun hHeld => ?_)
  · exact HS.out _ KX0.out
  clear hK K
  try simp only [Act.put, List.getElem_toArray, List.getElem_cons_zero, List.getElem_cons_succ, List.setIfInBounds_toArray, List.set_cons_zero, List.set_cons_succ]
  refine wpAnyH_ready (rs := [3]) (by kernel_rfl) (by simp) ?_
  refine AllReadyH.cons rfl (fun K hK => ?_) AllReadyH.nil
  go_simp
  refine hK.out _ _ ?_ (fun hHeld => ?_)
  · exact HS.out _ HK1.out
  clear hK K
  try simp only [Act.put, List.getElem_toArray, List.getElem_cons_zero, List.getElem_cons_succ, List.setIfInBounds_toArray, List.set_cons_zero, List.set_cons_succ]
  refine wpAnyH_done (by kernel_rfl) ?_ _
  have HB1 := Lib.hid (show Blk z0 gb 5 (bytes (splice b 0 (Cd.enc P))) ∧ (splice b 0 (Cd.enc P)).length = 492 from ⟨by rw [← splice_bytes]; exact hb0, by rw [splice_len _ _ _ (by rw [HB0.out.2, HE.out.1]; decide), HB0.out.2]⟩)
  clear s0 hcp0 hb0 hk0 y0
  obtain ⟨b1, hb1e⟩ : ∃ q, splice b 0 (Cd.enc P) = q := ⟨_, rfl⟩
  rw [hb1e] at HB1
  have HE1 := Lib.hid hb1e
  clear hb1e
  go_wp2_with fail
  have kd1 := Lib.hid (show Keep (· = gb) w z0.drew from HK1.out.drew)
  have s1 := HS.out _ kd1.out
  refine wp_region_held_drew (S := (fun W => W.cell? ⟨gB, 0, none⟩ = some (.slice (some ⟨gb, 0, none⟩) 492 492) ∧ W.rangeAt gP 0 (ints P) ∧ W.rangeAt gQ 0 (ints Q) ∧ W.rangeAt gF 0 (ints F0) ∧ W.rangeAt gF 4 (ints F1) ∧ W.rangeAt gR 0 (Ri.pc R))) (by kernel_rfl) s1 (fun hHeld => ?_)
  refine wpAnyH_take (i := 0) (v := ?_) rfl (by kernel_rfl) (by kernel_rfl) (by kernel_rfl) (fun _ _ _ h => h) (Or.inl ⟨by rfl, ?_⟩) (by assumption) ?_
  rotate_left
  · (intro w hSw; (try dsimp only at hSw); obtain ⟨sB, sP, sQ, sF, sG, sR⟩ := hSw; go_simp; try with_reducible rfl)
  try simp only [Act.put, List.getElem_toArray, List.getElem_cons_zero, List.getElem_cons_succ, List.setIfInBounds_toArray, List.set_cons_zero, List.set_cons_succ]
  refine wpAnyH_take (i := 1) (v := ?_) rfl (by kernel_rfl) (by kernel_rfl) (by kernel_rfl) (fun _ _ _ h => h) (Or.inl ⟨by rfl, ?_⟩) (by assumption) ?_
  rotate_left
  · (intro w hSw; (try dsimp only at hSw); obtain ⟨sB, sP, sQ, sF, sG, sR⟩ := hSw; go_simp; try with_reducible rfl)
  try simp only [Act.put, List.getElem_toArray, List.getElem_cons_zero, List.getElem_cons_succ, List.setIfInBounds_toArray, List.set_cons_zero, List.set_cons_succ]
  refine wpAnyH_take (i := 2) (v := ?_) rfl (by kernel_rfl) (by kernel_rfl) (by kernel_rfl) (fun _ _ _ h => h) (Or.inl ⟨by rfl, ?_⟩) (by assumption) ?_
  rotate_left
  · (intro w hSw; (try dsimp only at hSw); obtain ⟨sB, sP, sQ, sF, sG, sR⟩ := hSw; refine exec_ld_mid (x := .tmp 2) ?_ ?_ sQ Tryz.underlying39 rfl (by rw [HI.out.2.1]; exact HIn.out.1) <;> rfl)
  try simp only [Act.put, List.getElem_toArray, List.getElem_cons_zero, List.getElem_cons_succ, List.setIfInBounds_toArray, List.set_cons_zero, List.set_cons_succ]
  refine wpAnyH_ready (rs := [3]) (by kernel_rfl) (by simp) ?_
  refine AllReadyH.cons rfl (fun K hK => ?_) AllReadyH.nil
  go_simp
  with_reducible_and_instances apply Calls.mono (HC.out.2.1 z0.drew); rintro e x1 ⟨rfl, y1⟩
  have KX1 := Lib.hid (show Keep (· = gb) w x1 from kd1.out.trans (y1.mono (fun _ _ f => f.elim)) (fun _ _ m => m))
  obtain ⟨z1, hcp1, hb1, hk1, _⟩ := run_cps (P := Tryz.prog) x1 36 9 5 Tryz.underlying36 szU2 (some ⟨gb, 24, none⟩) 468 468 gb 24 _ 5 ((HB1.out.1.drew).nob y1) (Cd.enc Q) (fun _ => rfl) (by rw [bytes_length, HB1.out.2]; decide) (by rw [HE.out.2.1]; decide)
  have HK2 := Lib.hid (KX1.out.trans hk1 (fun _ _ m => m))
  refine hK.out _ _ ?_ (fun hHeld => ?_)
  · exact HS.out _ KX1.out
  clear hK K
  try simp only [Act.put, List.getElem_toArray, List.getElem_cons_zero, List.getElem_cons_succ, List.setIfInBounds_toArray, List.set_cons_zero, List.set_cons_succ]
  refine wpAnyH_ready (rs := [4]) (by kernel_rfl) (by simp) ?_
  refine AllReadyH.cons rfl (fun K hK => ?_) AllReadyH.nil
  go_simp
  refine hK.out _ _ ?_ (fun hHeld => ?_)
  · exact HS.out _ HK2.out
  clear hK K
  try simp only [Act.put, List.getElem_toArray, List.getElem_cons_zero, List.getElem_cons_succ, List.setIfInBounds_toArray, List.set_cons_zero, List.set_cons_succ]
  refine wpAnyH_done (by kernel_rfl) ?_ _
  have HB2 := Lib.hid (show Blk z1 gb 5 (bytes (splice b1 24 (Cd.enc Q))) ∧ (splice b1 24 (Cd.enc Q)).length = 492 from ⟨by rw [← splice_bytes]; exact hb1, by rw [splice_len _ _ _ (by rw [HB1.out.2, HE.out.2.1]; decide), HB1.out.2]⟩)
  clear s1 hcp1 hb1 hk1 y1
  obtain ⟨b2, hb2e⟩ : ∃ q, splice b1 24 (Cd.enc Q) = q := ⟨_, rfl⟩
  rw [hb2e] at HB2
  have HE2 := Lib.hid hb2e
  clear hb2e
  go_wp2_with fail
  have kd2 := Lib.hid (show Keep (· = gb) w z1.drew from HK2.out.drew)
  have s2 := HS.out _ kd2.out
  refine wp_region_held_drew (S := (fun W => W.cell? ⟨gB, 0, none⟩ = some (.slice (some ⟨gb, 0, none⟩) 492 492) ∧ W.rangeAt gP 0 (ints P) ∧ W.rangeAt gQ 0 (ints Q) ∧ W.rangeAt gF 0 (ints F0) ∧ W.rangeAt gF 4 (ints F1) ∧ W.rangeAt gR 0 (Ri.pc R))) (by kernel_rfl) s2 (fun hHeld => ?_)
  refine wpAnyH_take (i := 0) (v := ?_) rfl (by kernel_rfl) (by kernel_rfl) (by kernel_rfl) (fun _ _ _ h => h) (Or.inl ⟨by rfl, ?_⟩) (by assumption) ?_
  rotate_left
  · (intro w hSw; (try dsimp only at hSw); obtain ⟨sB, sP, sQ, sF, sG, sR⟩ := hSw; go_simp; try with_reducible rfl)
  try simp only [Act.put, List.getElem_toArray, List.getElem_cons_zero, List.getElem_cons_succ, List.setIfInBounds_toArray, List.set_cons_zero, List.set_cons_succ]
  refine wpAnyH_take (i := 1) (v := ?_) rfl (by kernel_rfl) (by kernel_rfl) (by kernel_rfl) (fun _ _ _ h => h) (Or.inl ⟨by rfl, ?_⟩) (by assumption) ?_
  rotate_left
  · (intro w hSw; (try dsimp only at hSw); obtain ⟨sB, sP, sQ, sF, sG, sR⟩ := hSw; go_simp; try with_reducible rfl)
  try simp only [Act.put, List.getElem_toArray, List.getElem_cons_zero, List.getElem_cons_succ, List.setIfInBounds_toArray, List.set_cons_zero, List.set_cons_succ]
  refine wpAnyH_take (i := 2) (v := ?_) rfl (by kernel_rfl) (by kernel_rfl) (by kernel_rfl) (fun _ _ _ h => h) (Or.inl ⟨by rfl, ?_⟩) (by assumption) ?_
  rotate_left
  · (intro w hSw; (try dsimp only at hSw); obtain ⟨sB, sP, sQ, sF, sG, sR⟩ := hSw; go_simp; try with_reducible rfl)
  try simp only [Act.put, List.getElem_toArray, List.getElem_cons_zero, List.getElem_cons_succ, List.setIfInBounds_toArray, List.set_cons_zero, List.set_cons_succ]
  refine wpAnyH_take (i := 3) (v := ?_) rfl (by kernel_rfl) (by kernel_rfl) (by kernel_rfl) (fun _ _ _ h => h) (Or.inl ⟨by rfl, ?_⟩) (by assumption) ?_
  rotate_left
  · (intro w hSw; (try dsimp only at hSw); obtain ⟨sB, sP, sQ, sF, sG, sR⟩ := hSw; refine exec_ld_mid (x := .tmp 16) ?_ ?_ sF Tryz.underlying41 rfl (by rw [HI.out.2.2.1]; exact HIn.out.2.1) <;> rfl)
  try simp only [Act.put, List.getElem_toArray, List.getElem_cons_zero, List.getElem_cons_succ, List.setIfInBounds_toArray, List.set_cons_zero, List.set_cons_succ]
  refine wpAnyH_ready (rs := [4]) (by kernel_rfl) (by simp) ?_
  refine AllReadyH.cons rfl (fun K hK => ?_) AllReadyH.nil
  go_simp
  with_reducible_and_instances apply Calls.mono (HC.out.2.2.1 z1.drew); rintro e x2 ⟨rfl, y2⟩
  have KX2 := Lib.hid (show Keep (· = gb) w x2 from kd2.out.trans (y2.mono (fun _ _ f => f.elim)) (fun _ _ m => m))
  obtain ⟨z2, hcp2, hb2, hk2, _⟩ := run_cps (P := Tryz.prog) x2 36 9 5 Tryz.underlying36 szU2 (some ⟨gb, 200, none⟩) 292 292 gb 200 _ 5 ((HB2.out.1.drew).nob y2) (Fi.enc F0) (fun _ => rfl) (by rw [bytes_length, HB2.out.2]; decide) (by rw [HE.out.2.2.1]; decide)
  have HK3 := Lib.hid (KX2.out.trans hk2 (fun _ _ m => m))
  refine hK.out _ _ ?_ (fun hHeld => ?_)
  · exact HS.out _ KX2.out
  clear hK K
  try simp only [Act.put, List.getElem_toArray, List.getElem_cons_zero, List.getElem_cons_succ, List.setIfInBounds_toArray, List.set_cons_zero, List.set_cons_succ]
  refine wpAnyH_ready (rs := [5]) (by kernel_rfl) (by simp) ?_
  refine AllReadyH.cons rfl (fun K hK => ?_) AllReadyH.nil
  go_simp
  refine hK.out _ _ ?_ (fun hHeld => ?_)
  · exact HS.out _ HK3.out
  clear hK K
  try simp only [Act.put, List.getElem_toArray, List.getElem_cons_zero, List.getElem_cons_succ, List.setIfInBounds_toArray, List.set_cons_zero, List.set_cons_succ]
  refine wpAnyH_done (by kernel_rfl) ?_ _
  have HB3 := Lib.hid (show Blk z2 gb 5 (bytes (splice b2 200 (Fi.enc F0))) ∧ (splice b2 200 (Fi.enc F0)).length = 492 from ⟨by rw [← splice_bytes]; exact hb2, by rw [splice_len _ _ _ (by rw [HB2.out.2, HE.out.2.2.1]; decide), HB2.out.2]⟩)
  clear s2 hcp2 hb2 hk2 y2
  obtain ⟨b3, hb3e⟩ : ∃ q, splice b2 200 (Fi.enc F0) = q := ⟨_, rfl⟩
  rw [hb3e] at HB3
  have HE3 := Lib.hid hb3e
  clear hb3e
  go_wp2_with fail
  have kd3 := Lib.hid (show Keep (· = gb) w z2.drew from HK3.out.drew)
  have s3 := HS.out _ kd3.out
  refine wp_region_held_drew (S := (fun W => W.cell? ⟨gB, 0, none⟩ = some (.slice (some ⟨gb, 0, none⟩) 492 492) ∧ W.rangeAt gP 0 (ints P) ∧ W.rangeAt gQ 0 (ints Q) ∧ W.rangeAt gF 0 (ints F0) ∧ W.rangeAt gF 4 (ints F1) ∧ W.rangeAt gR 0 (Ri.pc R))) (by kernel_rfl) s3 (fun hHeld => ?_)
  refine wpAnyH_take (i := 0) (v := ?_) rfl (by kernel_rfl) (by kernel_rfl) (by kernel_rfl) (fun _ _ _ h => h) (Or.inl ⟨by rfl, ?_⟩) (by assumption) ?_
  rotate_left
  · (intro w hSw; (try dsimp only at hSw); obtain ⟨sB, sP, sQ, sF, sG, sR⟩ := hSw; go_simp; try with_reducible rfl)
  try simp only [Act.put, List.getElem_toArray, List.getElem_cons_zero, List.getElem_cons_succ, List.setIfInBounds_toArray, List.set_cons_zero, List.set_cons_succ]
  refine wpAnyH_take (i := 1) (v := ?_) rfl (by kernel_rfl) (by kernel_rfl) (by kernel_rfl) (fun _ _ _ h => h) (Or.inl ⟨by rfl, ?_⟩) (by assumption) ?_
  rotate_left
  · (intro w hSw; (try dsimp only at hSw); obtain ⟨sB, sP, sQ, sF, sG, sR⟩ := hSw; go_simp; try with_reducible rfl)
  try simp only [Act.put, List.getElem_toArray, List.getElem_cons_zero, List.getElem_cons_succ, List.setIfInBounds_toArray, List.set_cons_zero, List.set_cons_succ]
  refine wpAnyH_take (i := 2) (v := ?_) rfl (by kernel_rfl) (by kernel_rfl) (by kernel_rfl) (fun _ _ _ h => h) (Or.inl ⟨by rfl, ?_⟩) (by assumption) ?_
  rotate_left
  · (intro w hSw; (try dsimp only at hSw); obtain ⟨sB, sP, sQ, sF, sG, sR⟩ := hSw; go_simp; try with_reducible rfl)
  try simp only [Act.put, List.getElem_toArray, List.getElem_cons_zero, List.getElem_cons_succ, List.setIfInBounds_toArray, List.set_cons_zero, List.set_cons_succ]
  refine wpAnyH_take (i := 3) (v := ?_) rfl (by kernel_rfl) (by kernel_rfl) (by kernel_rfl) (fun _ _ _ h => h) (Or.inl ⟨by rfl, ?_⟩) (by assumption) ?_
  rotate_left
  · (intro w hSw; (try dsimp only at hSw); obtain ⟨sB, sP, sQ, sF, sG, sR⟩ := hSw; refine exec_ld_mid (x := .tmp 22) ?_ ?_ sG Tryz.underlying41 rfl (by rw [HI.out.2.2.2.1]; exact HIn.out.2.1) <;> rfl)
  try simp only [Act.put, List.getElem_toArray, List.getElem_cons_zero, List.getElem_cons_succ, List.setIfInBounds_toArray, List.set_cons_zero, List.set_cons_succ]
  refine wpAnyH_ready (rs := [4]) (by kernel_rfl) (by simp) ?_
  refine AllReadyH.cons rfl (fun K hK => ?_) AllReadyH.nil
  go_simp
  with_reducible_and_instances apply Calls.mono (HC.out.2.2.2.1 z2.drew); rintro e x3 ⟨rfl, y3⟩
  have KX3 := Lib.hid (show Keep (· = gb) w x3 from kd3.out.trans (y3.mono (fun _ _ f => f.elim)) (fun _ _ m => m))
  obtain ⟨z3, hcp3, hb3, hk3, _⟩ := run_cps (P := Tryz.prog) x3 36 9 5 Tryz.underlying36 szU2 (some ⟨gb, 208, none⟩) 284 284 gb 208 _ 5 ((HB3.out.1.drew).nob y3) (Fi.enc F1) (fun _ => rfl) (by rw [bytes_length, HB3.out.2]; decide) (by rw [HE.out.2.2.2.1]; decide)
  have HK4 := Lib.hid (KX3.out.trans hk3 (fun _ _ m => m))
  refine hK.out _ _ ?_ (fun hHeld => ?_)
  · exact HS.out _ KX3.out
  clear hK K
  try simp only [Act.put, List.getElem_toArray, List.getElem_cons_zero, List.getElem_cons_succ, List.setIfInBounds_toArray, List.set_cons_zero, List.set_cons_succ]
  refine wpAnyH_ready (rs := [5]) (by kernel_rfl) (by simp) ?_
  refine AllReadyH.cons rfl (fun K hK => ?_) AllReadyH.nil
  go_simp
  refine hK.out _ _ ?_ (fun hHeld => ?_)
  · exact HS.out _ HK4.out
  clear hK K
  try simp only [Act.put, List.getElem_toArray, List.getElem_cons_zero, List.getElem_cons_succ, List.setIfInBounds_toArray, List.set_cons_zero, List.set_cons_succ]
  refine wpAnyH_done (by kernel_rfl) ?_ _
  have HB4 := Lib.hid (show Blk z3 gb 5 (bytes (splice b3 208 (Fi.enc F1))) ∧ (splice b3 208 (Fi.enc F1)).length = 492 from ⟨by rw [← splice_bytes]; exact hb3, by rw [splice_len _ _ _ (by rw [HB3.out.2, HE.out.2.2.2.1]; decide), HB3.out.2]⟩)
  clear s3 hcp3 hb3 hk3 y3
  obtain ⟨b4, hb4e⟩ : ∃ q, splice b3 208 (Fi.enc F1) = q := ⟨_, rfl⟩
  rw [hb4e] at HB4
  have HE4 := Lib.hid hb4e
  clear hb4e
  go_wp2_with fail
  have kd4 := Lib.hid (show Keep (· = gb) w z3.drew from HK4.out.drew)
  have s4 := HS.out _ kd4.out
  refine wp_region_held_drew (S := (fun W => W.cell? ⟨gB, 0, none⟩ = some (.slice (some ⟨gb, 0, none⟩) 492 492) ∧ W.rangeAt gP 0 (ints P) ∧ W.rangeAt gQ 0 (ints Q) ∧ W.rangeAt gF 0 (ints F0) ∧ W.rangeAt gF 4 (ints F1) ∧ W.rangeAt gR 0 (Ri.pc R))) (by kernel_rfl) s4 (fun hHeld => ?_)
  refine wpAnyH_take (i := 0) (v := ?_) rfl (by kernel_rfl) (by kernel_rfl) (by kernel_rfl) (fun _ _ _ h => h) (Or.inl ⟨by rfl, ?_⟩) (by assumption) ?_
  rotate_left
  · (intro w hSw; (try dsimp only at hSw); obtain ⟨sB, sP, sQ, sF, sG, sR⟩ := hSw; go_simp; try with_reducible rfl)
  try simp only [Act.put, List.getElem_toArray, List.getElem_cons_zero, List.getElem_cons_succ, List.setIfInBounds_toArray, List.set_cons_zero, List.set_cons_succ]
  refine wpAnyH_take (i := 1) (v := ?_) rfl (by kernel_rfl) (by kernel_rfl) (by kernel_rfl) (fun _ _ _ h => h) (Or.inl ⟨by rfl, ?_⟩) (by assumption) ?_
  rotate_left
  · (intro w hSw; (try dsimp only at hSw); obtain ⟨sB, sP, sQ, sF, sG, sR⟩ := hSw; go_simp; try with_reducible rfl)
  try simp only [Act.put, List.getElem_toArray, List.getElem_cons_zero, List.getElem_cons_succ, List.setIfInBounds_toArray, List.set_cons_zero, List.set_cons_succ]
  refine wpAnyH_take (i := 2) (v := ?_) rfl (by kernel_rfl) (by kernel_rfl) (by kernel_rfl) (fun _ _ _ h => h) (Or.inl ⟨by rfl, ?_⟩) (by assumption) ?_
  rotate_left
  · (intro w hSw; (try dsimp only at hSw); obtain ⟨sB, sP, sQ, sF, sG, sR⟩ := hSw; refine exec_ld_mid (x := .tmp 4) ?_ ?_ sR Tryz.underlying44 rfl (by rw [HI.out.2.2.2.2]; exact HIn.out.2.2) <;> rfl)
  try simp only [Act.put, List.getElem_toArray, List.getElem_cons_zero, List.getElem_cons_succ, List.setIfInBounds_toArray, List.set_cons_zero, List.set_cons_succ]
  refine wpAnyH_ready (rs := [3]) (by kernel_rfl) (by simp) ?_
  refine AllReadyH.cons rfl (fun K hK => ?_) AllReadyH.nil
  go_simp
  with_reducible_and_instances apply Calls.mono (HC.out.2.2.2.2 z3.drew); rintro e x4 ⟨rfl, y4⟩
  have KX4 := Lib.hid (show Keep (· = gb) w x4 from kd4.out.trans (y4.mono (fun _ _ f => f.elim)) (fun _ _ m => m))
  obtain ⟨z4, hcp4, hb4, hk4, _⟩ := run_cps (P := Tryz.prog) x4 36 9 5 Tryz.underlying36 szU2 (some ⟨gb, 368, none⟩) 124 124 gb 368 _ 5 ((HB4.out.1.drew).nob y4) (Ri.enc R) (fun _ => rfl) (by rw [bytes_length, HB4.out.2]; decide) (by rw [HE.out.2.2.2.2]; decide)
  have HK5 := Lib.hid (KX4.out.trans hk4 (fun _ _ m => m))
  refine hK.out _ _ ?_ (fun hHeld => ?_)
  · exact HS.out _ KX4.out
  clear hK K
  try simp only [Act.put, List.getElem_toArray, List.getElem_cons_zero, List.getElem_cons_succ, List.setIfInBounds_toArray, List.set_cons_zero, List.set_cons_succ]
  refine wpAnyH_ready (rs := [4]) (by kernel_rfl) (by simp) ?_
  refine AllReadyH.cons rfl (fun K hK => ?_) AllReadyH.nil
  go_simp
  refine hK.out _ _ ?_ (fun hHeld => ?_)
  · exact HS.out _ HK5.out
  clear hK K
  try simp only [Act.put, List.getElem_toArray, List.getElem_cons_zero, List.getElem_cons_succ, List.setIfInBounds_toArray, List.set_cons_zero, List.set_cons_succ]
  refine wpAnyH_done (by kernel_rfl) ?_ _
  have HB5 := Lib.hid (show Blk z4 gb 5 (bytes (splice b4 368 (Ri.enc R))) ∧ (splice b4 368 (Ri.enc R)).length = 492 from ⟨by rw [← splice_bytes]; exact hb4, by rw [splice_len _ _ _ (by rw [HB4.out.2, HE.out.2.2.2.2]; decide), HB4.out.2]⟩)
  clear s4 hcp4 hb4 hk4 y4
  have F := Lib.hid (show Blk z4 gb 5 (bytes (putB b P Q F0 F1 R)) ∧ Keep (· = gb) w z4 from ⟨by unfold putB; rw [HE1.out, HE2.out, HE3.out, HE4.out]; exact HB5.out.1, HK5.out⟩)
  go_wp2
  (try simp only [Exit.inBlock, Exit.then])
  refine bodyPost_end (results_none rfl _ _ _) rfl ?_
  exact ⟨rfl, F.out⟩
end Go.Proofs.YtngchjejmnfanaaGreat.Au
namespace Go.Proofs.YtngchjejmnfanaaGreat.Au
open Go.RowKit Co
set_option linter.unusedVariables false
set_option linter.unusedSimpArgs false
def P0 : List Int := [1, 0, 0, 0, 0, 0, 0, 0, 0, 2, 3, 0, 0, 0, 0, 0]
def Q0 : List Int := [1, 1, 0, 0, 0, 0, 0, 0, 2, 0, 0, 0, 0, 0, 0, 0]
def F00 : List Int := [1, 2, 2, 0]
def F10 : List Int := [2, 2, 1, 0]
def B0 : List UInt8 := putB Pn.blankB P0 Q0 F00 F10 Pn.pipe1
theorem putB_len {b : List UInt8} (h : b.length = 492) (P Q F0 F1 : List Int) (R : Ri.Pp) (hp : P.length = 16) (hq : Q.length = 16) (hr : R.d.length = 32) : (putB b P Q F0 F1 R).length = 492 := by
  unfold putB
  have h1 : (splice b 0 (Cd.enc P)).length = 492 := by rw [splice_len _ _ _ (by rw [h, Cd.enc_len hp]; decide), h]
  have h2 : (splice (splice b 0 (Cd.enc P)) 24 (Cd.enc Q)).length = 492 := by rw [splice_len _ _ _ (by rw [h1, Cd.enc_len hq]; decide), h1]
  have h3 : (splice (splice (splice b 0 (Cd.enc P)) 24 (Cd.enc Q)) 200 (Fi.enc F0)).length = 492 := by rw [splice_len _ _ _ (by rw [h2, Fi.enc_len]; decide), h2]
  have h4 : (splice (splice (splice (splice b 0 (Cd.enc P)) 24 (Cd.enc Q)) 200 (Fi.enc F0)) 208 (Fi.enc F1)).length = 492 := by rw [splice_len _ _ _ (by rw [h3, Fi.enc_len]; decide), h3]
  rw [splice_len _ _ _ (by rw [h4, Ri.enc_len hr]; decide), h4]
theorem B0_len : B0.length = 492 := putB_len Pn.blank_len _ _ _ _ _ rfl rfl rfl
theorem faults_by {b : List UInt8} (h : b.length = 492) (hb : bads b = []) {l : List ByteArray} (ht : told (asked b) = l) : faultsOf b = l := by
  unfold faultsOf
  rw [if_pos ⟨h, hb⟩, ht]
theorem B0_sound : faultsOf B0 = [] := faults_by B0_len (by decide +kernel) (by decide +kernel)
def Kb0 (m : Int) : List UInt8 := putB B0 P0 (Q0.set 1 2) F00 F10 Pn.pipe1
theorem Kb0_told (m : Int) (h1 : 1 ≤ m) (h4 : m ≤ 4) : faultsOf (Kb0 m) = [sParent] ∧ (Kb0 m).length = 492 ∧ Cd.okd P0 = true ∧ Cd.okd (Q0.set 1 2) = true := by
  have h : ∀ k : Fin 5, bads (Kb0 ((k.val : Nat) : Int)) = [] ∧ told (asked (Kb0 ((k.val : Nat) : Int))) = (if k.val = 0 then told (asked (Kb0 0)) else [sParent]) ∧ Cd.okd P0 = true ∧ Cd.okd (Q0.set 1 2) = true := by decide +kernel
  obtain ⟨k, rfl⟩ : ∃ k : Nat, m = (k : Int) := ⟨m.toNat, by omega⟩
  have hk := h ⟨k, by omega⟩
  dsimp only at hk
  rw [if_neg (by omega)] at hk
  have hl : (Kb0 (k : Int)).length = 492 := putB_len B0_len _ _ _ _ _ rfl rfl rfl
  exact ⟨faults_by hl hk.1 hk.2.1, hl, hk.2.2⟩
def Kb1 (m : Int) : List UInt8 := putB B0 P0 (Q0.set 1 (2 + m)) F00 F10 Pn.pipe1
theorem Kb1_told (m : Int) (h1 : 1 ≤ m) (h4 : m ≤ 4) : faultsOf (Kb1 m) = [sParent] ∧ (Kb1 m).length = 492 ∧ Cd.okd P0 = true ∧ Cd.okd (Q0.set 1 (2 + m)) = true := by
  have h : ∀ k : Fin 5, bads (Kb1 ((k.val : Nat) : Int)) = [] ∧ told (asked (Kb1 ((k.val : Nat) : Int))) = (if k.val = 0 then told (asked (Kb1 0)) else [sParent]) ∧ Cd.okd P0 = true ∧ Cd.okd (Q0.set 1 (2 + ((k.val : Nat) : Int))) = true := by decide +kernel
  obtain ⟨k, rfl⟩ : ∃ k : Nat, m = (k : Int) := ⟨m.toNat, by omega⟩
  have hk := h ⟨k, by omega⟩
  dsimp only at hk
  rw [if_neg (by omega)] at hk
  have hl : (Kb1 (k : Int)).length = 492 := putB_len B0_len _ _ _ _ _ rfl rfl rfl
  exact ⟨faults_by hl hk.1 hk.2.1, hl, hk.2.2⟩
def Kb2 (m : Int) : List UInt8 := putB B0 P0 (Q0.set 9 (8 + m)) F00 F10 Pn.pipe1
theorem Kb2_told (m : Int) (h1 : 1 ≤ m) (h4 : m ≤ 4) : faultsOf (Kb2 m) = [sFd] ∧ (Kb2 m).length = 492 ∧ Cd.okd P0 = true ∧ Cd.okd (Q0.set 9 (8 + m)) = true := by
  have h : ∀ k : Fin 5, bads (Kb2 ((k.val : Nat) : Int)) = [] ∧ told (asked (Kb2 ((k.val : Nat) : Int))) = (if k.val = 0 then told (asked (Kb2 0)) else [sFd]) ∧ Cd.okd P0 = true ∧ Cd.okd (Q0.set 9 (8 + ((k.val : Nat) : Int))) = true := by decide +kernel
  obtain ⟨k, rfl⟩ : ∃ k : Nat, m = (k : Int) := ⟨m.toNat, by omega⟩
  have hk := h ⟨k, by omega⟩
  dsimp only at hk
  rw [if_neg (by omega)] at hk
  have hl : (Kb2 (k : Int)).length = 492 := putB_len B0_len _ _ _ _ _ rfl rfl rfl
  exact ⟨faults_by hl hk.1 hk.2.1, hl, hk.2.2⟩
def Kb3 (m : Int) : List UInt8 := putB B0 P0 Q0 (F00.set 2 (2 + m)) F10 Pn.pipe1
theorem Kb3_told (m : Int) (h1 : 1 ≤ m) (h4 : m ≤ 4) : faultsOf (Kb3 m) = [sRefs] ∧ (Kb3 m).length = 492 ∧ Cd.okd P0 = true ∧ Cd.okd Q0 = true := by
  have h : ∀ k : Fin 5, bads (Kb3 ((k.val : Nat) : Int)) = [] ∧ told (asked (Kb3 ((k.val : Nat) : Int))) = (if k.val = 0 then told (asked (Kb3 0)) else [sRefs]) ∧ Cd.okd P0 = true ∧ Cd.okd Q0 = true := by decide +kernel
  obtain ⟨k, rfl⟩ : ∃ k : Nat, m = (k : Int) := ⟨m.toNat, by omega⟩
  have hk := h ⟨k, by omega⟩
  dsimp only at hk
  rw [if_neg (by omega)] at hk
  have hl : (Kb3 (k : Int)).length = 492 := putB_len B0_len _ _ _ _ _ rfl rfl rfl
  exact ⟨faults_by hl hk.1 hk.2.1, hl, hk.2.2⟩
def Kb4 (m : Int) : List UInt8 := putB B0 P0 Q0 F00 (F10.set 3 1) Pn.pipe1
theorem Kb4_told (m : Int) (h1 : 1 ≤ m) (h4 : m ≤ 4) : faultsOf (Kb4 m) = [] ∧ (Kb4 m).length = 492 ∧ Cd.okd P0 = true ∧ Cd.okd Q0 = true := by
  have h : ∀ k : Fin 5, bads (Kb4 ((k.val : Nat) : Int)) = [] ∧ told (asked (Kb4 ((k.val : Nat) : Int))) = (if k.val = 0 then told (asked (Kb4 0)) else []) ∧ Cd.okd P0 = true ∧ Cd.okd Q0 = true := by decide +kernel
  obtain ⟨k, rfl⟩ : ∃ k : Nat, m = (k : Int) := ⟨m.toNat, by omega⟩
  have hk := h ⟨k, by omega⟩
  dsimp only at hk
  rw [if_neg (by omega)] at hk
  have hl : (Kb4 (k : Int)).length = 492 := putB_len B0_len _ _ _ _ _ rfl rfl rfl
  exact ⟨faults_by hl hk.1 hk.2.1, hl, hk.2.2⟩
def Kb5 (m : Int) : List UInt8 := putB B0 P0 Q0 F00 F10 { Pn.pipe1 with r := 1 + m }
theorem Kb5_told (m : Int) (h1 : 1 ≤ m) (h4 : m ≤ 4) : faultsOf (Kb5 m) = [sEnds] ∧ (Kb5 m).length = 492 ∧ Cd.okd P0 = true ∧ Cd.okd Q0 = true := by
  have h : ∀ k : Fin 5, bads (Kb5 ((k.val : Nat) : Int)) = [] ∧ told (asked (Kb5 ((k.val : Nat) : Int))) = (if k.val = 0 then told (asked (Kb5 0)) else [sEnds]) ∧ Cd.okd P0 = true ∧ Cd.okd Q0 = true := by decide +kernel
  obtain ⟨k, rfl⟩ : ∃ k : Nat, m = (k : Int) := ⟨m.toNat, by omega⟩
  have hk := h ⟨k, by omega⟩
  dsimp only at hk
  rw [if_neg (by omega)] at hk
  have hl : (Kb5 (k : Int)).length = 492 := putB_len B0_len _ _ _ _ _ rfl rfl rfl
  exact ⟨faults_by hl hk.1 hk.2.1, hl, hk.2.2⟩
def Kb6 (m : Int) : List UInt8 := putB B0 P0 Q0 F00 F10 { Pn.pipe1 with s := 0 }
theorem Kb6_told (m : Int) (h1 : 1 ≤ m) (h4 : m ≤ 4) : faultsOf (Kb6 m) = [sEnds] ∧ (Kb6 m).length = 492 ∧ Cd.okd P0 = true ∧ Cd.okd Q0 = true := by
  have h : ∀ k : Fin 5, bads (Kb6 ((k.val : Nat) : Int)) = [] ∧ told (asked (Kb6 ((k.val : Nat) : Int))) = (if k.val = 0 then told (asked (Kb6 0)) else [sEnds]) ∧ Cd.okd P0 = true ∧ Cd.okd Q0 = true := by decide +kernel
  obtain ⟨k, rfl⟩ : ∃ k : Nat, m = (k : Int) := ⟨m.toNat, by omega⟩
  have hk := h ⟨k, by omega⟩
  dsimp only at hk
  rw [if_neg (by omega)] at hk
  have hl : (Kb6 (k : Int)).length = 492 := putB_len B0_len _ _ _ _ _ rfl rfl rfl
  exact ⟨faults_by hl hk.1 hk.2.1, hl, hk.2.2⟩
def Kb7 (m : Int) : List UInt8 := putB B0 (P0.set 2 m) Q0 F00 F10 Pn.pipe1
theorem Kb7_told (m : Int) (h1 : 1 ≤ m) (h4 : m ≤ 4) : faultsOf (Kb7 m) = [] ∧ (Kb7 m).length = 492 ∧ Cd.okd (P0.set 2 m) = true ∧ Cd.okd Q0 = true := by
  have h : ∀ k : Fin 5, bads (Kb7 ((k.val : Nat) : Int)) = [] ∧ told (asked (Kb7 ((k.val : Nat) : Int))) = (if k.val = 0 then told (asked (Kb7 0)) else []) ∧ Cd.okd (P0.set 2 ((k.val : Nat) : Int)) = true ∧ Cd.okd Q0 = true := by decide +kernel
  obtain ⟨k, rfl⟩ : ∃ k : Nat, m = (k : Int) := ⟨m.toNat, by omega⟩
  have hk := h ⟨k, by omega⟩
  dsimp only at hk
  rw [if_neg (by omega)] at hk
  have hl : (Kb7 (k : Int)).length = 492 := putB_len B0_len _ _ _ _ _ rfl rfl rfl
  exact ⟨faults_by hl hk.1 hk.2.1, hl, hk.2.2⟩
theorem al_A2 (W : World) : (Instr.alloc 71 true (.tuple #[])).run Tryz.prog W = .ok (.pointer (some ⟨W.heap.size, 0, none⟩)) (W.alloc (.cells (ints [0, 0, 0, 0, 0, 0, 0, 0]).toArray 71)) := by
  go_simp
  try rfl
theorem i_A2 : (Tryz.prog.info? 71).map (·.size) = some 8 := by kernel_rfl
theorem flatA2 : Flat 71 8 (ints [0, 0, 0, 0, 0, 0, 0, 0]) := ⟨⟨_, Tryz.underlying71, rfl⟩, i_A2, al_A2, rfl⟩
end Go.Proofs.YtngchjejmnfanaaGreat.Au
