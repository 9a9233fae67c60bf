/- The walk of AuditLinks (layer 16). Written by c16/genH.py. -/
import Derived.Test.YtngchjejmnfanaaGreatPk0
import Derived.Test.YtngchjejmnfanaaGreatPk2
import Derived.Test.YtngchjejmnfanaaGreatPk3
import Derived.Test.YtngchjejmnfanaaGreatPk5
import Derived.Test.YtngchjejmnfanaaGreatPk6
import Derived.Test.YtngchjejmnfanaaGreatPk8
import Derived.Test.YtngchjejmnfanaaGreatPbx0
import Derived.Test.YtngchjejmnfanaaGreatPk12
import Derived.Test.YtngchjejmnfanaaGreatPk15
import Derived.Test.YtngchjejmnfanaaGreatPk18
import Derived.Test.YtngchjejmnfanaaGreatPk19
import Derived.Test.YtngchjejmnfanaaGreatPk1
import Derived.Test.YtngchjejmnfanaaGreatPk7
import Derived.Test.YtngchjejmnfanaaGreatPk11
import Derived.Test.YtngchjejmnfanaaGreatPk21
import Derived.Test.YtngchjejmnfanaaGreatPk22
import Derived.Test.YtngchjejmnfanaaGreatPk14
import Derived.Test.YtngchjejmnfanaaGreatPk13
import Derived.Test.YtngchjejmnfanaaGreatPk16
import Derived.Test.YtngchjejmnfanaaGreatPk17
import Derived.Test.YtngchjejmnfanaaGreatPk24
import Derived.Test.YtngchjejmnfanaaGreatPk23
import Derived.Test.YtngchjejmnfanaaGreatPk20
import Derived.Test.YtngchjejmnfanaaGreatPk9
import Derived.Test.YtngchjejmnfanaaGreatPk25
import Derived.Test.YtngchjejmnfanaaGreatPk10
import Derived.Test.YtngchjejmnfanaaGreatPk26
import Derived.Test.YtngchjejmnfanaaGreatPbx1
namespace Go.Proofs.YtngchjejmnfanaaGreat.Au
open Go.RowKit Co
set_option linter.unusedVariables false
set_option linter.unusedSimpArgs false
/-- The variables of AuditLinks. -/
structure Vs (w : World) (gB gP gQ gF gR gb : Nat) (b : List UInt8) (P Q F0 F1 : List Int) (R : Ri.Pp) : Prop where
  B : Blk w gB 36 [.slice (some ⟨gb, 0, none⟩) 492 492]
  b : Blk w gb 5 (bytes b)
  P : Blk w gP 39 (ints P)
  Q : Blk w gQ 39 (ints Q)
  F : Blk w gF 71 (ints F0 ++ ints F1)
  R : Blk w gR 44 (Ri.pc R)
section
variable {w w' : World} {gB gP gQ gF gR gb : Nat} {b b' : List UInt8} {P Q F0 F1 : List Int} {R : Ri.Pp}
theorem Vs.put (h : Vs w gB gP gQ gF gR gb b P Q F0 F1 R) (hb : Blk w' gb 5 (bytes b')) (k : Keep (· = gb) w w') : Vs w' gB gP gQ gF gR gb b' P Q F0 F1 R :=
  ⟨h.B.keep k (h.B.ne_ h.b (by decide)), hb, h.P.keep k (h.P.ne_ h.b (by decide)), h.Q.keep k (h.Q.ne_ h.b (by decide)), h.F.keep k (h.F.ne_ h.b (by decide)), h.R.keep k (h.R.ne_ h.b (by decide))⟩
theorem Vs.from_ (h : Vs w gB gP gQ gF gR gb b P Q F0 F1 R) (k : Keep (From w.heap.size) w w') : Vs w' gB gP gQ gF gR gb b P Q F0 F1 R :=
  ⟨from_blk h.B k, from_blk h.b k, from_blk h.P k, from_blk h.Q k, from_blk h.F k, from_blk h.R k⟩
end
set_option maxRecDepth 100000 in
set_option maxHeartbeats 32000000 in
theorem links_in (w : World) (a0 a1 : Int) :
    Calls Tryz.prog 4 #[.int .i64 a0, .int .i64 a1] w fun e w' => e = .returned (.bool true) ∧ Below w.heap.size w w' := by
  obtain ⟨m, hm0, hm4, hm⟩ : ∃ m : Int, 0 ≤ m ∧ m ≤ 3 ∧ bits .and .i64 a1 3 = m := by
    have := i64_mask a1 2 (by decide)
    rw [show (2 : Int) ^ 2 - 1 = 3 from rfl] at this
    exact ⟨a1 % 4, by omega, by omega, by rw [this]; omega⟩
  obtain ⟨x, hx8, hx⟩ : ∃ x : Nat, x < 8 ∧ bits .and .i64 a0 7 = (x : Int) := by
    have := i64_mask a0 3 (by decide)
    rw [show (2 : Int) ^ 3 - 1 = 7 from rfl] at this
    exact ⟨(a0 % 8).toNat, by omega, by rw [this]; omega⟩
  have HX8 := Lib.hid hx8
  have hblk := blank_is w
  clear hx8
  go_enter Tryz.func4, Tryz.ntmps4
  go_wp2_with fail
  refine hblk.mono ?_; rintro e w1 ⟨gb, rfl, hb, hgb, k1⟩
  have HB1 := Lib.hid hb
  have K1 := Lib.hid k1
  have HGb := Lib.hid hgb
  clear hblk hb k1 hgb
  go_upto_region 2 with fail
  obtain ⟨gB, hgB⟩ : ∃ g, w1.heap.size = g := ⟨_, rfl⟩
  have hB2 := Blk.new w1 36 [.slice (some ⟨gb, 0, none⟩) 492 492]
  have k2 := (Keep.refl Nob w1).alloc (.cells #[.slice (some ⟨gb, 0, none⟩) 492 492] 36)
  generalize w1.alloc (.cells #[.slice (some ⟨gb, 0, none⟩) 492 492] 36) = w2 at *
  have c0 := hB2.cell 0
  simp only [List.getElem?_cons_zero] at c0
  rw [hgB] at hB2 c0
  have HB2 := Lib.hid (And.intro hB2 (HB1.out.nob k2))
  have K2 := Lib.hid (K1.out.nob k2)
  have HgB := Lib.hid (show w.heap.size ≤ gB ∧ gB < w2.heap.size from ⟨by rw [← hgB]; exact K1.out.size, hB2.lt⟩)
  clear hB2 k2
  rw [hgB] at *
  clear hgB
  go_upto_region 5 with (refine flatP.wpList_al rfl rfl ?_; intro w3 hb3 hk3 hs3; refine flatP.wpList_al rfl rfl ?_; intro w4 hb4 hk4 hs4; refine flatP.wpList_st (g := w2.heap.size) (q := ints [1, 0, 0, 0, 0, 0, 0, 0, 0, 0, 0, 0, 0, 0, 0, 0]) rfl rfl rfl rfl (cellsI rfl) (cellsI rfl) (hb3.nob hk4) ?_; intro w5 hb5 hk5 hs5; refine flatP.wpList_st (g := w3.heap.size) (q := ints [1, 1, 0, 0, 0, 0, 0, 0, 0, 0, 0, 0, 0, 0, 0, 0]) rfl rfl rfl rfl (cellsI rfl) (cellsI rfl) (hb4.keep hk5 (by omega)) ?_; intro w6 hb6 hk6 hs6)
  have hP6 := hb5.keep hk6 (by omega)
  obtain ⟨gP, hgP⟩ : ∃ g, w2.heap.size = g := ⟨_, rfl⟩
  obtain ⟨gQ, hgQ⟩ : ∃ g, w3.heap.size = g := ⟨_, rfl⟩
  have HB6 := Lib.hid (show Blk w6 gB 36 [.slice (some ⟨gb, 0, none⟩) 492 492] ∧ Blk w6 gb 5 (bytes Pn.blankB) from
    ⟨((((HB2.out.1.nob hk3).nob hk4).keep hk5 (by have := HB2.out.1.lt; omega)).keep hk6 (by have := HB2.out.1.lt; omega)), ((((HB2.out.2.nob hk3).nob hk4).keep hk5 (by have := HB2.out.2.lt; omega)).keep hk6 (by have := HB2.out.2.lt; omega))⟩)
  have K6 := Lib.hid ((((K2.out.nob hk3).nob hk4).at_ hk5 K2.out.size).at_ hk6 (by have := K2.out.size; omega))
  have hne : gQ ≠ gP := by omega
  have HPQ := Lib.hid (show w.heap.size ≤ gP ∧ w.heap.size ≤ gQ ∧ gP ≠ gQ ∧ gQ ≠ gP from ⟨by have := K2.out.size; omega, by have := K2.out.size; omega, by omega, by omega⟩)
  rw [hgP] at hP6
  rw [hgQ] at hb6
  have zP9 : w6.cell? ⟨gP, 9, none⟩ = some (.int .i64 0) := hP6.cell 9
  have zP10 : w6.cell? ⟨gP, 10, none⟩ = some (.int .i64 0) := hP6.cell 10
  have zQ8 : w6.cell? ⟨gQ, 8, none⟩ = some (.int .i64 0) := hb6.cell 8
  have fP9 := hP6.frozen 9
  have fP10 := hP6.frozen 10
  have fQ8 := hb6.frozen 8
  have HS6 := Lib.hid (And.intro hP6 hb6)
  rw [hgP, hgQ] at *
  clear hb3 hk3 hs3 hb4 hk4 hs4 hb5 hk5 hs5 hk6 hs6 hP6 hb6 hgP hgQ
  go_upto_region 6 with fail
  have k7 : Keep (fun x => x = gP ∨ x = gQ) w6 (((w6.setCell ⟨gP, 9, none⟩ (.int .i64 2)).setCell ⟨gP, 10, none⟩ (.int .i64 3)).setCell ⟨gQ, 8, none⟩ (.int .i64 2)) := (((Keep.refl _ w6).setCell _ _ (fun _ => .inl rfl)).setCell _ _ (fun _ => .inl rfl)).setCell _ _ (fun _ => .inr rfl)
  have hP7 : Blk (((w6.setCell ⟨gP, 9, none⟩ (.int .i64 2)).setCell ⟨gP, 10, none⟩ (.int .i64 3)).setCell ⟨gQ, 8, none⟩ (.int .i64 2)) gP 39 (ints P0) := ((HS6.out.1.setCell 9 (.int .i64 2)).setCell 10 (.int .i64 3)).far (p := ⟨gQ, 8, none⟩) HPQ.out.2.2.1 _
  have hQ7 : Blk (((w6.setCell ⟨gP, 9, none⟩ (.int .i64 2)).setCell ⟨gP, 10, none⟩ (.int .i64 3)).setCell ⟨gQ, 8, none⟩ (.int .i64 2)) gQ 39 (ints Q0) := ((HS6.out.2.far (p := ⟨gP, 9, none⟩) HPQ.out.2.2.2 _).far (p := ⟨gP, 10, none⟩) HPQ.out.2.2.2 _).setCell 8 (.int .i64 2)
  have HB7 := Lib.hid (show Blk (((w6.setCell ⟨gP, 9, none⟩ (.int .i64 2)).setCell ⟨gP, 10, none⟩ (.int .i64 3)).setCell ⟨gQ, 8, none⟩ (.int .i64 2)) gB 36 [.slice (some ⟨gb, 0, none⟩) 492 492] ∧ Blk (((w6.setCell ⟨gP, 9, none⟩ (.int .i64 2)).setCell ⟨gP, 10, none⟩ (.int .i64 3)).setCell ⟨gQ, 8, none⟩ (.int .i64 2)) gb 5 (bytes Pn.blankB) from
    ⟨HB6.out.1.keep k7 (fun m => m.elim (HB6.out.1.ne_ HS6.out.1 (by decide)) (HB6.out.1.ne_ HS6.out.2 (by decide))), HB6.out.2.keep k7 (fun m => m.elim (HB6.out.2.ne_ HS6.out.1 (by decide)) (HB6.out.2.ne_ HS6.out.2 (by decide)))⟩)
  have HS7 := Lib.hid (And.intro hP7 hQ7)
  have K7 := Lib.hid (K6.out.from_ k7 (fun x m => by rcases m with rfl | rfl; exact HPQ.out.1; exact HPQ.out.2.1))
  generalize ((w6.setCell ⟨gP, 9, none⟩ (.int .i64 2)).setCell ⟨gP, 10, none⟩ (.int .i64 3)).setCell ⟨gQ, 8, none⟩ (.int .i64 2) = w7 at *
  clear zP9 zP10 zQ8 fP9 fP10 fQ8 hne k7 hP7 hQ7 c0
  go_upto_region 8 with (first
    | (refine flatA2.wpList_al rfl rfl ?_; intro w8 hb8 hk8 hs8; refine flatA2.wpList_st (q := ints [1, 2, 2, 0, 2, 2, 1, 0]) rfl rfl rfl rfl (cellsI rfl) (cellsI rfl) hb8 ?_; intro w9 hb9 hk9 hs9)
    | (refine flatR.wpList_al rfl rfl ?_; intro wA hbA hkA hsA; refine flatR.wpList_st (q := Ri.pc Pn.pipe1) rfl rfl rfl rfl (cellsR rfl) (cellsR Ri.noP_len) hbA ?_; intro wB hbB hkB hsB))
  obtain ⟨gF, hgF⟩ : ∃ g, w7.heap.size = g := ⟨_, rfl⟩
  obtain ⟨gR, hgR⟩ : ∃ g, w9.heap.size = g := ⟨_, rfl⟩
  have kAB : Keep (· = gF) w7 w9 := by rw [← hgF]; exact (hk8.mono (fun _ _ f => f.elim)).trans hk9 (fun _ _ m => m)
  have kCD : Keep (· = gR) w9 wB := by rw [← hgR]; exact (hkA.mono (fun _ _ f => f.elim)).trans hkB (fun _ _ m => m)
  have HV := Lib.hid (show Vs wB gB gP gQ gF gR gb Pn.blankB P0 Q0 F00 F10 Pn.pipe1 from
    ⟨(HB7.out.1.keep kAB (by have := HB7.out.1.lt; omega)).keep kCD (by have := HB7.out.1.lt; have := kAB.size; omega), (HB7.out.2.keep kAB (by have := HB7.out.2.lt; omega)).keep kCD (by have := HB7.out.2.lt; have := kAB.size; omega), (HS7.out.1.keep kAB (by have := HS7.out.1.lt; omega)).keep kCD (by have := HS7.out.1.lt; have := kAB.size; omega), (HS7.out.2.keep kAB (by have := HS7.out.2.lt; omega)).keep kCD (by have := HS7.out.2.lt; have := kAB.size; omega),
      by rw [← hgF]; exact hb9.keep kCD (by have := hb9.lt; omega), by rw [← hgR]; exact hbB⟩)
  have KB := Lib.hid ((K7.out.at_ kAB (by have := K7.out.size; omega)).at_ kCD (by have := K7.out.size; have := kAB.size; omega))
  have HFR := Lib.hid (show w.heap.size ≤ gF ∧ w.heap.size ≤ gR from ⟨by have := K7.out.size; omega, by have := K7.out.size; have := kAB.size; omega⟩)
  rw [hgF, hgR] at *
  clear hb8 hk8 hs8 hb9 hk9 hs9 hbA hkA hsA hbB hkB hsB kAB kCD hgF hgR HB7 HS7 HB6 HS6
  -- the records are put
  have hput := put_is HV.out.B HV.out.b Pn.blank_len HV.out.P rfl (by decide +kernel) HV.out.Q rfl (by decide +kernel) HV.out.F rfl rfl HV.out.R rfl
  go_wp2_with fail
  refine hput.mono ?_; rintro e wC ⟨rfl, hbC, kC⟩
  have HVC := Lib.hid (show Vs wC gB gP gQ gF gR gb B0 P0 Q0 F00 F10 Pn.pipe1 from HV.out.put hbC kC)
  have KC := Lib.hid (KB.out.at_ kC HGb.out)
  clear hput hbC kC
  have cB : wC.cell? ⟨gB, 0, none⟩ = some (.slice (some ⟨gb, 0, none⟩) 492 492) := HVC.out.B.cell 0
  have hso := sound_is (w := wC) (some ⟨gb, 0, none⟩) 492 492 B0 (reads_all HVC.out.b (by rw [bytes_length, B0_len])) true (by rw [B0_sound]; rfl)
  go_wp2_with fail
  refine hso.mono ?_; rintro e wD ⟨rfl, kD⟩
  have HVD := Lib.hid (HVC.out.from_ kD)
  have KD := Lib.hid (from_next KC.out kD)
  clear hso kD cB
  obtain ⟨n, hn⟩ : ∃ n, m + 1 = n := ⟨_, rfl⟩
  have hm5 : IntKind.i64.wrap (m + 1) = n := by rw [← hn]; simp [IntKind.wrap, IntKind.bits, IntKind.signed]; omega
  have hn1 : 1 ≤ n := by omega
  have hn4 : n ≤ 4 := by omega
  have HX9 := Lib.hid HX8.out
  clear hn
  go_upto_region 14 with fail
  clear hm5 hm hm0 hm4
  rcases (show x = 0 ∨ x = 1 ∨ x = 2 ∨ x = 3 ∨ x = 4 ∨ x = 5 ∨ x = 6 ∨ x = 7 by have := HX9.out; omega) with rfl | rfl | rfl | rfl | rfl | rfl | rfl | rfl
  · have zc : wD.cell? ⟨gQ, 1, none⟩ = some (.int .i64 1) := HVD.out.Q.cell 1
    have zf := HVD.out.Q.frozen 1
    go_upto_region 30 with fail
    have HVE := Lib.hid (show Vs (wD.setCell ⟨gQ, 1, none⟩ (.int .i64 2)) gB gP gQ gF gR gb B0 P0 (Q0.set 1 2) F00 F10 (Pn.pipe1) from ⟨HVD.out.B.far (p := ⟨gQ, 1, none⟩) (HVD.out.B.ne_ HVD.out.Q (by decide)) _, HVD.out.b.far (p := ⟨gQ, 1, none⟩) (HVD.out.b.ne_ HVD.out.Q (by decide)) _, HVD.out.P.far (p := ⟨gQ, 1, none⟩) HPQ.out.2.2.1 _, HVD.out.Q.setCell 1 (.int .i64 2), HVD.out.F.far (p := ⟨gQ, 1, none⟩) (HVD.out.F.ne_ HVD.out.Q (by decide)) _, HVD.out.R.far (p := ⟨gQ, 1, none⟩) (HVD.out.R.ne_ HVD.out.Q (by decide)) _⟩)
    have KE := Lib.hid (show Keep (From w.heap.size) w (wD.setCell ⟨gQ, 1, none⟩ (.int .i64 2)) from KD.out.at_ ((Keep.refl (· = gQ) wD).setCell _ _ (fun _ => rfl)) HPQ.out.2.1)
    generalize wD.setCell ⟨gQ, 1, none⟩ (.int .i64 2) = wE at *
    clear zc zf
    have HT := Lib.hid (Kb0_told n hn1 hn4)
    have hput := put_is HVE.out.B HVE.out.b B0_len HVE.out.P rfl HT.out.2.2.1 HVE.out.Q rfl HT.out.2.2.2 HVE.out.F rfl rfl HVE.out.R rfl
    go_wp2_with fail
    refine hput.mono ?_; rintro e wF ⟨rfl, hbF, kF⟩
    have HVF := Lib.hid (show Vs wF gB gP gQ gF gR gb (Kb0 n) P0 (Q0.set 1 2) F00 F10 (Pn.pipe1) from HVE.out.put hbF kF)
    have KF := Lib.hid (KE.out.at_ kF HGb.out)
    have cB : wF.cell? ⟨gB, 0, none⟩ = some (.slice (some ⟨gb, 0, none⟩) 492 492) := HVF.out.B.cell 0
    have hfa := faults_is (w := wF) (some ⟨gb, 0, none⟩) 492 492 (Kb0 n) (reads_all HVF.out.b (by rw [bytes_length, HT.out.2.1]))
    rw [HT.out.1] at hfa
    simp only [List.length_nil, List.length_cons, Nat.zero_add] at hfa
    clear hput hbF kF
    go_wp2_with fail
    refine hfa.mono ?_; rintro e wG ⟨D, cD, rfl, hrd, kG⟩
    have KG := Lib.hid (from_next KF.out kG)
    obtain ⟨gD, oD, rfl, hcl⟩ := hrd.lit (by decide)
    have d0 : wG.cell? ⟨gD, oD, none⟩ = some (.string { data := #[112, 97, 114, 101, 110, 116] }) := hcl 0 _ rfl
    have he0 : ¬ (({ data := #[112, 97, 114, 101, 110, 116] } : ByteArray).toList = []) := by rw [show ({ data := #[112, 97, 114, 101, 110, 116] } : ByteArray) = str [112, 97, 114, 101, 110, 116] from rfl, Ri.str_tl]; decide
    have he1 : (({ data := #[112, 97, 114, 101, 110, 116] } : ByteArray).toList.isEmpty) = false := by rw [show ({ data := #[112, 97, 114, 101, 110, 116] } : ByteArray) = str [112, 97, 114, 101, 110, 116] from rfl, Ri.str_tl]; rfl
    have HE1 := Lib.hid he1
    clear he1
    clear hcl hrd hfa kG cB
    generalize ({ data := #[112, 97, 114, 101, 110, 116] } : ByteArray) = sS at *
    have haw := awake_is wG
    go_wp2_with fail
    refine haw.mono ?_; rintro e wH ⟨rfl, kH⟩
    have KH := Lib.hid (from_next KG.out kH)
    clear haw kH d0 he0
    go_wp2
    go_ret
    exact ⟨congrArg (fun q => Ending.returned (Value.bool q)) (show (!sS.toList.isEmpty) = true by rw [HE1.out]; rfl), KH.out.done⟩
  · have zc : wD.cell? ⟨gQ, 1, none⟩ = some (.int .i64 1) := HVD.out.Q.cell 1
    have zf := HVD.out.Q.frozen 1
    go_upto_region 30 with fail
    have HVE := Lib.hid (show Vs (wD.setCell ⟨gQ, 1, none⟩ (.int .i64 (2 + n))) gB gP gQ gF gR gb B0 P0 (Q0.set 1 (2 + n)) F00 F10 (Pn.pipe1) from ⟨HVD.out.B.far (p := ⟨gQ, 1, none⟩) (HVD.out.B.ne_ HVD.out.Q (by decide)) _, HVD.out.b.far (p := ⟨gQ, 1, none⟩) (HVD.out.b.ne_ HVD.out.Q (by decide)) _, HVD.out.P.far (p := ⟨gQ, 1, none⟩) HPQ.out.2.2.1 _, HVD.out.Q.setCell 1 (.int .i64 (2 + n)), HVD.out.F.far (p := ⟨gQ, 1, none⟩) (HVD.out.F.ne_ HVD.out.Q (by decide)) _, HVD.out.R.far (p := ⟨gQ, 1, none⟩) (HVD.out.R.ne_ HVD.out.Q (by decide)) _⟩)
    have KE := Lib.hid (show Keep (From w.heap.size) w (wD.setCell ⟨gQ, 1, none⟩ (.int .i64 (2 + n))) from KD.out.at_ ((Keep.refl (· = gQ) wD).setCell _ _ (fun _ => rfl)) HPQ.out.2.1)
    generalize wD.setCell ⟨gQ, 1, none⟩ (.int .i64 (2 + n)) = wE at *
    clear zc zf
    have HT := Lib.hid (Kb1_told n hn1 hn4)
    have hput := put_is HVE.out.B HVE.out.b B0_len HVE.out.P rfl HT.out.2.2.1 HVE.out.Q rfl HT.out.2.2.2 HVE.out.F rfl rfl HVE.out.R rfl
    go_wp2_with fail
    refine hput.mono ?_; rintro e wF ⟨rfl, hbF, kF⟩
    have HVF := Lib.hid (show Vs wF gB gP gQ gF gR gb (Kb1 n) P0 (Q0.set 1 (2 + n)) F00 F10 (Pn.pipe1) from HVE.out.put hbF kF)
    have KF := Lib.hid (KE.out.at_ kF HGb.out)
    have cB : wF.cell? ⟨gB, 0, none⟩ = some (.slice (some ⟨gb, 0, none⟩) 492 492) := HVF.out.B.cell 0
    have hfa := faults_is (w := wF) (some ⟨gb, 0, none⟩) 492 492 (Kb1 n) (reads_all HVF.out.b (by rw [bytes_length, HT.out.2.1]))
    rw [HT.out.1] at hfa
    simp only [List.length_nil, List.length_cons, Nat.zero_add] at hfa
    clear hput hbF kF
    go_wp2_with fail
    refine hfa.mono ?_; rintro e wG ⟨D, cD, rfl, hrd, kG⟩
    have KG := Lib.hid (from_next KF.out kG)
    obtain ⟨gD, oD, rfl, hcl⟩ := hrd.lit (by decide)
    have d0 : wG.cell? ⟨gD, oD, none⟩ = some (.string { data := #[112, 97, 114, 101, 110, 116] }) := hcl 0 _ rfl
    have he0 : ¬ (({ data := #[112, 97, 114, 101, 110, 116] } : ByteArray).toList = []) := by rw [show ({ data := #[112, 97, 114, 101, 110, 116] } : ByteArray) = str [112, 97, 114, 101, 110, 116] from rfl, Ri.str_tl]; decide
    have he1 : (({ data := #[112, 97, 114, 101, 110, 116] } : ByteArray).toList.isEmpty) = false := by rw [show ({ data := #[112, 97, 114, 101, 110, 116] } : ByteArray) = str [112, 97, 114, 101, 110, 116] from rfl, Ri.str_tl]; rfl
    have HE1 := Lib.hid he1
    clear he1
    clear hcl hrd hfa kG cB
    generalize ({ data := #[112, 97, 114, 101, 110, 116] } : ByteArray) = sS at *
    have haw := awake_is wG
    go_wp2_with fail
    refine haw.mono ?_; rintro e wH ⟨rfl, kH⟩
    have KH := Lib.hid (from_next KG.out kH)
    clear haw kH d0 he0
    go_wp2
    go_ret
    exact ⟨congrArg (fun q => Ending.returned (Value.bool q)) (show (!sS.toList.isEmpty) = true by rw [HE1.out]; rfl), KH.out.done⟩
  · have zc : wD.cell? ⟨gQ, 9, none⟩ = some (.int .i64 0) := HVD.out.Q.cell 9
    have zf := HVD.out.Q.frozen 9
    go_upto_region 30 with fail
    have HVE := Lib.hid (show Vs (wD.setCell ⟨gQ, 9, none⟩ (.int .i64 (8 + n))) gB gP gQ gF gR gb B0 P0 (Q0.set 9 (8 + n)) F00 F10 (Pn.pipe1) from ⟨HVD.out.B.far (p := ⟨gQ, 9, none⟩) (HVD.out.B.ne_ HVD.out.Q (by decide)) _, HVD.out.b.far (p := ⟨gQ, 9, none⟩) (HVD.out.b.ne_ HVD.out.Q (by decide)) _, HVD.out.P.far (p := ⟨gQ, 9, none⟩) HPQ.out.2.2.1 _, HVD.out.Q.setCell 9 (.int .i64 (8 + n)), HVD.out.F.far (p := ⟨gQ, 9, none⟩) (HVD.out.F.ne_ HVD.out.Q (by decide)) _, HVD.out.R.far (p := ⟨gQ, 9, none⟩) (HVD.out.R.ne_ HVD.out.Q (by decide)) _⟩)
    have KE := Lib.hid (show Keep (From w.heap.size) w (wD.setCell ⟨gQ, 9, none⟩ (.int .i64 (8 + n))) from KD.out.at_ ((Keep.refl (· = gQ) wD).setCell _ _ (fun _ => rfl)) HPQ.out.2.1)
    generalize wD.setCell ⟨gQ, 9, none⟩ (.int .i64 (8 + n)) = wE at *
    clear zc zf
    have HT := Lib.hid (Kb2_told n hn1 hn4)
    have hput := put_is HVE.out.B HVE.out.b B0_len HVE.out.P rfl HT.out.2.2.1 HVE.out.Q rfl HT.out.2.2.2 HVE.out.F rfl rfl HVE.out.R rfl
    go_wp2_with fail
    refine hput.mono ?_; rintro e wF ⟨rfl, hbF, kF⟩
    have HVF := Lib.hid (show Vs wF gB gP gQ gF gR gb (Kb2 n) P0 (Q0.set 9 (8 + n)) F00 F10 (Pn.pipe1) from HVE.out.put hbF kF)
    have KF := Lib.hid (KE.out.at_ kF HGb.out)
    have cB : wF.cell? ⟨gB, 0, none⟩ = some (.slice (some ⟨gb, 0, none⟩) 492 492) := HVF.out.B.cell 0
    have hfa := faults_is (w := wF) (some ⟨gb, 0, none⟩) 492 492 (Kb2 n) (reads_all HVF.out.b (by rw [bytes_length, HT.out.2.1]))
    rw [HT.out.1] at hfa
    simp only [List.length_nil, List.length_cons, Nat.zero_add] at hfa
    clear hput hbF kF
    go_wp2_with fail
    refine hfa.mono ?_; rintro e wG ⟨D, cD, rfl, hrd, kG⟩
    have KG := Lib.hid (from_next KF.out kG)
    obtain ⟨gD, oD, rfl, hcl⟩ := hrd.lit (by decide)
    have d0 : wG.cell? ⟨gD, oD, none⟩ = some (.string { data := #[102, 100] }) := hcl 0 _ rfl
    have he0 : ¬ (({ data := #[102, 100] } : ByteArray).toList = []) := by rw [show ({ data := #[102, 100] } : ByteArray) = str [102, 100] from rfl, Ri.str_tl]; decide
    have he1 : (({ data := #[102, 100] } : ByteArray).toList.isEmpty) = false := by rw [show ({ data := #[102, 100] } : ByteArray) = str [102, 100] from rfl, Ri.str_tl]; rfl
    have HE1 := Lib.hid he1
    clear he1
    clear hcl hrd hfa kG cB
    generalize ({ data := #[102, 100] } : ByteArray) = sS at *
    have haw := awake_is wG
    go_wp2_with fail
    refine haw.mono ?_; rintro e wH ⟨rfl, kH⟩
    have KH := Lib.hid (from_next KG.out kH)
    clear haw kH d0 he0
    go_wp2
    go_ret
    exact ⟨congrArg (fun q => Ending.returned (Value.bool q)) (show (!sS.toList.isEmpty) = true by rw [HE1.out]; rfl), KH.out.done⟩
  · have zc : wD.cell? ⟨gF, 2, none⟩ = some (.int .i64 2) := HVD.out.F.cell 2
    have zf := HVD.out.F.frozen 2
    go_upto_region 30 with fail
    have HVE := Lib.hid (show Vs (wD.setCell ⟨gF, 2, none⟩ (.int .i64 (2 + n))) gB gP gQ gF gR gb B0 P0 Q0 (F00.set 2 (2 + n)) F10 (Pn.pipe1) from ⟨HVD.out.B.far (p := ⟨gF, 2, none⟩) (HVD.out.B.ne_ HVD.out.F (by decide)) _, HVD.out.b.far (p := ⟨gF, 2, none⟩) (HVD.out.b.ne_ HVD.out.F (by decide)) _, HVD.out.P.far (p := ⟨gF, 2, none⟩) (HVD.out.P.ne_ HVD.out.F (by decide)) _, HVD.out.Q.far (p := ⟨gF, 2, none⟩) (HVD.out.Q.ne_ HVD.out.F (by decide)) _, HVD.out.F.setCell 2 (.int .i64 (2 + n)), HVD.out.R.far (p := ⟨gF, 2, none⟩) (HVD.out.R.ne_ HVD.out.F (by decide)) _⟩)
    have KE := Lib.hid (show Keep (From w.heap.size) w (wD.setCell ⟨gF, 2, none⟩ (.int .i64 (2 + n))) from KD.out.at_ ((Keep.refl (· = gF) wD).setCell _ _ (fun _ => rfl)) HFR.out.1)
    generalize wD.setCell ⟨gF, 2, none⟩ (.int .i64 (2 + n)) = wE at *
    clear zc zf
    have HT := Lib.hid (Kb3_told n hn1 hn4)
    have hput := put_is HVE.out.B HVE.out.b B0_len HVE.out.P rfl HT.out.2.2.1 HVE.out.Q rfl HT.out.2.2.2 HVE.out.F rfl rfl HVE.out.R rfl
    go_wp2_with fail
    refine hput.mono ?_; rintro e wF ⟨rfl, hbF, kF⟩
    have HVF := Lib.hid (show Vs wF gB gP gQ gF gR gb (Kb3 n) P0 Q0 (F00.set 2 (2 + n)) F10 (Pn.pipe1) from HVE.out.put hbF kF)
    have KF := Lib.hid (KE.out.at_ kF HGb.out)
    have cB : wF.cell? ⟨gB, 0, none⟩ = some (.slice (some ⟨gb, 0, none⟩) 492 492) := HVF.out.B.cell 0
    have hfa := faults_is (w := wF) (some ⟨gb, 0, none⟩) 492 492 (Kb3 n) (reads_all HVF.out.b (by rw [bytes_length, HT.out.2.1]))
    rw [HT.out.1] at hfa
    simp only [List.length_nil, List.length_cons, Nat.zero_add] at hfa
    clear hput hbF kF
    go_wp2_with fail
    refine hfa.mono ?_; rintro e wG ⟨D, cD, rfl, hrd, kG⟩
    have KG := Lib.hid (from_next KF.out kG)
    obtain ⟨gD, oD, rfl, hcl⟩ := hrd.lit (by decide)
    have d0 : wG.cell? ⟨gD, oD, none⟩ = some (.string { data := #[114, 101, 102, 115] }) := hcl 0 _ rfl
    have he0 : ¬ (({ data := #[114, 101, 102, 115] } : ByteArray).toList = []) := by rw [show ({ data := #[114, 101, 102, 115] } : ByteArray) = str [114, 101, 102, 115] from rfl, Ri.str_tl]; decide
    have he1 : (({ data := #[114, 101, 102, 115] } : ByteArray).toList.isEmpty) = false := by rw [show ({ data := #[114, 101, 102, 115] } : ByteArray) = str [114, 101, 102, 115] from rfl, Ri.str_tl]; rfl
    have HE1 := Lib.hid he1
    clear he1
    clear hcl hrd hfa kG cB
    generalize ({ data := #[114, 101, 102, 115] } : ByteArray) = sS at *
    have haw := awake_is wG
    go_wp2_with fail
    refine haw.mono ?_; rintro e wH ⟨rfl, kH⟩
    have KH := Lib.hid (from_next KG.out kH)
    clear haw kH d0 he0
    go_wp2
    go_ret
    exact ⟨congrArg (fun q => Ending.returned (Value.bool q)) (show (!sS.toList.isEmpty) = true by rw [HE1.out]; rfl), KH.out.done⟩
  · have zc : wD.cell? ⟨gF, 7, none⟩ = some (.int .i64 0) := HVD.out.F.cell 7
    have zf := HVD.out.F.frozen 7
    go_upto_region 30 with fail
    have HVE := Lib.hid (show Vs (wD.setCell ⟨gF, 7, none⟩ (.int .i64 1)) gB gP gQ gF gR gb B0 P0 Q0 F00 (F10.set 3 1) (Pn.pipe1) from ⟨HVD.out.B.far (p := ⟨gF, 7, none⟩) (HVD.out.B.ne_ HVD.out.F (by decide)) _, HVD.out.b.far (p := ⟨gF, 7, none⟩) (HVD.out.b.ne_ HVD.out.F (by decide)) _, HVD.out.P.far (p := ⟨gF, 7, none⟩) (HVD.out.P.ne_ HVD.out.F (by decide)) _, HVD.out.Q.far (p := ⟨gF, 7, none⟩) (HVD.out.Q.ne_ HVD.out.F (by decide)) _, HVD.out.F.setCell 7 (.int .i64 1), HVD.out.R.far (p := ⟨gF, 7, none⟩) (HVD.out.R.ne_ HVD.out.F (by decide)) _⟩)
    have KE := Lib.hid (show Keep (From w.heap.size) w (wD.setCell ⟨gF, 7, none⟩ (.int .i64 1)) from KD.out.at_ ((Keep.refl (· = gF) wD).setCell _ _ (fun _ => rfl)) HFR.out.1)
    generalize wD.setCell ⟨gF, 7, none⟩ (.int .i64 1) = wE at *
    clear zc zf
    have HT := Lib.hid (Kb4_told n hn1 hn4)
    have hput := put_is HVE.out.B HVE.out.b B0_len HVE.out.P rfl HT.out.2.2.1 HVE.out.Q rfl HT.out.2.2.2 HVE.out.F rfl rfl HVE.out.R rfl
    go_wp2_with fail
    refine hput.mono ?_; rintro e wF ⟨rfl, hbF, kF⟩
    have HVF := Lib.hid (show Vs wF gB gP gQ gF gR gb (Kb4 n) P0 Q0 F00 (F10.set 3 1) (Pn.pipe1) from HVE.out.put hbF kF)
    have KF := Lib.hid (KE.out.at_ kF HGb.out)
    have cB : wF.cell? ⟨gB, 0, none⟩ = some (.slice (some ⟨gb, 0, none⟩) 492 492) := HVF.out.B.cell 0
    have hfa := faults_is (w := wF) (some ⟨gb, 0, none⟩) 492 492 (Kb4 n) (reads_all HVF.out.b (by rw [bytes_length, HT.out.2.1]))
    rw [HT.out.1] at hfa
    simp only [List.length_nil, List.length_cons, Nat.zero_add] at hfa
    clear hput hbF kF
    go_wp2_with fail
    refine hfa.mono ?_; rintro e wG ⟨D, cD, rfl, hrd, kG⟩
    have KG := Lib.hid (from_next KF.out kG)
    clear hrd hfa kG cB
    have haw := awake_is wG
    go_wp2_with fail
    refine haw.mono ?_; rintro e wH ⟨rfl, kH⟩
    have KH := Lib.hid (from_next KG.out kH)
    clear haw kH
    go_wp2
    go_ret
    exact ⟨rfl, KH.out.done⟩
  · have zc : wD.cell? ⟨gR, 2, none⟩ = some (.int .i64 1) := HVD.out.R.cell 2
    have zf := HVD.out.R.frozen 2
    go_upto_region 30 with fail
    have HVE := Lib.hid (show Vs (wD.setCell ⟨gR, 2, none⟩ (.int .i64 (1 + n))) gB gP gQ gF gR gb B0 P0 Q0 F00 F10 ({ Pn.pipe1 with r := 1 + n }) from ⟨HVD.out.B.far (p := ⟨gR, 2, none⟩) (HVD.out.B.ne_ HVD.out.R (by decide)) _, HVD.out.b.far (p := ⟨gR, 2, none⟩) (HVD.out.b.ne_ HVD.out.R (by decide)) _, HVD.out.P.far (p := ⟨gR, 2, none⟩) (HVD.out.P.ne_ HVD.out.R (by decide)) _, HVD.out.Q.far (p := ⟨gR, 2, none⟩) (HVD.out.Q.ne_ HVD.out.R (by decide)) _, HVD.out.F.far (p := ⟨gR, 2, none⟩) (HVD.out.F.ne_ HVD.out.R (by decide)) _, HVD.out.R.setCell 2 (.int .i64 (1 + n))⟩)
    have KE := Lib.hid (show Keep (From w.heap.size) w (wD.setCell ⟨gR, 2, none⟩ (.int .i64 (1 + n))) from KD.out.at_ ((Keep.refl (· = gR) wD).setCell _ _ (fun _ => rfl)) HFR.out.2)
    generalize wD.setCell ⟨gR, 2, none⟩ (.int .i64 (1 + n)) = wE at *
    clear zc zf
    have HT := Lib.hid (Kb5_told n hn1 hn4)
    have hput := put_is HVE.out.B HVE.out.b B0_len HVE.out.P rfl HT.out.2.2.1 HVE.out.Q rfl HT.out.2.2.2 HVE.out.F rfl rfl HVE.out.R rfl
    go_wp2_with fail
    refine hput.mono ?_; rintro e wF ⟨rfl, hbF, kF⟩
    have HVF := Lib.hid (show Vs wF gB gP gQ gF gR gb (Kb5 n) P0 Q0 F00 F10 ({ Pn.pipe1 with r := 1 + n }) from HVE.out.put hbF kF)
    have KF := Lib.hid (KE.out.at_ kF HGb.out)
    have cB : wF.cell? ⟨gB, 0, none⟩ = some (.slice (some ⟨gb, 0, none⟩) 492 492) := HVF.out.B.cell 0
    have hfa := faults_is (w := wF) (some ⟨gb, 0, none⟩) 492 492 (Kb5 n) (reads_all HVF.out.b (by rw [bytes_length, HT.out.2.1]))
    rw [HT.out.1] at hfa
    simp only [List.length_nil, List.length_cons, Nat.zero_add] at hfa
    clear hput hbF kF
    go_wp2_with fail
    refine hfa.mono ?_; rintro e wG ⟨D, cD, rfl, hrd, kG⟩
    have KG := Lib.hid (from_next KF.out kG)
    obtain ⟨gD, oD, rfl, hcl⟩ := hrd.lit (by decide)
    have d0 : wG.cell? ⟨gD, oD, none⟩ = some (.string { data := #[101, 110, 100, 115] }) := hcl 0 _ rfl
    have he0 : ¬ (({ data := #[101, 110, 100, 115] } : ByteArray).toList = []) := by rw [show ({ data := #[101, 110, 100, 115] } : ByteArray) = str [101, 110, 100, 115] from rfl, Ri.str_tl]; decide
    have he1 : (({ data := #[101, 110, 100, 115] } : ByteArray).toList.isEmpty) = false := by rw [show ({ data := #[101, 110, 100, 115] } : ByteArray) = str [101, 110, 100, 115] from rfl, Ri.str_tl]; rfl
    have HE1 := Lib.hid he1
    clear he1
    clear hcl hrd hfa kG cB
    generalize ({ data := #[101, 110, 100, 115] } : ByteArray) = sS at *
    have haw := awake_is wG
    go_wp2_with fail
    refine haw.mono ?_; rintro e wH ⟨rfl, kH⟩
    have KH := Lib.hid (from_next KG.out kH)
    clear haw kH d0 he0
    go_wp2
    go_ret
    exact ⟨congrArg (fun q => Ending.returned (Value.bool q)) (show (!sS.toList.isEmpty) = true by rw [HE1.out]; rfl), KH.out.done⟩
  · have zc : wD.cell? ⟨gR, 3, none⟩ = some (.int .i64 1) := HVD.out.R.cell 3
    have zf := HVD.out.R.frozen 3
    go_upto_region 30 with fail
    have HVE := Lib.hid (show Vs (wD.setCell ⟨gR, 3, none⟩ (.int .i64 0)) gB gP gQ gF gR gb B0 P0 Q0 F00 F10 ({ Pn.pipe1 with s := 0 }) from ⟨HVD.out.B.far (p := ⟨gR, 3, none⟩) (HVD.out.B.ne_ HVD.out.R (by decide)) _, HVD.out.b.far (p := ⟨gR, 3, none⟩) (HVD.out.b.ne_ HVD.out.R (by decide)) _, HVD.out.P.far (p := ⟨gR, 3, none⟩) (HVD.out.P.ne_ HVD.out.R (by decide)) _, HVD.out.Q.far (p := ⟨gR, 3, none⟩) (HVD.out.Q.ne_ HVD.out.R (by decide)) _, HVD.out.F.far (p := ⟨gR, 3, none⟩) (HVD.out.F.ne_ HVD.out.R (by decide)) _, HVD.out.R.setCell 3 (.int .i64 0)⟩)
    have KE := Lib.hid (show Keep (From w.heap.size) w (wD.setCell ⟨gR, 3, none⟩ (.int .i64 0)) from KD.out.at_ ((Keep.refl (· = gR) wD).setCell _ _ (fun _ => rfl)) HFR.out.2)
    generalize wD.setCell ⟨gR, 3, none⟩ (.int .i64 0) = wE at *
    clear zc zf
    have HT := Lib.hid (Kb6_told n hn1 hn4)
    have hput := put_is HVE.out.B HVE.out.b B0_len HVE.out.P rfl HT.out.2.2.1 HVE.out.Q rfl HT.out.2.2.2 HVE.out.F rfl rfl HVE.out.R rfl
    go_wp2_with fail
    refine hput.mono ?_; rintro e wF ⟨rfl, hbF, kF⟩
    have HVF := Lib.hid (show Vs wF gB gP gQ gF gR gb (Kb6 n) P0 Q0 F00 F10 ({ Pn.pipe1 with s := 0 }) from HVE.out.put hbF kF)
    have KF := Lib.hid (KE.out.at_ kF HGb.out)
    have cB : wF.cell? ⟨gB, 0, none⟩ = some (.slice (some ⟨gb, 0, none⟩) 492 492) := HVF.out.B.cell 0
    have hfa := faults_is (w := wF) (some ⟨gb, 0, none⟩) 492 492 (Kb6 n) (reads_all HVF.out.b (by rw [bytes_length, HT.out.2.1]))
    rw [HT.out.1] at hfa
    simp only [List.length_nil, List.length_cons, Nat.zero_add] at hfa
    clear hput hbF kF
    go_wp2_with fail
    refine hfa.mono ?_; rintro e wG ⟨D, cD, rfl, hrd, kG⟩
    have KG := Lib.hid (from_next KF.out kG)
    obtain ⟨gD, oD, rfl, hcl⟩ := hrd.lit (by decide)
    have d0 : wG.cell? ⟨gD, oD, none⟩ = some (.string { data := #[101, 110, 100, 115] }) := hcl 0 _ rfl
    have he0 : ¬ (({ data := #[101, 110, 100, 115] } : ByteArray).toList = []) := by rw [show ({ data := #[101, 110, 100, 115] } : ByteArray) = str [101, 110, 100, 115] from rfl, Ri.str_tl]; decide
    have he1 : (({ data := #[101, 110, 100, 115] } : ByteArray).toList.isEmpty) = false := by rw [show ({ data := #[101, 110, 100, 115] } : ByteArray) = str [101, 110, 100, 115] from rfl, Ri.str_tl]; rfl
    have HE1 := Lib.hid he1
    clear he1
    clear hcl hrd hfa kG cB
    generalize ({ data := #[101, 110, 100, 115] } : ByteArray) = sS at *
    have haw := awake_is wG
    go_wp2_with fail
    refine haw.mono ?_; rintro e wH ⟨rfl, kH⟩
    have KH := Lib.hid (from_next KG.out kH)
    clear haw kH d0 he0
    go_wp2
    go_ret
    exact ⟨congrArg (fun q => Ending.returned (Value.bool q)) (show (!sS.toList.isEmpty) = true by rw [HE1.out]; rfl), KH.out.done⟩
  · have zc : wD.cell? ⟨gP, 2, none⟩ = some (.int .i64 0) := HVD.out.P.cell 2
    have zf := HVD.out.P.frozen 2
    go_upto_region 30 with fail
    have HVE := Lib.hid (show Vs (wD.setCell ⟨gP, 2, none⟩ (.int .i64 n)) gB gP gQ gF gR gb B0 (P0.set 2 n) Q0 F00 F10 (Pn.pipe1) from ⟨HVD.out.B.far (p := ⟨gP, 2, none⟩) (HVD.out.B.ne_ HVD.out.P (by decide)) _, HVD.out.b.far (p := ⟨gP, 2, none⟩) (HVD.out.b.ne_ HVD.out.P (by decide)) _, HVD.out.P.setCell 2 (.int .i64 n), HVD.out.Q.far (p := ⟨gP, 2, none⟩) HPQ.out.2.2.2 _, HVD.out.F.far (p := ⟨gP, 2, none⟩) (HVD.out.F.ne_ HVD.out.P (by decide)) _, HVD.out.R.far (p := ⟨gP, 2, none⟩) (HVD.out.R.ne_ HVD.out.P (by decide)) _⟩)
    have KE := Lib.hid (show Keep (From w.heap.size) w (wD.setCell ⟨gP, 2, none⟩ (.int .i64 n)) from KD.out.at_ ((Keep.refl (· = gP) wD).setCell _ _ (fun _ => rfl)) HPQ.out.1)
    generalize wD.setCell ⟨gP, 2, none⟩ (.int .i64 n) = wE at *
    clear zc zf
    have HT := Lib.hid (Kb7_told n hn1 hn4)
    have hput := put_is HVE.out.B HVE.out.b B0_len HVE.out.P rfl HT.out.2.2.1 HVE.out.Q rfl HT.out.2.2.2 HVE.out.F rfl rfl HVE.out.R rfl
    go_wp2_with fail
    refine hput.mono ?_; rintro e wF ⟨rfl, hbF, kF⟩
    have HVF := Lib.hid (show Vs wF gB gP gQ gF gR gb (Kb7 n) (P0.set 2 n) Q0 F00 F10 (Pn.pipe1) from HVE.out.put hbF kF)
    have KF := Lib.hid (KE.out.at_ kF HGb.out)
    have cB : wF.cell? ⟨gB, 0, none⟩ = some (.slice (some ⟨gb, 0, none⟩) 492 492) := HVF.out.B.cell 0
    have hfa := faults_is (w := wF) (some ⟨gb, 0, none⟩) 492 492 (Kb7 n) (reads_all HVF.out.b (by rw [bytes_length, HT.out.2.1]))
    rw [HT.out.1] at hfa
    simp only [List.length_nil, List.length_cons, Nat.zero_add] at hfa
    clear hput hbF kF
    go_wp2_with fail
    refine hfa.mono ?_; rintro e wG ⟨D, cD, rfl, hrd, kG⟩
    have KG := Lib.hid (from_next KF.out kG)
    clear hrd hfa kG cB
    have haw := awake_is wG
    go_wp2_with fail
    refine haw.mono ?_; rintro e wH ⟨rfl, kH⟩
    have KH := Lib.hid (from_next KG.out kH)
    clear haw kH
    go_wp2
    go_ret
    exact ⟨rfl, KH.out.done⟩
end Go.Proofs.YtngchjejmnfanaaGreat.Au
namespace Go.Proofs.YtngchjejmnfanaaGreat
open Go.RowKit
theorem AuditLinks_walk (w : World) (a0 : Int) (_w0 : (Lit.int .i64 a0).wf = true) (a1 : Int) (_w1 : (Lit.int .i64 a1).wf = true) :
    Calls Tryz.prog 4 #[.int .i64 a0, .int .i64 a1] w fun e w' => e = .returned (.bool true) ∧ Below w.heap.size w w' :=
  Au.links_in w a0 a1
end Go.Proofs.YtngchjejmnfanaaGreat
