/- The walk of AuditOne (layer 16). -/
import Derived.BigRegion
import Derived.Test.YtngchjejmnfanaaGreatPk0
import Derived.Test.YtngchjejmnfanaaGreatPk2
import Derived.Test.YtngchjejmnfanaaGreatPk3
import Derived.Test.YtngchjejmnfanaaGreatPk5
import Derived.Test.YtngchjejmnfanaaGreatPk6
import Derived.Test.YtngchjejmnfanaaGreatPk8
import Derived.Test.YtngchjejmnfanaaGreatPk12
import Derived.Test.YtngchjejmnfanaaGreatPk15
import Derived.Test.YtngchjejmnfanaaGreatPk18
import Derived.Test.YtngchjejmnfanaaGreatPk19
import Derived.Test.YtngchjejmnfanaaGreatPk1
import Derived.Test.YtngchjejmnfanaaGreatPk7
import Derived.Test.YtngchjejmnfanaaGreatPk11
import Derived.Test.YtngchjejmnfanaaGreatPk21
import Derived.Test.YtngchjejmnfanaaGreatPk22
import Derived.Test.YtngchjejmnfanaaGreatPk14
import Derived.Test.YtngchjejmnfanaaGreatPk13
import Derived.Test.YtngchjejmnfanaaGreatPk16
import Derived.Test.YtngchjejmnfanaaGreatPk17
import Derived.Test.YtngchjejmnfanaaGreatPk24
import Derived.Test.YtngchjejmnfanaaGreatPk23
import Derived.Test.YtngchjejmnfanaaGreatPk20
import Derived.Test.YtngchjejmnfanaaGreatPk9
import Derived.Test.YtngchjejmnfanaaGreatPk25
import Derived.Test.YtngchjejmnfanaaGreatPk10
import Derived.Test.YtngchjejmnfanaaGreatPk26
namespace Go.Proofs.YtngchjejmnfanaaGreat.Au
open Go.RowKit Co
set_option linter.unusedVariables false
set_option linter.unusedSimpArgs false
theorem u8_add (x : UInt8) (y : Int) (h1 : 1 ≤ y) (h2 : y ≤ 255) : ∃ u : UInt8, IntKind.u8.wrap ((x.toNat : Int) + y) = (u.toNat : Int) ∧ x ≠ u := by
  have hx : x.toNat < 256 := UInt8.toNat_lt x
  refine ⟨UInt8.ofNat (((x.toNat : Int) + y) % 256).toNat, ?_, fun e => ?_⟩
  · rw [UInt8.toNat_ofNat_of_lt' (by show _ < 256; omega)]
    simp [IntKind.wrap, IntKind.bits, IntKind.signed]
    omega
  · have := congrArg UInt8.toNat e
    rw [UInt8.toNat_ofNat_of_lt' (by show _ < 256; omega)] at this
    omega
theorem bytes_set (l : List UInt8) (k : Nat) (u : UInt8) : bytes (l.set k u) = (bytes l).set k (.int .u8 (u.toNat : Int)) := by simp [bytes, List.map_set]
theorem szU : (Tryz.prog.info? 5).map (·.size) = some 1 := by kernel_rfl
set_option maxRecDepth 100000 in
set_option maxHeartbeats 16000000 in
theorem one_in (w : World) (a0 a1 a2 : Int) (h2 : 0 ≤ a2 ∧ a2 ≤ 255) :
    Calls Tryz.prog 6 #[.int .i64 a0, .int .i64 a1, .int .u8 a2] w fun e w' => e = .returned (.bool true) ∧ Below w.heap.size w w' := by
  obtain ⟨g, hg8, hg⟩ : ∃ g : Nat, g < 8 ∧ bits .and .i64 a0 7 = (g : Int) := by
    have := i64_mask a0 3 (by decide)
    rw [show (2 : Int) ^ 3 - 1 = 7 from rfl] at this
    exact ⟨(a0 % 8).toNat, by omega, by rw [this]; omega⟩
  obtain ⟨k, hk32, hk⟩ : ∃ k : Nat, k < 32 ∧ bits .and .i64 a1 31 = (k : Int) := by
    have := i64_mask a1 5 (by decide)
    rw [show (2 : Int) ^ 5 - 1 = 31 from rfl] at this
    exact ⟨(a1 % 32).toNat, by omega, by rw [this]; omega⟩
  have HG8 := Lib.hid hg8
  have hblk := blank_is w
  clear hg8
  go_enter Tryz.func6, Tryz.ntmps6
  go_wp2_with fail
  refine hblk.mono ?_; rintro e w1 ⟨gb, rfl, hb, hgb, k1⟩
  have HB1 := Lib.hid hb
  have K1 := Lib.hid k1
  have HGb := Lib.hid hgb
  clear hblk hb k1 hgb
  go_upto_region 5 with (first
    | (refine flatP.wpList_al rfl rfl ?_; intro w2 hb2 hk2 hs2; clear hs2)
    | (refine flatP.wpList_st (q := ints [1, 0, (g : Int), 0, 0, 0, 0, 0, 0, 0, 0, 0, 0, 0, 0, 0]) rfl rfl rfl rfl (cellsI rfl) (cellsI rfl) hb2 ?_; intro w3 hb3 hk3 hs3; clear hs3))
  have z11 : w3.cell? ⟨w1.heap.size, 11, none⟩ = some (.int .i64 0) := hb3.cell 11
  have f11 := hb3.frozen 11
  have HP := Lib.hid (show Blk (w3.setCell ⟨w1.heap.size, 11, none⟩ (.int .i64 5)) w1.heap.size 39 (ints (P1 g)) from hb3.setCell 11 (.int .i64 5))
  have ks := (Keep.refl (· = w1.heap.size) w3).setCell ⟨w1.heap.size, 11, none⟩ (.int .i64 5) (fun _ => rfl)
  have hlt1 := HB1.out.lt
  have HB4 := Lib.hid (((HB1.out.nob hk2).keep hk3 (by omega)).keep ks (by omega))
  have HK4 := Lib.hid (((K1.out.nob hk2).at_ hk3 K1.out.size).at_ ks K1.out.size)
  clear hb2 hk2 hb3 hk3 ks hlt1
  go_upto_region 6 with fail
  generalize w3.setCell ⟨w1.heap.size, 11, none⟩ (.int .i64 5) = w4 at *
  clear z11 f11
  have hpb := Cd.procbytes_is (P1 g) rfl (P1_ok g HG8.out) w4
  have hpbv : Calls Tryz.prog 18 #[.agg (ints (P1 g)).toArray] w4 fun e w' => e = .returned (.string (str (Cd.enc (P1 g)))) ∧ Keep Nob w4 w' := hpb
  clear hpb
  go_wp2_with (refine flatP.wpList_ld (q := ints (P1 g)) rfl rfl rfl (cellsI rfl) HP.out ?_)
  refine hpbv.mono ?_; rintro e w5 ⟨rfl, k5⟩
  have HB5 := Lib.hid (HB4.out.nob k5)
  have HK5 := Lib.hid (HK4.out.nob k5)
  clear hpbv k5
  have HE := Lib.hid (show (Cd.enc (P1 g)).length = 24 from Cd.enc_len rfl)
  have HZl := Lib.hid (show (bytes Pn.blankB).length = 492 by rw [bytes_length, Pn.blank_len])
  obtain ⟨w6, hcp, hb6, hk6, _⟩ := run_cps (P := Tryz.prog) w5 36 9 5 Tryz.underlying36 szU (some ⟨gb, 0, none⟩) 492 492 gb 0 _ 5 HB5.out (Cd.enc (P1 g)) (fun _ => rfl) (by rw [HZl.out]; decide) (by rw [HE.out]; decide)
  have HB6 := Lib.hid (show Blk w6 gb 5 (bytes (splice Pn.blankB 0 (Cd.enc (P1 g)))) by rw [← splice_bytes]; exact hb6)
  have HK6 := Lib.hid (HK5.out.at_ hk6 HGb.out)
  clear hb6 hk6
  go_upto_region 7 with fail
  have hfb : ∀ W, Calls Tryz.prog 19 #[.agg #[.int .i64 3, .int .i64 0, .int .i64 1, .int .i64 0]] W fun e w' => e = .returned (.string (str (Fi.enc F1))) ∧ Keep Nob W w' := fun W => Fi.filebytes_is F1 rfl W
  have HL2 := Lib.hid (show (splice Pn.blankB 0 (Cd.enc (P1 g))).length = 492 by rw [splice_len _ _ _ (by rw [Pn.blank_len, HE.out]; decide), Pn.blank_len])
  have HFb := Lib.hid hfb
  clear hcp hfb
  have hf0 := HFb.out w6.drew
  generalize hb1e : splice Pn.blankB 0 (Cd.enc (P1 g)) = b1 at *
  have HB1e := Lib.hid hb1e
  clear hb1e
  go_region_held3 (fun _ => True)
    (trivial)
    (first | (go_at_call 19; with_reducible_and_instances apply Calls.mono hf0; rintro e w7 ⟨rfl, k7⟩; obtain ⟨w8, hcp, hb8, hk8, _⟩ := run_cps (P := Tryz.prog) w7 36 9 5 Tryz.underlying36 szU (some ⟨gb, 224, none⟩) 268 268 gb 224 _ 5 ((HB6.out.nob (Keep.nobdrew _)).nob k7) (Fi.enc F1) (fun _ => rfl) (by rw [bytes_length, HL2.out]; decide) (by rw [Fi.enc_len]; decide)))
  -- THE REST
  have HB8 := Lib.hid (show Blk w8 gb 5 (bytes (B1 g)) by unfold B1; rw [HB1e.out, ← splice_bytes]; exact hb8)
  have HK8 := Lib.hid (((HK6.out.nob (Keep.nobdrew _)).nob k7).at_ hk8 HGb.out)
  clear hb8 hk8 k7 hcp hf0
  have hLB := B1_len g
  have HLB := Lib.hid hLB
  have hso := sound_is (w := w8) (some ⟨gb, 0, none⟩) 492 492 (B1 g) (reads_all HB8.out (by rw [bytes_length, HLB.out])) true (by rw [B1_sound g HG8.out]; rfl)
  clear hLB
  go_wp2_with fail
  refine hso.mono ?_; rintro e w9 ⟨rfl, k9⟩
  have HB9 := Lib.hid (from_blk HB8.out k9)
  have HK9 := Lib.hid (from_next HK8.out k9)
  clear hso k9
  obtain ⟨b, hbe⟩ : ∃ b, B1 g = b := ⟨_, rfl⟩
  have HT1 := Lib.hid (show ∀ k, k < 24 → ∀ y, b.getD k 0 ≠ y → abad (b.set k y) = [(1, 0)] ∧ faultsOf (b.set k y) = [sBad] from fun k hk y hy => by rw [← hbe]; rw [← hbe] at hy; exact turned1 g HG8.out k hk y hy)
  have HT2 := Lib.hid (show ∀ k, 224 ≤ k → k < 232 → ∀ y, b.getD k 0 ≠ y → abad (b.set k y) = [(2, 4)] ∧ faultsOf (b.set k y) = [sBad] from fun k hk hk2 y hy => by rw [← hbe]; rw [← hbe] at hy; exact turned2 g HG8.out k hk hk2 y hy)
  rw [hbe] at HB9 HLB
  clear hbe
  have HRE := Lib.hid Dk.rec_eq
  by_cases hz : a2 = 0
  · subst hz
    by_cases hkl : k < 24
    · have hkl2 : ¬ ((24 : Int) ≤ (k : Int)) := by omega
      have hkl3 : ¬ ((224 : Int) ≤ (k : Int)) := by omega
      have hkl4 : (k : Int) < 24 := by omega
      obtain ⟨u, hu⟩ := u8_add (b.getD k 0) 1 (by omega) (by omega)
      have hab := HT1.out k (by omega) u hu.2
      have HU := Lib.hid hu.1
      have HAb := Lib.hid hab
      clear hu hab
      go_upto_region 15 with fail
      have zc : w9.cell? ⟨gb, k, none⟩ = some (.int .u8 ((b.getD k 0).toNat : Int)) := (HB9.out.cell k).trans (bytes_getD (by rw [HLB.out]; omega))
      have zf := HB9.out.frozen k
      have hur := HU.out
      have HBA := Lib.hid (show Blk (w9.setCell ⟨gb, k, none⟩ (.int .u8 (u.toNat : Int))) gb 5 (bytes (b.set k u)) by rw [bytes_set]; exact HB9.out.setCell k _)
      have HKA := Lib.hid (HK9.out.at_ ((Keep.refl (· = gb) w9).setCell ⟨gb, k, none⟩ (.int .u8 (u.toNat : Int)) (fun _ => rfl)) HGb.out)
      generalize (b.getD k 0).toNat = xn at *
      go_upto_region 16 with fail
      generalize w9.setCell ⟨gb, k, none⟩ (.int .u8 (u.toNat : Int)) = wA at *
      clear zc zf hur
      have hba := abad_is (w := wA) (some ⟨gb, 0, none⟩) 492 492 (b.set k u) (reads_all HBA.out (by rw [bytes_length, List.length_set, HLB.out]))
      rw [HAb.out.1] at hba
      simp only [List.length_nil, List.length_cons, Nat.zero_add] at hba
      go_wp2_with fail
      refine hba.mono ?_; rintro e wB ⟨D, cD, rfl, hrd, kB⟩
      obtain ⟨gD, oD, rfl, hcl⟩ := hrd.lit (by decide)
      have d0 : wB.cell? ⟨gD, oD, none⟩ = some (.int .i64 1) := hcl 0 _ rfl
      have d1 : wB.cell? ⟨gD, oD + 1, none⟩ = some (.int .i64 0) := hcl 1 _ rfl
      have HBB := Lib.hid (from_blk HBA.out kB)
      have HKB := Lib.hid (from_next HKA.out kB)
      clear hba hrd hcl kB
      have hso := sound_is (w := wB) (some ⟨gb, 0, none⟩) 492 492 (b.set k u) (reads_all HBB.out (by rw [bytes_length, List.length_set, HLB.out])) false (by rw [HAb.out.2]; rfl)
      have r1 := HRE.out (1, 0) (1, 0) _ (show decide (((1, 0) : Rf) = (1, 0)) = true by decide)
      have r2 := HRE.out (1, 0) (2, 4) _ (show decide (((1, 0) : Rf) = (2, 4)) = false by decide)
      dsimp only at r1 r2
      go_wp2_with fail
      refine hso.mono ?_; rintro e wC ⟨rfl, kC⟩
      have haw := awake_is wC
      have HKC := Lib.hid (from_next HKB.out kC)
      clear hso kC d0 d1 r1 r2
      go_wp2_with fail
      refine haw.mono ?_; rintro e wD ⟨rfl, kD⟩
      have HKD := Lib.hid (from_next HKC.out kD)
      clear haw kD
      go_wp2
      go_ret
      exact ⟨congrArg (fun q => Ending.returned (Value.bool q)) (show (!decide ((224 : Int) ≤ (k : Int))) = true by simp; omega), HKD.out.done⟩
    · have hkl2 : (24 : Int) ≤ (k : Int) := by omega
      have hkl3 : (224 : Int) ≤ 224 + (k : Int) - 24 := by omega
      have hkl4 : ¬ (224 + (k : Int) - 24 < 24) := by omega
      obtain ⟨u, hu⟩ := u8_add (b.getD (224 + k - 24) 0) 1 (by omega) (by omega)
      have hab := HT2.out (224 + k - 24) (by omega) (by omega) u hu.2
      have HU := Lib.hid hu.1
      have HAb := Lib.hid hab
      clear hu hab
      go_upto_region 15 with fail
      have zc : w9.cell? ⟨gb, (224 + k - 24), none⟩ = some (.int .u8 ((b.getD (224 + k - 24) 0).toNat : Int)) := (HB9.out.cell (224 + k - 24)).trans (bytes_getD (by rw [HLB.out]; omega))
      have zf := HB9.out.frozen (224 + k - 24)
      have hur := HU.out
      have HBA := Lib.hid (show Blk (w9.setCell ⟨gb, (224 + k - 24), none⟩ (.int .u8 (u.toNat : Int))) gb 5 (bytes (b.set (224 + k - 24) u)) by rw [bytes_set]; exact HB9.out.setCell (224 + k - 24) _)
      have HKA := Lib.hid (HK9.out.at_ ((Keep.refl (· = gb) w9).setCell ⟨gb, (224 + k - 24), none⟩ (.int .u8 (u.toNat : Int)) (fun _ => rfl)) HGb.out)
      generalize (b.getD (224 + k - 24) 0).toNat = xn at *
      go_upto_region 16 with fail
      generalize w9.setCell ⟨gb, (224 + k - 24), none⟩ (.int .u8 (u.toNat : Int)) = wA at *
      clear zc zf hur
      have hba := abad_is (w := wA) (some ⟨gb, 0, none⟩) 492 492 (b.set (224 + k - 24) u) (reads_all HBA.out (by rw [bytes_length, List.length_set, HLB.out]))
      rw [HAb.out.1] at hba
      simp only [List.length_nil, List.length_cons, Nat.zero_add] at hba
      go_wp2_with fail
      refine hba.mono ?_; rintro e wB ⟨D, cD, rfl, hrd, kB⟩
      obtain ⟨gD, oD, rfl, hcl⟩ := hrd.lit (by decide)
      have d0 : wB.cell? ⟨gD, oD, none⟩ = some (.int .i64 2) := hcl 0 _ rfl
      have d1 : wB.cell? ⟨gD, oD + 1, none⟩ = some (.int .i64 4) := hcl 1 _ rfl
      have HBB := Lib.hid (from_blk HBA.out kB)
      have HKB := Lib.hid (from_next HKA.out kB)
      clear hba hrd hcl kB
      have hso := sound_is (w := wB) (some ⟨gb, 0, none⟩) 492 492 (b.set (224 + k - 24) u) (reads_all HBB.out (by rw [bytes_length, List.length_set, HLB.out])) false (by rw [HAb.out.2]; rfl)
      have r1 := HRE.out (2, 4) (1, 0) _ (show decide (((2, 4) : Rf) = (1, 0)) = false by decide)
      have r2 := HRE.out (2, 4) (2, 4) _ (show decide (((2, 4) : Rf) = (2, 4)) = true by decide)
      dsimp only at r1 r2
      go_wp2_with fail
      refine hso.mono ?_; rintro e wC ⟨rfl, kC⟩
      have haw := awake_is wC
      have HKC := Lib.hid (from_next HKB.out kC)
      clear hso kC d0 d1 r1 r2
      go_wp2_with fail
      refine haw.mono ?_; rintro e wD ⟨rfl, kD⟩
      have HKD := Lib.hid (from_next HKC.out kD)
      clear haw kD
      go_wp2
      go_ret
      exact ⟨congrArg (fun q => Ending.returned (Value.bool q)) (show (!decide (224 + (k : Int) - 24 < 24)) = true by simp; omega), HKD.out.done⟩
  · by_cases hkl : k < 24
    · have hkl2 : ¬ ((24 : Int) ≤ (k : Int)) := by omega
      have hkl3 : ¬ ((224 : Int) ≤ (k : Int)) := by omega
      have hkl4 : (k : Int) < 24 := by omega
      obtain ⟨u, hu⟩ := u8_add (b.getD k 0) a2 (by omega) (by omega)
      have hab := HT1.out k (by omega) u hu.2
      have HU := Lib.hid hu.1
      have HAb := Lib.hid hab
      clear hu hab
      go_upto_region 15 with fail
      have zc : w9.cell? ⟨gb, k, none⟩ = some (.int .u8 ((b.getD k 0).toNat : Int)) := (HB9.out.cell k).trans (bytes_getD (by rw [HLB.out]; omega))
      have zf := HB9.out.frozen k
      have hur := HU.out
      have HBA := Lib.hid (show Blk (w9.setCell ⟨gb, k, none⟩ (.int .u8 (u.toNat : Int))) gb 5 (bytes (b.set k u)) by rw [bytes_set]; exact HB9.out.setCell k _)
      have HKA := Lib.hid (HK9.out.at_ ((Keep.refl (· = gb) w9).setCell ⟨gb, k, none⟩ (.int .u8 (u.toNat : Int)) (fun _ => rfl)) HGb.out)
      generalize (b.getD k 0).toNat = xn at *
      go_upto_region 16 with fail
      generalize w9.setCell ⟨gb, k, none⟩ (.int .u8 (u.toNat : Int)) = wA at *
      clear zc zf hur
      have hba := abad_is (w := wA) (some ⟨gb, 0, none⟩) 492 492 (b.set k u) (reads_all HBA.out (by rw [bytes_length, List.length_set, HLB.out]))
      rw [HAb.out.1] at hba
      simp only [List.length_nil, List.length_cons, Nat.zero_add] at hba
      go_wp2_with fail
      refine hba.mono ?_; rintro e wB ⟨D, cD, rfl, hrd, kB⟩
      obtain ⟨gD, oD, rfl, hcl⟩ := hrd.lit (by decide)
      have d0 : wB.cell? ⟨gD, oD, none⟩ = some (.int .i64 1) := hcl 0 _ rfl
      have d1 : wB.cell? ⟨gD, oD + 1, none⟩ = some (.int .i64 0) := hcl 1 _ rfl
      have HBB := Lib.hid (from_blk HBA.out kB)
      have HKB := Lib.hid (from_next HKA.out kB)
      clear hba hrd hcl kB
      have hso := sound_is (w := wB) (some ⟨gb, 0, none⟩) 492 492 (b.set k u) (reads_all HBB.out (by rw [bytes_length, List.length_set, HLB.out])) false (by rw [HAb.out.2]; rfl)
      have r1 := HRE.out (1, 0) (1, 0) _ (show decide (((1, 0) : Rf) = (1, 0)) = true by decide)
      have r2 := HRE.out (1, 0) (2, 4) _ (show decide (((1, 0) : Rf) = (2, 4)) = false by decide)
      dsimp only at r1 r2
      go_wp2_with fail
      refine hso.mono ?_; rintro e wC ⟨rfl, kC⟩
      have haw := awake_is wC
      have HKC := Lib.hid (from_next HKB.out kC)
      clear hso kC d0 d1 r1 r2
      go_wp2_with fail
      refine haw.mono ?_; rintro e wD ⟨rfl, kD⟩
      have HKD := Lib.hid (from_next HKC.out kD)
      clear haw kD
      go_wp2
      go_ret
      exact ⟨congrArg (fun q => Ending.returned (Value.bool q)) (show (!decide ((224 : Int) ≤ (k : Int))) = true by simp; omega), HKD.out.done⟩
    · have hkl2 : (24 : Int) ≤ (k : Int) := by omega
      have hkl3 : (224 : Int) ≤ 224 + (k : Int) - 24 := by omega
      have hkl4 : ¬ (224 + (k : Int) - 24 < 24) := by omega
      obtain ⟨u, hu⟩ := u8_add (b.getD (224 + k - 24) 0) a2 (by omega) (by omega)
      have hab := HT2.out (224 + k - 24) (by omega) (by omega) u hu.2
      have HU := Lib.hid hu.1
      have HAb := Lib.hid hab
      clear hu hab
      go_upto_region 15 with fail
      have zc : w9.cell? ⟨gb, (224 + k - 24), none⟩ = some (.int .u8 ((b.getD (224 + k - 24) 0).toNat : Int)) := (HB9.out.cell (224 + k - 24)).trans (bytes_getD (by rw [HLB.out]; omega))
      have zf := HB9.out.frozen (224 + k - 24)
      have hur := HU.out
      have HBA := Lib.hid (show Blk (w9.setCell ⟨gb, (224 + k - 24), none⟩ (.int .u8 (u.toNat : Int))) gb 5 (bytes (b.set (224 + k - 24) u)) by rw [bytes_set]; exact HB9.out.setCell (224 + k - 24) _)
      have HKA := Lib.hid (HK9.out.at_ ((Keep.refl (· = gb) w9).setCell ⟨gb, (224 + k - 24), none⟩ (.int .u8 (u.toNat : Int)) (fun _ => rfl)) HGb.out)
      generalize (b.getD (224 + k - 24) 0).toNat = xn at *
      go_upto_region 16 with fail
      generalize w9.setCell ⟨gb, (224 + k - 24), none⟩ (.int .u8 (u.toNat : Int)) = wA at *
      clear zc zf hur
      have hba := abad_is (w := wA) (some ⟨gb, 0, none⟩) 492 492 (b.set (224 + k - 24) u) (reads_all HBA.out (by rw [bytes_length, List.length_set, HLB.out]))
      rw [HAb.out.1] at hba
      simp only [List.length_nil, List.length_cons, Nat.zero_add] at hba
      go_wp2_with fail
      refine hba.mono ?_; rintro e wB ⟨D, cD, rfl, hrd, kB⟩
      obtain ⟨gD, oD, rfl, hcl⟩ := hrd.lit (by decide)
      have d0 : wB.cell? ⟨gD, oD, none⟩ = some (.int .i64 2) := hcl 0 _ rfl
      have d1 : wB.cell? ⟨gD, oD + 1, none⟩ = some (.int .i64 4) := hcl 1 _ rfl
      have HBB := Lib.hid (from_blk HBA.out kB)
      have HKB := Lib.hid (from_next HKA.out kB)
      clear hba hrd hcl kB
      have hso := sound_is (w := wB) (some ⟨gb, 0, none⟩) 492 492 (b.set (224 + k - 24) u) (reads_all HBB.out (by rw [bytes_length, List.length_set, HLB.out])) false (by rw [HAb.out.2]; rfl)
      have r1 := HRE.out (2, 4) (1, 0) _ (show decide (((2, 4) : Rf) = (1, 0)) = false by decide)
      have r2 := HRE.out (2, 4) (2, 4) _ (show decide (((2, 4) : Rf) = (2, 4)) = true by decide)
      dsimp only at r1 r2
      go_wp2_with fail
      refine hso.mono ?_; rintro e wC ⟨rfl, kC⟩
      have haw := awake_is wC
      have HKC := Lib.hid (from_next HKB.out kC)
      clear hso kC d0 d1 r1 r2
      go_wp2_with fail
      refine haw.mono ?_; rintro e wD ⟨rfl, kD⟩
      have HKD := Lib.hid (from_next HKC.out kD)
      clear haw kD
      go_wp2
      go_ret
      exact ⟨congrArg (fun q => Ending.returned (Value.bool q)) (show (!decide (224 + (k : Int) - 24 < 24)) = true by simp; omega), HKD.out.done⟩
end Go.Proofs.YtngchjejmnfanaaGreat.Au
namespace Go.Proofs.YtngchjejmnfanaaGreat
open Go.RowKit
theorem AuditOne_walk (w : World) (a0 : Int) (_w0 : (Lit.int .i64 a0).wf = true) (a1 : Int) (_w1 : (Lit.int .i64 a1).wf = true) (a2 : Int) (w2 : (Lit.int .u8 a2).wf = true) :
    Calls Tryz.prog 6 #[.int .i64 a0, .int .i64 a1, .int .u8 a2] w fun e w' => e = .returned (.bool true) ∧ Below w.heap.size w w' :=
  Au.one_in w a0 a1 a2 (by simp [Lit.wf, IntKind.min, IntKind.max, IntKind.bits, IntKind.signed] at w2; omega)
end Go.Proofs.YtngchjejmnfanaaGreat
