/- AuditTells (layer 16). -/
import Derived.Deep.DeepCutAuto
import Derived.Deep.CutBlock
import Derived.Test.YtngchjejmnfanaaGreatPu0
import Derived.Test.YtngchjejmnfanaaGreatPu2
import Derived.Test.YtngchjejmnfanaaGreatPu3
import Derived.Test.YtngchjejmnfanaaGreatPu4
import Derived.Test.YtngchjejmnfanaaGreatPu5
import Derived.Test.YtngchjejmnfanaaGreatPu8
import Derived.Test.YtngchjejmnfanaaGreatPu13
import Derived.Test.YtngchjejmnfanaaGreatPu16
import Derived.Test.YtngchjejmnfanaaGreatPu19
import Derived.Test.YtngchjejmnfanaaGreatPu20
import Derived.Test.YtngchjejmnfanaaGreatPu1
import Derived.Test.YtngchjejmnfanaaGreatPu7
import Derived.Test.YtngchjejmnfanaaGreatPu12
import Derived.Test.YtngchjejmnfanaaGreatPu22
import Derived.Test.YtngchjejmnfanaaGreatPu23
import Derived.Test.YtngchjejmnfanaaGreatPu15
import Derived.Test.YtngchjejmnfanaaGreatPu14
import Derived.Test.YtngchjejmnfanaaGreatPu17
import Derived.Test.YtngchjejmnfanaaGreatPu18
import Derived.Test.YtngchjejmnfanaaGreatPu25
import Derived.Test.YtngchjejmnfanaaGreatPu24
import Derived.Test.YtngchjejmnfanaaGreatPu21
import Derived.Test.YtngchjejmnfanaaGreatPu9
import Derived.Test.YtngchjejmnfanaaGreatPu26
import Derived.Test.YtngchjejmnfanaaGreatPu10
import Derived.Test.YtngchjejmnfanaaGreatPu27
import Derived.Test.YtngchjejmnfanaaGreatPu28
import Derived.Test.YtngchjejmnfanaaGreatPu29
import Derived.Test.YtngchjejmnfanaaGreatPu6
import Derived.Test.YtngchjejmnfanaaGreatPu11
import Derived.Test.YtngchjejmnfanaaGreatPu30
namespace Go.Proofs.YtngchjejmnfanaaGreat.Au
open Go.RowKit Co
set_option linter.unusedVariables false
set_option linter.unusedSimpArgs false
theorem faults_le (b : List UInt8) : (faultsOf b).length ≤ 5 := by
  unfold faultsOf
  split
  · have := told_le (l := asked b) 5
    rwa [List.take_of_length_le (by exact Nat.le_refl 5)] at this
  · exact (by decide : 1 ≤ 5)
theorem bads_le (b : List UInt8) : (bads b).length ≤ 57 := by
  have h := List.length_filter_le (isBad b) (allRecs 0)
  unfold bads
  have e : (allRecs 0).length = 26 := rfl
  omega
theorem abad_le (b : List UInt8) : (abad b).length ≤ 57 := by
  unfold abad
  split
  · exact bads_le b
  · exact (by decide : 1 ≤ 57)
/-- What each round begins with: some bytes. -/
structure Ro (w0 w : World) (A : Option Addr) (n : Nat) (b : List UInt8) : Prop where
  r : Reads w A n (bytes b)
  le : n ≤ 600
  keep : Keep (From w0.heap.size) w0 w
theorem Ro.from_ {w0 w w' : World} {A : Option Addr} {n : Nat} {b : List UInt8} (h : Ro w0 w A n b) (k : Keep (From w.heap.size) w w') : Ro w0 w' A n b := ⟨h.r.from_ k, h.le, from_next h.keep k⟩
theorem Ro.nob {w0 w w' : World} {A : Option Addr} {n : Nat} {b : List UInt8} (h : Ro w0 w A n b) (k : Keep Nob w w') : Ro w0 w' A n b := ⟨h.r.nob k, h.le, h.keep.nob k⟩
theorem Ro.len {w0 w : World} {A : Option Addr} {n : Nat} {b : List UInt8} (h : Ro w0 w A n b) : b.length = n := by have := h.r.1; simpa [bytes] using this
theorem strs_get {l : List ByteArray} {k : Nat} {s : ByteArray} (h : l[k]? = some s) : (strs l)[k]? = some (.string s) := by simp [strs, h]
theorem Holds.from_ {w w' : World} (k : Keep (From w.heap.size) w w') : ∀ (ty : Ty) (x : ty.den) (cs : List Value), Holds w ty x cs → Holds w' ty x cs
  | .int _, _, _, h => h
  | .byte, _, _, h => h
  | .bool, _, _, h => h
  | .str, _, _, h => h
  | .sl width e, xs, cs, h => by
    obtain ⟨A, cap, h1, h2, h3, h4, h5, h6⟩ := h
    refine ⟨A, cap, h1, h2, h3, h4, h5, fun i hi => ?_⟩
    obtain ⟨ad, cs', g1, g2, g3, g4⟩ := h6 i hi
    exact ⟨ad, cs', g1, g2, fun j v hv => k.cell_from (g3 j v hv), Holds.from_ k e _ _ g4⟩
  | .unit, _, _, h => h
  | .pair a b, x, cs, h => by
    obtain ⟨c1, c2, e, h1, h2⟩ := h
    exact ⟨c1, c2, e, Holds.from_ k a _ _ h1, Holds.from_ k b _ _ h2⟩
set_option maxRecDepth 100000 in
set_option maxHeartbeats 16000000 in
theorem tells_in (w : World) (A0 : Option Addr) (n0 c0 : Nat) (raw : List UInt8) (hr0 : Reads w A0 n0 (bytes raw)) (A1 : Option Addr) (n1 c1 : Nat) (xs : Ty.den (.sl 72 RTy)) (h1 : Holds w (.sl 72 RTy) xs [.slice A1 n1 c1]) :
    Calls Tryz.prog 5 #[.slice A0 n0 c0, .slice A1 n1 c1] w fun e w' => e = .returned (.bool true) ∧ Below w.heap.size w w' := by
  have HAw := Lib.hid (fun W => awake_is W)
  have HB := Lib.hid (fun W (k : Keep (From w.heap.size) w W) => bytes_is (w := W) A1 n1 c1 xs (Holds.from_ k _ _ _ h1))
  by_cases h6 : 600 < n0
  · have h7 : (600 : Int) < (n0 : Int) := by omega
    clear h6 hr0 h1 HB
    go_enter Tryz.func5, Tryz.ntmps5
    go_wp2_with fail
    refine (HAw.out w).mono ?_; rintro e w1 ⟨rfl, k1⟩
    have F := Lib.hid k1.done
    clear k1
    go_wp2
    go_ret
    exact ⟨rfl, F.out⟩
  · have h7 : ¬ ((600 : Int) < (n0 : Int)) := by omega
    have H0 := Lib.hid (show ∀ W, Keep (From w.heap.size) w W → Ro w W A0 n0 raw from fun W k => ⟨hr0.from_ k, by omega, k⟩)
    clear h6 hr0 h1
    go_enter Tryz.func5, Tryz.ntmps5
    go_wp2_with fail
    go_loopw [5, 6, 7, 8, 9, 10] (fun s5 s6 s7 s8 s9 s10 wx => ∃ i : Nat, i ≤ 2 ∧ s5 = .int .i64 i ∧ Hid (Keep (From w.heap.size) w wx)) (fun s5 _ _ _ _ _ _ => 2 - (intOf s5).toNat)
    case atStart => exact ⟨0, Nat.zero_le _, rfl, Lib.hid (Keep.refl _ _)⟩
    case round =>
      obtain ⟨i, hi, rfl, HK⟩ := hrel
      by_cases hlt : (i : Int) < 2
      · have hi2 : i = 0 ∨ i = 1 := by omega
        go_upto_region 6 with fail
        go_cut [6] from 19 to 25 (fun s6 wx => ∃ A n c b, s6 = .slice A n c ∧ Hid (Ro w wx A n b))
        case first =>
          have hcall := HB.out wr HK.out
          go_wp2_with fail
          refine hcall.mono ?_; rintro e w1 ⟨g, cp, bq, rfl, hbl, hbr, hg, k1⟩
          have HK1 := Lib.hid (from_next HK.out k1)
          have HQ := Lib.hid (show Ro w w1 (some ⟨g, 0, none⟩) 492 bq from ⟨hbr, by decide, HK1.out⟩)
          have HRw := Lib.hid (H0.out w1 HK1.out)
          clear hcall hbl hbr hg k1
          have kx := (Keep.refl Nob w1).alloc (.cells #[.slice A0 n0 c0, .slice (some ⟨g, 0, none⟩) 492 cp] 36)
          have bx := Blk.new w1 36 [.slice A0 n0 c0, .slice (some ⟨g, 0, none⟩) 492 cp]
          rcases hi2 with rfl | rfl
          · have z0 := bx.cell 0
            have HE := Lib.hid (HRw.out.nob kx)
            clear kx bx
            go_wp2_with fail
            go_meet
            exact ⟨A0, n0, c0, raw, rfl, HE⟩
          · have z0 := bx.cell 1
            have HE := Lib.hid (HQ.out.nob kx)
            clear kx bx
            go_wp2_with fail
            go_meet
            exact ⟨some ⟨g, 0, none⟩, 492, cp, bq, rfl, HE⟩
        case rest =>
        obtain ⟨A, n, c, b, rfl, HR⟩ := hcut
        clear HB H0 HK
        have hn6 : n ≤ 600 := HR.out.le
        obtain ⟨fl, hfl⟩ : ∃ x, faultsOf b = x := ⟨_, rfl⟩
        have hf5 : fl.length ≤ 5 := by rw [← hfl]; exact faults_le b
        have hcv := run_str (P := Tryz.prog) wc 36 9 5 A n c b Tryz.underlying36 Tryz.underlying5 Tryz.underlying9 HR.out.r
        have hwant := sfaults_is (w := wc) b (by rw [HR.out.len]; exact hn6)
        rw [hfl] at hwant
        have HN := Lib.hid (And.intro hn6 hf5)
        have HFl := Lib.hid hfl
        clear hn6 hf5 hfl hi2
        go_wp2_with fail
        refine hwant.mono ?_; rintro e w2 ⟨B2, p2, rfl, hr2, k2⟩
        have HR2 := Lib.hid (HR.out.from_ k2)
        have HW := Lib.hid hr2
        have hgot := faults_is (w := w2) A n c b HR2.out.r
        rw [HFl.out] at hgot
        clear hwant hr2 k2 hcv HR
        go_wp2_with fail
        refine hgot.mono ?_; rintro e w3 ⟨B3, p3, rfl, hr3, k3⟩
        have HR3 := Lib.hid (HR2.out.from_ k3)
        have HW3 := Lib.hid (HW.out.from_ k3)
        have HG := Lib.hid hr3
        clear hgot hr3 k3 HR2 HW
        obtain ⟨v, hv⟩ : ∃ v, decide (fl = []) = v := ⟨_, rfl⟩
        have hsound := sound_is (w := w3) A n c b HR3.out.r v (by rw [HFl.out]; exact hv)
        obtain ⟨ln, hln⟩ : ∃ x, fl.length = x := ⟨_, rfl⟩
        have hv2 : ((ln : Int) == 0) = v := by
          rw [← hv, ← hln, Bool.eq_iff_iff, beq_iff_eq, decide_eq_true_iff]
          constructor
          · intro h; exact List.eq_nil_of_length_eq_zero (by omega)
          · intro h; rw [h]; rfl
        have hl5 : ln ≤ 5 := by rw [← hln]; exact HN.out.2
        have HLn := Lib.hid hln
        rw [hln] at HW3 HG ⊢
        clear hv hln
        cases v with
        | true =>
          go_wp2_with fail
          refine hsound.mono ?_; rintro e w4 ⟨rfl, k4⟩
          have HR4 := Lib.hid (HR3.out.from_ k4)
          have HW4 := Lib.hid (HW3.out.from_ k4)
          have HG4 := Lib.hid (HG.out.from_ k4)
          clear hsound k4 HR3 HW3 HG
          go_wp2_with fail
          go_loopw [9] (fun s9 wx => ∃ k : Nat, k ≤ ln ∧ s9 = .int .i64 k ∧ Hid (Keep Nob w4 wx)) (fun s9 _ => ln - (intOf s9).toNat)
          case atStart => exact ⟨0, Nat.zero_le _, rfl, Lib.hid (Keep.refl _ _)⟩
          case round =>
            obtain ⟨k, hk, rfl, HK4⟩ := hrel
            by_cases hkl : k < ln
            · obtain ⟨s, hs⟩ : ∃ s, fl[k]? = some s := ⟨_, List.getElem?_eq_getElem (by rw [HLn.out]; exact hkl)⟩
              obtain ⟨gw, ow, hB2, cw⟩ := (HW4.out.nob HK4.out).lit (by omega)
              obtain ⟨gg, og, hB3, cg⟩ := (HG4.out.nob HK4.out).lit (by omega)
              have d0 := cw k _ (strs_get hs)
              have d1 := cg k _ (strs_get hs)
              clear hs cw cg
              subst hB2
              subst hB3
              go_wp2_with fail
              go_quiet (fail)
              go_wp2_with fail
              go_roundw
              case rel => exact ⟨k + 1, by omega, by go_num, Lib.hid (HK4.out.drewN _)⟩
              case measure => simp [intOf]; omega
            · have HR5 := Lib.hid (HR4.out.nob HK4.out)
              clear HR4 HW4 HG4 HK4 hv2
              go_upto_if 63 with fail
              have bz := Blk.new wr 84 [.int .i64 0, .int .i64 0]
              have HR6 := Lib.hid (HR5.out.nob ((Keep.refl Nob wr).alloc (.cells #[.int .i64 0, .int .i64 0] 84)))
              have HZ := Lib.hid (show Reads (wr.alloc (.cells #[.int .i64 0, .int .i64 0] 84)) (some ⟨wr.heap.size, 0, none⟩) 2 (refs [(0, 0)]) from reads_all bz rfl)
              generalize wr.alloc (.cells #[.int .i64 0, .int .i64 0] 84) = wz at *
              generalize wr.heap.size = gz at *
              obtain ⟨bl, hbl⟩ : ∃ x, abad b = x := ⟨_, rfl⟩
              have hbn : bl.length ≤ 57 := by rw [← hbl]; exact abad_le b
              have HBl := Lib.hid (And.intro hbl hbn)
              clear bz HR5 hbl hbn
              go_cut [10] from 63 to 71 (fun s10 wx => ∃ D cd, s10 = .slice D bl.length cd ∧ Hid (Reads wx D (bl.length * 2) (refs bl) ∧ Ro w wx A n b))
              case first =>
                by_cases h4 : n = 492
                · have hl : b.length = 492 := by rw [HR6.out.len]; exact h4
                  have hbe : bads b = bl := by
                    have := HBl.out.1
                    unfold abad at this
                    rwa [if_pos hl] at this
                  have hrec := records_is (w := wz) hl
                  rw [hbe] at hrec
                  have hcv := run_str (P := Tryz.prog) wz 36 9 5 A n c b Tryz.underlying36 Tryz.underlying5 Tryz.underlying9 HR6.out.r
                  have h5 : ((n : Int) == 492) = true := by rw [beq_iff_eq]; omega
                  generalize cP b 8 = y1 at *
                  generalize cF b 12 = y2 at *
                  generalize cR b 4 = y3 at *
                  clear hl hbe h4
                  go_wp2_with fail
                  refine hrec.mono ?_; rintro e w5 ⟨D, cd, rfl, hV, hO, k5⟩
                  have F := Lib.hid (And.intro hV.reads (HR6.out.from_ k5))
                  clear hrec hcv hV hO k5
                  go_wp2_with fail
                  go_meet
                  exact ⟨D, cd, rfl, F⟩
                · have hbe : bl = [(0, 0)] := by
                    rw [← HBl.out.1]
                    unfold abad
                    rw [if_neg (by rw [HR6.out.len]; exact h4)]
                  have h5 : ((n : Int) == 492) = false := by rw [beq_eq_false_iff_ne]; omega
                  have HE := Lib.hid hbe
                  clear hbe h4
                  go_wp2_with fail
                  go_meet
                  exact ⟨_, 1, by rw [HE.out]; rfl, by rw [HE.out]; exact Lib.hid ⟨HZ.out, HR6.out⟩⟩
              case rest =>
              obtain ⟨D, cd, rfl, HD⟩ := hcut
              clear HZ HR6
              have hbad := abad_is (w := wc) A n c b HD.out.2.r
              rw [HBl.out.1] at hbad
              go_wp2_with fail
              refine hbad.mono ?_; rintro e w6 ⟨E, ce, rfl, hE, k6⟩
              have hsame := samerecs_is (w := w6) bl HBl.out.2 E D ce cd hE (HD.out.1.from_ k6)
              have HR7 := Lib.hid (HD.out.2.from_ k6)
              clear hbad hE k6 HD
              go_wp2_with fail
              refine hsame.mono ?_; rintro e w7 ⟨rfl, k7⟩
              have HK7 := Lib.hid (HR7.out.nob k7).keep
              clear hsame k7 HR7
              go_wp2_with fail
              go_roundw
              case rel => exact ⟨i + 1, by omega, by go_num, HK7⟩
              case measure => simp [intOf]; omega
        | false =>
          go_wp2_with fail
          refine hsound.mono ?_; rintro e w4 ⟨rfl, k4⟩
          have HR4 := Lib.hid (HR3.out.from_ k4)
          have HW4 := Lib.hid (HW3.out.from_ k4)
          have HG4 := Lib.hid (HG.out.from_ k4)
          clear hsound k4 HR3 HW3 HG
          go_wp2_with fail
          go_loopw [9] (fun s9 wx => ∃ k : Nat, k ≤ ln ∧ s9 = .int .i64 k ∧ Hid (Keep Nob w4 wx)) (fun s9 _ => ln - (intOf s9).toNat)
          case atStart => exact ⟨0, Nat.zero_le _, rfl, Lib.hid (Keep.refl _ _)⟩
          case round =>
            obtain ⟨k, hk, rfl, HK4⟩ := hrel
            by_cases hkl : k < ln
            · obtain ⟨s, hs⟩ : ∃ s, fl[k]? = some s := ⟨_, List.getElem?_eq_getElem (by rw [HLn.out]; exact hkl)⟩
              obtain ⟨gw, ow, hB2, cw⟩ := (HW4.out.nob HK4.out).lit (by omega)
              obtain ⟨gg, og, hB3, cg⟩ := (HG4.out.nob HK4.out).lit (by omega)
              have d0 := cw k _ (strs_get hs)
              have d1 := cg k _ (strs_get hs)
              clear hs cw cg
              subst hB2
              subst hB3
              go_wp2_with fail
              go_quiet (fail)
              go_wp2_with fail
              go_roundw
              case rel => exact ⟨k + 1, by omega, by go_num, Lib.hid (HK4.out.drewN _)⟩
              case measure => simp [intOf]; omega
            · have HR5 := Lib.hid (HR4.out.nob HK4.out)
              clear HR4 HW4 HG4 HK4 hv2
              go_upto_if 63 with fail
              have bz := Blk.new wr 84 [.int .i64 0, .int .i64 0]
              have HR6 := Lib.hid (HR5.out.nob ((Keep.refl Nob wr).alloc (.cells #[.int .i64 0, .int .i64 0] 84)))
              have HZ := Lib.hid (show Reads (wr.alloc (.cells #[.int .i64 0, .int .i64 0] 84)) (some ⟨wr.heap.size, 0, none⟩) 2 (refs [(0, 0)]) from reads_all bz rfl)
              generalize wr.alloc (.cells #[.int .i64 0, .int .i64 0] 84) = wz at *
              generalize wr.heap.size = gz at *
              obtain ⟨bl, hbl⟩ : ∃ x, abad b = x := ⟨_, rfl⟩
              have hbn : bl.length ≤ 57 := by rw [← hbl]; exact abad_le b
              have HBl := Lib.hid (And.intro hbl hbn)
              clear bz HR5 hbl hbn
              go_cut [10] from 63 to 71 (fun s10 wx => ∃ D cd, s10 = .slice D bl.length cd ∧ Hid (Reads wx D (bl.length * 2) (refs bl) ∧ Ro w wx A n b))
              case first =>
                by_cases h4 : n = 492
                · have hl : b.length = 492 := by rw [HR6.out.len]; exact h4
                  have hbe : bads b = bl := by
                    have := HBl.out.1
                    unfold abad at this
                    rwa [if_pos hl] at this
                  have hrec := records_is (w := wz) hl
                  rw [hbe] at hrec
                  have hcv := run_str (P := Tryz.prog) wz 36 9 5 A n c b Tryz.underlying36 Tryz.underlying5 Tryz.underlying9 HR6.out.r
                  have h5 : ((n : Int) == 492) = true := by rw [beq_iff_eq]; omega
                  generalize cP b 8 = y1 at *
                  generalize cF b 12 = y2 at *
                  generalize cR b 4 = y3 at *
                  clear hl hbe h4
                  go_wp2_with fail
                  refine hrec.mono ?_; rintro e w5 ⟨D, cd, rfl, hV, hO, k5⟩
                  have F := Lib.hid (And.intro hV.reads (HR6.out.from_ k5))
                  clear hrec hcv hV hO k5
                  go_wp2_with fail
                  go_meet
                  exact ⟨D, cd, rfl, F⟩
                · have hbe : bl = [(0, 0)] := by
                    rw [← HBl.out.1]
                    unfold abad
                    rw [if_neg (by rw [HR6.out.len]; exact h4)]
                  have h5 : ((n : Int) == 492) = false := by rw [beq_eq_false_iff_ne]; omega
                  have HE := Lib.hid hbe
                  clear hbe h4
                  go_wp2_with fail
                  go_meet
                  exact ⟨_, 1, by rw [HE.out]; rfl, by rw [HE.out]; exact Lib.hid ⟨HZ.out, HR6.out⟩⟩
              case rest =>
              obtain ⟨D, cd, rfl, HD⟩ := hcut
              clear HZ HR6
              have hbad := abad_is (w := wc) A n c b HD.out.2.r
              rw [HBl.out.1] at hbad
              go_wp2_with fail
              refine hbad.mono ?_; rintro e w6 ⟨E, ce, rfl, hE, k6⟩
              have hsame := samerecs_is (w := w6) bl HBl.out.2 E D ce cd hE (HD.out.1.from_ k6)
              have HR7 := Lib.hid (HD.out.2.from_ k6)
              clear hbad hE k6 HD
              go_wp2_with fail
              refine hsame.mono ?_; rintro e w7 ⟨rfl, k7⟩
              have HK7 := Lib.hid (HR7.out.nob k7).keep
              clear hsame k7 HR7
              go_wp2_with fail
              go_roundw
              case rel => exact ⟨i + 1, by omega, by go_num, HK7⟩
              case measure => simp [intOf]; omega
      · have hi2 : i = 2 := by omega
        have haw := HAw.out wr
        go_wp2_with fail
        refine haw.mono ?_; rintro e w1 ⟨rfl, k1⟩
        have F := Lib.hid (from_next HK.out k1).done
        clear k1 haw
        go_wp2
        go_ret
        exact ⟨rfl, F.out⟩
end Go.Proofs.YtngchjejmnfanaaGreat.Au
namespace Go.Proofs.YtngchjejmnfanaaGreat
open Go.RowKit
theorem AuditTells_walk (w : World) (A0 : Option Addr) (n0 c0 : Nat) (x0 : Ty.den (.sl 1 .byte)) (w0 : Holds w (.sl 1 .byte) x0 [.slice A0 n0 c0]) (A1 : Option Addr) (n1 c1 : Nat) (x1 : Ty.den (.sl 72 (.pair (.int .i64) (.pair (.int .i64) (.pair (.int .i64) (.pair (.sl 8 (.int .i64)) (.pair (.sl 1 .byte) .unit))))))) (w1 : Holds w (.sl 72 (.pair (.int .i64) (.pair (.int .i64) (.pair (.int .i64) (.pair (.sl 8 (.int .i64)) (.pair (.sl 1 .byte) .unit)))))) x1 [.slice A1 n1 c1]) :
    Calls Tryz.prog 5 #[.slice A0 n0 c0, .slice A1 n1 c1] w fun e w' => e = .returned (.bool true) ∧ Below w.heap.size w w' :=
  Au.tells_in w A0 n0 c0 x0 (holds_bytes w0).2.1 A1 n1 c1 x1 w1
end Go.Proofs.YtngchjejmnfanaaGreat
