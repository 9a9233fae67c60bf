/- The walk of ProcFull. Written by c17/genfull.py. -/
import Derived.BigRegion
import Derived.Test.YtgcikpgcoemfnaaGreatRows
import Derived.Shelf.SlSortCmp.WholeK
import Derived.Deep.RegionHeld3
import Derived.Deep.QuietTactic
import Derived.BigQuiet
import Derived.StillTailTactics
import Derived.Lib.TrailingZeros
import Derived.Laws.ResultCell
import Derived.Shelf.Spec.TrailingZeros
import Derived.Test.YtgcikpgcoemfnaaGreatPu0
import Derived.Test.YtgcikpgcoemfnaaGreatPvx0
import Derived.Test.YtgcikpgcoemfnaaGreatPvx1
import Derived.Test.YtgcikpgcoemfnaaGreatPu4
import Derived.Test.YtgcikpgcoemfnaaGreatPu18
import Derived.Test.YtgcikpgcoemfnaaGreatPu19
import Derived.Test.YtgcikpgcoemfnaaGreatPu1
import Derived.Test.YtgcikpgcoemfnaaGreatPu7
import Derived.Test.YtgcikpgcoemfnaaGreatPu11
import Derived.Test.YtgcikpgcoemfnaaGreatPu21
import Derived.Test.YtgcikpgcoemfnaaGreatPu22
import Derived.Test.YtgcikpgcoemfnaaGreatPu12
import Derived.Test.YtgcikpgcoemfnaaGreatPvx2
import Derived.Test.YtgcikpgcoemfnaaGreatPu14
import Derived.Test.YtgcikpgcoemfnaaGreatPu13
import Derived.Test.YtgcikpgcoemfnaaGreatPu15
import Derived.Test.YtgcikpgcoemfnaaGreatPu16
import Derived.Test.YtgcikpgcoemfnaaGreatPu24
import Derived.Test.YtgcikpgcoemfnaaGreatPu23
import Derived.Test.YtgcikpgcoemfnaaGreatPu5
import Derived.Test.YtgcikpgcoemfnaaGreatPu8
import Derived.Test.YtgcikpgcoemfnaaGreatPu20
import Derived.Test.YtgcikpgcoemfnaaGreatPu2
import Derived.Test.YtgcikpgcoemfnaaGreatPu9
import Derived.Test.YtgcikpgcoemfnaaGreatPu25
import Derived.Test.YtgcikpgcoemfnaaGreatPu10
import Derived.Test.YtgcikpgcoemfnaaGreatPu26
import Derived.Test.YtgcikpgcoemfnaaGreatPu27
import Derived.Test.YtgcikpgcoemfnaaGreatPu6
import Derived.Test.YtgcikpgcoemfnaaGreatPu28
import Derived.Test.YtgcikpgcoemfnaaGreatPu17
import Derived.Test.YtgcikpgcoemfnaaGreatPu29
import Derived.Test.YtgcikpgcoemfnaaGreatPu31
import Derived.Test.YtgcikpgcoemfnaaGreatPu30
import Derived.Test.YtgcikpgcoemfnaaGreatPu3
import Derived.Test.YtgcikpgcoemfnaaGreatPu32
import Derived.Test.YtgcikpgcoemfnaaGreatPu33
import Derived.Test.YtgcikpgcoemfnaaGreatPvx5
import Derived.Test.YtgcikpgcoemfnaaGreatPvx3
import Derived.Test.YtgcikpgcoemfnaaGreatPvx4
namespace Go.Proofs.YtgcikpgcoemfnaaGreat.Pr
open Go.RowKit Co Pn Cd
set_option linter.unusedVariables false
set_option linter.unusedSimpArgs false
theorem tfile_is {F : List UInt8 → Prop} {n : Nat} {w w1 : World} {K : Kn} {C : Cm} {src : Src} {T : Sd} (t : Kt F n w K C src (stOf T) w1) (i : Int) (hi : Cd.Wf i) (v : List Int) (d : Int) (hv : (stOf T).f i = (v, d)) :
    Calls Tryz.prog 26 #[.pointer (some ⟨C.p, 0, none⟩), .int .i64 i] w1 fun e w' => e = .returned (.tuple #[.agg (ints v).toArray, .int .i64 d]) ∧ Kt F n w K C src (stOf T) w' ∧ Kp K C w1 w' :=
  t.go (fun K' hK => sfile_is hK i hi v d hv)
theorem full_good (ps : List Int) (h : ps.length = 7) : AllG (stOf (FullT ps)) := by
  match ps, h with
  | [a, b, c, d, e, f, g], _ =>
    refine ⟨fun i hi => ?_, fun i hi => ?_, fun i hi => ?_, (show (1 : Int) ≠ 2 by decide), (show (1 : Int) ≠ 2 by decide)⟩
    · rcases (show i = 0 ∨ i = 1 ∨ i = 2 ∨ i = 3 ∨ i = 4 ∨ i = 5 ∨ i = 6 ∨ i = 7 by omega) with rfl | rfl | rfl | rfl | rfl | rfl | rfl | rfl <;> (show (1 : Int) ≠ 2; decide)
    · rcases (show i = 0 ∨ (1 ≤ i ∧ i < 12) by omega) with rfl | ⟨h1, h2⟩
      · show (1 : Int) ≠ 2; decide
      · rcases (show i = 1 ∨ i = 2 ∨ i = 3 ∨ i = 4 ∨ i = 5 ∨ i = 6 ∨ i = 7 ∨ i = 8 ∨ i = 9 ∨ i = 10 ∨ i = 11 by omega) with rfl | rfl | rfl | rfl | rfl | rfl | rfl | rfl | rfl | rfl | rfl <;> (show (0 : Int) ≠ 2; decide)
    · rcases (show i = 0 ∨ i = 1 ∨ i = 2 ∨ i = 3 by omega) with rfl | rfl | rfl | rfl <;> (show (0 : Int) ≠ 2; decide)
set_option maxRecDepth 100000 in
set_option maxHeartbeats 8000000 in
theorem full_in (w : World) (A0 : Option Addr) (n0 c0' : Nat) (x0 : List Int) (hr0 : Reads w A0 n0 (ints x0)) :
    Calls Tryz.prog 7 #[.slice A0 n0 c0'] w fun e w' => e = .returned (.bool true) ∧ Below w.heap.size w w' := by
  have HV0 := Lib.hid (cellsV 0 0 false)
  have HZ2 := Lib.hid (cellsI (n := 16) (l := Cd.noP) rfl)
  have hf0 := fieldR0
  have hf1 := fieldR1
  have hxl : x0.length = n0 := by simpa using hr0.1
  have HXl := Lib.hid hxl
  clear hxl
  go_enter Tryz.func7, Tryz.ntmps7
  go_wp2_with fail
  refine (first_is w).mono ?_; rintro e w1 ⟨g0, c0, rfl, hc0, hg0, k1⟩
  go_wp2_with fail
  refine (fill_is _ c0 firstB first_len hc0.reads).mono ?_; rintro e W0 ⟨w2, N1, K, C, bt, k2, pq, R, Ag, ng, cg, g2, B, c2, rfl, kk2, hF⟩
  have HBr := Lib.hid (show C.brs.length = 2 by rw [hF.brs]; rfl)
  have H := Lib.hid hF.ks
  have HT := Lib.hid (hF.ks.still (Keep.refl Nob W0))
  have HFin := Lib.hid (fun W S (t : Kt (fun _ => True) 2560 W0 K C (src2 0) S W) => from_join2 k1 (from_join kk2 (hF.fin t)))
  have hsz0 := Nat.le_refl W0.heap.size
  have HSp := Lib.hid (show K.L = spans2 from hF.g2.spans)
  have HX := Lib.hid (fun W S (t : Kt (fun _ => True) 2560 W0 K C (src2 0) S W) => (Reads.from_ hr0 (from_join2 k1 (from_join kk2 (hF.fin t))) : Reads W A0 n0 (ints x0)))
  clear hF hc0 k1 kk2 hg0 hr0
  go_wp2_with fail
  refine (kregs_is HT.out).mono ?_; rintro e wq ⟨rfl, rfl⟩
  go_wp2_with fail
  go_loopw [7, 8] (fun s7 s8 wx => ∃ (i : Nat) (nn : Int) (ps : List Int), i ≤ 20 ∧ i ≤ n0 ∧ s7 = .int .i64 nn ∧ s8 = .int .i64 i ∧ Hid (nn = (ps.length : Int) + 1 ∧ ps.length ≤ 7) ∧ Hid (Kt (fun _ => True) 2560 W0 K C (src2 0) (stOf (FullT ps)) wx)) (fun _ s8 _ => 20 - (intOf s8).toNat)
  case atStart => exact ⟨0, 1, [], by omega, by omega, rfl, rfl, Lib.hid ⟨rfl, by decide⟩, HT⟩
  case round =>
    obtain ⟨i, nn, ps, h20, hin, rfl, rfl, HN, HT⟩ := hrel
    by_cases hlt : i < n0 ∧ i < 20
    · obtain ⟨x, hx⟩ : ∃ x, x0[i]? = some x := ⟨_, List.getElem?_eq_getElem (by rw [HXl.out]; exact hlt.1)⟩
      obtain ⟨b, off, hA, hcl⟩ := (HX.out _ _ HT.out).lit (show 0 < n0 by omega)
      have hn1 : 1 ≤ nn ∧ nn ≤ 8 := by have := HN.out; omega
      have hj0 : 0 ≤ (x % 256).tmod nn ∧ (x % 256).tmod nn < nn := by
        have h1 : 0 ≤ x % 256 := by omega
        rw [Int.tmod_eq_emod_of_nonneg h1]
        exact ⟨Int.emod_nonneg _ (by omega), Int.emod_lt_of_pos _ (by omega)⟩
      obtain ⟨j, hj⟩ : ∃ j : Nat, (x % 256).tmod nn = (j : Int) := ⟨((x % 256).tmod nn).toNat, by omega⟩
      have HX2 := Lib.hid (fun W (k : Keep (From w.heap.size) w W) => HX.out W)
      have HJ := Lib.hid (show -9223372036854775808 ≤ (j : Int) ∧ (j : Int) + 1 ≤ 9223372036854775807 by omega)
      have HJn := Lib.hid (show (j : Int) < nn by omega)
      have e1 : (i : Int) < n0 := by omega
      have e2 : (i : Int) < 20 := by omega
      have hn0 : ¬ (nn = 0) := by omega
      subst hA
      have HCl := Lib.hid (fun W (t : Kt (fun _ => True) 2560 W0 K C (src2 0) (stOf (FullT ps)) W) => show W.cell? ⟨b, off + i, none⟩ = some (.int .i64 x) from by
        obtain ⟨b', off', hA', hcl'⟩ := (HX.out _ _ t).lit (show 0 < n0 by omega)
        cases hA'
        exact hcl' i _ (by rw [ints_get, hx]; rfl))
      clear hcl hx hlt HX2
      by_cases h8 : nn < 8
      · have HFk := Lib.hid (show forkT (FullT ps) (j : Int) = (FullT (ps ++ [(j : Int) + 1]), nn, 0) by
          have h1 := HN.out
          have h2 := HJn.out
          rw [full_step ps (by omega) j (by omega), h1.1])
        have HN2 := Lib.hid (show Hid (nn + 1 = ((ps ++ [(j : Int) + 1]).length : Int) + 1 ∧ (ps ++ [(j : Int) + 1]).length ≤ 7) from Lib.hid (by
          have h1 := HN.out
          rw [List.length_append]
          simp only [List.length_cons, List.length_nil]
          omega))
        have HVr := Lib.hid (cellsV nn 0 false)
        go_wp2_with fail
        refine (kregs_is HT.out).mono ?_; rintro e wq ⟨rfl, rfl⟩
        go_wp2_with fail
        refine (kraw_is HT.out HSp.out).mono ?_; rintro e w21 ⟨ys21, g21, rfl, s21, b21, hg21, t21, kp21⟩
        rw [HBr.out] at s21
        have HS21 := Lib.hid s21
        have hge21 := Nat.le_trans HT.out.kp.size hg21
        have HB21 := Lib.hid b21
        have HT21 := Lib.hid t21
        have hsz21 := t21.kp.size
        clear s21 b21 hg21 t21 kp21 
        have cx := HCl.out _ HT21.out
        go_wp2_with fail
        clear cx
        have hc := tfork_is HT21.out HBr.out (j : Int) HJ.out (nn) 0 HFk.out
        unfold rv at hc
        refine hc.mono ?_; rintro e w22 ⟨rfl, t22, kp22⟩
        clear hc
        have HB23 := Lib.hid (kp22.lb H.out HB21.out hge21)
        have HT22 := Lib.hid t22
        have hsz22 := t22.kp.size
        clear t22 kp22 HB21 HT21
        go_wp2_with (first
          | (refine flatV.wpList_al rfl rfl ?_; intro wa24 ha24 ka24 sa24; clear sa24)
          | (refine flatV.wpList_st rfl rfl rfl rfl HVr.out HV0.out ha24 ?_; intro wb24 hb24 kb24 sb24; clear sb24))
        have HB25 := Lib.hid ((HB23.out.nob ka24).keep kb24 (by have := HB23.out.lt; omega))
        have HT24 := Lib.hid ((HT22.out.nob ka24).st H.out ha24 (by decide) hsz22 kb24)
        have HB24 := Lib.hid hb24
        have hge24 := hsz22
        generalize w22.heap.size = g24 at *
        clear ha24 ka24 hb24 kb24 HB23 HT22
        refine (kregs_is HT24.out).mono ?_; rintro e wq ⟨rfl, rfl⟩
        go_wp2_with fail
        refine (kraw_is HT24.out HSp.out).mono ?_; rintro e w26 ⟨ys26, g26, rfl, s26, b26, hg26, t26, kp26⟩
        rw [HBr.out] at s26
        have HS26 := Lib.hid s26
        have HB27 := Lib.hid (kp26.lb H.out HB25.out hge21)
        have HB28 := Lib.hid (kp26.lb H.out HB24.out hge24)
        have hge26 := Nat.le_trans HT24.out.kp.size hg26
        have HB26 := Lib.hid b26
        have HT26 := Lib.hid t26
        have hsz26 := t26.kp.size
        clear s26 b26 hg26 t26 kp26 HB25 HB24
        have c29 : w26.cell? ⟨g24, 1, none⟩ = some (.int .i64 0) := HB28.out.cell 1
        have c30 : w26.cell? ⟨g24, 0, none⟩ = some (.int .i64 nn) := HB28.out.cell 0
        go_wp2_with fail
        go_roundw
        case rel => exact ⟨i + 1, nn + 1, ps ++ [(j : Int) + 1], by omega, by omega, by go_num, by go_num, HN2.out, Lib.hid HT26.out⟩
        case measure => simp [intOf]; omega
      · have HFk := Lib.hid (show forkT (FullT ps) (j : Int) = (FullT ps, 0, 111) by
          have h1 := HN.out
          have h2 := HJn.out
          exact full_end ps (by omega) j (by omega))
        have HG := Lib.hid (full_good ps (by have h1 := HN.out; omega))
        have HVr := Lib.hid (cellsV 0 111 false)
        go_wp2_with fail
        refine (kregs_is HT.out).mono ?_; rintro e wq ⟨rfl, rfl⟩
        go_wp2_with fail
        refine (kraw_is HT.out HSp.out).mono ?_; rintro e w21 ⟨ys21, g21, rfl, s21, b21, hg21, t21, kp21⟩
        rw [HBr.out] at s21
        have HS21 := Lib.hid s21
        have hge21 := Nat.le_trans HT.out.kp.size hg21
        have HB21 := Lib.hid b21
        have HT21 := Lib.hid t21
        have hsz21 := t21.kp.size
        clear s21 b21 hg21 t21 kp21 
        have cx := HCl.out _ HT21.out
        go_wp2_with fail
        clear cx
        have hc := tfork_is HT21.out HBr.out (j : Int) HJ.out (0) 111 HFk.out
        unfold rv at hc
        refine hc.mono ?_; rintro e w22 ⟨rfl, t22, kp22⟩
        clear hc
        have HB23 := Lib.hid (kp22.lb H.out HB21.out hge21)
        have HT22 := Lib.hid t22
        have hsz22 := t22.kp.size
        clear t22 kp22 HB21 HT21
        go_wp2_with (first
          | (refine flatV.wpList_al rfl rfl ?_; intro wa24 ha24 ka24 sa24; clear sa24)
          | (refine flatV.wpList_st rfl rfl rfl rfl HVr.out HV0.out ha24 ?_; intro wb24 hb24 kb24 sb24; clear sb24))
        have HB25 := Lib.hid ((HB23.out.nob ka24).keep kb24 (by have := HB23.out.lt; omega))
        have HT24 := Lib.hid ((HT22.out.nob ka24).st H.out ha24 (by decide) hsz22 kb24)
        have HB24 := Lib.hid hb24
        have hge24 := hsz22
        generalize w22.heap.size = g24 at *
        clear ha24 ka24 hb24 kb24 HB23 HT22
        refine (kregs_is HT24.out).mono ?_; rintro e wq ⟨rfl, rfl⟩
        go_wp2_with fail
        refine (kraw_is HT24.out HSp.out).mono ?_; rintro e w26 ⟨ys26, g26, rfl, s26, b26, hg26, t26, kp26⟩
        rw [HBr.out] at s26
        have HS26 := Lib.hid s26
        have HB27 := Lib.hid (kp26.lb H.out HB25.out hge21)
        have HB28 := Lib.hid (kp26.lb H.out HB24.out hge24)
        have hge26 := Nat.le_trans HT24.out.kp.size hg26
        have HB26 := Lib.hid b26
        have HT26 := Lib.hid t26
        have hsz26 := t26.kp.size
        clear s26 b26 hg26 t26 kp26 HB25 HB24
        have c29 : w26.cell? ⟨g24, 1, none⟩ = some (.int .i64 111) := HB28.out.cell 1
        have hsm := sto_same HS21.out HS26.out HG.out
        have hla := Lib.hid (show (bytes (ys21.take 492)).length = 492 by rw [bytes_length, List.length_take, HS21.out.len]; rfl)
        obtain ⟨B, hB⟩ : ∃ B, ys21.take 492 = B := ⟨_, rfl⟩
        rw [← hsm, hB] at HB26
        rw [hB] at HB27 hla
        have hs1 : (convert 28 9 (.slice (some ⟨g21, 0, none⟩) 492 492)).run Tryz.prog w26 = .ok (.string (str B)) w26 := run_str (P := Tryz.prog) w26 28 9 5 _ 492 492 _ Tryz.underlying28 Tryz.underlying5 Tryz.underlying9 (reads_all HB27.out hla.out)
        have hs2 : (convert 28 9 (.slice (some ⟨g26, 0, none⟩) 492 492)).run Tryz.prog w26 = .ok (.string (str B)) w26 := run_str (P := Tryz.prog) w26 28 9 5 _ 492 492 _ Tryz.underlying28 Tryz.underlying5 Tryz.underlying9 (reads_all HB26.out hla.out)
        clear hsm hB
        go_wp2_with fail
        go_roundw
        case rel => exact ⟨i + 1, nn, ps, by omega, by omega, by go_num, rfl, HN.out, Lib.hid HT26.out⟩
        case measure => simp [intOf]; omega
    · have HFile := Lib.hid (show (stOf (FullT ps)).f 0 = ([3, 0, nn, 0], 1) by rw [HN.out.1]; exact full_file ps)
      have HCf := Lib.hid (cellsI (n := 4) (l := [3, 0, nn, 0]) rfl)
      have HZF := Lib.hid (cellsI (n := 4) (l := Fi.noP) rfl)
      have hex : (¬ (i : Int) < n0) ∨ ((i : Int) < n0 ∧ ¬ (i : Int) < 20) := by omega
      clear hlt
      rcases hex with e1 | ⟨e1, e2⟩
      · go_wp2_with fail
        have hc := tfile_is HT.out 0 (by unfold Cd.Wf; decide) [3, 0, nn, 0] 1 HFile.out
        refine hc.mono ?_; rintro e w61 ⟨rfl, t61, kp61⟩
        clear hc
        have HT61 := Lib.hid t61
        have hsz61 := t61.kp.size
        clear t61 kp61
        go_upto_region 18 with (first
          | (refine flatF.wpList_al rfl rfl ?_; intro wa62 ha62 ka62 sa62; clear sa62)
          | (refine flatF.wpList_st rfl rfl rfl rfl HCf.out HZF.out ha62 ?_; intro wb62 hb62 kb62 sb62; clear sb62))
        have HT62 := Lib.hid ((HT61.out.nob ka62).st H.out ha62 (by decide) hsz61 kb62)
        have HB62 := Lib.hid hb62
        have hge62 := hsz61
        generalize w61.heap.size = g62 at *
        clear ha62 ka62 hb62 kb62  HT61
        have c63 : wb62.cell? ⟨g62, 2, none⟩ = some (.int .i64 nn) := HB62.out.cell 2
        go_wp2_with fail
        have KW := Lib.hid (HFin.out _ _ HT62.out)
        refine (awake_is _).mono ?_; rintro e wz ⟨rfl, kz⟩
        go_wp2
        go_ret
        exact ⟨rfl, (from_join2 KW.out kz).done⟩
      · go_wp2_with fail
        have hc := tfile_is HT.out 0 (by unfold Cd.Wf; decide) [3, 0, nn, 0] 1 HFile.out
        refine hc.mono ?_; rintro e w61 ⟨rfl, t61, kp61⟩
        clear hc
        have HT61 := Lib.hid t61
        have hsz61 := t61.kp.size
        clear t61 kp61
        go_upto_region 18 with (first
          | (refine flatF.wpList_al rfl rfl ?_; intro wa62 ha62 ka62 sa62; clear sa62)
          | (refine flatF.wpList_st rfl rfl rfl rfl HCf.out HZF.out ha62 ?_; intro wb62 hb62 kb62 sb62; clear sb62))
        have HT62 := Lib.hid ((HT61.out.nob ka62).st H.out ha62 (by decide) hsz61 kb62)
        have HB62 := Lib.hid hb62
        have hge62 := hsz61
        generalize w61.heap.size = g62 at *
        clear ha62 ka62 hb62 kb62  HT61
        have c63 : wb62.cell? ⟨g62, 2, none⟩ = some (.int .i64 nn) := HB62.out.cell 2
        go_wp2_with fail
        have KW := Lib.hid (HFin.out _ _ HT62.out)
        refine (awake_is _).mono ?_; rintro e wz ⟨rfl, kz⟩
        go_wp2
        go_ret
        exact ⟨rfl, (from_join2 KW.out kz).done⟩
end Go.Proofs.YtgcikpgcoemfnaaGreat.Pr
namespace Go.Proofs.YtgcikpgcoemfnaaGreat
open Go.RowKit
theorem ProcFull_walk (w : World) (A0 : Option Addr) (n0 c0 : Nat) (x0 : Ty.den (.sl 8 (.int .i64))) (w0 : Holds w (.sl 8 (.int .i64)) x0 [.slice A0 n0 c0]) :
    Calls Tryz.prog 7 #[.slice A0 n0 c0] w fun e w' => e = .returned (.bool true) ∧ Below w.heap.size w w' := Pr.full_in w A0 n0 c0 x0 (Qu.holds_ints w0)
end Go.Proofs.YtgcikpgcoemfnaaGreat
