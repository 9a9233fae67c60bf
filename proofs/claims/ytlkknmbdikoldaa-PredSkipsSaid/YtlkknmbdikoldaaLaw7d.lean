/- The walk of the statement PredSkips (layer 7). -/
import Derived.Test.YtlkknmbdikoldaaLaw7a
namespace Go.Proofs.Ytlkknmbdikoldaa
open Go.RowKit
set_option linter.unusedVariables false
set_option linter.unusedSimpArgs false
/-- What PredSkips makes: of i instructions to be passed over. -/
def skipL (p q i : Nat) : List Prim := [⟨1, p, 0⟩, ⟨5, (q : Int) + 1, 0⟩] ++ List.replicate i ⟨2, 0, 0⟩
def skipAll (p q : Nat) (a : Int) : List Prim := [⟨1, p, 0⟩, ⟨5, a, 0⟩] ++ (List.replicate q ⟨2, 0, 0⟩ ++ [⟨6, 0, 0⟩])
theorem skip_tail (q : Nat) : sounds (List.replicate q ⟨2, 0, 0⟩ ++ [⟨6, 0, 0⟩]) = true := by
  induction q with
  | zero => rfl
  | succ q ih => rw [List.replicate_succ, List.cons_append, sounds, ih]; rfl
theorem skip_run (view : List UInt8) (now : Int) (q : Nat) : ∀ n : Int, ev view now (List.replicate q ⟨2, 0, 0⟩ ++ [⟨6, 0, 0⟩]) 0 n = (true, q + 1) := by
  induction q with
  | zero => intro n; rfl
  | succ q ih =>
    intro n
    rw [List.replicate_succ, List.cons_append, ev, ih]
    rfl
theorem skip_len (p q : Nat) (a : Int) : (skipAll p q a).length = q + 3 := by simp [skipAll]
theorem skip_check (p q : Nat) (a : Int) (hp : p ≤ 127) (hq : q ≤ 15) (ha : 0 ≤ a) : check (skipAll p q a) = if a ≤ (q : Int) + 1 then 0 else 1 := by
  have hl := skip_len p q a
  have e : sounds (skipAll p q a) = decide (a ≤ (q : Int) + 1) := by
    have h1 : (Prim.mk 1 p 0).sound ((q + 2 : Nat) : Int) = true := (sound_iff (by omega)).2 (by omega)
    show ((Prim.mk 1 p 0).sound _ && ((Prim.mk 5 a 0).sound _ && sounds (List.replicate q ⟨2, 0, 0⟩ ++ [⟨6, 0, 0⟩]))) = _
    rw [skip_tail, Bool.and_true]
    have e2 : ((⟨5, a, 0⟩ : Prim) :: (List.replicate q (⟨2, 0, 0⟩ : Prim) ++ [(⟨6, 0, 0⟩ : Prim)])).length = q + 2 := by simp
    have e1 : (List.replicate q (⟨2, 0, 0⟩ : Prim) ++ [(⟨6, 0, 0⟩ : Prim)]).length = q + 1 := by simp
    show ((Prim.mk 1 p 0).sound ((((⟨5, a, 0⟩ : Prim) :: (List.replicate q (⟨2, 0, 0⟩ : Prim) ++ [(⟨6, 0, 0⟩ : Prim)])).length : Nat) : Int) && (Prim.mk 5 a 0).sound (((List.replicate q (⟨2, 0, 0⟩ : Prim) ++ [(⟨6, 0, 0⟩ : Prim)]).length : Nat) : Int)) = _
    rw [e2, h1, Bool.true_and, e1]
    by_cases h : a ≤ (q : Int) + 1
    · rw [decide_eq_true h]; exact (sound_iff (by omega)).2 (by omega)
    · rw [decide_eq_false h]; exact sound_no (by omega) (by omega)
  by_cases h : a ≤ (q : Int) + 1
  · rw [if_pos h]; exact check_yes (by omega) (by rw [e, decide_eq_true h])
  · rw [if_neg h]; exact check_no (by omega) (by rw [e, decide_eq_false h])
theorem skip_eval (view : List UInt8) (now : Int) (p q : Nat) (hp : p ≤ 127) (hq : q ≤ 15) (z : Bool) (k : Nat) (hz : (if byteAt view p = 0 then (true, q + 3) else (false, 2)) = (z, k)) : eval view now (skipAll p q ((q : Int) + 1)) = (z, k) := by
  unfold eval
  rw [skip_check p q _ hp hq (by omega), if_pos (Int.le_refl _), if_pos rfl, ← hz]
  show ev view now (⟨1, p, 0⟩ :: ⟨5, (q : Int) + 1, 0⟩ :: (List.replicate q ⟨2, 0, 0⟩ ++ [⟨6, 0, 0⟩])) 0 0 = _
  rw [ev, if_neg (show ¬ (1 : Int) = 6 by decide), if_neg (show ¬ (1 : Int) = 5 by decide)]
  rw [show (Prim.mk 1 p 0).next view now 0 = byteAt view p from by simp [Prim.next]]
  rw [ev, if_neg (show ¬ (5 : Int) = 6 by decide), if_pos (show (5 : Int) = 5 by decide)]
  by_cases h : byteAt view p = 0
  · rw [if_pos h, if_pos h, skip_run]
  · rw [if_neg h, if_neg h, ev_skip, List.drop_of_length_le (by simp)]
    rfl
theorem skip_at (p q i : Nat) : skipL p q i ++ [⟨2, 0, 0⟩] = skipL p q (i + 1) := by
  unfold skipL
  rw [List.append_assoc, ← List.replicate_succ']
theorem skip_end (p q : Nat) : skipL p q q ++ [⟨6, 0, 0⟩] = skipAll p q ((q : Int) + 1) := by
  unfold skipL skipAll
  rw [List.append_assoc]
theorem skip_set (p q : Nat) (a b : Int) : (laid (skipAll p q a)).set 4 (.int .i64 b) = laid (skipAll p q b) := by
  simp [skipAll, laid, Prim.cells]
theorem reads_prim1 (w : World) (x : Prim) : Reads (w.alloc (.cells #[.int .i64 x.op, .int .i64 x.a, .int .i64 x.b] 25)) (some ⟨w.heap.size, 0, none⟩) 3 (laid [x]) := by
  have hb := Blk.new w 25 [.int .i64 x.op, .int .i64 x.a, .int .i64 x.b]
  rw [laid_one]
  exact reads_all hb rfl
set_option maxHeartbeats 4000000 in
theorem PredSkips_core (w : World) (A0 : Option Addr) (n0 c0 : Nat) (x0 : List UInt8) (hm : x0.length = n0) (hR : Reads w A0 n0 (bytes x0)) (a1 a2 : Int) (p q : Nat) (hp : bits .and .i64 a1 127 = p) (hp2 : p ≤ 127) (hq : bits .and .i64 a2 15 = q) (hq2 : q ≤ 15) :
    Calls Try.prog 3 #[.slice A0 n0 c0, .int .i64 a1, .int .i64 a2] w fun e w' => e = .returned (.bool true) ∧ Below w.heap.size w w' := by
  have HR := Lib.hid hR
  clear hR
  by_cases h100 : 100 < n0
  · go_enter Try.func3, Try.ntmps3
    go_wp2_with fail
    refine (awake_true _).mono ?_; rintro e we ⟨rfl, k5⟩
    go_wp2_with fail
    go_ret
    exact ⟨rfl, k5.fin⟩
  have hb0 := Blk.new w 25 [.int .i64 1, .int .i64 p, .int .i64 0, .int .i64 5, .int .i64 ((q : Int) + 1), .int .i64 0]
  have k0 := (Keep.refl Nob w).alloc (.cells #[.int .i64 1, .int .i64 p, .int .i64 0, .int .i64 5, .int .i64 ((q : Int) + 1), .int .i64 0] 25)
  have hv0 : Vec _ 25 3 (some ⟨w.heap.size, 0, none⟩) (2 + 0) 2 (laid (skipL p q 0)) := Vec.of_blk hb0 rfl (by decide)
  have H0 := Lib.hid (And.intro k0 hv0)
  clear hb0 k0 hv0
  go_enter Try.func3, Try.ntmps3
  go_wp2_with fail
  go_loopw [7, 8] (fun s7 s8 wx => ∃ (i : Nat) (B : Option Addr) (cap : Nat), i ≤ q ∧ s7 = .slice B (2 + i) cap ∧ s8 = .int .i64 i ∧ Vec wx 25 3 B (2 + i) cap (laid (skipL p q i)) ∧ (∀ g, Own B g → w.heap.size ≤ g) ∧ Keep Nob w wx) (fun _ s8 _ => q - (intOf s8).toNat)
  case atStart => exact ⟨0, _, 2, Nat.zero_le _, rfl, rfl, H0.out.2, (fun g h => by obtain ⟨a, h, rfl⟩ := h; cases h; exact Nat.le_refl _), H0.out.1⟩
  case round =>
    obtain ⟨i, B, cap, hi, rfl, rfl, hV, hO, hK⟩ := hrel
    have HV := Lib.hid hV
    clear hV
    by_cases hlt : i < q
    · go_wp2_with (at_builtin; go_loud (refine wpList_ap rfl _ _ 26 rfl 25 3 24 (.agg #[.int .i64 0, .int .i64 0, .int .i64 0]) Try.underlying26 infoIns rfl (by decide) B (2 + i) cap _ rfl (HV.out.nob ((Keep.refl Nob _).alloc _)) (some ⟨wr.heap.size, 0, none⟩) 1 1 _ rfl 3 rfl (reads_prim1 wr ⟨2, 0, 0⟩) (laid_cells _) (by unfold maxLen; omega) (by omega) ?_); intro B2 cap2 w3 hV2 hK2 hO2)
      go_roundw
      case rel =>
        refine ⟨i + 1, B2, cap2, by omega, by rw [Nat.add_assoc], by go_num, by rw [← skip_at, laid_append]; exact hV2, fun g hg => ?_, (hK.alloc _).trans hK2 (fun b hb ho => absurd (hO b ho) (by omega))⟩
        rcases hO2 g hg with h1 | rfl
        · exact hO g h1
        · exact (hK.alloc _).size
      case measure => simp [intOf]; omega
    · obtain rfl : i = q := by omega
      obtain ⟨th, hth⟩ : ∃ th : Bool, (if byteAt x0 p = 0 then false else true) = th := ⟨_, rfl⟩
      have hev : eval x0 9 (skipAll p i ((i : Int) + 1)) = (!th, if th then 2 else i + 3) := skip_eval x0 9 p i hp2 hq2 _ _ (by
        rw [← hth]; by_cases h : byteAt x0 p = 0 <;> simp [h])
      have hc2 : check (skipAll p i ((i : Int) + 2)) = 1 := by rw [skip_check p i _ hp2 hq2 (by omega), if_neg (by omega)]
      go_upto_region 10 with (at_builtin; go_loud (refine wpList_ap rfl _ _ 26 rfl 25 3 24 (.agg #[.int .i64 0, .int .i64 0, .int .i64 0]) Try.underlying26 infoIns rfl (by decide) B (2 + i) cap _ rfl (HV.out.nob ((Keep.refl Nob _).alloc _)) (some ⟨wr.heap.size, 0, none⟩) 1 1 _ rfl 3 rfl (reads_prim1 wr ⟨6, 0, 0⟩) (laid_cells _) (by unfold maxLen; omega) (by omega) ?_); intro B2 cap2 w3 hV2 hK2 hO2)
      have hv3 : Vec w3 25 3 B2 (2 + i + 1) cap2 (laid (skipAll p i ((i : Int) + 1))) := by rw [← skip_end, laid_append]; exact hV2
      have k3 := (hK.alloc (.cells #[.int .i64 6, .int .i64 0, .int .i64 0] 25)).trans hK2 (fun b hb ho => absurd (hO b ho) (by omega))
      have o3 : ∀ g, Own B2 g → w.heap.size ≤ g := fun g hg => by
        rcases hO2 g hg with h1 | rfl
        · exact hO g h1
        · exact (hK.alloc _).size
      clear hV2 hO2 hK2 hO hK HV H0
      have hr3 := HR.out.nob k3
      go_cut [9] from 40 to 50 (fun s9 wx => s9 = .bool th ∧ wx = w3)
      case first =>
        by_cases hpn : p < n0
        · obtain ⟨b, off, rfl, hc⟩ := hr3.lit (by omega)
          have hcell := hc p _ (bytes_getD (by omega))
          have e : byteAt x0 (p : Int) = (((x0.getD p 0).toNat : Nat) : Int) := by simp [byteAt]
          rw [e] at hth
          generalize x0.getD p 0 = y at *
          clear hr3 hc e
          by_cases hy : ((y.toNat : Nat) : Int) = 0
          · rw [if_pos hy] at hth
            subst hth
            rw [hy] at hcell
            go_wp2_with fail
            go_meet
            exact ⟨rfl, rfl⟩
          · rw [if_neg hy] at hth
            subst hth
            go_wp2_with fail
            go_meet
            exact ⟨by simp; omega, rfl⟩
        · have e : byteAt x0 (p : Int) = 0 := by
            simp [byteAt, List.getD_eq_getElem?_getD, List.getElem?_eq_none (show x0.length ≤ p by omega)]
          rw [if_pos e] at hth
          subst hth
          clear hr3
          go_wp2_with fail
          go_meet
          exact ⟨rfl, rfl⟩
      case rest =>
      obtain ⟨rfl, hw⟩ := hcut
      have hw := hw.symm
      subst hw
      clear hth
      have HV3 := Lib.hid hv3
      clear hv3
      go_wp2_with fail
      refine (eval_is hm hr3 9 (IsProg.of_vec HV3.out) _ _ hev).mono ?_; rintro e w4 ⟨rfl, k4⟩
      have hv4 := HV3.out.nob k4
      obtain ⟨g, cur, rfl, hbl, _, _, _⟩ := hv4.at_ (by omega)
      have hg := o3 g ⟨_, rfl, rfl⟩
      obtain ⟨b1, off1, x1, e1, _, _, hcell4, _⟩ := (IsProg.of_vec hv4).at_ (i := 1) (by omega)
      cases e1
      have hcell4 : w4.cell? ⟨g, 4, none⟩ = some (.int .i64 x1.a) := by simpa using hcell4
      generalize x1.a = old at hcell4
      have hfr := hbl.frozen 4
      have k5 : Keep Nob w (w4.setCell ⟨g, 4, none⟩ (.int .i64 ((i : Int) + 2))) := (k3.nobt k4).setCell _ _ (fun h => by have : g < w.heap.size := h; omega)
      have hv5 := hv4.setCell 4 (.int .i64 ((i : Int) + 2))
      rw [skip_set] at hv5
      have hp5 : IsProg _ _ (2 + i + 1) _ := IsProg.of_vec hv5
      have HP5 := Lib.hid hp5
      clear hv5 hp5 hbl hv4 hr3 k3 k4 o3 hev
      cases th
      all_goals
        go_wp2_with fail
        refine (check_is HP5.out 1 hc2).mono ?_; rintro e w6 ⟨rfl, k6⟩
        go_wp2_with fail
        refine (dcheck_is (HP5.out.nob k6) 1 hc2).mono ?_; rintro e w7 ⟨rfl, k7⟩
        go_wp2_with fail
        refine (awake_true _).mono ?_; rintro e w8 ⟨rfl, k8⟩
        go_wp2_with fail
        go_ret
        exact ⟨rfl, (((k5.nobt k6).nobt k7).nobt k8).fin⟩
theorem PredSkips_walk (w : World) (A0 : Option Addr) (n0 c0 : Nat) (x0 : Ty.den (.sl 1 .byte)) (w0 : Holds w (.sl 1 .byte) x0 [.slice A0 n0 c0]) (a1 : Int) (w1 : (Lit.int .i64 a1).wf = true) (a2 : Int) (w2 : (Lit.int .i64 a2).wf = true) :
    Calls Try.prog 3 #[.slice A0 n0 c0, .int .i64 a1, .int .i64 a2] w fun e w' => e = .returned (.bool true) ∧ Below w.heap.size w w' := by
  obtain ⟨hm, hR, _, _⟩ := holds_bytes w0
  obtain ⟨p, hp⟩ := Int.eq_ofNat_of_zero_le (show 0 ≤ a1 % 128 by omega)
  obtain ⟨q, hq⟩ := Int.eq_ofNat_of_zero_le (show 0 ≤ a2 % 16 by omega)
  exact PredSkips_core w A0 n0 c0 x0 hm hR a1 a2 p q ((i64_and127 a1).trans hp) (by omega) ((i64_and15 a2).trans hq) (by omega)
end Go.Proofs.Ytlkknmbdikoldaa
