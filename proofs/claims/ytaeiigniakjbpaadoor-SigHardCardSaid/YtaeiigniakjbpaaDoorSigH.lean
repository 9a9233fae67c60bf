/- Package sig: Handle. -/
import Derived.Test.YtaeiigniakjbpaaDoorSigA
import Derived.BigRegion
import Derived.Deep.DeepCutAuto
import Derived.Deep.CutBlock
import Derived.Deep.RegionHeld3
namespace Go.Proofs.YtaeiigniakjbpaaDoor.Sg
open Go.RowKit
set_option linter.unusedVariables false
set_option linter.unusedSimpArgs false
set_option maxHeartbeats 4000000 in
set_option maxRecDepth 100000 in
theorem handle_free (p : Ps) (hl : p.f.length = 8) (n how : Int) (w : World) (hf : free n = true) (P' : Ps) (f : Int) (hP : handle p n how = (P', f)) :
    Calls Tryd.prog 11 #[pv p, .int .i64 n, .int .i64 how] w fun e w' => e = .returned (.tuple #[pv P', .int .i64 f]) ∧ Keep Nob w w' := by
  unfold handle at hP
  rw [if_pos hf] at hP
  unfold free at hf
  rw [Bool.and_eq_true] at hf
  have hn := sign_in hf.1
  have hS := fun w => issig_is n w
  rw [hf.1] at hS
  have hh : bt 16896 n = false := by rw [bt_hard (by omega) hn.2]; simpa using hf.2
  have hH := fun w => has_is 16896 n (by omega) hn.2 w false hh
  have hO := fun x w => without_is x n (by omega) hn.2 w _ rfl
  have hW := fun x w => with_is x n (by omega) hn.2 w _ rfl
  unfold pv
  have HL := Lib.hid hl
  have HS := Lib.hid hS
  have HH := Lib.hid hH
  have HO := Lib.hid hO
  have HW := Lib.hid hW
  have HP := Lib.hid hP
  clear hl hS hH hO hh hf hW hP
  go_enter Tryd.func11, Tryd.ntmps11
  go_wp2_with (first | (refine wpList_box rfl 25 _ rfl _ rfl ?_; intro w1 hb hk hs; clear hs; have hb : Blk w1 w.heap.size 25 (pc p) := hb) | (refine wpList_al rfl rfl ?_; intro w2 hz hk2 hs2; clear hs2; have hb2 := hb.nob hk2; have hK2 := hk.nobt hk2; have hne : w.heap.size ≠ w1.heap.size := (by have := hb.lt; omega); have hge : w.heap.size ≤ w1.heap.size := hk.size; clear hb hk hk2; generalize w1.heap.size = gr at *; obtain ⟨c0, c4, c5, c6, c7⟩ := cells hb2))
  refine (HS.out _).mono ?_; rintro e w' ⟨rfl, rfl⟩
  go_wp2_with fail
  refine (HH.out _).mono ?_; rintro e w' ⟨rfl, rfl⟩
  go_upto_region 3 with fail
  go_cut [25] from 16 to 25 (fun s25 wx => s25 = .pointer (some ⟨w.heap.size, 7, none⟩) ∧ Blk wx w.heap.size 25 (pc { p with i := wo p.i n, ca := wo p.ca n }) ∧ Blk wx gr 25 (pc noP) ∧ Keep Nob w wx)
  case first =>
    go_wp2_with fail
    have f6 := hb2.frozen 6
    have f7 := hb2.frozen 7
    have HO6 := Lib.hid (fun w => HO.out p.i w)
    have HO7 := Lib.hid (fun w => HO.out p.ca w)
    have B : Blk ((w2.setCell ⟨w.heap.size, 6, none⟩ (.int .i64 (wo p.i n))).setCell ⟨w.heap.size, 7, none⟩ (.int .i64 (wo p.ca n))) w.heap.size 25 (pc { p with i := wo p.i n, ca := wo p.ca n }) := (hb2.setCell 6 _).setCell 7 _
    have Z : Blk ((w2.setCell ⟨w.heap.size, 6, none⟩ (.int .i64 (wo p.i n))).setCell ⟨w.heap.size, 7, none⟩ (.int .i64 (wo p.ca n))) gr 25 (pc noP) := (hz.far (p := ⟨w.heap.size, 6, none⟩) (Ne.symm hne) _).far (p := ⟨w.heap.size, 7, none⟩) (Ne.symm hne) _
    have K := (hK2.setCell ⟨w.heap.size, 6, none⟩ (.int .i64 (wo p.i n)) (fun h => absurd h (Nat.lt_irrefl _))).setCell ⟨w.heap.size, 7, none⟩ (.int .i64 (wo p.ca n)) (fun h => absurd h (Nat.lt_irrefl _))
    have HX := Lib.hid (And.intro B (And.intro Z K))
    clear HO HS HH HL HW HP c0 c4 c5 hb2 B Z K hz hK2 hb
    go_region_with (first | ((refine (HO6.out _).mono ?_); rintro e w' ⟨rfl, rfl⟩) | ((refine (HO7.out _).mono ?_); rintro e w' ⟨rfl, rfl⟩))
    all_goals (go_wp2_with fail; go_meet; exact ⟨rfl, HX.out.1.drew, HX.out.2.1.drew, HX.out.2.2.drew⟩)
  case rest =>
  obtain ⟨rfl, hb3, hz3, hK3⟩ := hcut
  clear hb2 hz hK2 hb HS HH c0 c4 c5 c6 c7
  obtain ⟨c0, c4, c5, c6, c7⟩ := cells hb3
  have hP := HP.out
  clear HP
  by_cases h0 : how = 0
  · subst h0
    rw [if_pos rfl] at hP
    cases hP
    go_wp2_with (first | (refine wpList_ld rfl (.tmp 3) rfl w.heap.size { p with i := wo p.i n, ca := wo p.ca n } rfl HL.out hb3 ?_) | (refine wpList_st rfl (.tmp 6) _ rfl gr { p with i := wo p.i n, ca := wo p.ca n } noP rfl rfl HL.out rfl hz3 ?_; intro w9 hz9 k9 s9; clear s9))
    (try simp only [Exit.inBlock, Exit.then])
    refine bodyPost_ret (v := .tuple #[pv ({ p with i := wo p.i n, ca := wo p.ca n }), .int .i64 0]) (results_pair rfl _ _ gr ({ p with i := wo p.i n, ca := wo p.ca n }) HL.out rfl hz9 _ rfl) rfl ?_
    exact ⟨rfl, hK3.trans k9 (fun b hb e => by have h3 : b = gr := e; omega)⟩
  by_cases h1 : how = 1
  · subst h1
    rw [if_neg (by decide), if_pos rfl] at hP
    cases hP
    go_wp2_with fail
    refine (HW.out _ _).mono ?_; rintro e w' ⟨rfl, rfl⟩
    go_wp2_with (first | (refine wpList_sf rfl (.tmp 36) _ rfl w.heap.size 6 { p with i := wo p.i n, ca := wo p.ca n } { p with i := wi (wo p.i n) n, ca := wo p.ca n } _ rfl rfl hb3 ⟨rfl, rfl⟩ ?_; intro w4 hb4 k4 s4; clear s4; have hz4 := hz3.keep k4 (fun e => hne e.symm); have hK4 := hK3.trans k4 (fun b hb e => by have h3 : b = w.heap.size := e; omega); clear hb3 hz3 hK3 k4 c0 c4 c5 c6 c7; obtain ⟨c0, c4, c5, c6, c7⟩ := cells hb4))
    refine (HO.out _ _).mono ?_; rintro e w' ⟨rfl, rfl⟩
    go_wp2_with (first | (refine wpList_sf rfl (.tmp 41) _ rfl w.heap.size 4 { p with i := wi (wo p.i n) n, ca := wo p.ca n } { p with i := wi (wo p.i n) n, ca := wo p.ca n, pe := wo p.pe n } _ rfl rfl hb4 ⟨rfl, rfl⟩ ?_; intro w5 hb5 k5 s5; clear s5; have hz5 := hz4.keep k5 (fun e => hne e.symm); have hK5 := hK4.trans k5 (fun b hb e => by have h3 : b = w.heap.size := e; omega); clear hb4 hz4 hK4 k5 c0 c4 c5 c6 c7; obtain ⟨c0, c4, c5, c6, c7⟩ := cells hb5) | (refine wpList_ld rfl (.tmp 3) rfl w.heap.size { p with i := wi (wo p.i n) n, ca := wo p.ca n, pe := wo p.pe n } rfl HL.out hb5 ?_) | (refine wpList_st rfl (.tmp 6) _ rfl gr { p with i := wi (wo p.i n) n, ca := wo p.ca n, pe := wo p.pe n } noP rfl rfl HL.out rfl hz5 ?_; intro w9 hz9 k9 s9; clear s9))
    (try simp only [Exit.inBlock, Exit.then])
    refine bodyPost_ret (v := .tuple #[pv ({ p with i := wi (wo p.i n) n, ca := wo p.ca n, pe := wo p.pe n }), .int .i64 0]) (results_pair rfl _ _ gr ({ p with i := wi (wo p.i n) n, ca := wo p.ca n, pe := wo p.pe n }) HL.out rfl hz9 _ rfl) rfl ?_
    exact ⟨rfl, hK5.trans k9 (fun b hb e => by have h3 : b = gr := e; omega)⟩
  by_cases h2 : how = 2
  · subst h2
    rw [if_neg (by decide), if_neg (by decide), if_pos rfl] at hP
    cases hP
    go_wp2_with fail
    refine (HW.out _ _).mono ?_; rintro e w' ⟨rfl, rfl⟩
    go_wp2_with (first | (refine wpList_sf rfl (.tmp 48) _ rfl w.heap.size 7 { p with i := wo p.i n, ca := wo p.ca n } { p with i := wo p.i n, ca := wi (wo p.ca n) n } _ rfl rfl hb3 ⟨rfl, rfl⟩ ?_; intro w4 hb4 k4 s4; clear s4; have hz4 := hz3.keep k4 (fun e => hne e.symm); have hK4 := hK3.trans k4 (fun b hb e => by have h3 : b = w.heap.size := e; omega); clear hb3 hz3 hK3 k4 c0 c4 c5 c6 c7; obtain ⟨c0, c4, c5, c6, c7⟩ := cells hb4) | (refine wpList_ld rfl (.tmp 3) rfl w.heap.size { p with i := wo p.i n, ca := wi (wo p.ca n) n } rfl HL.out hb4 ?_) | (refine wpList_st rfl (.tmp 6) _ rfl gr { p with i := wo p.i n, ca := wi (wo p.ca n) n } noP rfl rfl HL.out rfl hz4 ?_; intro w9 hz9 k9 s9; clear s9))
    (try simp only [Exit.inBlock, Exit.then])
    refine bodyPost_ret (v := .tuple #[pv ({ p with i := wo p.i n, ca := wi (wo p.ca n) n }), .int .i64 0]) (results_pair rfl _ _ gr ({ p with i := wo p.i n, ca := wi (wo p.ca n) n }) HL.out rfl hz9 _ rfl) rfl ?_
    exact ⟨rfl, hK4.trans k9 (fun b hb e => by have h3 : b = gr := e; omega)⟩
  rw [if_neg h0, if_neg h1, if_neg h2] at hP
  cases hP
  go_wp2_with (first | (refine wpList_bu0 rfl rfl ?_) | (refine wpList_st rfl (.tmp 6) _ rfl gr noP noP rfl rfl rfl rfl hz3 ?_; intro w9 hz9 k9 s9; clear s9))
  (try simp only [Exit.inBlock, Exit.then])
  refine bodyPost_ret (v := .tuple #[pv noP, .int .i64 122]) (results_pair rfl _ _ gr noP rfl rfl hz9 _ rfl) rfl ?_
  exact ⟨rfl, hK3.trans k9 (fun b hb e => by have h3 : b = gr := e; omega)⟩
set_option maxHeartbeats 4000000 in
set_option maxRecDepth 100000 in
theorem handle_bad (p : Ps) (n how : Int) (w : World) (hf : free n = false) :
    Calls Tryd.prog 11 #[pv p, .int .i64 n, .int .i64 how] w fun e w' => e = .returned (.tuple #[pv noP, .int .i64 122]) ∧ Keep Nob w w' := by
  have hS := fun w => issig_is n w
  unfold pv
  unfold free at hf
  cases hn : sign n with
  | false =>
    rw [hn] at hS
    have HS := Lib.hid hS
    clear hS hf hn
    go_enter Tryd.func11, Tryd.ntmps11
    go_wp2_with (first | (refine wpList_box rfl 25 _ rfl _ rfl ?_; intro w1 hb hk hs; clear hs; have hb : Blk w1 w.heap.size 25 (pc p) := hb) | (refine wpList_al rfl rfl ?_; intro w2 hz hk2 hs2; clear hs2; have hb2 := hb.nob hk2; have hK2 := hk.nobt hk2; have hne : w.heap.size ≠ w1.heap.size := (by have := hb.lt; omega); have hge : w.heap.size ≤ w1.heap.size := hk.size; clear hb hk hk2; generalize w1.heap.size = gr at *; obtain ⟨c0, c4, c5, c6, c7⟩ := cells hb2))
    refine (HS.out _).mono ?_; rintro e w' ⟨rfl, rfl⟩
    go_wp2_with (first | (refine wpList_bu0 rfl rfl ?_) | (refine wpList_st rfl (.tmp 6) _ rfl gr noP noP rfl rfl rfl rfl hz ?_; intro w9 hz9 k9 s9; clear s9))
    (try simp only [Exit.inBlock, Exit.then])
    refine bodyPost_ret (v := .tuple #[pv noP, .int .i64 122]) (results_pair rfl _ _ gr noP rfl rfl hz9 _ rfl) rfl ?_
    exact ⟨rfl, hK2.trans k9 (fun b hb e => by have h3 : b = gr := e; omega)⟩
  | true =>
    rw [hn] at hS hf
    have hn := sign_in hn
    have hh : bt 16896 n = true := by
      rw [bt_hard (by omega) hn.2]
      cases h : (n == 9 || n == 14) with
      | true => rfl
      | false => rw [h] at hf; cases hf
    have hH := fun w => has_is 16896 n (by omega) hn.2 w true hh
    have HS := Lib.hid hS
    have HH := Lib.hid hH
    clear hS hf hH hh
    go_enter Tryd.func11, Tryd.ntmps11
    go_wp2_with (first | (refine wpList_box rfl 25 _ rfl _ rfl ?_; intro w1 hb hk hs; clear hs; have hb : Blk w1 w.heap.size 25 (pc p) := hb) | (refine wpList_al rfl rfl ?_; intro w2 hz hk2 hs2; clear hs2; have hb2 := hb.nob hk2; have hK2 := hk.nobt hk2; have hne : w.heap.size ≠ w1.heap.size := (by have := hb.lt; omega); have hge : w.heap.size ≤ w1.heap.size := hk.size; clear hb hk hk2; generalize w1.heap.size = gr at *; obtain ⟨c0, c4, c5, c6, c7⟩ := cells hb2))
    refine (HS.out _).mono ?_; rintro e w' ⟨rfl, rfl⟩
    go_wp2_with fail
    refine (HH.out _).mono ?_; rintro e w' ⟨rfl, rfl⟩
    go_wp2_with (first | (refine wpList_bu0 rfl rfl ?_) | (refine wpList_st rfl (.tmp 6) _ rfl gr noP noP rfl rfl rfl rfl hz ?_; intro w9 hz9 k9 s9; clear s9))
    (try simp only [Exit.inBlock, Exit.then])
    refine bodyPost_ret (v := .tuple #[pv noP, .int .i64 122]) (results_pair rfl _ _ gr noP rfl rfl hz9 _ rfl) rfl ?_
    exact ⟨rfl, hK2.trans k9 (fun b hb e => by have h3 : b = gr := e; omega)⟩
theorem handle_is (p : Ps) (hl : p.f.length = 8) (n how : Int) (w : World) (P' : Ps) (f : Int) (hP : handle p n how = (P', f)) :
    Calls Tryd.prog 11 #[pv p, .int .i64 n, .int .i64 how] w fun e w' => e = .returned (.tuple #[pv P', .int .i64 f]) ∧ Keep Nob w w' := by
  cases hf : free n with
  | true => exact handle_free p hl n how w hf P' f hP
  | false =>
    rw [handle, hf, if_neg (by simp)] at hP
    cases hP
    exact handle_bad p n how w hf
end Go.Proofs.YtaeiigniakjbpaaDoor.Sg
