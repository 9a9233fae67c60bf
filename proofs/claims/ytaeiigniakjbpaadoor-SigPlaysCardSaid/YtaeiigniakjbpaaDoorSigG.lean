/- The document's Mask, Handle, Deliver. -/
import Derived.Test.YtaeiigniakjbpaaDoorSigC
import Derived.BigRegion
import Derived.Deep.DeepCutAuto
import Derived.Deep.CutBlock
namespace Go.Proofs.YtaeiigniakjbpaaDoor.Sg
open Go.RowKit
set_option linter.unusedVariables false
set_option linter.unusedSimpArgs false
set_option maxHeartbeats 4000000 in
set_option maxRecDepth 100000 in
theorem rmask_is (p : Ps) (hl : p.f.length = 8) (m : Int) (w : World) (P' : Ps) (old f : Int) (hP : mask p m = (P', old, f)) :
    Calls Tryd.prog 19 #[pv p, .int .i64 m] w fun e w' => e = .returned (.tuple #[pv P', .int .i64 old, .int .i64 f]) ∧ Keep Nob w w' := by
  have hmo : bits .andNot .i64 (bits .and .i64 m 65534) 16896 = maskOf m := rfl
  unfold pv
  have HL := Lib.hid hl
  clear hl
  unfold mask at hP
  by_cases h0 : 0 ≤ m
  · by_cases h1 : m ≤ 65535
    · rw [if_pos ⟨h0, h1⟩] at hP
      cases hP
      go_enter Tryd.func19, Tryd.ntmps19
      go_wp2_with (first | (refine wpList_box rfl 25 _ rfl _ rfl ?_; intro w1 hb hk hs; clear hs; have hb : Blk w1 w.heap.size 25 (pc p) := hb) | (refine wpList_al rfl rfl ?_; intro w2 hz hk2 hs2; clear hs2; have hb2 := hb.nob hk2; have hK2 := hk.nobt hk2; have hne : w.heap.size ≠ w1.heap.size := (by have := hb.lt; omega); have hge : w.heap.size ≤ w1.heap.size := hk.size; clear hb hk hk2; generalize w1.heap.size = gr at *; obtain ⟨c0, c4, c5, c6, c7⟩ := cells hb2) | (refine wpList_sf rfl (.tmp 20) _ rfl w.heap.size 5 p { p with m := maskOf m } _ rfl rfl hb2 ⟨rfl, rfl⟩ ?_; intro w3 hb3 k3 s3; clear s3; have hz3 := hz.keep k3 (fun e => hne e.symm); have hK3 := hK2.trans k3 (fun b hb e => by have h3 : b = w.heap.size := e; omega); clear hb2 hz hK2 k3 c0 c4 c5 c6 c7; obtain ⟨c0, c4, c5, c6, c7⟩ := cells hb3) | (refine wpList_ld rfl (.tmp 2) rfl w.heap.size { p with m := maskOf m } rfl HL.out hb3 ?_) | (refine wpList_st rfl (.tmp 4) _ rfl gr { p with m := maskOf m } noP rfl rfl HL.out rfl hz3 ?_; intro w9 hz9 k9 s9; clear s9))
      (try simp only [Exit.inBlock, Exit.then])
      refine bodyPost_ret (v := .tuple #[pv { p with m := maskOf m }, .int .i64 p.m, .int .i64 0]) (results_three rfl _ _ gr ({ p with m := maskOf m }) HL.out rfl hz9 _ _ rfl rfl) rfl ?_
      exact ⟨rfl, hK3.trans k9 (fun b hb e => by have h3 : b = gr := e; omega)⟩
    · rw [if_neg (by omega)] at hP
      cases hP
      go_enter Tryd.func19, Tryd.ntmps19
      go_wp2_with (first | (refine wpList_box rfl 25 _ rfl _ rfl ?_; intro w1 hb hk hs; clear hs; have hb : Blk w1 w.heap.size 25 (pc p) := hb) | (refine wpList_al rfl rfl ?_; intro w2 hz hk2 hs2; clear hs2; have hb2 := hb.nob hk2; have hK2 := hk.nobt hk2; have hne : w.heap.size ≠ w1.heap.size := (by have := hb.lt; omega); have hge : w.heap.size ≤ w1.heap.size := hk.size; clear hb hk hk2; generalize w1.heap.size = gr at *; obtain ⟨c0, c4, c5, c6, c7⟩ := cells hb2) | (refine wpList_bu0 rfl rfl ?_) | (refine wpList_st rfl (.tmp 4) _ rfl gr noP noP rfl rfl rfl rfl hz ?_; intro w9 hz9 k9 s9; clear s9))
      (try simp only [Exit.inBlock, Exit.then])
      refine bodyPost_ret (v := .tuple #[pv noP, .int .i64 0, .int .i64 122]) (results_three rfl _ _ gr noP rfl rfl hz9 _ _ rfl rfl) rfl ?_
      exact ⟨rfl, hK2.trans k9 (fun b hb e => by have h3 : b = gr := e; omega)⟩
  · rw [if_neg (by omega)] at hP
    cases hP
    go_enter Tryd.func19, Tryd.ntmps19
    go_wp2_with (first | (refine wpList_box rfl 25 _ rfl _ rfl ?_; intro w1 hb hk hs; clear hs; have hb : Blk w1 w.heap.size 25 (pc p) := hb) | (refine wpList_al rfl rfl ?_; intro w2 hz hk2 hs2; clear hs2; have hb2 := hb.nob hk2; have hK2 := hk.nobt hk2; have hne : w.heap.size ≠ w1.heap.size := (by have := hb.lt; omega); have hge : w.heap.size ≤ w1.heap.size := hk.size; clear hb hk hk2; generalize w1.heap.size = gr at *; obtain ⟨c0, c4, c5, c6, c7⟩ := cells hb2) | (refine wpList_bu0 rfl rfl ?_) | (refine wpList_st rfl (.tmp 4) _ rfl gr noP noP rfl rfl rfl rfl hz ?_; intro w9 hz9 k9 s9; clear s9))
    (try simp only [Exit.inBlock, Exit.then])
    refine bodyPost_ret (v := .tuple #[pv noP, .int .i64 0, .int .i64 122]) (results_three rfl _ _ gr noP rfl rfl hz9 _ _ rfl rfl) rfl ?_
    exact ⟨rfl, hK2.trans k9 (fun b hb e => by have h3 : b = gr := e; omega)⟩
set_option maxHeartbeats 8000000 in
set_option maxRecDepth 100000 in
theorem rhandle_is (p : Ps) (hl : p.f.length = 8) (n how : Int) (w : World) (P' : Ps) (f : Int) (hP : handle p n how = (P', f)) :
    Calls Tryd.prog 17 #[pv p, .int .i64 n, .int .i64 how] w fun e w' => e = .returned (.tuple #[pv P', .int .i64 f]) ∧ Keep Nob w w' := by
  have hS := fun w v h => rin_is n 1 15 w v h
  have hW := fun w v h => rin_is how 0 2 w v h
  unfold pv
  have HL := Lib.hid hl
  have HS := Lib.hid hS
  have HW := Lib.hid hW
  have HP := Lib.hid hP
  clear hl hS hW hP
  by_cases hn : 1 ≤ n ∧ n ≤ 15
  rotate_left
  · have hP := HP.out
    rw [handle, show free n = false from by unfold free; rw [show sign n = false from decide_eq_false (by omega)]; rfl, if_neg (by simp)] at hP
    cases hP
    have HS1 := Lib.hid (fun w => HS.out w false (decide_eq_false hn))
    clear hn HP HW HS
    go_enter Tryd.func17, Tryd.ntmps17
    go_wp2_with (first | (refine wpList_box rfl 25 _ rfl _ rfl ?_; intro w1 hb hk hs; clear hs; have hb : Blk w1 w.heap.size 25 (pc p) := hb) | (refine wpList_al rfl rfl ?_; intro w2 hz hk2 hs2; clear hs2; have hb2 := hb.nob hk2; have hK2 := hk.nobt hk2; have hne : w.heap.size ≠ w1.heap.size := (by have := hb.lt; omega); have hge : w.heap.size ≤ w1.heap.size := hk.size; clear hb hk hk2; generalize w1.heap.size = gr at *; obtain ⟨c0, c4, c5, c6, c7⟩ := cells hb2))
    refine (HS1.out _).mono ?_; rintro e w' ⟨rfl, rfl⟩
    go_wp2_with (first | (refine wpList_bu0 rfl rfl ?_) | (refine wpList_st rfl (.tmp 6) _ rfl gr noP noP rfl rfl rfl rfl hz ?_; intro w9 hz9 k9 s9; clear s9))
    (try simp only [Exit.inBlock, Exit.then])
    refine bodyPost_ret (v := .tuple #[pv noP, .int .i64 122]) (results_pair rfl _ _ gr noP rfl rfl hz9 _ rfl) rfl ?_
    exact ⟨rfl, hK2.trans k9 (fun b hb e => by have h3 : b = gr := e; omega)⟩
  have hsn : sign n = true := decide_eq_true (by omega)
  have HS1 := Lib.hid (fun w => HS.out w true (decide_eq_true hn))
  by_cases h9 : n = 9
  · subst h9
    have hP := HP.out
    rw [handle, show free 9 = false from by decide, if_neg (by simp)] at hP
    cases hP
    clear HP HW HS hn hsn
    go_enter Tryd.func17, Tryd.ntmps17
    go_wp2_with (first | (refine wpList_box rfl 25 _ rfl _ rfl ?_; intro w1 hb hk hs; clear hs; have hb : Blk w1 w.heap.size 25 (pc p) := hb) | (refine wpList_al rfl rfl ?_; intro w2 hz hk2 hs2; clear hs2; have hb2 := hb.nob hk2; have hK2 := hk.nobt hk2; have hne : w.heap.size ≠ w1.heap.size := (by have := hb.lt; omega); have hge : w.heap.size ≤ w1.heap.size := hk.size; clear hb hk hk2; generalize w1.heap.size = gr at *; obtain ⟨c0, c4, c5, c6, c7⟩ := cells hb2))
    refine (HS1.out _).mono ?_; rintro e w' ⟨rfl, rfl⟩
    go_wp2_with (first | (refine wpList_bu0 rfl rfl ?_) | (refine wpList_st rfl (.tmp 6) _ rfl gr noP noP rfl rfl rfl rfl hz ?_; intro w9 hz9 k9 s9; clear s9))
    (try simp only [Exit.inBlock, Exit.then])
    refine bodyPost_ret (v := .tuple #[pv noP, .int .i64 122]) (results_pair rfl _ _ gr noP rfl rfl hz9 _ rfl) rfl ?_
    exact ⟨rfl, hK2.trans k9 (fun b hb e => by have h3 : b = gr := e; omega)⟩
  by_cases h14 : n = 14
  · subst h14
    have hP := HP.out
    rw [handle, show free 14 = false from by decide, if_neg (by simp)] at hP
    cases hP
    clear HP HW HS hn hsn
    go_enter Tryd.func17, Tryd.ntmps17
    go_wp2_with (first | (refine wpList_box rfl 25 _ rfl _ rfl ?_; intro w1 hb hk hs; clear hs; have hb : Blk w1 w.heap.size 25 (pc p) := hb) | (refine wpList_al rfl rfl ?_; intro w2 hz hk2 hs2; clear hs2; have hb2 := hb.nob hk2; have hK2 := hk.nobt hk2; have hne : w.heap.size ≠ w1.heap.size := (by have := hb.lt; omega); have hge : w.heap.size ≤ w1.heap.size := hk.size; clear hb hk hk2; generalize w1.heap.size = gr at *; obtain ⟨c0, c4, c5, c6, c7⟩ := cells hb2))
    refine (HS1.out _).mono ?_; rintro e w' ⟨rfl, rfl⟩
    go_wp2_with (first | (refine wpList_bu0 rfl rfl ?_) | (refine wpList_st rfl (.tmp 6) _ rfl gr noP noP rfl rfl rfl rfl hz ?_; intro w9 hz9 k9 s9; clear s9))
    (try simp only [Exit.inBlock, Exit.then])
    refine bodyPost_ret (v := .tuple #[pv noP, .int .i64 122]) (results_pair rfl _ _ gr noP rfl rfl hz9 _ rfl) rfl ?_
    exact ⟨rfl, hK2.trans k9 (fun b hb e => by have h3 : b = gr := e; omega)⟩
  have e9 : (n == 9) = false := by simpa using h9
  have e14 : (n == 14) = false := by simpa using h14
  have hP := HP.out
  rw [handle, show free n = true from by unfold free; rw [hsn, e9, e14]; rfl, if_pos rfl] at hP
  have HP2 := Lib.hid hP
  have HN := Lib.hid hn
  have hw : wrap64 (2 ^ n.toNat) = pw n := wrap_pw (by omega) hn.2
  have hwm : wrap64 (2 ^ min n.toNat 64) = pw n := by rw [show min n.toNat 64 = n.toNat from by omega]; exact hw
  have hn0 : 0 ≤ n := by omega
  clear hP HP hsn h9 h14 HS hn
  by_cases hh : 0 ≤ how ∧ how ≤ 2
  rotate_left
  · have hP := HP2.out
    rw [if_neg (by omega), if_neg (by omega), if_neg (by omega)] at hP
    cases hP
    have HW1 := Lib.hid (fun w => HW.out w false (decide_eq_false hh))
    clear HP2 HW hh
    go_enter Tryd.func17, Tryd.ntmps17
    go_wp2_with (first | (refine wpList_box rfl 25 _ rfl _ rfl ?_; intro w1 hb hk hs; clear hs; have hb : Blk w1 w.heap.size 25 (pc p) := hb) | (refine wpList_al rfl rfl ?_; intro w2 hz hk2 hs2; clear hs2; have hb2 := hb.nob hk2; have hK2 := hk.nobt hk2; have hne : w.heap.size ≠ w1.heap.size := (by have := hb.lt; omega); have hge : w.heap.size ≤ w1.heap.size := hk.size; clear hb hk hk2; generalize w1.heap.size = gr at *; obtain ⟨c0, c4, c5, c6, c7⟩ := cells hb2))
    refine (HS1.out _).mono ?_; rintro e w' ⟨rfl, rfl⟩
    go_wp2_with fail
    refine (HW1.out _).mono ?_; rintro e w' ⟨rfl, rfl⟩
    go_wp2_with (first | (refine wpList_bu0 rfl rfl ?_) | (refine wpList_st rfl (.tmp 6) _ rfl gr noP noP rfl rfl rfl rfl hz ?_; intro w9 hz9 k9 s9; clear s9))
    (try simp only [Exit.inBlock, Exit.then])
    refine bodyPost_ret (v := .tuple #[pv noP, .int .i64 122]) (results_pair rfl _ _ gr noP rfl rfl hz9 _ rfl) rfl ?_
    exact ⟨rfl, hK2.trans k9 (fun b hb e => by have h3 : b = gr := e; omega)⟩
  have HW1 := Lib.hid (fun w => HW.out w true (decide_eq_true hh))
  obtain ⟨ig, hig⟩ : ∃ x, wo p.i n = x := ⟨_, rfl⟩
  obtain ⟨cg, hcg⟩ : ∃ x, wo p.ca n = x := ⟨_, rfl⟩
  obtain ⟨iw, hiw⟩ : ∃ x, wi ig n = x := ⟨_, rfl⟩
  obtain ⟨cw, hcw⟩ : ∃ x, wi cg n = x := ⟨_, rfl⟩
  obtain ⟨pg, hpg⟩ : ∃ x, wo p.pe n = x := ⟨_, rfl⟩
  have hP := HP2.out
  rw [hig, hcg, hiw, hcw, hpg] at hP
  have b1 : bits .andNot .i64 p.i (pw n) = ig := hig
  have b2 : bits .andNot .i64 p.ca (pw n) = cg := hcg
  have b3 : bits .or .i64 ig (pw n) = iw := hiw
  have b4 : bits .or .i64 cg (pw n) = cw := hcw
  have b5 : bits .andNot .i64 p.pe (pw n) = pg := hpg
  have HP3 := Lib.hid hP
  have HH := Lib.hid hh
  clear hP HP2 HW hig hcg hiw hcw hpg
  go_enter Tryd.func17, Tryd.ntmps17
  go_wp2_with (first | (refine wpList_box rfl 25 _ rfl _ rfl ?_; intro w1 hb hk hs; clear hs; have hb : Blk w1 w.heap.size 25 (pc p) := hb) | (refine wpList_al rfl rfl ?_; intro w2 hz hk2 hs2; clear hs2; have hb2 := hb.nob hk2; have hK2 := hk.nobt hk2; have hne : w.heap.size ≠ w1.heap.size := (by have := hb.lt; omega); have hge : w.heap.size ≤ w1.heap.size := hk.size; clear hb hk hk2; generalize w1.heap.size = gr at *; obtain ⟨c0, c4, c5, c6, c7⟩ := cells hb2))
  refine (HS1.out _).mono ?_; rintro e w' ⟨rfl, rfl⟩
  go_wp2_with fail
  refine (HW1.out _).mono ?_; rintro e w' ⟨rfl, rfl⟩
  have f6 := hb2.frozen 6
  have f7 := hb2.frozen 7
  go_upto_region 3 with fail
  go_region
  have hb3 : Blk ((w2.setCell ⟨w.heap.size, 6, none⟩ (.int .i64 ig)).setCell ⟨w.heap.size, 7, none⟩ (.int .i64 cg)).drew w.heap.size 25 (pc { p with i := ig, ca := cg }) := ((hb2.setCell 6 _).setCell 7 _).drew
  have hz3 : Blk ((w2.setCell ⟨w.heap.size, 6, none⟩ (.int .i64 ig)).setCell ⟨w.heap.size, 7, none⟩ (.int .i64 cg)).drew gr 25 (pc noP) := ((hz.far (p := ⟨w.heap.size, 6, none⟩) (Ne.symm hne) _).far (p := ⟨w.heap.size, 7, none⟩) (Ne.symm hne) _).drew
  have hK3 : Keep Nob w ((w2.setCell ⟨w.heap.size, 6, none⟩ (.int .i64 ig)).setCell ⟨w.heap.size, 7, none⟩ (.int .i64 cg)).drew := ((hK2.setCell ⟨w.heap.size, 6, none⟩ _ (fun h => absurd h (Nat.lt_irrefl _))).setCell ⟨w.heap.size, 7, none⟩ _ (fun h => absurd h (Nat.lt_irrefl _))).drew
  generalize ((w2.setCell ⟨w.heap.size, 6, none⟩ (.int .i64 ig)).setCell ⟨w.heap.size, 7, none⟩ (.int .i64 cg)).drew = w3 at *
  clear hb2 hz hK2 c0 c4 c5 c6 c7 f6 f7 b1 b2
  obtain ⟨c0, c4, c5, c6, c7⟩ := cells hb3
  have hP := HP3.out
  have hh := HH.out
  clear HP3 HH HW1 HS1
  dsimp only at c0 c4 c5 c6 c7
  rcases (show how = 0 ∨ how = 1 ∨ how = 2 from by omega) with rfl | rfl | rfl
  · rw [if_pos rfl] at hP
    cases hP
    go_wp2_with (first | (refine wpList_ld rfl (.tmp 3) rfl w.heap.size { p with i := ig, ca := cg } rfl HL.out hb3 ?_) | (refine wpList_st rfl (.tmp 6) _ rfl gr { p with i := ig, ca := cg } noP rfl rfl HL.out rfl hz3 ?_; intro w9 hz9 k9 s9; clear s9))
    (try simp only [Exit.inBlock, Exit.then])
    refine bodyPost_ret (v := .tuple #[pv ({ p with i := ig, ca := cg }), .int .i64 0]) (results_pair rfl _ _ gr ({ p with i := ig, ca := cg }) HL.out rfl hz9 _ rfl) rfl ?_
    exact ⟨rfl, hK3.trans k9 (fun b hb e => by have h3 : b = gr := e; omega)⟩
  · rw [if_neg (by decide), if_pos rfl] at hP
    cases hP
    have f6 := hb3.frozen 6
    go_upto_region 6 with fail
    go_region
    have hb4 : Blk (w3.setCell ⟨w.heap.size, 6, none⟩ (.int .i64 iw)).drew w.heap.size 25 (pc { p with i := iw, ca := cg }) := (hb3.setCell 6 _).drew
    have hz4 : Blk (w3.setCell ⟨w.heap.size, 6, none⟩ (.int .i64 iw)).drew gr 25 (pc noP) := (hz3.far (p := ⟨w.heap.size, 6, none⟩) (Ne.symm hne) _).drew
    have hK4 : Keep Nob w (w3.setCell ⟨w.heap.size, 6, none⟩ (.int .i64 iw)).drew := (hK3.setCell ⟨w.heap.size, 6, none⟩ _ (fun h => absurd h (Nat.lt_irrefl _))).drew
    generalize (w3.setCell ⟨w.heap.size, 6, none⟩ (.int .i64 iw)).drew = w4 at *
    clear hb3 hz3 hK3 c0 c4 c5 c6 c7 f6
    obtain ⟨c0, c4, c5, c6, c7⟩ := cells hb4
    dsimp only at c0 c4 c5 c6 c7
    have f4 := hb4.frozen 4
    go_upto_region 7 with fail
    go_region
    have hb5 : Blk (w4.setCell ⟨w.heap.size, 4, none⟩ (.int .i64 pg)).drew w.heap.size 25 (pc { p with i := iw, ca := cg, pe := pg }) := (hb4.setCell 4 _).drew
    have hz5 : Blk (w4.setCell ⟨w.heap.size, 4, none⟩ (.int .i64 pg)).drew gr 25 (pc noP) := (hz4.far (p := ⟨w.heap.size, 4, none⟩) (Ne.symm hne) _).drew
    have hK5 : Keep Nob w (w4.setCell ⟨w.heap.size, 4, none⟩ (.int .i64 pg)).drew := (hK4.setCell ⟨w.heap.size, 4, none⟩ _ (fun h => absurd h (Nat.lt_irrefl _))).drew
    generalize (w4.setCell ⟨w.heap.size, 4, none⟩ (.int .i64 pg)).drew = w5 at *
    clear hb4 hz4 hK4 c0 c4 c5 c6 c7 f4
    obtain ⟨c0, c4, c5, c6, c7⟩ := cells hb5
    dsimp only at c0 c4 c5 c6 c7
    go_wp2_with (first | (refine wpList_ld rfl (.tmp 3) rfl w.heap.size { p with i := iw, ca := cg, pe := pg } rfl HL.out hb5 ?_) | (refine wpList_st rfl (.tmp 6) _ rfl gr { p with i := iw, ca := cg, pe := pg } noP rfl rfl HL.out rfl hz5 ?_; intro w9 hz9 k9 s9; clear s9))
    (try simp only [Exit.inBlock, Exit.then])
    refine bodyPost_ret (v := .tuple #[pv ({ p with i := iw, ca := cg, pe := pg }), .int .i64 0]) (results_pair rfl _ _ gr ({ p with i := iw, ca := cg, pe := pg }) HL.out rfl hz9 _ rfl) rfl ?_
    exact ⟨rfl, hK5.trans k9 (fun b hb e => by have h3 : b = gr := e; omega)⟩
  · rw [if_neg (by decide), if_neg (by decide), if_pos rfl] at hP
    cases hP
    have f7 := hb3.frozen 7
    go_upto_region 9 with fail
    go_region
    have hb4 : Blk (w3.setCell ⟨w.heap.size, 7, none⟩ (.int .i64 cw)).drew w.heap.size 25 (pc { p with i := ig, ca := cw }) := (hb3.setCell 7 _).drew
    have hz4 : Blk (w3.setCell ⟨w.heap.size, 7, none⟩ (.int .i64 cw)).drew gr 25 (pc noP) := (hz3.far (p := ⟨w.heap.size, 7, none⟩) (Ne.symm hne) _).drew
    have hK4 : Keep Nob w (w3.setCell ⟨w.heap.size, 7, none⟩ (.int .i64 cw)).drew := (hK3.setCell ⟨w.heap.size, 7, none⟩ _ (fun h => absurd h (Nat.lt_irrefl _))).drew
    generalize (w3.setCell ⟨w.heap.size, 7, none⟩ (.int .i64 cw)).drew = w4 at *
    clear hb3 hz3 hK3 c0 c4 c5 c6 c7 f7
    obtain ⟨c0, c4, c5, c6, c7⟩ := cells hb4
    dsimp only at c0 c4 c5 c6 c7
    go_wp2_with (first | (refine wpList_ld rfl (.tmp 3) rfl w.heap.size { p with i := ig, ca := cw } rfl HL.out hb4 ?_) | (refine wpList_st rfl (.tmp 6) _ rfl gr { p with i := ig, ca := cw } noP rfl rfl HL.out rfl hz4 ?_; intro w9 hz9 k9 s9; clear s9))
    (try simp only [Exit.inBlock, Exit.then])
    refine bodyPost_ret (v := .tuple #[pv ({ p with i := ig, ca := cw }), .int .i64 0]) (results_pair rfl _ _ gr ({ p with i := ig, ca := cw }) HL.out rfl hz9 _ rfl) rfl ?_
    exact ⟨rfl, hK4.trans k9 (fun b hb e => by have h3 : b = gr := e; omega)⟩
end Go.Proofs.YtaeiigniakjbpaaDoor.Sg
