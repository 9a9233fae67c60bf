/- The document's Raise, Mask, Handle. -/
import Derived.Test.YtaeiigniakjbpaaDoorSigC
import Derived.Test.YtaeiigniakjbpaaDoorSigB
import Derived.BigRegion
import Derived.Deep.DeepCutAuto
import Derived.Deep.CutBlock
namespace Go.Proofs.YtaeiigniakjbpaaDoor.Sg
open Go.RowKit
set_option linter.unusedVariables false
set_option linter.unusedSimpArgs false
set_option maxHeartbeats 4000000 in
set_option maxRecDepth 100000 in
theorem rraise_bad (p : Ps) (hl : p.f.length = 8) (n : Int) (w : World) (h : (sign n && told p) = false) :
    Calls Tryd.prog 14 #[pv p, .int .i64 n] w fun e w' => e = .returned (.tuple #[pv p, .bool false]) ∧ Keep Nob w w' := by
  have hsi : sign n = decide (1 ≤ n ∧ n ≤ 15) := by unfold sign; congr 1
  unfold pv
  have HL := Lib.hid hl
  clear hl
  cases hn : sign n with
  | false =>
    have hS := fun w => rin_is n 1 15 w false (by rw [← hsi, hn])
    have HS := Lib.hid hS
    clear h hn hsi hS
    go_enter Tryd.func14, Tryd.ntmps14
    go_wp2_with (first | (refine wpList_box rfl 25 _ rfl _ rfl ?_; intro w1 hb hk hs; clear hs; have hb : Blk w1 w.heap.size 25 (pc p) := hb) | (refine wpList_al rfl rfl ?_; intro w2 hz hk2 hs2; clear hs2; have hb2 := hb.nob hk2; have hK2 := hk.nobt hk2; have hne : w.heap.size ≠ w1.heap.size := (by have := hb.lt; omega); have hge : w.heap.size ≤ w1.heap.size := hk.size; clear hb hk hk2; generalize w1.heap.size = gr at *; obtain ⟨c0, c4, c5, c6, c7⟩ := cells hb2))
    refine (HS.out _).mono ?_; rintro e w' ⟨rfl, rfl⟩
    go_wp2_with (first | (refine wpList_ld rfl (.tmp 2) rfl w.heap.size p rfl HL.out hb2 ?_) | (refine wpList_st rfl (.tmp 4) _ rfl gr p noP rfl rfl HL.out rfl hz ?_; intro w9 hz9 k9 s9; clear s9))
    (try simp only [Exit.inBlock, Exit.then])
    refine bodyPost_ret (v := .tuple #[pv p, .bool false]) (results_pair rfl _ _ gr p HL.out rfl hz9 _ rfl) rfl ?_
    exact ⟨rfl, hK2.trans k9 (fun b hb e => by have h3 : b = gr := e; omega)⟩
  | true =>
    have hS := fun w => rin_is n 1 15 w true (by rw [← hsi, hn])
    have HS := Lib.hid hS
    rw [hn] at h
    have h : told p = false := h
    unfold told at h
    rw [Bool.or_eq_false_iff] at h
    have h1 : (p.s != 1) = true := by simpa using h.1
    have h3 : (p.s != 3) = true := by simpa using h.2
    clear h hn hsi hS
    go_enter Tryd.func14, Tryd.ntmps14
    go_wp2_with (first | (refine wpList_box rfl 25 _ rfl _ rfl ?_; intro w1 hb hk hs; clear hs; have hb : Blk w1 w.heap.size 25 (pc p) := hb) | (refine wpList_al rfl rfl ?_; intro w2 hz hk2 hs2; clear hs2; have hb2 := hb.nob hk2; have hK2 := hk.nobt hk2; have hne : w.heap.size ≠ w1.heap.size := (by have := hb.lt; omega); have hge : w.heap.size ≤ w1.heap.size := hk.size; clear hb hk hk2; generalize w1.heap.size = gr at *; obtain ⟨c0, c4, c5, c6, c7⟩ := cells hb2))
    refine (HS.out _).mono ?_; rintro e w' ⟨rfl, rfl⟩
    go_wp2_with (first | (refine wpList_ld rfl (.tmp 2) rfl w.heap.size p rfl HL.out hb2 ?_) | (refine wpList_st rfl (.tmp 4) _ rfl gr p noP rfl rfl HL.out rfl hz ?_; intro w9 hz9 k9 s9; clear s9))
    (try simp only [Exit.inBlock, Exit.then])
    refine bodyPost_ret (v := .tuple #[pv p, .bool false]) (results_pair rfl _ _ gr p HL.out rfl hz9 _ rfl) rfl ?_
    exact ⟨rfl, hK2.trans k9 (fun b hb e => by have h3 : b = gr := e; omega)⟩
set_option maxHeartbeats 16000000 in
set_option maxRecDepth 100000 in
theorem rraise_good (p : Ps) (hl : p.f.length = 8) (n : Int) (hn : 1 ≤ n ∧ n ≤ 15) (w : World) (ht : p.s = 1 ∨ p.s = 3) (bi b : Bool) (hbi : bt p.i n = bi) (hb : (bi && !(n == 9 || n == 14)) = b) :
    Calls Tryd.prog 14 #[pv p, .int .i64 n] w fun e w' => e = .returned (.tuple #[pv (rz p n b), .bool true]) ∧ Keep Nob w w' := by
  have hS := fun w => rin_is n 1 15 w true (decide_eq_true hn)
  have hw : wrap64 (2 ^ n.toNat) = pw n := wrap_pw (by omega) hn.2
  have hn0 : 0 ≤ n := by omega
  have hn15 : n ≤ 15 := hn.2
  obtain ⟨rp, hrp⟩ : ∃ x, wi p.pe n = x := ⟨_, rfl⟩
  have hrp2 : bits .or .i64 p.pe (pw n) = rp := hrp
  have h16 : bits .andNot .i64 rp 16384 = wo rp 14 := rfl
  have h32 : bits .andNot .i64 rp 32768 = wo rp 15 := rfl
  have i16 : bits .andNot .i64 p.pe 16384 = wo p.pe 14 := rfl
  have i32 : bits .andNot .i64 p.pe 32768 = wo p.pe 15 := rfl
  unfold pv
  have HL := Lib.hid hl
  have HS := Lib.hid hS
  have HB := Lib.hid hb
  have HRP := Lib.hid hrp
  have HN := Lib.hid hn
  clear hl hS hb hrp hn
  rcases ht with ht | ht
  · cases bi with
    | true =>
      by_cases h14 : n = 14
      · have h9 : ¬ n = 9 := by omega
        have h15 : ¬ n = 15 := by omega
        have e9 : (n == 9) = false := by simpa using h9
        have e14 : (n == 14) = true := by simpa using h14
        have e15 : (n == 15) = false := by simpa using h15
        have HT := Lib.hid ht
        have q1 : (p.i / 2 ^ n.toNat % 2 == 0) = false := by
          have h0 : (p.i / 2 ^ n.toNat % 2 == 1) = true := hbi
          have h2 := Int.emod_two_eq (p.i / 2 ^ n.toNat)
          rcases h2 with h2 | h2 <;> rw [h2] at h0 ⊢ <;> first | rfl | cases h0
        have HX9 := Lib.hid h9; have HX14 := Lib.hid h14; have HX15 := Lib.hid h15
        clear hbi ht h9 h14 h15
        have ht0 : p.s = 1 := HT.out
        go_enter Tryd.func14, Tryd.ntmps14
        go_wp2_with (first | (refine wpList_box rfl 25 _ rfl _ rfl ?_; intro w1 hb hk hs; clear hs; have hb : Blk w1 w.heap.size 25 (pc p) := hb) | (refine wpList_al rfl rfl ?_; intro w2 hz hk2 hs2; clear hs2; have hb2 := hb.nob hk2; have hK2 := hk.nobt hk2; have hne : w.heap.size ≠ w1.heap.size := (by have := hb.lt; omega); have hge : w.heap.size ≤ w1.heap.size := hk.size; clear hb hk hk2; generalize w1.heap.size = gr at *; obtain ⟨c0, c4, c5, c6, c7⟩ := cells hb2))
        refine (HS.out _).mono ?_; rintro e w' ⟨rfl, rfl⟩
        have f4 := hb2.frozen 4
        go_upto_region 4 with fail
        go_region
        have hb3 : Blk (w2.setCell ⟨w.heap.size, 4, none⟩ (.int .i64 rp)).drew w.heap.size 25 (pc { p with pe := rp }) := (hb2.setCell 4 _).drew
        have hz3 : Blk (w2.setCell ⟨w.heap.size, 4, none⟩ (.int .i64 rp)).drew gr 25 (pc noP) := (hz.far (p := ⟨w.heap.size, 4, none⟩) (Ne.symm hne) _).drew
        have hK3 : Keep Nob w (w2.setCell ⟨w.heap.size, 4, none⟩ (.int .i64 rp)).drew := (hK2.setCell ⟨w.heap.size, 4, none⟩ _ (fun h => absurd h (Nat.lt_irrefl _))).drew
        generalize (w2.setCell ⟨w.heap.size, 4, none⟩ (.int .i64 rp)).drew = w3 at *
        clear hb2 hz hK2 c0 c4 c5 c6 c7 f4
        obtain ⟨c0, c4, c5, c6, c7⟩ := cells hb3
        dsimp only at c0 c4 c5 c6 c7
        go_wp2_with (first | (refine wpList_sf rfl (.tmp 64) _ rfl w.heap.size 4 { p with pe := rp } { p with pe := wo rp 15 } _ rfl rfl hb3 ⟨rfl, rfl⟩ ?_; intro w4 hb4 k4 s4; clear s4; have hz4 := hz3.keep k4 (fun e => hne e.symm); have hK4 := hK3.trans k4 (fun b hb e => by have h3 : b = w.heap.size := e; omega); clear hb3 hz3 hK3 k4 c0 c4 c5 c6 c7; obtain ⟨c0, c4, c5, c6, c7⟩ := cells hb4; try dsimp only at c0 c4 c5 c6 c7) | (refine wpList_ld rfl (.tmp 2) rfl w.heap.size { p with pe := wo rp 15 } rfl HL.out hb4 ?_) | (refine wpList_st rfl (.tmp 4) _ rfl gr { p with pe := wo rp 15 } noP rfl rfl HL.out rfl hz4 ?_; intro w9 hz9 k9 s9; clear s9))
        have hbb : b = false := by rw [← HB.out, e9, e14]; rfl
        subst hbb
        have hq : rz p n false = { p with pe := wo rp 15 } := by
          rw [rz, if_pos HX14.out]
          try simp only [Bool.false_eq_true, if_false, if_true, HRP.out]
          first | done | rfl | rw [HT.out]
        rw [hq]
        (try simp only [Exit.inBlock, Exit.then])
        refine bodyPost_ret (v := .tuple #[pv ({ p with pe := wo rp 15 }), .bool true]) (results_pair rfl _ _ gr ({ p with pe := wo rp 15 }) HL.out rfl hz9 _ rfl) rfl ?_
        exact ⟨rfl, hK4.trans k9 (fun b hb e => by have h3 : b = gr := e; omega)⟩
      by_cases h15 : n = 15
      · have h9 : ¬ n = 9 := by omega
        have h14 : ¬ n = 14 := by omega
        have e9 : (n == 9) = false := by simpa using h9
        have e14 : (n == 14) = false := by simpa using h14
        have e15 : (n == 15) = true := by simpa using h15
        have HT := Lib.hid ht
        have q1 : (p.i / 2 ^ n.toNat % 2 == 0) = false := by
          have h0 : (p.i / 2 ^ n.toNat % 2 == 1) = true := hbi
          have h2 := Int.emod_two_eq (p.i / 2 ^ n.toNat)
          rcases h2 with h2 | h2 <;> rw [h2] at h0 ⊢ <;> first | rfl | cases h0
        have HX9 := Lib.hid h9; have HX14 := Lib.hid h14; have HX15 := Lib.hid h15
        clear hbi ht h9 h14 h15
        have ht0 : p.s = 1 := HT.out
        go_enter Tryd.func14, Tryd.ntmps14
        go_wp2_with (first | (refine wpList_box rfl 25 _ rfl _ rfl ?_; intro w1 hb hk hs; clear hs; have hb : Blk w1 w.heap.size 25 (pc p) := hb) | (refine wpList_al rfl rfl ?_; intro w2 hz hk2 hs2; clear hs2; have hb2 := hb.nob hk2; have hK2 := hk.nobt hk2; have hne : w.heap.size ≠ w1.heap.size := (by have := hb.lt; omega); have hge : w.heap.size ≤ w1.heap.size := hk.size; clear hb hk hk2; generalize w1.heap.size = gr at *; obtain ⟨c0, c4, c5, c6, c7⟩ := cells hb2))
        refine (HS.out _).mono ?_; rintro e w' ⟨rfl, rfl⟩
        go_wp2_with (first | (refine wpList_sf rfl (.tmp 58) _ rfl w.heap.size 4 p { p with pe := wo p.pe 14 } _ rfl rfl hb2 ⟨rfl, rfl⟩ ?_; intro w3 hb3 k3 s3; clear s3; have hz3 := hz.keep k3 (fun e => hne e.symm); have hK3 := hK2.trans k3 (fun b hb e => by have h3 : b = w.heap.size := e; omega); clear hb2 hz hK2 k3 c0 c4 c5 c6 c7; obtain ⟨c0, c4, c5, c6, c7⟩ := cells hb3; try dsimp only at c0 c4 c5 c6 c7) | (refine wpList_ld rfl (.tmp 2) rfl w.heap.size { p with pe := wo p.pe 14 } rfl HL.out hb3 ?_) | (refine wpList_st rfl (.tmp 4) _ rfl gr { p with pe := wo p.pe 14 } noP rfl rfl HL.out rfl hz3 ?_; intro w9 hz9 k9 s9; clear s9))
        have hbb : b = true := by rw [← HB.out, e9, e14]; rfl
        subst hbb
        have hq : rz p n true = { p with pe := wo p.pe 14 } := by
          rw [rz, if_neg HX14.out, if_pos HX15.out]
          try simp only [Bool.false_eq_true, if_false, if_true, HRP.out]
          first | done | rfl | rw [HT.out]
        rw [hq]
        (try simp only [Exit.inBlock, Exit.then])
        refine bodyPost_ret (v := .tuple #[pv ({ p with pe := wo p.pe 14 }), .bool true]) (results_pair rfl _ _ gr ({ p with pe := wo p.pe 14 }) HL.out rfl hz9 _ rfl) rfl ?_
        exact ⟨rfl, hK3.trans k9 (fun b hb e => by have h3 : b = gr := e; omega)⟩
      by_cases h9 : n = 9
      · have h14 : ¬ n = 14 := by omega
        have h15 : ¬ n = 15 := by omega
        have e9 : (n == 9) = true := by simpa using h9
        have e14 : (n == 14) = false := by simpa using h14
        have e15 : (n == 15) = false := by simpa using h15
        have HT := Lib.hid ht
        have q1 : (p.i / 2 ^ n.toNat % 2 == 0) = false := by
          have h0 : (p.i / 2 ^ n.toNat % 2 == 1) = true := hbi
          have h2 := Int.emod_two_eq (p.i / 2 ^ n.toNat)
          rcases h2 with h2 | h2 <;> rw [h2] at h0 ⊢ <;> first | rfl | cases h0
        have HX9 := Lib.hid h9; have HX14 := Lib.hid h14; have HX15 := Lib.hid h15
        clear hbi ht h9 h14 h15
        have ht0 : p.s = 1 := HT.out
        go_enter Tryd.func14, Tryd.ntmps14
        go_wp2_with (first | (refine wpList_box rfl 25 _ rfl _ rfl ?_; intro w1 hb hk hs; clear hs; have hb : Blk w1 w.heap.size 25 (pc p) := hb) | (refine wpList_al rfl rfl ?_; intro w2 hz hk2 hs2; clear hs2; have hb2 := hb.nob hk2; have hK2 := hk.nobt hk2; have hne : w.heap.size ≠ w1.heap.size := (by have := hb.lt; omega); have hge : w.heap.size ≤ w1.heap.size := hk.size; clear hb hk hk2; generalize w1.heap.size = gr at *; obtain ⟨c0, c4, c5, c6, c7⟩ := cells hb2))
        refine (HS.out _).mono ?_; rintro e w' ⟨rfl, rfl⟩
        have f4 := hb2.frozen 4
        go_upto_region 4 with fail
        go_region
        have hb3 : Blk (w2.setCell ⟨w.heap.size, 4, none⟩ (.int .i64 rp)).drew w.heap.size 25 (pc { p with pe := rp }) := (hb2.setCell 4 _).drew
        have hz3 : Blk (w2.setCell ⟨w.heap.size, 4, none⟩ (.int .i64 rp)).drew gr 25 (pc noP) := (hz.far (p := ⟨w.heap.size, 4, none⟩) (Ne.symm hne) _).drew
        have hK3 : Keep Nob w (w2.setCell ⟨w.heap.size, 4, none⟩ (.int .i64 rp)).drew := (hK2.setCell ⟨w.heap.size, 4, none⟩ _ (fun h => absurd h (Nat.lt_irrefl _))).drew
        generalize (w2.setCell ⟨w.heap.size, 4, none⟩ (.int .i64 rp)).drew = w3 at *
        clear hb2 hz hK2 c0 c4 c5 c6 c7 f4
        obtain ⟨c0, c4, c5, c6, c7⟩ := cells hb3
        dsimp only at c0 c4 c5 c6 c7
        go_wp2_with (first | (refine wpList_ld rfl (.tmp 2) rfl w.heap.size { p with pe := rp } rfl HL.out hb3 ?_) | (refine wpList_st rfl (.tmp 4) _ rfl gr { p with pe := rp } noP rfl rfl HL.out rfl hz3 ?_; intro w9 hz9 k9 s9; clear s9))
        have hbb : b = false := by rw [← HB.out, e9, e14]; rfl
        subst hbb
        have hq : rz p n false = { p with pe := rp } := by
          rw [rz, if_neg HX14.out, if_neg HX15.out, if_pos HX9.out]
          try simp only [Bool.false_eq_true, if_false, if_true, HRP.out]
          first | done | rfl | rw [HT.out]
        rw [hq]
        (try simp only [Exit.inBlock, Exit.then])
        refine bodyPost_ret (v := .tuple #[pv ({ p with pe := rp }), .bool true]) (results_pair rfl _ _ gr ({ p with pe := rp }) HL.out rfl hz9 _ rfl) rfl ?_
        exact ⟨rfl, hK3.trans k9 (fun b hb e => by have h3 : b = gr := e; omega)⟩
      have e9 : (n == 9) = false := by simpa using h9
      have e14 : (n == 14) = false := by simpa using h14
      have e15 : (n == 15) = false := by simpa using h15
      have HT := Lib.hid ht
      have q1 : (p.i / 2 ^ n.toNat % 2 == 0) = false := by
        have h0 : (p.i / 2 ^ n.toNat % 2 == 1) = true := hbi
        have h2 := Int.emod_two_eq (p.i / 2 ^ n.toNat)
        rcases h2 with h2 | h2 <;> rw [h2] at h0 ⊢ <;> first | rfl | cases h0
      have HX9 := Lib.hid h9; have HX14 := Lib.hid h14; have HX15 := Lib.hid h15
      clear hbi ht h9 h14 h15
      have ht0 : p.s = 1 := HT.out
      go_enter Tryd.func14, Tryd.ntmps14
      go_wp2_with (first | (refine wpList_box rfl 25 _ rfl _ rfl ?_; intro w1 hb hk hs; clear hs; have hb : Blk w1 w.heap.size 25 (pc p) := hb) | (refine wpList_al rfl rfl ?_; intro w2 hz hk2 hs2; clear hs2; have hb2 := hb.nob hk2; have hK2 := hk.nobt hk2; have hne : w.heap.size ≠ w1.heap.size := (by have := hb.lt; omega); have hge : w.heap.size ≤ w1.heap.size := hk.size; clear hb hk hk2; generalize w1.heap.size = gr at *; obtain ⟨c0, c4, c5, c6, c7⟩ := cells hb2))
      refine (HS.out _).mono ?_; rintro e w' ⟨rfl, rfl⟩
      go_wp2_with (first | (refine wpList_ld rfl (.tmp 2) rfl w.heap.size p rfl HL.out hb2 ?_) | (refine wpList_st rfl (.tmp 4) _ rfl gr p noP rfl rfl HL.out rfl hz ?_; intro w9 hz9 k9 s9; clear s9))
      have hbb : b = true := by rw [← HB.out, e9, e14]; rfl
      subst hbb
      have hq : rz p n true = p := by
        rw [rz, if_neg HX14.out, if_neg HX15.out, if_neg HX9.out]
        try simp only [Bool.false_eq_true, if_false, if_true, HRP.out]
        first | done | rfl | rw [HT.out]
      rw [hq]
      (try simp only [Exit.inBlock, Exit.then])
      refine bodyPost_ret (v := .tuple #[pv p, .bool true]) (results_pair rfl _ _ gr p HL.out rfl hz9 _ rfl) rfl ?_
      exact ⟨rfl, hK2.trans k9 (fun b hb e => by have h3 : b = gr := e; omega)⟩
    | false =>
      by_cases h14 : n = 14
      · have h9 : ¬ n = 9 := by omega
        have h15 : ¬ n = 15 := by omega
        have e9 : (n == 9) = false := by simpa using h9
        have e14 : (n == 14) = true := by simpa using h14
        have e15 : (n == 15) = false := by simpa using h15
        have HT := Lib.hid ht
        have q1 : (p.i / 2 ^ n.toNat % 2 == 0) = true := by
          have h0 : (p.i / 2 ^ n.toNat % 2 == 1) = false := hbi
          have h2 := Int.emod_two_eq (p.i / 2 ^ n.toNat)
          rcases h2 with h2 | h2 <;> rw [h2] at h0 ⊢ <;> first | rfl | cases h0
        have HX9 := Lib.hid h9; have HX14 := Lib.hid h14; have HX15 := Lib.hid h15
        clear hbi ht h9 h14 h15
        have ht0 : p.s = 1 := HT.out
        go_enter Tryd.func14, Tryd.ntmps14
        go_wp2_with (first | (refine wpList_box rfl 25 _ rfl _ rfl ?_; intro w1 hb hk hs; clear hs; have hb : Blk w1 w.heap.size 25 (pc p) := hb) | (refine wpList_al rfl rfl ?_; intro w2 hz hk2 hs2; clear hs2; have hb2 := hb.nob hk2; have hK2 := hk.nobt hk2; have hne : w.heap.size ≠ w1.heap.size := (by have := hb.lt; omega); have hge : w.heap.size ≤ w1.heap.size := hk.size; clear hb hk hk2; generalize w1.heap.size = gr at *; obtain ⟨c0, c4, c5, c6, c7⟩ := cells hb2))
        refine (HS.out _).mono ?_; rintro e w' ⟨rfl, rfl⟩
        have f4 := hb2.frozen 4
        go_upto_region 4 with fail
        go_region
        have hb3 : Blk (w2.setCell ⟨w.heap.size, 4, none⟩ (.int .i64 rp)).drew w.heap.size 25 (pc { p with pe := rp }) := (hb2.setCell 4 _).drew
        have hz3 : Blk (w2.setCell ⟨w.heap.size, 4, none⟩ (.int .i64 rp)).drew gr 25 (pc noP) := (hz.far (p := ⟨w.heap.size, 4, none⟩) (Ne.symm hne) _).drew
        have hK3 : Keep Nob w (w2.setCell ⟨w.heap.size, 4, none⟩ (.int .i64 rp)).drew := (hK2.setCell ⟨w.heap.size, 4, none⟩ _ (fun h => absurd h (Nat.lt_irrefl _))).drew
        generalize (w2.setCell ⟨w.heap.size, 4, none⟩ (.int .i64 rp)).drew = w3 at *
        clear hb2 hz hK2 c0 c4 c5 c6 c7 f4
        obtain ⟨c0, c4, c5, c6, c7⟩ := cells hb3
        dsimp only at c0 c4 c5 c6 c7
        go_wp2_with (first | (refine wpList_sf rfl (.tmp 64) _ rfl w.heap.size 4 { p with pe := rp } { p with pe := wo rp 15 } _ rfl rfl hb3 ⟨rfl, rfl⟩ ?_; intro w4 hb4 k4 s4; clear s4; have hz4 := hz3.keep k4 (fun e => hne e.symm); have hK4 := hK3.trans k4 (fun b hb e => by have h3 : b = w.heap.size := e; omega); clear hb3 hz3 hK3 k4 c0 c4 c5 c6 c7; obtain ⟨c0, c4, c5, c6, c7⟩ := cells hb4; try dsimp only at c0 c4 c5 c6 c7) | (refine wpList_ld rfl (.tmp 2) rfl w.heap.size { p with pe := wo rp 15 } rfl HL.out hb4 ?_) | (refine wpList_st rfl (.tmp 4) _ rfl gr { p with pe := wo rp 15 } noP rfl rfl HL.out rfl hz4 ?_; intro w9 hz9 k9 s9; clear s9))
        have hbb : b = false := by rw [← HB.out]; rfl
        subst hbb
        have hq : rz p n false = { p with pe := wo rp 15 } := by
          rw [rz, if_pos HX14.out]
          try simp only [Bool.false_eq_true, if_false, if_true, HRP.out]
          first | done | rfl | rw [HT.out]
        rw [hq]
        (try simp only [Exit.inBlock, Exit.then])
        refine bodyPost_ret (v := .tuple #[pv ({ p with pe := wo rp 15 }), .bool true]) (results_pair rfl _ _ gr ({ p with pe := wo rp 15 }) HL.out rfl hz9 _ rfl) rfl ?_
        exact ⟨rfl, hK4.trans k9 (fun b hb e => by have h3 : b = gr := e; omega)⟩
      by_cases h15 : n = 15
      · have h9 : ¬ n = 9 := by omega
        have h14 : ¬ n = 14 := by omega
        have e9 : (n == 9) = false := by simpa using h9
        have e14 : (n == 14) = false := by simpa using h14
        have e15 : (n == 15) = true := by simpa using h15
        have HT := Lib.hid ht
        have q1 : (p.i / 2 ^ n.toNat % 2 == 0) = true := by
          have h0 : (p.i / 2 ^ n.toNat % 2 == 1) = false := hbi
          have h2 := Int.emod_two_eq (p.i / 2 ^ n.toNat)
          rcases h2 with h2 | h2 <;> rw [h2] at h0 ⊢ <;> first | rfl | cases h0
        have HX9 := Lib.hid h9; have HX14 := Lib.hid h14; have HX15 := Lib.hid h15
        clear hbi ht h9 h14 h15
        have ht0 : p.s = 1 := HT.out
        go_enter Tryd.func14, Tryd.ntmps14
        go_wp2_with (first | (refine wpList_box rfl 25 _ rfl _ rfl ?_; intro w1 hb hk hs; clear hs; have hb : Blk w1 w.heap.size 25 (pc p) := hb) | (refine wpList_al rfl rfl ?_; intro w2 hz hk2 hs2; clear hs2; have hb2 := hb.nob hk2; have hK2 := hk.nobt hk2; have hne : w.heap.size ≠ w1.heap.size := (by have := hb.lt; omega); have hge : w.heap.size ≤ w1.heap.size := hk.size; clear hb hk hk2; generalize w1.heap.size = gr at *; obtain ⟨c0, c4, c5, c6, c7⟩ := cells hb2))
        refine (HS.out _).mono ?_; rintro e w' ⟨rfl, rfl⟩
        have f4 := hb2.frozen 4
        go_upto_region 4 with fail
        go_region
        have hb3 : Blk (w2.setCell ⟨w.heap.size, 4, none⟩ (.int .i64 rp)).drew w.heap.size 25 (pc { p with pe := rp }) := (hb2.setCell 4 _).drew
        have hz3 : Blk (w2.setCell ⟨w.heap.size, 4, none⟩ (.int .i64 rp)).drew gr 25 (pc noP) := (hz.far (p := ⟨w.heap.size, 4, none⟩) (Ne.symm hne) _).drew
        have hK3 : Keep Nob w (w2.setCell ⟨w.heap.size, 4, none⟩ (.int .i64 rp)).drew := (hK2.setCell ⟨w.heap.size, 4, none⟩ _ (fun h => absurd h (Nat.lt_irrefl _))).drew
        generalize (w2.setCell ⟨w.heap.size, 4, none⟩ (.int .i64 rp)).drew = w3 at *
        clear hb2 hz hK2 c0 c4 c5 c6 c7 f4
        obtain ⟨c0, c4, c5, c6, c7⟩ := cells hb3
        dsimp only at c0 c4 c5 c6 c7
        go_wp2_with (first | (refine wpList_sf rfl (.tmp 58) _ rfl w.heap.size 4 { p with pe := rp } { p with pe := wo rp 14 } _ rfl rfl hb3 ⟨rfl, rfl⟩ ?_; intro w4 hb4 k4 s4; clear s4; have hz4 := hz3.keep k4 (fun e => hne e.symm); have hK4 := hK3.trans k4 (fun b hb e => by have h3 : b = w.heap.size := e; omega); clear hb3 hz3 hK3 k4 c0 c4 c5 c6 c7; obtain ⟨c0, c4, c5, c6, c7⟩ := cells hb4; try dsimp only at c0 c4 c5 c6 c7) | (refine wpList_ld rfl (.tmp 2) rfl w.heap.size { p with pe := wo rp 14 } rfl HL.out hb4 ?_) | (refine wpList_st rfl (.tmp 4) _ rfl gr { p with pe := wo rp 14 } noP rfl rfl HL.out rfl hz4 ?_; intro w9 hz9 k9 s9; clear s9))
        have hbb : b = false := by rw [← HB.out]; rfl
        subst hbb
        have hq : rz p n false = { p with pe := wo rp 14 } := by
          rw [rz, if_neg HX14.out, if_pos HX15.out]
          try simp only [Bool.false_eq_true, if_false, if_true, HRP.out]
          first | done | rfl | rw [HT.out]
        rw [hq]
        (try simp only [Exit.inBlock, Exit.then])
        refine bodyPost_ret (v := .tuple #[pv ({ p with pe := wo rp 14 }), .bool true]) (results_pair rfl _ _ gr ({ p with pe := wo rp 14 }) HL.out rfl hz9 _ rfl) rfl ?_
        exact ⟨rfl, hK4.trans k9 (fun b hb e => by have h3 : b = gr := e; omega)⟩
      by_cases h9 : n = 9
      · have h14 : ¬ n = 14 := by omega
        have h15 : ¬ n = 15 := by omega
        have e9 : (n == 9) = true := by simpa using h9
        have e14 : (n == 14) = false := by simpa using h14
        have e15 : (n == 15) = false := by simpa using h15
        have HT := Lib.hid ht
        have q1 : (p.i / 2 ^ n.toNat % 2 == 0) = true := by
          have h0 : (p.i / 2 ^ n.toNat % 2 == 1) = false := hbi
          have h2 := Int.emod_two_eq (p.i / 2 ^ n.toNat)
          rcases h2 with h2 | h2 <;> rw [h2] at h0 ⊢ <;> first | rfl | cases h0
        have HX9 := Lib.hid h9; have HX14 := Lib.hid h14; have HX15 := Lib.hid h15
        clear hbi ht h9 h14 h15
        have ht0 : p.s = 1 := HT.out
        go_enter Tryd.func14, Tryd.ntmps14
        go_wp2_with (first | (refine wpList_box rfl 25 _ rfl _ rfl ?_; intro w1 hb hk hs; clear hs; have hb : Blk w1 w.heap.size 25 (pc p) := hb) | (refine wpList_al rfl rfl ?_; intro w2 hz hk2 hs2; clear hs2; have hb2 := hb.nob hk2; have hK2 := hk.nobt hk2; have hne : w.heap.size ≠ w1.heap.size := (by have := hb.lt; omega); have hge : w.heap.size ≤ w1.heap.size := hk.size; clear hb hk hk2; generalize w1.heap.size = gr at *; obtain ⟨c0, c4, c5, c6, c7⟩ := cells hb2))
        refine (HS.out _).mono ?_; rintro e w' ⟨rfl, rfl⟩
        have f4 := hb2.frozen 4
        go_upto_region 4 with fail
        go_region
        have hb3 : Blk (w2.setCell ⟨w.heap.size, 4, none⟩ (.int .i64 rp)).drew w.heap.size 25 (pc { p with pe := rp }) := (hb2.setCell 4 _).drew
        have hz3 : Blk (w2.setCell ⟨w.heap.size, 4, none⟩ (.int .i64 rp)).drew gr 25 (pc noP) := (hz.far (p := ⟨w.heap.size, 4, none⟩) (Ne.symm hne) _).drew
        have hK3 : Keep Nob w (w2.setCell ⟨w.heap.size, 4, none⟩ (.int .i64 rp)).drew := (hK2.setCell ⟨w.heap.size, 4, none⟩ _ (fun h => absurd h (Nat.lt_irrefl _))).drew
        generalize (w2.setCell ⟨w.heap.size, 4, none⟩ (.int .i64 rp)).drew = w3 at *
        clear hb2 hz hK2 c0 c4 c5 c6 c7 f4
        obtain ⟨c0, c4, c5, c6, c7⟩ := cells hb3
        dsimp only at c0 c4 c5 c6 c7
        go_wp2_with (first | (refine wpList_ld rfl (.tmp 2) rfl w.heap.size { p with pe := rp } rfl HL.out hb3 ?_) | (refine wpList_st rfl (.tmp 4) _ rfl gr { p with pe := rp } noP rfl rfl HL.out rfl hz3 ?_; intro w9 hz9 k9 s9; clear s9))
        have hbb : b = false := by rw [← HB.out]; rfl
        subst hbb
        have hq : rz p n false = { p with pe := rp } := by
          rw [rz, if_neg HX14.out, if_neg HX15.out, if_pos HX9.out]
          try simp only [Bool.false_eq_true, if_false, if_true, HRP.out]
          first | done | rfl | rw [HT.out]
        rw [hq]
        (try simp only [Exit.inBlock, Exit.then])
        refine bodyPost_ret (v := .tuple #[pv ({ p with pe := rp }), .bool true]) (results_pair rfl _ _ gr ({ p with pe := rp }) HL.out rfl hz9 _ rfl) rfl ?_
        exact ⟨rfl, hK3.trans k9 (fun b hb e => by have h3 : b = gr := e; omega)⟩
      have e9 : (n == 9) = false := by simpa using h9
      have e14 : (n == 14) = false := by simpa using h14
      have e15 : (n == 15) = false := by simpa using h15
      have HT := Lib.hid ht
      have q1 : (p.i / 2 ^ n.toNat % 2 == 0) = true := by
        have h0 : (p.i / 2 ^ n.toNat % 2 == 1) = false := hbi
        have h2 := Int.emod_two_eq (p.i / 2 ^ n.toNat)
        rcases h2 with h2 | h2 <;> rw [h2] at h0 ⊢ <;> first | rfl | cases h0
      have HX9 := Lib.hid h9; have HX14 := Lib.hid h14; have HX15 := Lib.hid h15
      clear hbi ht h9 h14 h15
      have ht0 : p.s = 1 := HT.out
      go_enter Tryd.func14, Tryd.ntmps14
      go_wp2_with (first | (refine wpList_box rfl 25 _ rfl _ rfl ?_; intro w1 hb hk hs; clear hs; have hb : Blk w1 w.heap.size 25 (pc p) := hb) | (refine wpList_al rfl rfl ?_; intro w2 hz hk2 hs2; clear hs2; have hb2 := hb.nob hk2; have hK2 := hk.nobt hk2; have hne : w.heap.size ≠ w1.heap.size := (by have := hb.lt; omega); have hge : w.heap.size ≤ w1.heap.size := hk.size; clear hb hk hk2; generalize w1.heap.size = gr at *; obtain ⟨c0, c4, c5, c6, c7⟩ := cells hb2))
      refine (HS.out _).mono ?_; rintro e w' ⟨rfl, rfl⟩
      have f4 := hb2.frozen 4
      go_upto_region 4 with fail
      go_region
      have hb3 : Blk (w2.setCell ⟨w.heap.size, 4, none⟩ (.int .i64 rp)).drew w.heap.size 25 (pc { p with pe := rp }) := (hb2.setCell 4 _).drew
      have hz3 : Blk (w2.setCell ⟨w.heap.size, 4, none⟩ (.int .i64 rp)).drew gr 25 (pc noP) := (hz.far (p := ⟨w.heap.size, 4, none⟩) (Ne.symm hne) _).drew
      have hK3 : Keep Nob w (w2.setCell ⟨w.heap.size, 4, none⟩ (.int .i64 rp)).drew := (hK2.setCell ⟨w.heap.size, 4, none⟩ _ (fun h => absurd h (Nat.lt_irrefl _))).drew
      generalize (w2.setCell ⟨w.heap.size, 4, none⟩ (.int .i64 rp)).drew = w3 at *
      clear hb2 hz hK2 c0 c4 c5 c6 c7 f4
      obtain ⟨c0, c4, c5, c6, c7⟩ := cells hb3
      dsimp only at c0 c4 c5 c6 c7
      go_wp2_with (first | (refine wpList_ld rfl (.tmp 2) rfl w.heap.size { p with pe := rp } rfl HL.out hb3 ?_) | (refine wpList_st rfl (.tmp 4) _ rfl gr { p with pe := rp } noP rfl rfl HL.out rfl hz3 ?_; intro w9 hz9 k9 s9; clear s9))
      have hbb : b = false := by rw [← HB.out]; rfl
      subst hbb
      have hq : rz p n false = { p with pe := rp } := by
        rw [rz, if_neg HX14.out, if_neg HX15.out, if_neg HX9.out]
        try simp only [Bool.false_eq_true, if_false, if_true, HRP.out]
        first | done | rfl | rw [HT.out]
      rw [hq]
      (try simp only [Exit.inBlock, Exit.then])
      refine bodyPost_ret (v := .tuple #[pv ({ p with pe := rp }), .bool true]) (results_pair rfl _ _ gr ({ p with pe := rp }) HL.out rfl hz9 _ rfl) rfl ?_
      exact ⟨rfl, hK3.trans k9 (fun b hb e => by have h3 : b = gr := e; omega)⟩
  · cases bi with
    | true =>
      by_cases h14 : n = 14
      · have h9 : ¬ n = 9 := by omega
        have h15 : ¬ n = 15 := by omega
        have e9 : (n == 9) = false := by simpa using h9
        have e14 : (n == 14) = true := by simpa using h14
        have e15 : (n == 15) = false := by simpa using h15
        have HT := Lib.hid ht
        have q1 : (p.i / 2 ^ n.toNat % 2 == 0) = false := by
          have h0 : (p.i / 2 ^ n.toNat % 2 == 1) = true := hbi
          have h2 := Int.emod_two_eq (p.i / 2 ^ n.toNat)
          rcases h2 with h2 | h2 <;> rw [h2] at h0 ⊢ <;> first | rfl | cases h0
        have HX9 := Lib.hid h9; have HX14 := Lib.hid h14; have HX15 := Lib.hid h15
        clear hbi ht h9 h14 h15
        have ht0 : p.s = 3 := HT.out
        go_enter Tryd.func14, Tryd.ntmps14
        go_wp2_with (first | (refine wpList_box rfl 25 _ rfl _ rfl ?_; intro w1 hb hk hs; clear hs; have hb : Blk w1 w.heap.size 25 (pc p) := hb) | (refine wpList_al rfl rfl ?_; intro w2 hz hk2 hs2; clear hs2; have hb2 := hb.nob hk2; have hK2 := hk.nobt hk2; have hne : w.heap.size ≠ w1.heap.size := (by have := hb.lt; omega); have hge : w.heap.size ≤ w1.heap.size := hk.size; clear hb hk hk2; generalize w1.heap.size = gr at *; obtain ⟨c0, c4, c5, c6, c7⟩ := cells hb2))
        refine (HS.out _).mono ?_; rintro e w' ⟨rfl, rfl⟩
        have f4 := hb2.frozen 4
        go_upto_region 4 with fail
        go_region
        have hb3 : Blk (w2.setCell ⟨w.heap.size, 4, none⟩ (.int .i64 rp)).drew w.heap.size 25 (pc { p with pe := rp }) := (hb2.setCell 4 _).drew
        have hz3 : Blk (w2.setCell ⟨w.heap.size, 4, none⟩ (.int .i64 rp)).drew gr 25 (pc noP) := (hz.far (p := ⟨w.heap.size, 4, none⟩) (Ne.symm hne) _).drew
        have hK3 : Keep Nob w (w2.setCell ⟨w.heap.size, 4, none⟩ (.int .i64 rp)).drew := (hK2.setCell ⟨w.heap.size, 4, none⟩ _ (fun h => absurd h (Nat.lt_irrefl _))).drew
        generalize (w2.setCell ⟨w.heap.size, 4, none⟩ (.int .i64 rp)).drew = w3 at *
        clear hb2 hz hK2 c0 c4 c5 c6 c7 f4
        obtain ⟨c0, c4, c5, c6, c7⟩ := cells hb3
        dsimp only at c0 c4 c5 c6 c7
        go_wp2_with (first | (refine wpList_sf rfl (.tmp 64) _ rfl w.heap.size 4 { p with pe := rp } { p with pe := wo rp 15 } _ rfl rfl hb3 ⟨rfl, rfl⟩ ?_; intro w4 hb4 k4 s4; clear s4; have hz4 := hz3.keep k4 (fun e => hne e.symm); have hK4 := hK3.trans k4 (fun b hb e => by have h3 : b = w.heap.size := e; omega); clear hb3 hz3 hK3 k4 c0 c4 c5 c6 c7; obtain ⟨c0, c4, c5, c6, c7⟩ := cells hb4; try dsimp only at c0 c4 c5 c6 c7) | (refine wpList_ld rfl (.tmp 2) rfl w.heap.size { p with pe := wo rp 15 } rfl HL.out hb4 ?_) | (refine wpList_st rfl (.tmp 4) _ rfl gr { p with pe := wo rp 15 } noP rfl rfl HL.out rfl hz4 ?_; intro w9 hz9 k9 s9; clear s9))
        have hbb : b = false := by rw [← HB.out, e9, e14]; rfl
        subst hbb
        have hq : rz p n false = { p with pe := wo rp 15 } := by
          rw [rz, if_pos HX14.out]
          try simp only [Bool.false_eq_true, if_false, if_true, HRP.out]
          first | done | rfl | rw [HT.out]
        rw [hq]
        (try simp only [Exit.inBlock, Exit.then])
        refine bodyPost_ret (v := .tuple #[pv ({ p with pe := wo rp 15 }), .bool true]) (results_pair rfl _ _ gr ({ p with pe := wo rp 15 }) HL.out rfl hz9 _ rfl) rfl ?_
        exact ⟨rfl, hK4.trans k9 (fun b hb e => by have h3 : b = gr := e; omega)⟩
      by_cases h15 : n = 15
      · have h9 : ¬ n = 9 := by omega
        have h14 : ¬ n = 14 := by omega
        have e9 : (n == 9) = false := by simpa using h9
        have e14 : (n == 14) = false := by simpa using h14
        have e15 : (n == 15) = true := by simpa using h15
        have HT := Lib.hid ht
        have q1 : (p.i / 2 ^ n.toNat % 2 == 0) = false := by
          have h0 : (p.i / 2 ^ n.toNat % 2 == 1) = true := hbi
          have h2 := Int.emod_two_eq (p.i / 2 ^ n.toNat)
          rcases h2 with h2 | h2 <;> rw [h2] at h0 ⊢ <;> first | rfl | cases h0
        have HX9 := Lib.hid h9; have HX14 := Lib.hid h14; have HX15 := Lib.hid h15
        clear hbi ht h9 h14 h15
        have ht0 : p.s = 3 := HT.out
        go_enter Tryd.func14, Tryd.ntmps14
        go_wp2_with (first | (refine wpList_box rfl 25 _ rfl _ rfl ?_; intro w1 hb hk hs; clear hs; have hb : Blk w1 w.heap.size 25 (pc p) := hb) | (refine wpList_al rfl rfl ?_; intro w2 hz hk2 hs2; clear hs2; have hb2 := hb.nob hk2; have hK2 := hk.nobt hk2; have hne : w.heap.size ≠ w1.heap.size := (by have := hb.lt; omega); have hge : w.heap.size ≤ w1.heap.size := hk.size; clear hb hk hk2; generalize w1.heap.size = gr at *; obtain ⟨c0, c4, c5, c6, c7⟩ := cells hb2))
        refine (HS.out _).mono ?_; rintro e w' ⟨rfl, rfl⟩
        go_wp2_with (first | (refine wpList_sf rfl (.tmp 51) _ rfl w.heap.size 0 p { p with s := 1 } _ rfl rfl hb2 ⟨rfl, rfl⟩ ?_; intro w3 hb3 k3 s3; clear s3; have hz3 := hz.keep k3 (fun e => hne e.symm); have hK3 := hK2.trans k3 (fun b hb e => by have h3 : b = w.heap.size := e; omega); clear hb2 hz hK2 k3 c0 c4 c5 c6 c7; obtain ⟨c0, c4, c5, c6, c7⟩ := cells hb3; try dsimp only at c0 c4 c5 c6 c7) | (refine wpList_sf rfl (.tmp 58) _ rfl w.heap.size 4 { p with s := 1 } { p with s := 1, pe := wo p.pe 14 } _ rfl rfl hb3 ⟨rfl, rfl⟩ ?_; intro w4 hb4 k4 s4; clear s4; have hz4 := hz3.keep k4 (fun e => hne e.symm); have hK4 := hK3.trans k4 (fun b hb e => by have h3 : b = w.heap.size := e; omega); clear hb3 hz3 hK3 k4 c0 c4 c5 c6 c7; obtain ⟨c0, c4, c5, c6, c7⟩ := cells hb4; try dsimp only at c0 c4 c5 c6 c7) | (refine wpList_ld rfl (.tmp 2) rfl w.heap.size { p with s := 1, pe := wo p.pe 14 } rfl HL.out hb4 ?_) | (refine wpList_st rfl (.tmp 4) _ rfl gr { p with s := 1, pe := wo p.pe 14 } noP rfl rfl HL.out rfl hz4 ?_; intro w9 hz9 k9 s9; clear s9))
        have hbb : b = true := by rw [← HB.out, e9, e14]; rfl
        subst hbb
        have hq : rz p n true = { p with s := 1, pe := wo p.pe 14 } := by
          rw [rz, if_neg HX14.out, if_pos HX15.out]
          try simp only [Bool.false_eq_true, if_false, if_true, HRP.out]
          first | done | rfl | rw [HT.out]
        rw [hq]
        (try simp only [Exit.inBlock, Exit.then])
        refine bodyPost_ret (v := .tuple #[pv ({ p with s := 1, pe := wo p.pe 14 }), .bool true]) (results_pair rfl _ _ gr ({ p with s := 1, pe := wo p.pe 14 }) HL.out rfl hz9 _ rfl) rfl ?_
        exact ⟨rfl, hK4.trans k9 (fun b hb e => by have h3 : b = gr := e; omega)⟩
      by_cases h9 : n = 9
      · have h14 : ¬ n = 14 := by omega
        have h15 : ¬ n = 15 := by omega
        have e9 : (n == 9) = true := by simpa using h9
        have e14 : (n == 14) = false := by simpa using h14
        have e15 : (n == 15) = false := by simpa using h15
        have HT := Lib.hid ht
        have q1 : (p.i / 2 ^ n.toNat % 2 == 0) = false := by
          have h0 : (p.i / 2 ^ n.toNat % 2 == 1) = true := hbi
          have h2 := Int.emod_two_eq (p.i / 2 ^ n.toNat)
          rcases h2 with h2 | h2 <;> rw [h2] at h0 ⊢ <;> first | rfl | cases h0
        have HX9 := Lib.hid h9; have HX14 := Lib.hid h14; have HX15 := Lib.hid h15
        clear hbi ht h9 h14 h15
        have ht0 : p.s = 3 := HT.out
        go_enter Tryd.func14, Tryd.ntmps14
        go_wp2_with (first | (refine wpList_box rfl 25 _ rfl _ rfl ?_; intro w1 hb hk hs; clear hs; have hb : Blk w1 w.heap.size 25 (pc p) := hb) | (refine wpList_al rfl rfl ?_; intro w2 hz hk2 hs2; clear hs2; have hb2 := hb.nob hk2; have hK2 := hk.nobt hk2; have hne : w.heap.size ≠ w1.heap.size := (by have := hb.lt; omega); have hge : w.heap.size ≤ w1.heap.size := hk.size; clear hb hk hk2; generalize w1.heap.size = gr at *; obtain ⟨c0, c4, c5, c6, c7⟩ := cells hb2))
        refine (HS.out _).mono ?_; rintro e w' ⟨rfl, rfl⟩
        have f4 := hb2.frozen 4
        go_upto_region 4 with fail
        go_region
        have hb3 : Blk (w2.setCell ⟨w.heap.size, 4, none⟩ (.int .i64 rp)).drew w.heap.size 25 (pc { p with pe := rp }) := (hb2.setCell 4 _).drew
        have hz3 : Blk (w2.setCell ⟨w.heap.size, 4, none⟩ (.int .i64 rp)).drew gr 25 (pc noP) := (hz.far (p := ⟨w.heap.size, 4, none⟩) (Ne.symm hne) _).drew
        have hK3 : Keep Nob w (w2.setCell ⟨w.heap.size, 4, none⟩ (.int .i64 rp)).drew := (hK2.setCell ⟨w.heap.size, 4, none⟩ _ (fun h => absurd h (Nat.lt_irrefl _))).drew
        generalize (w2.setCell ⟨w.heap.size, 4, none⟩ (.int .i64 rp)).drew = w3 at *
        clear hb2 hz hK2 c0 c4 c5 c6 c7 f4
        obtain ⟨c0, c4, c5, c6, c7⟩ := cells hb3
        dsimp only at c0 c4 c5 c6 c7
        go_wp2_with (first | (refine wpList_sf rfl (.tmp 51) _ rfl w.heap.size 0 { p with pe := rp } { p with pe := rp, s := 1 } _ rfl rfl hb3 ⟨rfl, rfl⟩ ?_; intro w4 hb4 k4 s4; clear s4; have hz4 := hz3.keep k4 (fun e => hne e.symm); have hK4 := hK3.trans k4 (fun b hb e => by have h3 : b = w.heap.size := e; omega); clear hb3 hz3 hK3 k4 c0 c4 c5 c6 c7; obtain ⟨c0, c4, c5, c6, c7⟩ := cells hb4; try dsimp only at c0 c4 c5 c6 c7) | (refine wpList_ld rfl (.tmp 2) rfl w.heap.size { p with pe := rp, s := 1 } rfl HL.out hb4 ?_) | (refine wpList_st rfl (.tmp 4) _ rfl gr { p with pe := rp, s := 1 } noP rfl rfl HL.out rfl hz4 ?_; intro w9 hz9 k9 s9; clear s9))
        have hbb : b = false := by rw [← HB.out, e9, e14]; rfl
        subst hbb
        have hq : rz p n false = { p with pe := rp, s := 1 } := by
          rw [rz, if_neg HX14.out, if_neg HX15.out, if_pos HX9.out]
          try simp only [Bool.false_eq_true, if_false, if_true, HRP.out]
          first | done | rfl | rw [HT.out]
        rw [hq]
        (try simp only [Exit.inBlock, Exit.then])
        refine bodyPost_ret (v := .tuple #[pv ({ p with pe := rp, s := 1 }), .bool true]) (results_pair rfl _ _ gr ({ p with pe := rp, s := 1 }) HL.out rfl hz9 _ rfl) rfl ?_
        exact ⟨rfl, hK4.trans k9 (fun b hb e => by have h3 : b = gr := e; omega)⟩
      have e9 : (n == 9) = false := by simpa using h9
      have e14 : (n == 14) = false := by simpa using h14
      have e15 : (n == 15) = false := by simpa using h15
      have HT := Lib.hid ht
      have q1 : (p.i / 2 ^ n.toNat % 2 == 0) = false := by
        have h0 : (p.i / 2 ^ n.toNat % 2 == 1) = true := hbi
        have h2 := Int.emod_two_eq (p.i / 2 ^ n.toNat)
        rcases h2 with h2 | h2 <;> rw [h2] at h0 ⊢ <;> first | rfl | cases h0
      have HX9 := Lib.hid h9; have HX14 := Lib.hid h14; have HX15 := Lib.hid h15
      clear hbi ht h9 h14 h15
      have ht0 : p.s = 3 := HT.out
      go_enter Tryd.func14, Tryd.ntmps14
      go_wp2_with (first | (refine wpList_box rfl 25 _ rfl _ rfl ?_; intro w1 hb hk hs; clear hs; have hb : Blk w1 w.heap.size 25 (pc p) := hb) | (refine wpList_al rfl rfl ?_; intro w2 hz hk2 hs2; clear hs2; have hb2 := hb.nob hk2; have hK2 := hk.nobt hk2; have hne : w.heap.size ≠ w1.heap.size := (by have := hb.lt; omega); have hge : w.heap.size ≤ w1.heap.size := hk.size; clear hb hk hk2; generalize w1.heap.size = gr at *; obtain ⟨c0, c4, c5, c6, c7⟩ := cells hb2))
      refine (HS.out _).mono ?_; rintro e w' ⟨rfl, rfl⟩
      go_wp2_with (first | (refine wpList_ld rfl (.tmp 2) rfl w.heap.size p rfl HL.out hb2 ?_) | (refine wpList_st rfl (.tmp 4) _ rfl gr p noP rfl rfl HL.out rfl hz ?_; intro w9 hz9 k9 s9; clear s9))
      have hbb : b = true := by rw [← HB.out, e9, e14]; rfl
      subst hbb
      have hq : rz p n true = p := by
        rw [rz, if_neg HX14.out, if_neg HX15.out, if_neg HX9.out]
        try simp only [Bool.false_eq_true, if_false, if_true, HRP.out]
        first | done | rfl | rw [HT.out]
      rw [hq]
      (try simp only [Exit.inBlock, Exit.then])
      refine bodyPost_ret (v := .tuple #[pv p, .bool true]) (results_pair rfl _ _ gr p HL.out rfl hz9 _ rfl) rfl ?_
      exact ⟨rfl, hK2.trans k9 (fun b hb e => by have h3 : b = gr := e; omega)⟩
    | false =>
      by_cases h14 : n = 14
      · have h9 : ¬ n = 9 := by omega
        have h15 : ¬ n = 15 := by omega
        have e9 : (n == 9) = false := by simpa using h9
        have e14 : (n == 14) = true := by simpa using h14
        have e15 : (n == 15) = false := by simpa using h15
        have HT := Lib.hid ht
        have q1 : (p.i / 2 ^ n.toNat % 2 == 0) = true := by
          have h0 : (p.i / 2 ^ n.toNat % 2 == 1) = false := hbi
          have h2 := Int.emod_two_eq (p.i / 2 ^ n.toNat)
          rcases h2 with h2 | h2 <;> rw [h2] at h0 ⊢ <;> first | rfl | cases h0
        have HX9 := Lib.hid h9; have HX14 := Lib.hid h14; have HX15 := Lib.hid h15
        clear hbi ht h9 h14 h15
        have ht0 : p.s = 3 := HT.out
        go_enter Tryd.func14, Tryd.ntmps14
        go_wp2_with (first | (refine wpList_box rfl 25 _ rfl _ rfl ?_; intro w1 hb hk hs; clear hs; have hb : Blk w1 w.heap.size 25 (pc p) := hb) | (refine wpList_al rfl rfl ?_; intro w2 hz hk2 hs2; clear hs2; have hb2 := hb.nob hk2; have hK2 := hk.nobt hk2; have hne : w.heap.size ≠ w1.heap.size := (by have := hb.lt; omega); have hge : w.heap.size ≤ w1.heap.size := hk.size; clear hb hk hk2; generalize w1.heap.size = gr at *; obtain ⟨c0, c4, c5, c6, c7⟩ := cells hb2))
        refine (HS.out _).mono ?_; rintro e w' ⟨rfl, rfl⟩
        have f4 := hb2.frozen 4
        go_upto_region 4 with fail
        go_region
        have hb3 : Blk (w2.setCell ⟨w.heap.size, 4, none⟩ (.int .i64 rp)).drew w.heap.size 25 (pc { p with pe := rp }) := (hb2.setCell 4 _).drew
        have hz3 : Blk (w2.setCell ⟨w.heap.size, 4, none⟩ (.int .i64 rp)).drew gr 25 (pc noP) := (hz.far (p := ⟨w.heap.size, 4, none⟩) (Ne.symm hne) _).drew
        have hK3 : Keep Nob w (w2.setCell ⟨w.heap.size, 4, none⟩ (.int .i64 rp)).drew := (hK2.setCell ⟨w.heap.size, 4, none⟩ _ (fun h => absurd h (Nat.lt_irrefl _))).drew
        generalize (w2.setCell ⟨w.heap.size, 4, none⟩ (.int .i64 rp)).drew = w3 at *
        clear hb2 hz hK2 c0 c4 c5 c6 c7 f4
        obtain ⟨c0, c4, c5, c6, c7⟩ := cells hb3
        dsimp only at c0 c4 c5 c6 c7
        go_wp2_with (first | (refine wpList_sf rfl (.tmp 64) _ rfl w.heap.size 4 { p with pe := rp } { p with pe := wo rp 15 } _ rfl rfl hb3 ⟨rfl, rfl⟩ ?_; intro w4 hb4 k4 s4; clear s4; have hz4 := hz3.keep k4 (fun e => hne e.symm); have hK4 := hK3.trans k4 (fun b hb e => by have h3 : b = w.heap.size := e; omega); clear hb3 hz3 hK3 k4 c0 c4 c5 c6 c7; obtain ⟨c0, c4, c5, c6, c7⟩ := cells hb4; try dsimp only at c0 c4 c5 c6 c7) | (refine wpList_ld rfl (.tmp 2) rfl w.heap.size { p with pe := wo rp 15 } rfl HL.out hb4 ?_) | (refine wpList_st rfl (.tmp 4) _ rfl gr { p with pe := wo rp 15 } noP rfl rfl HL.out rfl hz4 ?_; intro w9 hz9 k9 s9; clear s9))
        have hbb : b = false := by rw [← HB.out]; rfl
        subst hbb
        have hq : rz p n false = { p with pe := wo rp 15 } := by
          rw [rz, if_pos HX14.out]
          try simp only [Bool.false_eq_true, if_false, if_true, HRP.out]
          first | done | rfl | rw [HT.out]
        rw [hq]
        (try simp only [Exit.inBlock, Exit.then])
        refine bodyPost_ret (v := .tuple #[pv ({ p with pe := wo rp 15 }), .bool true]) (results_pair rfl _ _ gr ({ p with pe := wo rp 15 }) HL.out rfl hz9 _ rfl) rfl ?_
        exact ⟨rfl, hK4.trans k9 (fun b hb e => by have h3 : b = gr := e; omega)⟩
      by_cases h15 : n = 15
      · have h9 : ¬ n = 9 := by omega
        have h14 : ¬ n = 14 := by omega
        have e9 : (n == 9) = false := by simpa using h9
        have e14 : (n == 14) = false := by simpa using h14
        have e15 : (n == 15) = true := by simpa using h15
        have HT := Lib.hid ht
        have q1 : (p.i / 2 ^ n.toNat % 2 == 0) = true := by
          have h0 : (p.i / 2 ^ n.toNat % 2 == 1) = false := hbi
          have h2 := Int.emod_two_eq (p.i / 2 ^ n.toNat)
          rcases h2 with h2 | h2 <;> rw [h2] at h0 ⊢ <;> first | rfl | cases h0
        have HX9 := Lib.hid h9; have HX14 := Lib.hid h14; have HX15 := Lib.hid h15
        clear hbi ht h9 h14 h15
        have ht0 : p.s = 3 := HT.out
        go_enter Tryd.func14, Tryd.ntmps14
        go_wp2_with (first | (refine wpList_box rfl 25 _ rfl _ rfl ?_; intro w1 hb hk hs; clear hs; have hb : Blk w1 w.heap.size 25 (pc p) := hb) | (refine wpList_al rfl rfl ?_; intro w2 hz hk2 hs2; clear hs2; have hb2 := hb.nob hk2; have hK2 := hk.nobt hk2; have hne : w.heap.size ≠ w1.heap.size := (by have := hb.lt; omega); have hge : w.heap.size ≤ w1.heap.size := hk.size; clear hb hk hk2; generalize w1.heap.size = gr at *; obtain ⟨c0, c4, c5, c6, c7⟩ := cells hb2))
        refine (HS.out _).mono ?_; rintro e w' ⟨rfl, rfl⟩
        have f4 := hb2.frozen 4
        go_upto_region 4 with fail
        go_region
        have hb3 : Blk (w2.setCell ⟨w.heap.size, 4, none⟩ (.int .i64 rp)).drew w.heap.size 25 (pc { p with pe := rp }) := (hb2.setCell 4 _).drew
        have hz3 : Blk (w2.setCell ⟨w.heap.size, 4, none⟩ (.int .i64 rp)).drew gr 25 (pc noP) := (hz.far (p := ⟨w.heap.size, 4, none⟩) (Ne.symm hne) _).drew
        have hK3 : Keep Nob w (w2.setCell ⟨w.heap.size, 4, none⟩ (.int .i64 rp)).drew := (hK2.setCell ⟨w.heap.size, 4, none⟩ _ (fun h => absurd h (Nat.lt_irrefl _))).drew
        generalize (w2.setCell ⟨w.heap.size, 4, none⟩ (.int .i64 rp)).drew = w3 at *
        clear hb2 hz hK2 c0 c4 c5 c6 c7 f4
        obtain ⟨c0, c4, c5, c6, c7⟩ := cells hb3
        dsimp only at c0 c4 c5 c6 c7
        go_wp2_with (first | (refine wpList_sf rfl (.tmp 51) _ rfl w.heap.size 0 { p with pe := rp } { p with pe := rp, s := 1 } _ rfl rfl hb3 ⟨rfl, rfl⟩ ?_; intro w4 hb4 k4 s4; clear s4; have hz4 := hz3.keep k4 (fun e => hne e.symm); have hK4 := hK3.trans k4 (fun b hb e => by have h3 : b = w.heap.size := e; omega); clear hb3 hz3 hK3 k4 c0 c4 c5 c6 c7; obtain ⟨c0, c4, c5, c6, c7⟩ := cells hb4; try dsimp only at c0 c4 c5 c6 c7) | (refine wpList_sf rfl (.tmp 58) _ rfl w.heap.size 4 { p with pe := rp, s := 1 } { p with pe := wo rp 14, s := 1 } _ rfl rfl hb4 ⟨rfl, rfl⟩ ?_; intro w5 hb5 k5 s5; clear s5; have hz5 := hz4.keep k5 (fun e => hne e.symm); have hK5 := hK4.trans k5 (fun b hb e => by have h3 : b = w.heap.size := e; omega); clear hb4 hz4 hK4 k5 c0 c4 c5 c6 c7; obtain ⟨c0, c4, c5, c6, c7⟩ := cells hb5; try dsimp only at c0 c4 c5 c6 c7) | (refine wpList_ld rfl (.tmp 2) rfl w.heap.size { p with pe := wo rp 14, s := 1 } rfl HL.out hb5 ?_) | (refine wpList_st rfl (.tmp 4) _ rfl gr { p with pe := wo rp 14, s := 1 } noP rfl rfl HL.out rfl hz5 ?_; intro w9 hz9 k9 s9; clear s9))
        have hbb : b = false := by rw [← HB.out]; rfl
        subst hbb
        have hq : rz p n false = { p with pe := wo rp 14, s := 1 } := by
          rw [rz, if_neg HX14.out, if_pos HX15.out]
          try simp only [Bool.false_eq_true, if_false, if_true, HRP.out]
          first | done | rfl | rw [HT.out]
        rw [hq]
        (try simp only [Exit.inBlock, Exit.then])
        refine bodyPost_ret (v := .tuple #[pv ({ p with pe := wo rp 14, s := 1 }), .bool true]) (results_pair rfl _ _ gr ({ p with pe := wo rp 14, s := 1 }) HL.out rfl hz9 _ rfl) rfl ?_
        exact ⟨rfl, hK5.trans k9 (fun b hb e => by have h3 : b = gr := e; omega)⟩
      by_cases h9 : n = 9
      · have h14 : ¬ n = 14 := by omega
        have h15 : ¬ n = 15 := by omega
        have e9 : (n == 9) = true := by simpa using h9
        have e14 : (n == 14) = false := by simpa using h14
        have e15 : (n == 15) = false := by simpa using h15
        have HT := Lib.hid ht
        have q1 : (p.i / 2 ^ n.toNat % 2 == 0) = true := by
          have h0 : (p.i / 2 ^ n.toNat % 2 == 1) = false := hbi
          have h2 := Int.emod_two_eq (p.i / 2 ^ n.toNat)
          rcases h2 with h2 | h2 <;> rw [h2] at h0 ⊢ <;> first | rfl | cases h0
        have HX9 := Lib.hid h9; have HX14 := Lib.hid h14; have HX15 := Lib.hid h15
        clear hbi ht h9 h14 h15
        have ht0 : p.s = 3 := HT.out
        go_enter Tryd.func14, Tryd.ntmps14
        go_wp2_with (first | (refine wpList_box rfl 25 _ rfl _ rfl ?_; intro w1 hb hk hs; clear hs; have hb : Blk w1 w.heap.size 25 (pc p) := hb) | (refine wpList_al rfl rfl ?_; intro w2 hz hk2 hs2; clear hs2; have hb2 := hb.nob hk2; have hK2 := hk.nobt hk2; have hne : w.heap.size ≠ w1.heap.size := (by have := hb.lt; omega); have hge : w.heap.size ≤ w1.heap.size := hk.size; clear hb hk hk2; generalize w1.heap.size = gr at *; obtain ⟨c0, c4, c5, c6, c7⟩ := cells hb2))
        refine (HS.out _).mono ?_; rintro e w' ⟨rfl, rfl⟩
        have f4 := hb2.frozen 4
        go_upto_region 4 with fail
        go_region
        have hb3 : Blk (w2.setCell ⟨w.heap.size, 4, none⟩ (.int .i64 rp)).drew w.heap.size 25 (pc { p with pe := rp }) := (hb2.setCell 4 _).drew
        have hz3 : Blk (w2.setCell ⟨w.heap.size, 4, none⟩ (.int .i64 rp)).drew gr 25 (pc noP) := (hz.far (p := ⟨w.heap.size, 4, none⟩) (Ne.symm hne) _).drew
        have hK3 : Keep Nob w (w2.setCell ⟨w.heap.size, 4, none⟩ (.int .i64 rp)).drew := (hK2.setCell ⟨w.heap.size, 4, none⟩ _ (fun h => absurd h (Nat.lt_irrefl _))).drew
        generalize (w2.setCell ⟨w.heap.size, 4, none⟩ (.int .i64 rp)).drew = w3 at *
        clear hb2 hz hK2 c0 c4 c5 c6 c7 f4
        obtain ⟨c0, c4, c5, c6, c7⟩ := cells hb3
        dsimp only at c0 c4 c5 c6 c7
        go_wp2_with (first | (refine wpList_sf rfl (.tmp 51) _ rfl w.heap.size 0 { p with pe := rp } { p with pe := rp, s := 1 } _ rfl rfl hb3 ⟨rfl, rfl⟩ ?_; intro w4 hb4 k4 s4; clear s4; have hz4 := hz3.keep k4 (fun e => hne e.symm); have hK4 := hK3.trans k4 (fun b hb e => by have h3 : b = w.heap.size := e; omega); clear hb3 hz3 hK3 k4 c0 c4 c5 c6 c7; obtain ⟨c0, c4, c5, c6, c7⟩ := cells hb4; try dsimp only at c0 c4 c5 c6 c7) | (refine wpList_ld rfl (.tmp 2) rfl w.heap.size { p with pe := rp, s := 1 } rfl HL.out hb4 ?_) | (refine wpList_st rfl (.tmp 4) _ rfl gr { p with pe := rp, s := 1 } noP rfl rfl HL.out rfl hz4 ?_; intro w9 hz9 k9 s9; clear s9))
        have hbb : b = false := by rw [← HB.out]; rfl
        subst hbb
        have hq : rz p n false = { p with pe := rp, s := 1 } := by
          rw [rz, if_neg HX14.out, if_neg HX15.out, if_pos HX9.out]
          try simp only [Bool.false_eq_true, if_false, if_true, HRP.out]
          first | done | rfl | rw [HT.out]
        rw [hq]
        (try simp only [Exit.inBlock, Exit.then])
        refine bodyPost_ret (v := .tuple #[pv ({ p with pe := rp, s := 1 }), .bool true]) (results_pair rfl _ _ gr ({ p with pe := rp, s := 1 }) HL.out rfl hz9 _ rfl) rfl ?_
        exact ⟨rfl, hK4.trans k9 (fun b hb e => by have h3 : b = gr := e; omega)⟩
      have e9 : (n == 9) = false := by simpa using h9
      have e14 : (n == 14) = false := by simpa using h14
      have e15 : (n == 15) = false := by simpa using h15
      have HT := Lib.hid ht
      have q1 : (p.i / 2 ^ n.toNat % 2 == 0) = true := by
        have h0 : (p.i / 2 ^ n.toNat % 2 == 1) = false := hbi
        have h2 := Int.emod_two_eq (p.i / 2 ^ n.toNat)
        rcases h2 with h2 | h2 <;> rw [h2] at h0 ⊢ <;> first | rfl | cases h0
      have HX9 := Lib.hid h9; have HX14 := Lib.hid h14; have HX15 := Lib.hid h15
      clear hbi ht h9 h14 h15
      have ht0 : p.s = 3 := HT.out
      go_enter Tryd.func14, Tryd.ntmps14
      go_wp2_with (first | (refine wpList_box rfl 25 _ rfl _ rfl ?_; intro w1 hb hk hs; clear hs; have hb : Blk w1 w.heap.size 25 (pc p) := hb) | (refine wpList_al rfl rfl ?_; intro w2 hz hk2 hs2; clear hs2; have hb2 := hb.nob hk2; have hK2 := hk.nobt hk2; have hne : w.heap.size ≠ w1.heap.size := (by have := hb.lt; omega); have hge : w.heap.size ≤ w1.heap.size := hk.size; clear hb hk hk2; generalize w1.heap.size = gr at *; obtain ⟨c0, c4, c5, c6, c7⟩ := cells hb2))
      refine (HS.out _).mono ?_; rintro e w' ⟨rfl, rfl⟩
      have f4 := hb2.frozen 4
      go_upto_region 4 with fail
      go_region
      have hb3 : Blk (w2.setCell ⟨w.heap.size, 4, none⟩ (.int .i64 rp)).drew w.heap.size 25 (pc { p with pe := rp }) := (hb2.setCell 4 _).drew
      have hz3 : Blk (w2.setCell ⟨w.heap.size, 4, none⟩ (.int .i64 rp)).drew gr 25 (pc noP) := (hz.far (p := ⟨w.heap.size, 4, none⟩) (Ne.symm hne) _).drew
      have hK3 : Keep Nob w (w2.setCell ⟨w.heap.size, 4, none⟩ (.int .i64 rp)).drew := (hK2.setCell ⟨w.heap.size, 4, none⟩ _ (fun h => absurd h (Nat.lt_irrefl _))).drew
      generalize (w2.setCell ⟨w.heap.size, 4, none⟩ (.int .i64 rp)).drew = w3 at *
      clear hb2 hz hK2 c0 c4 c5 c6 c7 f4
      obtain ⟨c0, c4, c5, c6, c7⟩ := cells hb3
      dsimp only at c0 c4 c5 c6 c7
      go_wp2_with (first | (refine wpList_ld rfl (.tmp 2) rfl w.heap.size { p with pe := rp } rfl HL.out hb3 ?_) | (refine wpList_st rfl (.tmp 4) _ rfl gr { p with pe := rp } noP rfl rfl HL.out rfl hz3 ?_; intro w9 hz9 k9 s9; clear s9))
      have hbb : b = false := by rw [← HB.out]; rfl
      subst hbb
      have hq : rz p n false = { p with pe := rp } := by
        rw [rz, if_neg HX14.out, if_neg HX15.out, if_neg HX9.out]
        try simp only [Bool.false_eq_true, if_false, if_true, HRP.out]
        first | done | rfl | rw [HT.out]
      rw [hq]
      (try simp only [Exit.inBlock, Exit.then])
      refine bodyPost_ret (v := .tuple #[pv ({ p with pe := rp }), .bool true]) (results_pair rfl _ _ gr ({ p with pe := rp }) HL.out rfl hz9 _ rfl) rfl ?_
      exact ⟨rfl, hK3.trans k9 (fun b hb e => by have h3 : b = gr := e; omega)⟩
theorem rraise_is (p : Ps) (hl : p.f.length = 8) (n : Int) (w : World) (P' : Ps) (ok : Bool) (hP : raise p n = (P', ok)) :
    Calls Tryd.prog 14 #[pv p, .int .i64 n] w fun e w' => e = .returned (.tuple #[pv P', .bool ok]) ∧ Keep Nob w w' := by
  cases h : sign n && told p with
  | false =>
    rw [raise_no h] at hP
    cases hP
    exact rraise_bad p hl n w h
  | true =>
    rw [Bool.and_eq_true] at h
    rw [raise_rz h.1 h.2 rfl] at hP
    cases hP
    have hn := sign_in h.1
    refine rraise_good p hl n hn w ?_ _ _ rfl ?_
    · have := h.2
      unfold told at this
      simpa using this
    · rw [bt_soft _ (by omega) hn.2]

end Go.Proofs.YtaeiigniakjbpaaDoor.Sg
