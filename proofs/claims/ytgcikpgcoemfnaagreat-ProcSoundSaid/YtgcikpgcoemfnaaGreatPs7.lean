import Derived.Deep.RegionHeld3
import Derived.Test.YtgcikpgcoemfnaaGreatPs6
set_option maxRecDepth 100000
set_option maxHeartbeats 8000000
set_option linter.unusedVariables false
set_option linter.unusedSimpArgs false
namespace Go.Proofs.YtgcikpgcoemfnaaGreat.Sg
open Go.RowKit
def rz (p : Ps) (n : Int) (b : Bool) : Ps :=
 if n = 14 then { p with pe := wo (if b then p.pe else wi p.pe n) 15 } else if n = 15 then { p with pe := wo (if b then p.pe else wi p.pe n) 14, s := 1 } else if n = 9 then { p with pe := if b then p.pe else wi p.pe n, s := 1 } else { p with pe := if b then p.pe else wi p.pe n }
theorem raise_rz {p : Ps} {n : Int} (hn : sign n = true) (ht : cW p = true) {b : Bool} (hb : bt (bits .andNot .i64 p.i 16896) n = b) : cJ p n = (rz p n b, true) := by
 unfold cJ rz rpe
 rw [hn, ht, hb, Bool.true_and, if_pos rfl]
theorem raise_no {p : Ps} {n : Int} (h : (sign n && cW p) = false) : cJ p n = (p, false) := by
 unfold cJ
 rw [h, if_neg (by simp)]
theorem raise_bad (p : Ps) (hl : p.f.length = 8) (n : Int) (w : World) (h : (sign n && cW p) = false) :
  Calls Tryz.prog 69 #[pv p, .int .i64 n] w fun e w' => e = .returned (.tuple #[pv p, .bool false]) ∧ Keep Nob w w' := by
 have hS := fun w => issig_is n w
 unfold pv
 have HL := aa hl
 have HS := aa hS
 clear hl hS
 cases hn : sign n with
 | false =>
  rw [hn] at HS
  clear h hn
  go_enter Tryz.func69, Tryz.ntmps69
  go_wp2_with (first | (refine af rfl 37 _ rfl _ rfl ?_; intro w1 hb hk hs; clear hs; have hb : Blk w1 w.heap.size 37 (pc p) := hb) | (refine wpList_al rfl rfl ?_; intro w2 hz hk2 hs2; clear hs2; have hb2 := hb.nob hk2; have hK2 := hk.nobt hk2; have hne : w.heap.size ≠ w1.heap.size := (by have := hb.lt; omega); have hge : w.heap.size ≤ w1.heap.size := hk.size; clear hb hk hk2; generalize w1.heap.size = gr at *; obtain ⟨c0, c4, c5, c6, c7⟩ := cells hb2))
  refine (HS.out _).mono ?_; rintro e w' ⟨rfl, rfl⟩
  go_wp2_with (first | (refine wpList_ld rfl (.tmp 2) rfl w.heap.size p rfl HL.out hb2 ?_) | (refine wpList_st rfl (.tmp 4) _ rfl gr p noP rfl rfl HL.out rfl hz ?_; intro w9 hz9 k9 s9; clear s9))
  (try simp only [Exit.inBlock, Exit.then])
  refine bodyPost_ret (v := .tuple #[pv p, .bool false]) (results_pair rfl _ _ gr _ HL.out rfl hz9 _ rfl) rfl ?_
  exact ⟨rfl, hK2.trans k9 (fun b hb e => by have h3 : b = gr := e; omega)⟩
 | true =>
  rw [hn] at HS h
  have h : cW p = false := h
  unfold cW at h
  rw [Bool.or_eq_false_iff] at h
  have h1 : (p.s != 1) = true := by simpa using h.1
  have h3 : (p.s != 3) = true := by simpa using h.2
  clear h hn
  go_enter Tryz.func69, Tryz.ntmps69
  go_wp2_with (first | (refine af rfl 37 _ rfl _ rfl ?_; intro w1 hb hk hs; clear hs; have hb : Blk w1 w.heap.size 37 (pc p) := hb) | (refine wpList_al rfl rfl ?_; intro w2 hz hk2 hs2; clear hs2; have hb2 := hb.nob hk2; have hK2 := hk.nobt hk2; have hne : w.heap.size ≠ w1.heap.size := (by have := hb.lt; omega); have hge : w.heap.size ≤ w1.heap.size := hk.size; clear hb hk hk2; generalize w1.heap.size = gr at *; obtain ⟨c0, c4, c5, c6, c7⟩ := cells hb2))
  refine (HS.out _).mono ?_; rintro e w' ⟨rfl, rfl⟩
  go_wp2_with (first | (refine wpList_ld rfl (.tmp 2) rfl w.heap.size p rfl HL.out hb2 ?_) | (refine wpList_st rfl (.tmp 4) _ rfl gr p noP rfl rfl HL.out rfl hz ?_; intro w9 hz9 k9 s9; clear s9))
  (try simp only [Exit.inBlock, Exit.then])
  refine bodyPost_ret (v := .tuple #[pv p, .bool false]) (results_pair rfl _ _ gr _ HL.out rfl hz9 _ rfl) rfl ?_
  exact ⟨rfl, hK2.trans k9 (fun b hb e => by have h3 : b = gr := e; omega)⟩
theorem raise_good (p : Ps) (hl : p.f.length = 8) (n : Int) (hn : 1 ≤ n ∧ n ≤ 15) (w : World) (ht : p.s = 1 ∨ p.s = 3) (b : Bool) (hb : bt (bits .andNot .i64 p.i 16896) n = b) :
  Calls Tryz.prog 69 #[pv p, .int .i64 n] w fun e w' => e = .returned (.tuple #[pv (rz p n b), .bool true]) ∧ Keep Nob w w' := by
 have hS := fun w => issig_is n w
 have hsn : sign n = true := decide_eq_true (by omega)
 rw [hsn] at hS
 have hH := fun w => dW (bits .andNot .i64 p.i 16896) n (by omega) hn.2 w b hb
 have hW := fun w => with_is p.pe n (by omega) hn.2 w _ rfl
 have hO := fun x k (h : 0 ≤ k ∧ k ≤ 15) w => without_is x k h.1 h.2 w _ rfl
 unfold pv
 have HL := aa hl
 have HS := aa hS
 have HH := aa hH
 have HW := aa hW
 have HO := aa hO
 clear hl hS hH hW hO hb hsn
 rcases ht with ht | ht
 ·cases b with
  | true =>
   by_cases h14 : n = 14
   ·subst h14
    go_enter Tryz.func69, Tryz.ntmps69
    go_wp2_with (first | (refine af rfl 37 _ rfl _ rfl ?_; intro w1 hb hk hs; clear hs; have hb : Blk w1 w.heap.size 37 (pc p) := hb) | (refine wpList_al rfl rfl ?_; intro w2 hz hk2 hs2; clear hs2; have hb2 := hb.nob hk2; have hK2 := hk.nobt hk2; have hne : w.heap.size ≠ w1.heap.size := (by have := hb.lt; omega); have hge : w.heap.size ≤ w1.heap.size := hk.size; clear hb hk hk2; generalize w1.heap.size = gr at *; obtain ⟨c0, c4, c5, c6, c7⟩ := cells hb2))
    refine (HS.out _).mono ?_; rintro e w' ⟨rfl, rfl⟩
    go_wp2_with fail
    refine (HH.out _).mono ?_; rintro e w' ⟨rfl, rfl⟩
    go_wp2_with fail
    refine (HO.out (p.pe) 15 ⟨by decide, by decide⟩ _).mono ?_; rintro e w' ⟨rfl, rfl⟩
    go_wp2_with (first | (refine ay rfl (.tmp 37) _ rfl w.heap.size 4 p { p with pe := wo (p.pe) 15 } _ rfl rfl hb2 ⟨rfl, rfl⟩ ?_; intro w3 hb3 k3 s3; clear s3; have hz3 := hz.keep k3 (fun e => hne e.symm); have hK3 := hK2.trans k3 (fun b hb e => by have h3 : b = w.heap.size := e; omega); clear hb2 hz hK2 k3 c0 c4 c5 c6 c7; obtain ⟨c0, c4, c5, c6, c7⟩ := cells hb3) | (refine wpList_ld rfl (.tmp 2) rfl w.heap.size { p with pe := wo (p.pe) 15 } rfl HL.out hb3 ?_) | (refine wpList_st rfl (.tmp 4) _ rfl gr { p with pe := wo (p.pe) 15 } noP rfl rfl HL.out rfl hz3 ?_; intro w9 hz9 k9 s9; clear s9))
    have hq : rz p 14 true = { p with pe := wo (p.pe) 15 } := by rw [rz, if_pos rfl]; rfl
    rw [hq]
    (try simp only [Exit.inBlock, Exit.then])
    refine bodyPost_ret (v := .tuple #[pv ({ p with pe := wo (p.pe) 15 }), .bool true]) (results_pair rfl _ _ gr ({ p with pe := wo (p.pe) 15 }) HL.out rfl hz9 _ rfl) rfl ?_
    exact ⟨rfl, hK3.trans k9 (fun b hb e => by have h3 : b = gr := e; omega)⟩
   by_cases h15 : n = 15
   ·subst h15
    go_enter Tryz.func69, Tryz.ntmps69
    go_wp2_with (first | (refine af rfl 37 _ rfl _ rfl ?_; intro w1 hb hk hs; clear hs; have hb : Blk w1 w.heap.size 37 (pc p) := hb) | (refine wpList_al rfl rfl ?_; intro w2 hz hk2 hs2; clear hs2; have hb2 := hb.nob hk2; have hK2 := hk.nobt hk2; have hne : w.heap.size ≠ w1.heap.size := (by have := hb.lt; omega); have hge : w.heap.size ≤ w1.heap.size := hk.size; clear hb hk hk2; generalize w1.heap.size = gr at *; obtain ⟨c0, c4, c5, c6, c7⟩ := cells hb2))
    refine (HS.out _).mono ?_; rintro e w' ⟨rfl, rfl⟩
    go_wp2_with fail
    refine (HH.out _).mono ?_; rintro e w' ⟨rfl, rfl⟩
    go_wp2_with fail
    refine (HO.out (p.pe) 14 ⟨by decide, by decide⟩ _).mono ?_; rintro e w' ⟨rfl, rfl⟩
    go_wp2_with (first | (refine ay rfl (.tmp 43) _ rfl w.heap.size 4 p { p with pe := wo (p.pe) 14 } _ rfl rfl hb2 ⟨rfl, rfl⟩ ?_; intro w3 hb3 k3 s3; clear s3; have hz3 := hz.keep k3 (fun e => hne e.symm); have hK3 := hK2.trans k3 (fun b hb e => by have h3 : b = w.heap.size := e; omega); clear hb2 hz hK2 k3 c0 c4 c5 c6 c7; obtain ⟨c0, c4, c5, c6, c7⟩ := cells hb3) | (refine ay rfl (.tmp 44) _ rfl w.heap.size 0 { p with pe := wo (p.pe) 14 } { p with pe := wo (p.pe) 14, s := 1 } _ rfl rfl hb3 ⟨rfl, rfl⟩ ?_; intro w4 hb4 k4 s4; clear s4; have hz4 := hz3.keep k4 (fun e => hne e.symm); have hK4 := hK3.trans k4 (fun b hb e => by have h3 : b = w.heap.size := e; omega); clear hb3 hz3 hK3 k4 c0 c4 c5 c6 c7; obtain ⟨c0, c4, c5, c6, c7⟩ := cells hb4) | (refine wpList_ld rfl (.tmp 2) rfl w.heap.size { p with pe := wo (p.pe) 14, s := 1 } rfl HL.out hb4 ?_) | (refine wpList_st rfl (.tmp 4) _ rfl gr { p with pe := wo (p.pe) 14, s := 1 } noP rfl rfl HL.out rfl hz4 ?_; intro w9 hz9 k9 s9; clear s9))
    have hq : rz p 15 true = { p with pe := wo (p.pe) 14, s := 1 } := by rw [rz, if_neg (by decide), if_pos rfl]; rfl
    rw [hq]
    (try simp only [Exit.inBlock, Exit.then])
    refine bodyPost_ret (v := .tuple #[pv ({ p with pe := wo (p.pe) 14, s := 1 }), .bool true]) (results_pair rfl _ _ gr ({ p with pe := wo (p.pe) 14, s := 1 }) HL.out rfl hz9 _ rfl) rfl ?_
    exact ⟨rfl, hK4.trans k9 (fun b hb e => by have h3 : b = gr := e; omega)⟩
   by_cases h9 : n = 9
   ·subst h9
    go_enter Tryz.func69, Tryz.ntmps69
    go_wp2_with (first | (refine af rfl 37 _ rfl _ rfl ?_; intro w1 hb hk hs; clear hs; have hb : Blk w1 w.heap.size 37 (pc p) := hb) | (refine wpList_al rfl rfl ?_; intro w2 hz hk2 hs2; clear hs2; have hb2 := hb.nob hk2; have hK2 := hk.nobt hk2; have hne : w.heap.size ≠ w1.heap.size := (by have := hb.lt; omega); have hge : w.heap.size ≤ w1.heap.size := hk.size; clear hb hk hk2; generalize w1.heap.size = gr at *; obtain ⟨c0, c4, c5, c6, c7⟩ := cells hb2))
    refine (HS.out _).mono ?_; rintro e w' ⟨rfl, rfl⟩
    go_wp2_with fail
    refine (HH.out _).mono ?_; rintro e w' ⟨rfl, rfl⟩
    go_wp2_with (first | (refine ay rfl (.tmp 47) _ rfl w.heap.size 0 p { p with s := 1 } _ rfl rfl hb2 ⟨rfl, rfl⟩ ?_; intro w3 hb3 k3 s3; clear s3; have hz3 := hz.keep k3 (fun e => hne e.symm); have hK3 := hK2.trans k3 (fun b hb e => by have h3 : b = w.heap.size := e; omega); clear hb2 hz hK2 k3 c0 c4 c5 c6 c7; obtain ⟨c0, c4, c5, c6, c7⟩ := cells hb3) | (refine wpList_ld rfl (.tmp 2) rfl w.heap.size { p with s := 1 } rfl HL.out hb3 ?_) | (refine wpList_st rfl (.tmp 4) _ rfl gr { p with s := 1 } noP rfl rfl HL.out rfl hz3 ?_; intro w9 hz9 k9 s9; clear s9))
    have hq : rz p 9 true = { p with s := 1 } := by rw [rz, if_neg (by decide), if_neg (by decide), if_pos rfl]; rfl
    rw [hq]
    (try simp only [Exit.inBlock, Exit.then])
    refine bodyPost_ret (v := .tuple #[pv ({ p with s := 1 }), .bool true]) (results_pair rfl _ _ gr ({ p with s := 1 }) HL.out rfl hz9 _ rfl) rfl ?_
    exact ⟨rfl, hK3.trans k9 (fun b hb e => by have h3 : b = gr := e; omega)⟩
   go_enter Tryz.func69, Tryz.ntmps69
   go_wp2_with (first | (refine af rfl 37 _ rfl _ rfl ?_; intro w1 hb hk hs; clear hs; have hb : Blk w1 w.heap.size 37 (pc p) := hb) | (refine wpList_al rfl rfl ?_; intro w2 hz hk2 hs2; clear hs2; have hb2 := hb.nob hk2; have hK2 := hk.nobt hk2; have hne : w.heap.size ≠ w1.heap.size := (by have := hb.lt; omega); have hge : w.heap.size ≤ w1.heap.size := hk.size; clear hb hk hk2; generalize w1.heap.size = gr at *; obtain ⟨c0, c4, c5, c6, c7⟩ := cells hb2))
   refine (HS.out _).mono ?_; rintro e w' ⟨rfl, rfl⟩
   go_wp2_with fail
   refine (HH.out _).mono ?_; rintro e w' ⟨rfl, rfl⟩
   go_wp2_with (first | (refine wpList_ld rfl (.tmp 2) rfl w.heap.size p rfl HL.out hb2 ?_) | (refine wpList_st rfl (.tmp 4) _ rfl gr p noP rfl rfl HL.out rfl hz ?_; intro w9 hz9 k9 s9; clear s9))
   have hq : rz p n true = p := by rw [rz, if_neg h14, if_neg h15, if_neg h9]; rfl
   rw [hq]
   (try simp only [Exit.inBlock, Exit.then])
   refine bodyPost_ret (v := .tuple #[pv p, .bool true]) (results_pair rfl _ _ gr p HL.out rfl hz9 _ rfl) rfl ?_
   exact ⟨rfl, hK2.trans k9 (fun b hb e => by have h3 : b = gr := e; omega)⟩
  | false =>
   by_cases h14 : n = 14
   ·subst h14
    go_enter Tryz.func69, Tryz.ntmps69
    go_wp2_with (first | (refine af rfl 37 _ rfl _ rfl ?_; intro w1 hb hk hs; clear hs; have hb : Blk w1 w.heap.size 37 (pc p) := hb) | (refine wpList_al rfl rfl ?_; intro w2 hz hk2 hs2; clear hs2; have hb2 := hb.nob hk2; have hK2 := hk.nobt hk2; have hne : w.heap.size ≠ w1.heap.size := (by have := hb.lt; omega); have hge : w.heap.size ≤ w1.heap.size := hk.size; clear hb hk hk2; generalize w1.heap.size = gr at *; obtain ⟨c0, c4, c5, c6, c7⟩ := cells hb2))
    refine (HS.out _).mono ?_; rintro e w' ⟨rfl, rfl⟩
    go_wp2_with fail
    refine (HH.out _).mono ?_; rintro e w' ⟨rfl, rfl⟩
    go_wp2_with fail
    refine (HW.out _).mono ?_; rintro e w' ⟨rfl, rfl⟩
    go_wp2_with (first | (refine ay rfl (.tmp 30) _ rfl w.heap.size 4 p { p with pe := wi p.pe 14 } _ rfl rfl hb2 ⟨rfl, rfl⟩ ?_; intro w3 hb3 k3 s3; clear s3; have hz3 := hz.keep k3 (fun e => hne e.symm); have hK3 := hK2.trans k3 (fun b hb e => by have h3 : b = w.heap.size := e; omega); clear hb2 hz hK2 k3 c0 c4 c5 c6 c7; obtain ⟨c0, c4, c5, c6, c7⟩ := cells hb3))
    refine (HO.out (wi p.pe 14) 15 ⟨by decide, by decide⟩ _).mono ?_; rintro e w' ⟨rfl, rfl⟩
    go_wp2_with (first | (refine ay rfl (.tmp 37) _ rfl w.heap.size 4 { p with pe := wi p.pe 14 } { p with pe := wo (wi p.pe 14) 15 } _ rfl rfl hb3 ⟨rfl, rfl⟩ ?_; intro w4 hb4 k4 s4; clear s4; have hz4 := hz3.keep k4 (fun e => hne e.symm); have hK4 := hK3.trans k4 (fun b hb e => by have h3 : b = w.heap.size := e; omega); clear hb3 hz3 hK3 k4 c0 c4 c5 c6 c7; obtain ⟨c0, c4, c5, c6, c7⟩ := cells hb4) | (refine wpList_ld rfl (.tmp 2) rfl w.heap.size { p with pe := wo (wi p.pe 14) 15 } rfl HL.out hb4 ?_) | (refine wpList_st rfl (.tmp 4) _ rfl gr { p with pe := wo (wi p.pe 14) 15 } noP rfl rfl HL.out rfl hz4 ?_; intro w9 hz9 k9 s9; clear s9))
    have hq : rz p 14 false = { p with pe := wo (wi p.pe 14) 15 } := by rw [rz, if_pos rfl]; rfl
    rw [hq]
    (try simp only [Exit.inBlock, Exit.then])
    refine bodyPost_ret (v := .tuple #[pv ({ p with pe := wo (wi p.pe 14) 15 }), .bool true]) (results_pair rfl _ _ gr ({ p with pe := wo (wi p.pe 14) 15 }) HL.out rfl hz9 _ rfl) rfl ?_
    exact ⟨rfl, hK4.trans k9 (fun b hb e => by have h3 : b = gr := e; omega)⟩
   by_cases h15 : n = 15
   ·subst h15
    go_enter Tryz.func69, Tryz.ntmps69
    go_wp2_with (first | (refine af rfl 37 _ rfl _ rfl ?_; intro w1 hb hk hs; clear hs; have hb : Blk w1 w.heap.size 37 (pc p) := hb) | (refine wpList_al rfl rfl ?_; intro w2 hz hk2 hs2; clear hs2; have hb2 := hb.nob hk2; have hK2 := hk.nobt hk2; have hne : w.heap.size ≠ w1.heap.size := (by have := hb.lt; omega); have hge : w.heap.size ≤ w1.heap.size := hk.size; clear hb hk hk2; generalize w1.heap.size = gr at *; obtain ⟨c0, c4, c5, c6, c7⟩ := cells hb2))
    refine (HS.out _).mono ?_; rintro e w' ⟨rfl, rfl⟩
    go_wp2_with fail
    refine (HH.out _).mono ?_; rintro e w' ⟨rfl, rfl⟩
    go_wp2_with fail
    refine (HW.out _).mono ?_; rintro e w' ⟨rfl, rfl⟩
    go_wp2_with (first | (refine ay rfl (.tmp 30) _ rfl w.heap.size 4 p { p with pe := wi p.pe 15 } _ rfl rfl hb2 ⟨rfl, rfl⟩ ?_; intro w3 hb3 k3 s3; clear s3; have hz3 := hz.keep k3 (fun e => hne e.symm); have hK3 := hK2.trans k3 (fun b hb e => by have h3 : b = w.heap.size := e; omega); clear hb2 hz hK2 k3 c0 c4 c5 c6 c7; obtain ⟨c0, c4, c5, c6, c7⟩ := cells hb3))
    refine (HO.out (wi p.pe 15) 14 ⟨by decide, by decide⟩ _).mono ?_; rintro e w' ⟨rfl, rfl⟩
    go_wp2_with (first | (refine ay rfl (.tmp 43) _ rfl w.heap.size 4 { p with pe := wi p.pe 15 } { p with pe := wo (wi p.pe 15) 14 } _ rfl rfl hb3 ⟨rfl, rfl⟩ ?_; intro w4 hb4 k4 s4; clear s4; have hz4 := hz3.keep k4 (fun e => hne e.symm); have hK4 := hK3.trans k4 (fun b hb e => by have h3 : b = w.heap.size := e; omega); clear hb3 hz3 hK3 k4 c0 c4 c5 c6 c7; obtain ⟨c0, c4, c5, c6, c7⟩ := cells hb4) | (refine ay rfl (.tmp 44) _ rfl w.heap.size 0 { p with pe := wo (wi p.pe 15) 14 } { p with pe := wo (wi p.pe 15) 14, s := 1 } _ rfl rfl hb4 ⟨rfl, rfl⟩ ?_; intro w5 hb5 k5 s5; clear s5; have hz5 := hz4.keep k5 (fun e => hne e.symm); have hK5 := hK4.trans k5 (fun b hb e => by have h3 : b = w.heap.size := e; omega); clear hb4 hz4 hK4 k5 c0 c4 c5 c6 c7; obtain ⟨c0, c4, c5, c6, c7⟩ := cells hb5) | (refine wpList_ld rfl (.tmp 2) rfl w.heap.size { p with pe := wo (wi p.pe 15) 14, s := 1 } rfl HL.out hb5 ?_) | (refine wpList_st rfl (.tmp 4) _ rfl gr { p with pe := wo (wi p.pe 15) 14, s := 1 } noP rfl rfl HL.out rfl hz5 ?_; intro w9 hz9 k9 s9; clear s9))
    have hq : rz p 15 false = { p with pe := wo (wi p.pe 15) 14, s := 1 } := by rw [rz, if_neg (by decide), if_pos rfl]; rfl
    rw [hq]
    (try simp only [Exit.inBlock, Exit.then])
    refine bodyPost_ret (v := .tuple #[pv ({ p with pe := wo (wi p.pe 15) 14, s := 1 }), .bool true]) (results_pair rfl _ _ gr ({ p with pe := wo (wi p.pe 15) 14, s := 1 }) HL.out rfl hz9 _ rfl) rfl ?_
    exact ⟨rfl, hK5.trans k9 (fun b hb e => by have h3 : b = gr := e; omega)⟩
   by_cases h9 : n = 9
   ·subst h9
    go_enter Tryz.func69, Tryz.ntmps69
    go_wp2_with (first | (refine af rfl 37 _ rfl _ rfl ?_; intro w1 hb hk hs; clear hs; have hb : Blk w1 w.heap.size 37 (pc p) := hb) | (refine wpList_al rfl rfl ?_; intro w2 hz hk2 hs2; clear hs2; have hb2 := hb.nob hk2; have hK2 := hk.nobt hk2; have hne : w.heap.size ≠ w1.heap.size := (by have := hb.lt; omega); have hge : w.heap.size ≤ w1.heap.size := hk.size; clear hb hk hk2; generalize w1.heap.size = gr at *; obtain ⟨c0, c4, c5, c6, c7⟩ := cells hb2))
    refine (HS.out _).mono ?_; rintro e w' ⟨rfl, rfl⟩
    go_wp2_with fail
    refine (HH.out _).mono ?_; rintro e w' ⟨rfl, rfl⟩
    go_wp2_with fail
    refine (HW.out _).mono ?_; rintro e w' ⟨rfl, rfl⟩
    go_wp2_with (first | (refine ay rfl (.tmp 30) _ rfl w.heap.size 4 p { p with pe := wi p.pe 9 } _ rfl rfl hb2 ⟨rfl, rfl⟩ ?_; intro w3 hb3 k3 s3; clear s3; have hz3 := hz.keep k3 (fun e => hne e.symm); have hK3 := hK2.trans k3 (fun b hb e => by have h3 : b = w.heap.size := e; omega); clear hb2 hz hK2 k3 c0 c4 c5 c6 c7; obtain ⟨c0, c4, c5, c6, c7⟩ := cells hb3) | (refine ay rfl (.tmp 47) _ rfl w.heap.size 0 { p with pe := wi p.pe 9 } { p with pe := wi p.pe 9, s := 1 } _ rfl rfl hb3 ⟨rfl, rfl⟩ ?_; intro w4 hb4 k4 s4; clear s4; have hz4 := hz3.keep k4 (fun e => hne e.symm); have hK4 := hK3.trans k4 (fun b hb e => by have h3 : b = w.heap.size := e; omega); clear hb3 hz3 hK3 k4 c0 c4 c5 c6 c7; obtain ⟨c0, c4, c5, c6, c7⟩ := cells hb4) | (refine wpList_ld rfl (.tmp 2) rfl w.heap.size { p with pe := wi p.pe 9, s := 1 } rfl HL.out hb4 ?_) | (refine wpList_st rfl (.tmp 4) _ rfl gr { p with pe := wi p.pe 9, s := 1 } noP rfl rfl HL.out rfl hz4 ?_; intro w9 hz9 k9 s9; clear s9))
    have hq : rz p 9 false = { p with pe := wi p.pe 9, s := 1 } := by rw [rz, if_neg (by decide), if_neg (by decide), if_pos rfl]; rfl
    rw [hq]
    (try simp only [Exit.inBlock, Exit.then])
    refine bodyPost_ret (v := .tuple #[pv ({ p with pe := wi p.pe 9, s := 1 }), .bool true]) (results_pair rfl _ _ gr ({ p with pe := wi p.pe 9, s := 1 }) HL.out rfl hz9 _ rfl) rfl ?_
    exact ⟨rfl, hK4.trans k9 (fun b hb e => by have h3 : b = gr := e; omega)⟩
   go_enter Tryz.func69, Tryz.ntmps69
   go_wp2_with (first | (refine af rfl 37 _ rfl _ rfl ?_; intro w1 hb hk hs; clear hs; have hb : Blk w1 w.heap.size 37 (pc p) := hb) | (refine wpList_al rfl rfl ?_; intro w2 hz hk2 hs2; clear hs2; have hb2 := hb.nob hk2; have hK2 := hk.nobt hk2; have hne : w.heap.size ≠ w1.heap.size := (by have := hb.lt; omega); have hge : w.heap.size ≤ w1.heap.size := hk.size; clear hb hk hk2; generalize w1.heap.size = gr at *; obtain ⟨c0, c4, c5, c6, c7⟩ := cells hb2))
   refine (HS.out _).mono ?_; rintro e w' ⟨rfl, rfl⟩
   go_wp2_with fail
   refine (HH.out _).mono ?_; rintro e w' ⟨rfl, rfl⟩
   go_wp2_with fail
   refine (HW.out _).mono ?_; rintro e w' ⟨rfl, rfl⟩
   go_wp2_with (first | (refine ay rfl (.tmp 30) _ rfl w.heap.size 4 p { p with pe := wi p.pe n } _ rfl rfl hb2 ⟨rfl, rfl⟩ ?_; intro w3 hb3 k3 s3; clear s3; have hz3 := hz.keep k3 (fun e => hne e.symm); have hK3 := hK2.trans k3 (fun b hb e => by have h3 : b = w.heap.size := e; omega); clear hb2 hz hK2 k3 c0 c4 c5 c6 c7; obtain ⟨c0, c4, c5, c6, c7⟩ := cells hb3) | (refine wpList_ld rfl (.tmp 2) rfl w.heap.size { p with pe := wi p.pe n } rfl HL.out hb3 ?_) | (refine wpList_st rfl (.tmp 4) _ rfl gr { p with pe := wi p.pe n } noP rfl rfl HL.out rfl hz3 ?_; intro w9 hz9 k9 s9; clear s9))
   have hq : rz p n false = { p with pe := wi p.pe n } := by rw [rz, if_neg h14, if_neg h15, if_neg h9]; rfl
   rw [hq]
   (try simp only [Exit.inBlock, Exit.then])
   refine bodyPost_ret (v := .tuple #[pv ({ p with pe := wi p.pe n }), .bool true]) (results_pair rfl _ _ gr ({ p with pe := wi p.pe n }) HL.out rfl hz9 _ rfl) rfl ?_
   exact ⟨rfl, hK3.trans k9 (fun b hb e => by have h3 : b = gr := e; omega)⟩
 ·cases b with
  | true =>
   by_cases h14 : n = 14
   ·subst h14
    go_enter Tryz.func69, Tryz.ntmps69
    go_wp2_with (first | (refine af rfl 37 _ rfl _ rfl ?_; intro w1 hb hk hs; clear hs; have hb : Blk w1 w.heap.size 37 (pc p) := hb) | (refine wpList_al rfl rfl ?_; intro w2 hz hk2 hs2; clear hs2; have hb2 := hb.nob hk2; have hK2 := hk.nobt hk2; have hne : w.heap.size ≠ w1.heap.size := (by have := hb.lt; omega); have hge : w.heap.size ≤ w1.heap.size := hk.size; clear hb hk hk2; generalize w1.heap.size = gr at *; obtain ⟨c0, c4, c5, c6, c7⟩ := cells hb2))
    refine (HS.out _).mono ?_; rintro e w' ⟨rfl, rfl⟩
    go_wp2_with fail
    refine (HH.out _).mono ?_; rintro e w' ⟨rfl, rfl⟩
    go_wp2_with fail
    refine (HO.out (p.pe) 15 ⟨by decide, by decide⟩ _).mono ?_; rintro e w' ⟨rfl, rfl⟩
    go_wp2_with (first | (refine ay rfl (.tmp 37) _ rfl w.heap.size 4 p { p with pe := wo (p.pe) 15 } _ rfl rfl hb2 ⟨rfl, rfl⟩ ?_; intro w3 hb3 k3 s3; clear s3; have hz3 := hz.keep k3 (fun e => hne e.symm); have hK3 := hK2.trans k3 (fun b hb e => by have h3 : b = w.heap.size := e; omega); clear hb2 hz hK2 k3 c0 c4 c5 c6 c7; obtain ⟨c0, c4, c5, c6, c7⟩ := cells hb3) | (refine wpList_ld rfl (.tmp 2) rfl w.heap.size { p with pe := wo (p.pe) 15 } rfl HL.out hb3 ?_) | (refine wpList_st rfl (.tmp 4) _ rfl gr { p with pe := wo (p.pe) 15 } noP rfl rfl HL.out rfl hz3 ?_; intro w9 hz9 k9 s9; clear s9))
    have hq : rz p 14 true = { p with pe := wo (p.pe) 15 } := by rw [rz, if_pos rfl]; rfl
    rw [hq]
    (try simp only [Exit.inBlock, Exit.then])
    refine bodyPost_ret (v := .tuple #[pv ({ p with pe := wo (p.pe) 15 }), .bool true]) (results_pair rfl _ _ gr ({ p with pe := wo (p.pe) 15 }) HL.out rfl hz9 _ rfl) rfl ?_
    exact ⟨rfl, hK3.trans k9 (fun b hb e => by have h3 : b = gr := e; omega)⟩
   by_cases h15 : n = 15
   ·subst h15
    go_enter Tryz.func69, Tryz.ntmps69
    go_wp2_with (first | (refine af rfl 37 _ rfl _ rfl ?_; intro w1 hb hk hs; clear hs; have hb : Blk w1 w.heap.size 37 (pc p) := hb) | (refine wpList_al rfl rfl ?_; intro w2 hz hk2 hs2; clear hs2; have hb2 := hb.nob hk2; have hK2 := hk.nobt hk2; have hne : w.heap.size ≠ w1.heap.size := (by have := hb.lt; omega); have hge : w.heap.size ≤ w1.heap.size := hk.size; clear hb hk hk2; generalize w1.heap.size = gr at *; obtain ⟨c0, c4, c5, c6, c7⟩ := cells hb2))
    refine (HS.out _).mono ?_; rintro e w' ⟨rfl, rfl⟩
    go_wp2_with fail
    refine (HH.out _).mono ?_; rintro e w' ⟨rfl, rfl⟩
    go_wp2_with fail
    refine (HO.out (p.pe) 14 ⟨by decide, by decide⟩ _).mono ?_; rintro e w' ⟨rfl, rfl⟩
    go_wp2_with (first | (refine ay rfl (.tmp 43) _ rfl w.heap.size 4 p { p with pe := wo (p.pe) 14 } _ rfl rfl hb2 ⟨rfl, rfl⟩ ?_; intro w3 hb3 k3 s3; clear s3; have hz3 := hz.keep k3 (fun e => hne e.symm); have hK3 := hK2.trans k3 (fun b hb e => by have h3 : b = w.heap.size := e; omega); clear hb2 hz hK2 k3 c0 c4 c5 c6 c7; obtain ⟨c0, c4, c5, c6, c7⟩ := cells hb3) | (refine ay rfl (.tmp 44) _ rfl w.heap.size 0 { p with pe := wo (p.pe) 14 } { p with pe := wo (p.pe) 14, s := 1 } _ rfl rfl hb3 ⟨rfl, rfl⟩ ?_; intro w4 hb4 k4 s4; clear s4; have hz4 := hz3.keep k4 (fun e => hne e.symm); have hK4 := hK3.trans k4 (fun b hb e => by have h3 : b = w.heap.size := e; omega); clear hb3 hz3 hK3 k4 c0 c4 c5 c6 c7; obtain ⟨c0, c4, c5, c6, c7⟩ := cells hb4) | (refine wpList_ld rfl (.tmp 2) rfl w.heap.size { p with pe := wo (p.pe) 14, s := 1 } rfl HL.out hb4 ?_) | (refine wpList_st rfl (.tmp 4) _ rfl gr { p with pe := wo (p.pe) 14, s := 1 } noP rfl rfl HL.out rfl hz4 ?_; intro w9 hz9 k9 s9; clear s9))
    have hq : rz p 15 true = { p with pe := wo (p.pe) 14, s := 1 } := by rw [rz, if_neg (by decide), if_pos rfl]; rfl
    rw [hq]
    (try simp only [Exit.inBlock, Exit.then])
    refine bodyPost_ret (v := .tuple #[pv ({ p with pe := wo (p.pe) 14, s := 1 }), .bool true]) (results_pair rfl _ _ gr ({ p with pe := wo (p.pe) 14, s := 1 }) HL.out rfl hz9 _ rfl) rfl ?_
    exact ⟨rfl, hK4.trans k9 (fun b hb e => by have h3 : b = gr := e; omega)⟩
   by_cases h9 : n = 9
   ·subst h9
    go_enter Tryz.func69, Tryz.ntmps69
    go_wp2_with (first | (refine af rfl 37 _ rfl _ rfl ?_; intro w1 hb hk hs; clear hs; have hb : Blk w1 w.heap.size 37 (pc p) := hb) | (refine wpList_al rfl rfl ?_; intro w2 hz hk2 hs2; clear hs2; have hb2 := hb.nob hk2; have hK2 := hk.nobt hk2; have hne : w.heap.size ≠ w1.heap.size := (by have := hb.lt; omega); have hge : w.heap.size ≤ w1.heap.size := hk.size; clear hb hk hk2; generalize w1.heap.size = gr at *; obtain ⟨c0, c4, c5, c6, c7⟩ := cells hb2))
    refine (HS.out _).mono ?_; rintro e w' ⟨rfl, rfl⟩
    go_wp2_with fail
    refine (HH.out _).mono ?_; rintro e w' ⟨rfl, rfl⟩
    go_wp2_with (first | (refine ay rfl (.tmp 47) _ rfl w.heap.size 0 p { p with s := 1 } _ rfl rfl hb2 ⟨rfl, rfl⟩ ?_; intro w3 hb3 k3 s3; clear s3; have hz3 := hz.keep k3 (fun e => hne e.symm); have hK3 := hK2.trans k3 (fun b hb e => by have h3 : b = w.heap.size := e; omega); clear hb2 hz hK2 k3 c0 c4 c5 c6 c7; obtain ⟨c0, c4, c5, c6, c7⟩ := cells hb3) | (refine wpList_ld rfl (.tmp 2) rfl w.heap.size { p with s := 1 } rfl HL.out hb3 ?_) | (refine wpList_st rfl (.tmp 4) _ rfl gr { p with s := 1 } noP rfl rfl HL.out rfl hz3 ?_; intro w9 hz9 k9 s9; clear s9))
    have hq : rz p 9 true = { p with s := 1 } := by rw [rz, if_neg (by decide), if_neg (by decide), if_pos rfl]; rfl
    rw [hq]
    (try simp only [Exit.inBlock, Exit.then])
    refine bodyPost_ret (v := .tuple #[pv ({ p with s := 1 }), .bool true]) (results_pair rfl _ _ gr ({ p with s := 1 }) HL.out rfl hz9 _ rfl) rfl ?_
    exact ⟨rfl, hK3.trans k9 (fun b hb e => by have h3 : b = gr := e; omega)⟩
   go_enter Tryz.func69, Tryz.ntmps69
   go_wp2_with (first | (refine af rfl 37 _ rfl _ rfl ?_; intro w1 hb hk hs; clear hs; have hb : Blk w1 w.heap.size 37 (pc p) := hb) | (refine wpList_al rfl rfl ?_; intro w2 hz hk2 hs2; clear hs2; have hb2 := hb.nob hk2; have hK2 := hk.nobt hk2; have hne : w.heap.size ≠ w1.heap.size := (by have := hb.lt; omega); have hge : w.heap.size ≤ w1.heap.size := hk.size; clear hb hk hk2; generalize w1.heap.size = gr at *; obtain ⟨c0, c4, c5, c6, c7⟩ := cells hb2))
   refine (HS.out _).mono ?_; rintro e w' ⟨rfl, rfl⟩
   go_wp2_with fail
   refine (HH.out _).mono ?_; rintro e w' ⟨rfl, rfl⟩
   go_wp2_with (first | (refine wpList_ld rfl (.tmp 2) rfl w.heap.size p rfl HL.out hb2 ?_) | (refine wpList_st rfl (.tmp 4) _ rfl gr p noP rfl rfl HL.out rfl hz ?_; intro w9 hz9 k9 s9; clear s9))
   have hq : rz p n true = p := by rw [rz, if_neg h14, if_neg h15, if_neg h9]; rfl
   rw [hq]
   (try simp only [Exit.inBlock, Exit.then])
   refine bodyPost_ret (v := .tuple #[pv p, .bool true]) (results_pair rfl _ _ gr p HL.out rfl hz9 _ rfl) rfl ?_
   exact ⟨rfl, hK2.trans k9 (fun b hb e => by have h3 : b = gr := e; omega)⟩
  | false =>
   by_cases h14 : n = 14
   ·subst h14
    go_enter Tryz.func69, Tryz.ntmps69
    go_wp2_with (first | (refine af rfl 37 _ rfl _ rfl ?_; intro w1 hb hk hs; clear hs; have hb : Blk w1 w.heap.size 37 (pc p) := hb) | (refine wpList_al rfl rfl ?_; intro w2 hz hk2 hs2; clear hs2; have hb2 := hb.nob hk2; have hK2 := hk.nobt hk2; have hne : w.heap.size ≠ w1.heap.size := (by have := hb.lt; omega); have hge : w.heap.size ≤ w1.heap.size := hk.size; clear hb hk hk2; generalize w1.heap.size = gr at *; obtain ⟨c0, c4, c5, c6, c7⟩ := cells hb2))
    refine (HS.out _).mono ?_; rintro e w' ⟨rfl, rfl⟩
    go_wp2_with fail
    refine (HH.out _).mono ?_; rintro e w' ⟨rfl, rfl⟩
    go_wp2_with fail
    refine (HW.out _).mono ?_; rintro e w' ⟨rfl, rfl⟩
    go_wp2_with (first | (refine ay rfl (.tmp 30) _ rfl w.heap.size 4 p { p with pe := wi p.pe 14 } _ rfl rfl hb2 ⟨rfl, rfl⟩ ?_; intro w3 hb3 k3 s3; clear s3; have hz3 := hz.keep k3 (fun e => hne e.symm); have hK3 := hK2.trans k3 (fun b hb e => by have h3 : b = w.heap.size := e; omega); clear hb2 hz hK2 k3 c0 c4 c5 c6 c7; obtain ⟨c0, c4, c5, c6, c7⟩ := cells hb3))
    refine (HO.out (wi p.pe 14) 15 ⟨by decide, by decide⟩ _).mono ?_; rintro e w' ⟨rfl, rfl⟩
    go_wp2_with (first | (refine ay rfl (.tmp 37) _ rfl w.heap.size 4 { p with pe := wi p.pe 14 } { p with pe := wo (wi p.pe 14) 15 } _ rfl rfl hb3 ⟨rfl, rfl⟩ ?_; intro w4 hb4 k4 s4; clear s4; have hz4 := hz3.keep k4 (fun e => hne e.symm); have hK4 := hK3.trans k4 (fun b hb e => by have h3 : b = w.heap.size := e; omega); clear hb3 hz3 hK3 k4 c0 c4 c5 c6 c7; obtain ⟨c0, c4, c5, c6, c7⟩ := cells hb4) | (refine wpList_ld rfl (.tmp 2) rfl w.heap.size { p with pe := wo (wi p.pe 14) 15 } rfl HL.out hb4 ?_) | (refine wpList_st rfl (.tmp 4) _ rfl gr { p with pe := wo (wi p.pe 14) 15 } noP rfl rfl HL.out rfl hz4 ?_; intro w9 hz9 k9 s9; clear s9))
    have hq : rz p 14 false = { p with pe := wo (wi p.pe 14) 15 } := by rw [rz, if_pos rfl]; rfl
    rw [hq]
    (try simp only [Exit.inBlock, Exit.then])
    refine bodyPost_ret (v := .tuple #[pv ({ p with pe := wo (wi p.pe 14) 15 }), .bool true]) (results_pair rfl _ _ gr ({ p with pe := wo (wi p.pe 14) 15 }) HL.out rfl hz9 _ rfl) rfl ?_
    exact ⟨rfl, hK4.trans k9 (fun b hb e => by have h3 : b = gr := e; omega)⟩
   by_cases h15 : n = 15
   ·subst h15
    go_enter Tryz.func69, Tryz.ntmps69
    go_wp2_with (first | (refine af rfl 37 _ rfl _ rfl ?_; intro w1 hb hk hs; clear hs; have hb : Blk w1 w.heap.size 37 (pc p) := hb) | (refine wpList_al rfl rfl ?_; intro w2 hz hk2 hs2; clear hs2; have hb2 := hb.nob hk2; have hK2 := hk.nobt hk2; have hne : w.heap.size ≠ w1.heap.size := (by have := hb.lt; omega); have hge : w.heap.size ≤ w1.heap.size := hk.size; clear hb hk hk2; generalize w1.heap.size = gr at *; obtain ⟨c0, c4, c5, c6, c7⟩ := cells hb2))
    refine (HS.out _).mono ?_; rintro e w' ⟨rfl, rfl⟩
    go_wp2_with fail
    refine (HH.out _).mono ?_; rintro e w' ⟨rfl, rfl⟩
    go_wp2_with fail
    refine (HW.out _).mono ?_; rintro e w' ⟨rfl, rfl⟩
    go_wp2_with (first | (refine ay rfl (.tmp 30) _ rfl w.heap.size 4 p { p with pe := wi p.pe 15 } _ rfl rfl hb2 ⟨rfl, rfl⟩ ?_; intro w3 hb3 k3 s3; clear s3; have hz3 := hz.keep k3 (fun e => hne e.symm); have hK3 := hK2.trans k3 (fun b hb e => by have h3 : b = w.heap.size := e; omega); clear hb2 hz hK2 k3 c0 c4 c5 c6 c7; obtain ⟨c0, c4, c5, c6, c7⟩ := cells hb3))
    refine (HO.out (wi p.pe 15) 14 ⟨by decide, by decide⟩ _).mono ?_; rintro e w' ⟨rfl, rfl⟩
    go_wp2_with (first | (refine ay rfl (.tmp 43) _ rfl w.heap.size 4 { p with pe := wi p.pe 15 } { p with pe := wo (wi p.pe 15) 14 } _ rfl rfl hb3 ⟨rfl, rfl⟩ ?_; intro w4 hb4 k4 s4; clear s4; have hz4 := hz3.keep k4 (fun e => hne e.symm); have hK4 := hK3.trans k4 (fun b hb e => by have h3 : b = w.heap.size := e; omega); clear hb3 hz3 hK3 k4 c0 c4 c5 c6 c7; obtain ⟨c0, c4, c5, c6, c7⟩ := cells hb4) | (refine ay rfl (.tmp 44) _ rfl w.heap.size 0 { p with pe := wo (wi p.pe 15) 14 } { p with pe := wo (wi p.pe 15) 14, s := 1 } _ rfl rfl hb4 ⟨rfl, rfl⟩ ?_; intro w5 hb5 k5 s5; clear s5; have hz5 := hz4.keep k5 (fun e => hne e.symm); have hK5 := hK4.trans k5 (fun b hb e => by have h3 : b = w.heap.size := e; omega); clear hb4 hz4 hK4 k5 c0 c4 c5 c6 c7; obtain ⟨c0, c4, c5, c6, c7⟩ := cells hb5) | (refine wpList_ld rfl (.tmp 2) rfl w.heap.size { p with pe := wo (wi p.pe 15) 14, s := 1 } rfl HL.out hb5 ?_) | (refine wpList_st rfl (.tmp 4) _ rfl gr { p with pe := wo (wi p.pe 15) 14, s := 1 } noP rfl rfl HL.out rfl hz5 ?_; intro w9 hz9 k9 s9; clear s9))
    have hq : rz p 15 false = { p with pe := wo (wi p.pe 15) 14, s := 1 } := by rw [rz, if_neg (by decide), if_pos rfl]; rfl
    rw [hq]
    (try simp only [Exit.inBlock, Exit.then])
    refine bodyPost_ret (v := .tuple #[pv ({ p with pe := wo (wi p.pe 15) 14, s := 1 }), .bool true]) (results_pair rfl _ _ gr ({ p with pe := wo (wi p.pe 15) 14, s := 1 }) HL.out rfl hz9 _ rfl) rfl ?_
    exact ⟨rfl, hK5.trans k9 (fun b hb e => by have h3 : b = gr := e; omega)⟩
   by_cases h9 : n = 9
   ·subst h9
    go_enter Tryz.func69, Tryz.ntmps69
    go_wp2_with (first | (refine af rfl 37 _ rfl _ rfl ?_; intro w1 hb hk hs; clear hs; have hb : Blk w1 w.heap.size 37 (pc p) := hb) | (refine wpList_al rfl rfl ?_; intro w2 hz hk2 hs2; clear hs2; have hb2 := hb.nob hk2; have hK2 := hk.nobt hk2; have hne : w.heap.size ≠ w1.heap.size := (by have := hb.lt; omega); have hge : w.heap.size ≤ w1.heap.size := hk.size; clear hb hk hk2; generalize w1.heap.size = gr at *; obtain ⟨c0, c4, c5, c6, c7⟩ := cells hb2))
    refine (HS.out _).mono ?_; rintro e w' ⟨rfl, rfl⟩
    go_wp2_with fail
    refine (HH.out _).mono ?_; rintro e w' ⟨rfl, rfl⟩
    go_wp2_with fail
    refine (HW.out _).mono ?_; rintro e w' ⟨rfl, rfl⟩
    go_wp2_with (first | (refine ay rfl (.tmp 30) _ rfl w.heap.size 4 p { p with pe := wi p.pe 9 } _ rfl rfl hb2 ⟨rfl, rfl⟩ ?_; intro w3 hb3 k3 s3; clear s3; have hz3 := hz.keep k3 (fun e => hne e.symm); have hK3 := hK2.trans k3 (fun b hb e => by have h3 : b = w.heap.size := e; omega); clear hb2 hz hK2 k3 c0 c4 c5 c6 c7; obtain ⟨c0, c4, c5, c6, c7⟩ := cells hb3) | (refine ay rfl (.tmp 47) _ rfl w.heap.size 0 { p with pe := wi p.pe 9 } { p with pe := wi p.pe 9, s := 1 } _ rfl rfl hb3 ⟨rfl, rfl⟩ ?_; intro w4 hb4 k4 s4; clear s4; have hz4 := hz3.keep k4 (fun e => hne e.symm); have hK4 := hK3.trans k4 (fun b hb e => by have h3 : b = w.heap.size := e; omega); clear hb3 hz3 hK3 k4 c0 c4 c5 c6 c7; obtain ⟨c0, c4, c5, c6, c7⟩ := cells hb4) | (refine wpList_ld rfl (.tmp 2) rfl w.heap.size { p with pe := wi p.pe 9, s := 1 } rfl HL.out hb4 ?_) | (refine wpList_st rfl (.tmp 4) _ rfl gr { p with pe := wi p.pe 9, s := 1 } noP rfl rfl HL.out rfl hz4 ?_; intro w9 hz9 k9 s9; clear s9))
    have hq : rz p 9 false = { p with pe := wi p.pe 9, s := 1 } := by rw [rz, if_neg (by decide), if_neg (by decide), if_pos rfl]; rfl
    rw [hq]
    (try simp only [Exit.inBlock, Exit.then])
    refine bodyPost_ret (v := .tuple #[pv ({ p with pe := wi p.pe 9, s := 1 }), .bool true]) (results_pair rfl _ _ gr ({ p with pe := wi p.pe 9, s := 1 }) HL.out rfl hz9 _ rfl) rfl ?_
    exact ⟨rfl, hK4.trans k9 (fun b hb e => by have h3 : b = gr := e; omega)⟩
   go_enter Tryz.func69, Tryz.ntmps69
   go_wp2_with (first | (refine af rfl 37 _ rfl _ rfl ?_; intro w1 hb hk hs; clear hs; have hb : Blk w1 w.heap.size 37 (pc p) := hb) | (refine wpList_al rfl rfl ?_; intro w2 hz hk2 hs2; clear hs2; have hb2 := hb.nob hk2; have hK2 := hk.nobt hk2; have hne : w.heap.size ≠ w1.heap.size := (by have := hb.lt; omega); have hge : w.heap.size ≤ w1.heap.size := hk.size; clear hb hk hk2; generalize w1.heap.size = gr at *; obtain ⟨c0, c4, c5, c6, c7⟩ := cells hb2))
   refine (HS.out _).mono ?_; rintro e w' ⟨rfl, rfl⟩
   go_wp2_with fail
   refine (HH.out _).mono ?_; rintro e w' ⟨rfl, rfl⟩
   go_wp2_with fail
   refine (HW.out _).mono ?_; rintro e w' ⟨rfl, rfl⟩
   go_wp2_with (first | (refine ay rfl (.tmp 30) _ rfl w.heap.size 4 p { p with pe := wi p.pe n } _ rfl rfl hb2 ⟨rfl, rfl⟩ ?_; intro w3 hb3 k3 s3; clear s3; have hz3 := hz.keep k3 (fun e => hne e.symm); have hK3 := hK2.trans k3 (fun b hb e => by have h3 : b = w.heap.size := e; omega); clear hb2 hz hK2 k3 c0 c4 c5 c6 c7; obtain ⟨c0, c4, c5, c6, c7⟩ := cells hb3) | (refine wpList_ld rfl (.tmp 2) rfl w.heap.size { p with pe := wi p.pe n } rfl HL.out hb3 ?_) | (refine wpList_st rfl (.tmp 4) _ rfl gr { p with pe := wi p.pe n } noP rfl rfl HL.out rfl hz3 ?_; intro w9 hz9 k9 s9; clear s9))
   have hq : rz p n false = { p with pe := wi p.pe n } := by rw [rz, if_neg h14, if_neg h15, if_neg h9]; rfl
   rw [hq]
   (try simp only [Exit.inBlock, Exit.then])
   refine bodyPost_ret (v := .tuple #[pv ({ p with pe := wi p.pe n }), .bool true]) (results_pair rfl _ _ gr ({ p with pe := wi p.pe n }) HL.out rfl hz9 _ rfl) rfl ?_
   exact ⟨rfl, hK3.trans k9 (fun b hb e => by have h3 : b = gr := e; omega)⟩
theorem raise_is (p : Ps) (hl : p.f.length = 8) (n : Int) (w : World) (P' : Ps) (ok : Bool) (hP : cJ p n = (P', ok)) :
  Calls Tryz.prog 69 #[pv p, .int .i64 n] w fun e w' => e = .returned (.tuple #[pv P', .bool ok]) ∧ Keep Nob w w' := by
 cases h : sign n && cW p with
 | false =>
  rw [raise_no h] at hP
  cases hP
  exact raise_bad p hl n w h
 | true =>
  rw [Bool.and_eq_true] at h
  rw [raise_rz h.1 h.2 rfl] at hP
  cases hP
  refine raise_good p hl n (sign_in h.1) w ?_ _ rfl
  have := h.2
  unfold cW at this
  simpa using this
end Go.Proofs.YtgcikpgcoemfnaaGreat.Sg
