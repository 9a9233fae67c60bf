import Derived.Test.YtgcikpgcoemfnaaGreatPs12
import Derived.Test.YtgcikpgcoemfnaaGreatPsHd
set_option maxRecDepth 100000
set_option maxHeartbeats 8000000
set_option linter.unusedVariables false
set_option linter.unusedSimpArgs false
namespace Go.Proofs.YtgcikpgcoemfnaaGreat.Fi
open Go.RowKit Cd
def IsC (w : World) (p : Nat) : Prop := Blk w p 352 [.int .i64 8, .func (.func 253) #[] #[], .func (.func 254) #[] #[]]
theorem IsC.nob {w w' : World} {p : Nat} (h : IsC w p) (k : Keep Nob w w') : IsC w' p := Blk.nob h k
theorem new_is (w : World) : Calls Tryz.prog 252 #[.int .i64 8, .func (.func 253) #[] #[], .func (.func 254) #[] #[]] w fun e w' => e = .returned (.pointer (some ⟨w.heap.size, 0, none⟩)) ∧ IsC w' w.heap.size ∧ Keep Nob w w' := by
 go_enter Tryz.func252, Tryz.ntmps252
 go_wp2
 go_ret
 exact ⟨rfl, Blk.new w 352 [.int .i64 8, .func (.func 253) #[] #[], .func (.func 254) #[] #[]], (Keep.refl Nob w).alloc _⟩
theorem eN (w : World) : Calls Tryz.prog 149 #[] w fun e w' => ∃ p, e = .returned (.pointer (some ⟨p, 0, none⟩)) ∧ IsC w' p ∧ Keep Nob w w' := by
 go_enter Tryz.func149, Tryz.ntmps149
 go_wp2_with fail
 refine (new_is w).mono ?_; rintro e w1 ⟨rfl, h1, k1⟩
 go_wp2
 go_ret
 exact ⟨_, rfl, h1, k1⟩
theorem pnil (f : Fn) (a b : Array Value) (w : World) : (binOp .eql 350 (.func f a b) .nilFunc).run Tryz.prog w = .ok (.bool false) w := by
 have := Tryz.underlying350
 first
 | (rfl; done)
 | (go_simp; done)
theorem gnil (f : Fn) (a b : Array Value) (w : World) : (binOp .eql 228 (.func f a b) .nilFunc).run Tryz.prog w = .ok (.bool false) w := by
 have := Tryz.underlying228
 first
 | (rfl; done)
 | (go_simp; done)
def Told (w0 w : World) (P : List Int) (v : Bool) (x : Value) : Prop := match v with
 | true => ∃ A m, x = .slice A 8 m ∧ Vec w 5 1 A 8 m (bytes (enc P)) ∧ (∀ g, Own A g → w0.heap.size ≤ g)
 | false => x = .slice none 0 0
theorem Told.from_ {w0 w0' w : World} {P : List Int} {v : Bool} {x : Value} (h : Told w0' w P v x) (hs : w0.heap.size ≤ w0'.heap.size) : Told w0 w P v x := by
 cases v with
 | true => obtain ⟨A, m, h1, h2, h3⟩ := h; exact ⟨A, m, h1, h2, fun g hg => Nat.le_trans hs (h3 g hg)⟩
 | false => exact h
theorem iB (p : Nat) (P : List Int) (hl : P.length = 4) (w : World) (h : IsC w p) (v : Bool) (hv : okd P = v) :
  Calls Tryz.prog 287 #[.pointer (some ⟨p, 0, none⟩), pv P] w fun e w' => ∃ x, e = .returned (.tuple #[x, .bool v]) ∧ Told w w' P v x ∧ Keep Nob w w' := by
 have hnil := pnil
 have ho := fun g w hz => fZ P hl g w hz v hv
 simp only [pv] at ho ⊢
 have HO := aa ho
 have HL := aa hl
 clear ho hl
 go_enter Tryz.func287, Tryz.ntmps287
 go_wp2_with (first | (refine af rfl 64 _ rfl _ rfl ?_; intro w1 hb1 hk1 hs1; clear hs1; have hb1 : Blk w1 w.heap.size 64 (ab P) := hb1; have c0 : w1.cell? ⟨p, 0, none⟩ = some (.int .i64 8) := Blk.cell (h.nob hk1) 0) | (refine bu rfl _ _ 28 rfl 5 (.int .u8 0) 1 Tryz.underlying28 Tryz.info5 rfl .i64 .i64 8 _ rfl rfl rfl (by omega) (by omega) ?_; intro w2 hb2 hk2 hs2; clear hs2))
 rw [← ao] at hb2
 have hC2 := (h.nob hk1).nob hk2
 have hB2 := hb1.nob hk2
 have hK2 := hk1.nobt hk2
 have hge : w.heap.size ≤ w1.heap.size := hk1.size
 have hne : w.heap.size ≠ w1.heap.size := by have := hb1.lt; omega
 have hpe : p ≠ w1.heap.size := by have := (h.nob hk1).lt; omega
 clear c0 hb1 hk1 hk2 h
 generalize w1.heap.size = g at *
 have hC := hC2.nob (Keep.nobdrew w2)
 have hB := hB2.drew
 have kk := hK2.drew
 have hz := hb2.drew
 clear hC2 hB2 hK2 hb2
 have c1 : w2.drew.cell? ⟨p, 1, none⟩ = some (.func (.func 253) #[] #[]) := Blk.cell hC 1
 refine wp_region_held_drew (S := (fun w' => w'.cell? ⟨p, 1, none⟩ = some (.func (.func 253) #[] #[]) ∧ Blk w' w.heap.size 64 (ab P))) (by kernel_rfl) ⟨c1, hB⟩ (fun hHeld => ?_)
 refine tk 0 rfl ?_ ?_ ?_
 rotate_left
 ·(intro w hSw; (try dsimp only at hSw); obtain ⟨s1, s2⟩ := hSw; go_simp; try with_reducible rfl)
 try simp only [Act.put, zS]
 refine tk 1 rfl ?_ ?_ ?_
 rotate_left
 ·(intro w hSw; (try dsimp only at hSw); obtain ⟨s1, s2⟩ := hSw; go_simp; try with_reducible rfl)
 try simp only [Act.put, zS]
 refine tk 2 rfl ?_ ?_ ?_
 rotate_left
 ·(intro w hSw; (try dsimp only at hSw); obtain ⟨s1, s2⟩ := hSw; go_simp; try with_reducible rfl)
 try simp only [Act.put, zS]
 refine tk 3 rfl ?_ ?_ ?_
 rotate_left
 ·(intro w hSw; (try dsimp only at hSw); obtain ⟨s1, s2⟩ := hSw; go_simp; try with_reducible rfl)
 try simp only [Act.put, zS]
 refine tk 4 rfl ?_ ?_ ?_
 rotate_left
 ·(intro w hSw; (try dsimp only at hSw); obtain ⟨s1, s2⟩ := hSw; go_simp; try with_reducible rfl)
 try simp only [Act.put, zS]
 refine tk 5 rfl ?_ ?_ ?_
 rotate_left
 ·(intro w hSw; (try dsimp only at hSw); obtain ⟨s1, s2⟩ := hSw; go_simp; try with_reducible rfl)
 try simp only [Act.put, zS]
 refine tk 6 rfl ?_ ?_ ?_
 rotate_left
 ·(intro w hSw; (try dsimp only at hSw); obtain ⟨s1, s2⟩ := hSw; go_simp; try with_reducible rfl)
 try simp only [Act.put, zS]
 refine tk 7 rfl ?_ ?_ ?_
 rotate_left
 ·(intro w hSw; (try dsimp only at hSw); obtain ⟨s1, s2⟩ := hSw; go_simp; try with_reducible rfl)
 try simp only [Act.put, zS]
 refine tk 8 rfl ?_ ?_ ?_
 rotate_left
 ·(intro w hSw; (try dsimp only at hSw); obtain ⟨s1, s2⟩ := hSw; go_simp; try with_reducible rfl)
 try simp only [Act.put, zS]
 refine tk 9 rfl ?_ ?_ ?_
 rotate_left
 ·(intro w hSw; (try dsimp only at hSw); obtain ⟨s1, s2⟩ := hSw; go_simp; try with_reducible rfl)
 try simp only [Act.put, zS]
 refine tk 10 rfl ?_ ?_ ?_
 rotate_left
 ·(intro w hSw; (try dsimp only at hSw); obtain ⟨s1, s2⟩ := hSw; refine aG (x := .tmp 3) ?_ ?_ HL.out s2 <;> rfl)
 try simp only [Act.put, zS]
 refine tk 11 rfl ?_ ?_ ?_
 rotate_left
 ·(intro w hSw; (try dsimp only at hSw); obtain ⟨s1, s2⟩ := hSw; go_simp; try with_reducible rfl)
 try simp only [Act.put, zS]
 refine wpAnyH_ready (rs := [12]) (by kernel_rfl) (by simp) ?_
 refine AllReadyH.cons rfl (fun K hK => ?_) AllReadyH.nil
 go_simp
 with_reducible_and_instances apply Calls.mono (HO.out g _ hz); rintro e w6 ⟨rfl, z6, k6⟩
 have hC6 : IsC w6 p := Blk.keep hC k6 hpe
 have hB6 := hB.keep k6 hne
 have hK6 : Keep Nob w w6 := kk.trans k6 (fun b hb e => by have h3 : b = g := e; omega)
 refine hK.out _ _ ?_ (fun hHeld => ?_)
 ·exact ⟨Blk.cell hC6 1, hB6⟩
 clear hK K
 try simp only [Act.put, zS]
 refine tk 13 rfl ?_ ?_ ?_
 rotate_left
 ·(intro w hSw; (try dsimp only at hSw); obtain ⟨s1, s2⟩ := hSw; go_simp; try with_reducible rfl)
 try simp only [Act.put, zS]
 refine tk 14 rfl ?_ ?_ ?_
 rotate_left
 ·(intro w hSw; (try dsimp only at hSw); obtain ⟨s1, s2⟩ := hSw; go_simp; try with_reducible rfl)
 try simp only [Act.put, zS]
 refine wpAnyH_done (by kernel_rfl) ?_ _
 cases v with
 | false =>
  go_wp2
  go_ret2
  exact ⟨_, rfl, rfl, hK6⟩
 | true =>
  rw [if_pos rfl] at z6
  have r6 := aj z6 (by rw [am, aJ])
  go_wp2_with fail
  refine (clone_is _ _ _ _ _ r6 (by omega)).mono ?_; rintro e w7 ⟨A, m, rfl, v7, k7, o7⟩
  go_wp2
  go_ret2
  exact ⟨_, rfl, ⟨A, m, rfl, v7, fun b hb => Nat.le_trans hK6.size (o7 b hb)⟩, hK6.nobt k7⟩
def eY (l : List UInt8) : List Int × Bool := if l.length = 8 then (if gd l then (rd l, true) else (noP, false)) else (noP, false)
theorem fi (p : Nat) (A : Option Addr) (n cap : Nat) (l : List UInt8) (w : World) (h : IsC w p) (hr : ae w A n (bytes l)) (hn : n ≤ 140737488351232) (R : List Int) (v : Bool) (hd : eY l = (R, v)) :
  Calls Tryz.prog 150 #[.pointer (some ⟨p, 0, none⟩), .slice A n cap] w fun e w' => e = .returned (.tuple #[pv R, .bool v]) ∧ Keep Nob w w' := by
 have hl : l.length = n := by simpa using hr.1
 have hnil := gnil
 have hR0 : Blk ((w.alloc (.cells #[.int .i64 0, .int .i64 0, .int .i64 0, .int .i64 0] 64)).alloc (.cells #[.int .i64 0, .int .i64 0, .int .i64 0, .int .i64 0] 64)) w.heap.size 64 (ab noP) := (Blk.new w 64 (ab noP)).alloc _
 have hZ0 : Blk ((w.alloc (.cells #[.int .i64 0, .int .i64 0, .int .i64 0, .int .i64 0] 64)).alloc (.cells #[.int .i64 0, .int .i64 0, .int .i64 0, .int .i64 0] 64)) (w.heap.size + 1) 64 (ab noP) := by
  have := Blk.new (w.alloc (.cells #[.int .i64 0, .int .i64 0, .int .i64 0, .int .i64 0] 64)) 64 (ab noP)
  rw [show (w.alloc (.cells #[.int .i64 0, .int .i64 0, .int .i64 0, .int .i64 0] 64)).heap.size = w.heap.size + 1 from by simp] at this
  exact this
 have hK0 : Keep Nob w ((w.alloc (.cells #[.int .i64 0, .int .i64 0, .int .i64 0, .int .i64 0] 64)).alloc (.cells #[.int .i64 0, .int .i64 0, .int .i64 0, .int .i64 0] 64)) := ((Keep.refl Nob w).alloc _).alloc _
 have hC0 := h.nob hK0
 have hr0 := hr.nob hK0
 have c2 : ((w.alloc (.cells #[.int .i64 0, .int .i64 0, .int .i64 0, .int .i64 0] 64)).alloc (.cells #[.int .i64 0, .int .i64 0, .int .i64 0, .int .i64 0] 64)).cell? ⟨p, 2, none⟩ = some (.func (.func 254) #[] #[]) := Blk.cell hC0 2
 have c0 : ((w.alloc (.cells #[.int .i64 0, .int .i64 0, .int .i64 0, .int .i64 0] 64)).alloc (.cells #[.int .i64 0, .int .i64 0, .int .i64 0, .int .i64 0] 64)).cell? ⟨p, 0, none⟩ = some (.int .i64 8) := Blk.cell hC0 0
 by_cases h24 : n = 8
 rotate_left
 ·have hd2 : (noP, false) = (R, v) := by rw [← hd, eY, if_neg (by omega)]
  cases hd2
  have hne : ((n : Int) != 8) = true := by simpa using (show (n : Int) ≠ 8 from by omega)
  clear hd hl h24
  go_enter Tryz.func150, Tryz.ntmps150
  go_wp2_with (first | (refine wpList_ld rfl _ rfl (w.heap.size + 1) noP rfl rfl hZ0 ?_) | (refine wpList_st rfl _ _ rfl _ noP noP rfl rfl rfl rfl hR0 ?_; intro w2 hr2 hk2 hs2; clear hs2))
  (try simp only [Exit.inBlock, Exit.then])
  refine bodyPost_ret (v := .tuple #[pv noP, .bool false]) (results_pair rfl _ _ w.heap.size noP rfl rfl hr2 _ rfl) rfl ?_
  exact ⟨rfl, hK0.trans hk2 (fun b hb e => by have h3 : b = w.heap.size := e; omega)⟩
 subst h24
 have hd2 : (if gd l then (rd l, true) else (noP, false)) = (R, v) := by rw [← hd, eY, if_pos hl]
 have HD := aa hd2
 have HL := aa hl
 clear hd hd2 hl
 go_enter Tryz.func150, Tryz.ntmps150
 go_upto_region 4 with fail
 have hRd := hR0.drew
 have hZd := hZ0.drew
 have hKd := hK0.drew
 have hCd := hC0.nob (Keep.nobdrew _)
 have hrd := hr0.nob (Keep.nobdrew _)
 clear hR0 hZ0 hK0 hC0 hr0 c0 c2 h hr
 generalize ((w.alloc (.cells #[.int .i64 0, .int .i64 0, .int .i64 0, .int .i64 0] 64)).alloc (.cells #[.int .i64 0, .int .i64 0, .int .i64 0, .int .i64 0] 64)) = w2 at *
 have hrz : w.heap.size ≠ w.heap.size + 1 := by omega
 generalize w.heap.size + 1 = z at *
 have c2 : w2.drew.cell? ⟨p, 2, none⟩ = some (.func (.func 254) #[] #[]) := Blk.cell hCd 2
 obtain ⟨Q, hQ⟩ : ∃ Q, rd l = Q := ⟨_, rfl⟩
 obtain ⟨b, hb⟩ : ∃ b, gd l = b := ⟨_, rfl⟩
 have HG := aa (fun g c w hr => get_is_ l HL.out g c w hr Q hQ b hb)
 rw [hQ, hb] at HD
 have hql : Q.length = 4 := by rw [← hQ, cY]
 have HQ := aa hql
 clear hQ hb hql
 go_cut [7, 8] from 24 to 33 (fun s7 s8 wx => ∃ g, s7 = .pointer (some ⟨g, 0, none⟩) ∧ s8 = .bool b ∧ Blk wx g 64 (ab Q) ∧ Blk wx w.heap.size 64 (ab noP) ∧ Blk wx z 64 (ab noP) ∧ Keep Nob w wx)
 case first =>
  go_wp2_with fail
  refine wp_region_held_drew (S := (fun w' => w'.cell? ⟨p, 2, none⟩ = some (.func (.func 254) #[] #[]))) (by kernel_rfl) c2 (fun hHeld => ?_)
  generalize w2.drew = wd at *
  refine tk 0 rfl ?_ ?_ ?_
  rotate_left
  ·(intro w hSw; (try dsimp only at hSw); go_simp; try with_reducible rfl)
  try simp only [Act.put, zS]
  refine tk 1 rfl ?_ ?_ ?_
  rotate_left
  ·(intro w hSw; (try dsimp only at hSw); go_simp; try with_reducible rfl)
  try simp only [Act.put, zS]
  refine tk 2 rfl ?_ ?_ ?_
  rotate_left
  ·(intro w hSw; (try dsimp only at hSw); go_simp; try with_reducible rfl)
  try simp only [Act.put, zS]
  refine tk 3 rfl ?_ ?_ ?_
  rotate_left
  ·(intro w hSw; (try dsimp only at hSw); go_simp; try with_reducible rfl)
  try simp only [Act.put, zS]
  refine tk 4 rfl ?_ ?_ ?_
  rotate_left
  ·(intro w hSw; (try dsimp only at hSw); go_simp; try with_reducible rfl)
  try simp only [Act.put, zS]
  refine wpAnyH_ready (rs := [5, 10]) (by kernel_rfl) (by simp) ?_
  refine AllReadyH.cons rfl (fun K hK => ?_) ?_
  ·go_simp
   refine (clone_is A 8 cap l _ hrd (by omega)).mono ?_; rintro e w_1 ⟨A_4, c_5, rfl, v_3, k_2, _⟩
   obtain ⟨g_6, cur, rfl, _, _, _, _⟩ := v_3.at_ (by decide)
   have hr_7 : ae w_1 (some ⟨g_6, 0, none⟩) 8 (bytes l) := v_3.reads
   have hC_8 := hCd.nob k_2
   have hR_9 := hRd.nob k_2
   have hZ_10 := hZd.nob k_2
   have hI_11 := hrd.nob k_2
   have kk_12 := hKd.nobt k_2
   refine hK.out _ _ ?_ (fun hHeld => ?_)
   ·exact Blk.cell hC_8 2
   clear hK K
   try simp only [Act.put, zS]
   refine wpAnyH_ready (rs := [6, 10]) (by kernel_rfl) (by simp) ?_
   refine AllReadyH.cons rfl (fun K hK => ?_) ?_
   ·go_simp
    refine (HG.out g_6 c_5 _ hr_7).mono ?_; rintro e w_13 ⟨rfl, k_14⟩
    have hC_15 := hC_8.nob k_14
    have hR_16 := hR_9.nob k_14
    have hZ_17 := hZ_10.nob k_14
    have hI_18 := hI_11.nob k_14
    have kk_19 := kk_12.nobt k_14
    unfold pv
    refine hK.out _ _ ?_ (fun hHeld => ?_)
    ·exact Blk.cell hC_15 2
    clear hK K
    try simp only [Act.put, zS]
    refine tk 7 rfl ?_ ?_ ?_
    rotate_left
    ·(intro w hSw; (try dsimp only at hSw); go_simp; try with_reducible rfl)
    try simp only [Act.put, zS]
    refine tk 8 rfl ?_ ?_ ?_
    rotate_left
    ·(intro w hSw; (try dsimp only at hSw); go_simp; try with_reducible rfl)
    try simp only [Act.put, zS]
    refine tk 9 rfl ?_ ?_ ?_
    rotate_left
    ·(intro w hSw; (try dsimp only at hSw); go_simp; try with_reducible rfl)
    try simp only [Act.put, zS]
    refine wpAnyH_ready (rs := [10]) (by kernel_rfl) (by simp) ?_
    refine AllReadyH.cons rfl (fun K hK => ?_) AllReadyH.nil
    go_simp
    have hn_20 : Blk (w_13.alloc (.cells #[.int .i64 0, .int .i64 0, .int .i64 0, .int .i64 0] 64)) w_13.heap.size 64 (ab noP) := Blk.new w_13 64 (ab noP)
    have ka_21 := (Keep.refl Nob w_13).alloc (.cells #[.int .i64 0, .int .i64 0, .int .i64 0, .int .i64 0] 64)
    have e_22 : w.heap.size ≤ w_13.heap.size := kk_19.size
    have e_23 : w.heap.size ≠ w_13.heap.size := by have := hR_16.lt; omega
    have e_24 : z ≠ w_13.heap.size := by have := hZ_17.lt; omega
    have e_25 : p ≠ w_13.heap.size := by have := Blk.lt hC_15; omega
    have hC_26 := hC_15.nob ka_21
    have hR_27 := hR_16.nob ka_21
    have hZ_28 := hZ_17.nob ka_21
    have hI_29 := hI_18.nob ka_21
    have kk_30 := kk_19.nobt ka_21
    refine hK.out _ _ ?_ (fun hHeld => ?_)
    ·exact Blk.cell hC_26 2
    clear hK K
    try simp only [Act.put, zS]
    generalize (w_13.alloc (.cells #[.int .i64 0, .int .i64 0, .int .i64 0, .int .i64 0] 64)) = w_31 at *
    generalize w_13.heap.size = gn_32 at *
    refine wpAnyH_ready (rs := [11]) (by kernel_rfl) (by simp) ?_
    refine AllReadyH.cons rfl (fun K hK => ?_) AllReadyH.nil
    rw [if_pos (by rfl)]
    refine aU (old := noP) (q := Q) rfl rfl rfl HQ.out rfl hn_20 ?_
    refine hK.out _ _ ?_ (fun hHeld => ?_)
    ·exact Blk.cell (Blk.setRow_far hC_26 e_25 _) 2
    clear hK K
    try simp only [Act.put, zS]
    refine tk 12 rfl ?_ ?_ ?_
    rotate_left
    ·(intro w hSw; (try dsimp only at hSw); go_simp; try with_reducible rfl)
    try simp only [Act.put, zS]
    refine wpAnyH_done (by kernel_rfl) ?_ _
    go_wp2_with fail
    go_meet
    exact ⟨_, rfl, rfl, hn_20.setRow (ab Q), hR_27.setRow_far e_23 _, hZ_28.setRow_far e_24 _, kk_30.setRow gn_32 _ (fun h => absurd h (by omega))⟩
   refine AllReadyH.cons rfl (fun K hK => ?_) AllReadyH.nil
   go_simp
   have hn_33 : Blk (w_1.alloc (.cells #[.int .i64 0, .int .i64 0, .int .i64 0, .int .i64 0] 64)) w_1.heap.size 64 (ab noP) := Blk.new w_1 64 (ab noP)
   have ka_34 := (Keep.refl Nob w_1).alloc (.cells #[.int .i64 0, .int .i64 0, .int .i64 0, .int .i64 0] 64)
   have e_35 : w.heap.size ≤ w_1.heap.size := kk_12.size
   have e_36 : w.heap.size ≠ w_1.heap.size := by have := hR_9.lt; omega
   have e_37 : z ≠ w_1.heap.size := by have := hZ_10.lt; omega
   have e_38 : p ≠ w_1.heap.size := by have := Blk.lt hC_8; omega
   have hC_39 := hC_8.nob ka_34
   have hR_40 := hR_9.nob ka_34
   have hZ_41 := hZ_10.nob ka_34
   have hI_42 := hI_11.nob ka_34
   have hr_43 := hr_7.nob ka_34
   have kk_44 := kk_12.nobt ka_34
   refine hK.out _ _ ?_ (fun hHeld => ?_)
   ·exact Blk.cell hC_39 2
   clear hK K
   try simp only [Act.put, zS]
   generalize (w_1.alloc (.cells #[.int .i64 0, .int .i64 0, .int .i64 0, .int .i64 0] 64)) = w_45 at *
   generalize w_1.heap.size = gn_46 at *
   refine wpAnyH_ready (rs := [6]) (by kernel_rfl) (by simp) ?_
   refine AllReadyH.cons rfl (fun K hK => ?_) AllReadyH.nil
   go_simp
   refine (HG.out g_6 c_5 _ hr_43).mono ?_; rintro e w_47 ⟨rfl, k_48⟩
   have hC_49 := hC_39.nob k_48
   have hR_50 := hR_40.nob k_48
   have hZ_51 := hZ_41.nob k_48
   have hI_52 := hI_42.nob k_48
   have hn_53 := hn_33.nob k_48
   have kk_54 := kk_44.nobt k_48
   unfold pv
   refine hK.out _ _ ?_ (fun hHeld => ?_)
   ·exact Blk.cell hC_49 2
   clear hK K
   try simp only [Act.put, zS]
   refine tk 7 rfl ?_ ?_ ?_
   rotate_left
   ·(intro w hSw; (try dsimp only at hSw); go_simp; try with_reducible rfl)
   try simp only [Act.put, zS]
   refine tk 8 rfl ?_ ?_ ?_
   rotate_left
   ·(intro w hSw; (try dsimp only at hSw); go_simp; try with_reducible rfl)
   try simp only [Act.put, zS]
   refine tk 9 rfl ?_ ?_ ?_
   rotate_left
   ·(intro w hSw; (try dsimp only at hSw); go_simp; try with_reducible rfl)
   try simp only [Act.put, zS]
   refine wpAnyH_ready (rs := [11]) (by kernel_rfl) (by simp) ?_
   refine AllReadyH.cons rfl (fun K hK => ?_) AllReadyH.nil
   rw [if_pos (by rfl)]
   refine aU (old := noP) (q := Q) rfl rfl rfl HQ.out rfl hn_53 ?_
   refine hK.out _ _ ?_ (fun hHeld => ?_)
   ·exact Blk.cell (Blk.setRow_far hC_49 e_38 _) 2
   clear hK K
   try simp only [Act.put, zS]
   refine tk 12 rfl ?_ ?_ ?_
   rotate_left
   ·(intro w hSw; (try dsimp only at hSw); go_simp; try with_reducible rfl)
   try simp only [Act.put, zS]
   refine wpAnyH_done (by kernel_rfl) ?_ _
   go_wp2_with fail
   go_meet
   exact ⟨_, rfl, rfl, hn_53.setRow (ab Q), hR_50.setRow_far e_36 _, hZ_51.setRow_far e_37 _, kk_54.setRow gn_46 _ (fun h => absurd h (by omega))⟩
  refine AllReadyH.cons rfl (fun K hK => ?_) AllReadyH.nil
  go_simp
  have hn_55 : Blk (wd.alloc (.cells #[.int .i64 0, .int .i64 0, .int .i64 0, .int .i64 0] 64)) wd.heap.size 64 (ab noP) := Blk.new wd 64 (ab noP)
  have ka_56 := (Keep.refl Nob wd).alloc (.cells #[.int .i64 0, .int .i64 0, .int .i64 0, .int .i64 0] 64)
  have e_57 : w.heap.size ≤ wd.heap.size := hKd.size
  have e_58 : w.heap.size ≠ wd.heap.size := by have := hRd.lt; omega
  have e_59 : z ≠ wd.heap.size := by have := hZd.lt; omega
  have e_60 : p ≠ wd.heap.size := by have := Blk.lt hCd; omega
  have hC_61 := hCd.nob ka_56
  have hR_62 := hRd.nob ka_56
  have hZ_63 := hZd.nob ka_56
  have hI_64 := hrd.nob ka_56
  have kk_65 := hKd.nobt ka_56
  refine hK.out _ _ ?_ (fun hHeld => ?_)
  ·exact Blk.cell hC_61 2
  clear hK K
  try simp only [Act.put, zS]
  generalize (wd.alloc (.cells #[.int .i64 0, .int .i64 0, .int .i64 0, .int .i64 0] 64)) = w_66 at *
  generalize wd.heap.size = gn_67 at *
  refine wpAnyH_ready (rs := [5]) (by kernel_rfl) (by simp) ?_
  refine AllReadyH.cons rfl (fun K hK => ?_) AllReadyH.nil
  go_simp
  refine (clone_is A 8 cap l _ hI_64 (by omega)).mono ?_; rintro e w_68 ⟨A_71, c_72, rfl, v_70, k_69, _⟩
  obtain ⟨g_73, cur, rfl, _, _, _, _⟩ := v_70.at_ (by decide)
  have hr_74 : ae w_68 (some ⟨g_73, 0, none⟩) 8 (bytes l) := v_70.reads
  have hC_75 := hC_61.nob k_69
  have hR_76 := hR_62.nob k_69
  have hZ_77 := hZ_63.nob k_69
  have hI_78 := hI_64.nob k_69
  have hn_79 := hn_55.nob k_69
  have kk_80 := kk_65.nobt k_69
  refine hK.out _ _ ?_ (fun hHeld => ?_)
  ·exact Blk.cell hC_75 2
  clear hK K
  try simp only [Act.put, zS]
  refine wpAnyH_ready (rs := [6]) (by kernel_rfl) (by simp) ?_
  refine AllReadyH.cons rfl (fun K hK => ?_) AllReadyH.nil
  go_simp
  refine (HG.out g_73 c_72 _ hr_74).mono ?_; rintro e w_81 ⟨rfl, k_82⟩
  have hC_83 := hC_75.nob k_82
  have hR_84 := hR_76.nob k_82
  have hZ_85 := hZ_77.nob k_82
  have hI_86 := hI_78.nob k_82
  have hn_87 := hn_79.nob k_82
  have kk_88 := kk_80.nobt k_82
  unfold pv
  refine hK.out _ _ ?_ (fun hHeld => ?_)
  ·exact Blk.cell hC_83 2
  clear hK K
  try simp only [Act.put, zS]
  refine tk 7 rfl ?_ ?_ ?_
  rotate_left
  ·(intro w hSw; (try dsimp only at hSw); go_simp; try with_reducible rfl)
  try simp only [Act.put, zS]
  refine tk 8 rfl ?_ ?_ ?_
  rotate_left
  ·(intro w hSw; (try dsimp only at hSw); go_simp; try with_reducible rfl)
  try simp only [Act.put, zS]
  refine tk 9 rfl ?_ ?_ ?_
  rotate_left
  ·(intro w hSw; (try dsimp only at hSw); go_simp; try with_reducible rfl)
  try simp only [Act.put, zS]
  refine wpAnyH_ready (rs := [11]) (by kernel_rfl) (by simp) ?_
  refine AllReadyH.cons rfl (fun K hK => ?_) AllReadyH.nil
  rw [if_pos (by rfl)]
  refine aU (old := noP) (q := Q) rfl rfl rfl HQ.out rfl hn_87 ?_
  refine hK.out _ _ ?_ (fun hHeld => ?_)
  ·exact Blk.cell (Blk.setRow_far hC_83 e_60 _) 2
  clear hK K
  try simp only [Act.put, zS]
  refine tk 12 rfl ?_ ?_ ?_
  rotate_left
  ·(intro w hSw; (try dsimp only at hSw); go_simp; try with_reducible rfl)
  try simp only [Act.put, zS]
  refine wpAnyH_done (by kernel_rfl) ?_ _
  go_wp2_with fail
  go_meet
  exact ⟨_, rfl, rfl, hn_87.setRow (ab Q), hR_84.setRow_far e_58 _, hZ_85.setRow_far e_59 _, kk_88.setRow gn_67 _ (fun h => absurd h (by omega))⟩
 case rest =>
 obtain ⟨g, rfl, rfl, hn6, hR6, hZ6, hK6⟩ := hcut
 clear hCd hRd hZd hKd hrd
 have hd3 := HD.out
 clear HD
 cases b with
 | false =>
  rw [if_neg (by simp)] at hd3
  cases hd3
  go_wp2_with (first | (refine wpList_ld rfl _ rfl z noP rfl rfl hZ6 ?_) | (refine wpList_st rfl _ _ rfl _ noP noP rfl rfl rfl rfl hR6 ?_; intro w7 hr7 hk7 hs7; clear hs7))
  (try simp only [Exit.inBlock, Exit.then])
  refine bodyPost_ret (v := .tuple #[pv noP, .bool false]) (results_pair rfl _ _ w.heap.size noP rfl rfl hr7 _ rfl) rfl ?_
  exact ⟨rfl, hK6.trans hk7 (fun b hb e => by have h3 : b = w.heap.size := e; omega)⟩
 | true =>
  rw [if_pos rfl] at hd3
  cases hd3
  go_wp2_with (first | (refine wpList_ld rfl _ rfl g R rfl HQ.out hn6 ?_) | (refine wpList_st rfl _ _ rfl _ R noP rfl rfl HQ.out rfl hR6 ?_; intro w7 hr7 hk7 hs7; clear hs7))
  (try simp only [Exit.inBlock, Exit.then])
  refine bodyPost_ret (v := .tuple #[pv R, .bool true]) (results_pair rfl _ _ w.heap.size R HQ.out rfl hr7 _ rfl) rfl ?_
  exact ⟨rfl, hK6.trans hk7 (fun b hb e => by have h3 : b = w.heap.size := e; omega)⟩
theorem fE (P : List Int) (hl : P.length = 4) (w : World) (v : Bool) (hv : okd P = v) :
  Calls Tryz.prog 198 #[pv P] w fun e w' => ∃ x, e = .returned (.tuple #[x, .bool v]) ∧ Told w w' P v x ∧ Keep Nob w w' := by
 have ho := fun p w h => iB p P hl w h v hv
 simp only [pv] at ho ⊢
 have HO := aa ho
 have HL := aa hl
 clear ho hl
 go_enter Tryz.func198, Tryz.ntmps198
 go_wp2_with (refine af rfl 64 _ rfl _ rfl ?_; intro w1 hb1 hk1 hs1; clear hs1; have hb1 : Blk w1 w.heap.size 64 (ab P) := hb1)
 have hB := hb1.drew
 have kk := hk1.drew
 clear hb1 hk1
 refine wp_region_held_drew (S := (fun w' => Blk w' w.heap.size 64 (ab P))) (by kernel_rfl) hB (fun hHeld => ?_)
 generalize w1.drew = wd at *
 refine tk 1 rfl ?_ ?_ ?_
 rotate_left
 ·(intro w hSw; (try dsimp only at hSw); refine aG (x := .tmp 1) ?_ ?_ HL.out hSw <;> rfl)
 try simp only [Act.put, zS]
 refine wpAnyH_ready (rs := [0]) (by kernel_rfl) (by simp) ?_
 refine AllReadyH.cons rfl (fun K hK => ?_) AllReadyH.nil
 go_simp
 refine (eN _).mono ?_; rintro e w2 ⟨p, rfl, h2, k2⟩
 have hB2 := hB.nob k2
 have kk2 := kk.nobt k2
 refine hK.out _ _ ?_ (fun hHeld => ?_)
 ·exact hB2
 clear hK K
 try simp only [Act.put, zS]
 refine wpAnyH_ready (rs := [2]) (by kernel_rfl) (by simp) ?_
 refine AllReadyH.cons rfl (fun K hK => ?_) AllReadyH.nil
 go_simp
 with_reducible_and_instances apply Calls.mono (HO.out p _ h2); rintro e w3 ⟨x, rfl, t3, k3⟩
 have hB3 := hB2.nob k3
 have kk3 := kk2.nobt k3
 refine hK.out _ _ ?_ (fun hHeld => ?_)
 ·exact hB3
 clear hK K
 try simp only [Act.put, zS]
 refine tk 3 rfl ?_ ?_ ?_
 rotate_left
 ·(intro w hSw; (try dsimp only at hSw); go_simp; try with_reducible rfl)
 try simp only [Act.put, zS]
 refine tk 4 rfl ?_ ?_ ?_
 rotate_left
 ·(intro w hSw; (try dsimp only at hSw); go_simp; try with_reducible rfl)
 try simp only [Act.put, zS]
 refine tk 5 rfl ?_ ?_ ?_
 rotate_left
 ·(intro w hSw; (try dsimp only at hSw); go_simp; try with_reducible rfl)
 try simp only [Act.put, zS]
 refine tk 6 rfl ?_ ?_ ?_
 rotate_left
 ·(intro w hSw; (try dsimp only at hSw); go_simp; try with_reducible rfl)
 try simp only [Act.put, zS]
 refine wpAnyH_done (by kernel_rfl) ?_ _
 go_wp2_with fail
 go_ret2
 exact ⟨x, rfl, t3.from_ kk2.size, kk3⟩
theorem fM (A : Option Addr) (n cap : Nat) (l : List UInt8) (w : World) (hr : ae w A n (bytes l)) (hn : n ≤ 140737488351232) (R : List Int) (d : Int) (hd : dcd l = (R, d)) :
  Calls Tryz.prog 73 #[.slice A n cap] w fun e w' => e = .returned (.tuple #[pv R, .int .i64 d]) ∧ Keep Nob w w' := by
 have hl : l.length = n := by simpa using hr.1
 have hR0 : Blk (w.alloc (.cells #[.int .i64 0, .int .i64 0, .int .i64 0, .int .i64 0] 64)) w.heap.size 64 (ab noP) := Blk.new w 64 (ab noP)
 have hK0 : Keep Nob w (w.alloc (.cells #[.int .i64 0, .int .i64 0, .int .i64 0, .int .i64 0] 64)) := (Keep.refl Nob w).alloc _
 have hr0 := hr.nob hK0
 have HD := aa hd
 have HL := aa hl
 clear hd
 by_cases h24 : n = 8
 rotate_left
 ·have hne24 : ((n : Int) == 8) = false := by simpa using (show (n : Int) ≠ 8 from by omega)
  have h2 : eY l = (noP, false) := by rw [eY, if_neg (by omega)]
  have hd2 : (noP, (2 : Int)) = (R, d) := by rw [← HD.out, dcd, if_neg (by omega)]
  obtain ⟨Q, hQ⟩ : ∃ Q, noP = Q := ⟨_, rfl⟩
  obtain ⟨b, hb⟩ : ∃ b, false = b := ⟨_, rfl⟩
  have HQ := aa (show Q.length = 4 from by rw [← hQ]; rfl)
  have HQ2 := aa (show (if b then (Q, (1 : Int)) else (noP, 2)) = (R, d) from by rw [← hb]; exact hd2)
  rw [hQ, hb] at h2
  have HC := aa h2
  clear hQ hb h2 hd2 HD HL hr hl h24
  go_enter Tryz.func73, Tryz.ntmps73
  go_wp2_with fail
  refine (eN _).mono ?_; rintro e w1 ⟨p, rfl, h1, k1⟩
  have hR1 := hR0.nob k1
  have kk1 := hK0.nobt k1
  have hr1 := hr0.nob k1
  clear hR0 hK0 hr0
  go_wp2_with fail
  refine (fi p A n cap l _ h1 hr1 hn Q b HC.out).mono ?_; rintro e w2 ⟨rfl, k2⟩
  have hR2 := hR1.nob k2
  have kk2 := kk1.nobt k2
  have hge : w.heap.size ≤ w2.heap.size := kk2.size
  have hne : w.heap.size ≠ w2.heap.size := by have := hR2.lt; omega
  clear hR1 kk1 hr1 h1 k1 k2
  unfold pv
  cases b with
  | false =>
   have hd2 := HQ2.out
   rw [if_neg (by simp)] at hd2
   cases hd2
   go_wp2_with (first | (refine wpList_st rfl (.tmp 4) (.tmp 18) rfl w2.heap.size Q noP rfl rfl HQ.out rfl (Blk.new w2 64 (ab noP)) ?_; intro w3 hn3 hk3 hs3; clear hs3; have hR3 := (hR2.alloc (.cells #[.int .i64 0, .int .i64 0, .int .i64 0, .int .i64 0] 64)).keep hk3 hne; have kk3 := (kk2.alloc (.cells #[.int .i64 0, .int .i64 0, .int .i64 0, .int .i64 0] 64)).trans hk3 (fun b hb e => by have h3 : b = w2.heap.size := e; omega)) | (refine wpList_st rfl (.tmp 2) _ rfl w.heap.size noP noP rfl rfl rfl rfl hR3 ?_; intro w4 hr4 hk4 hs4; clear hs4))
   (try simp only [Exit.inBlock, Exit.then])
   refine bodyPost_ret (v := .tuple #[pv noP, .int .i64 2]) (results_pair rfl _ _ w.heap.size noP rfl rfl hr4 _ rfl) rfl ?_
   exact ⟨rfl, kk3.trans hk4 (fun b hb e => by have h3 : b = w.heap.size := e; omega)⟩
  | true =>
   have hd2 := HQ2.out
   rw [if_pos rfl] at hd2
   cases hd2
   go_wp2_with (first | (refine wpList_st rfl (.tmp 4) (.tmp 18) rfl w2.heap.size R noP rfl rfl HQ.out rfl (Blk.new w2 64 (ab noP)) ?_; intro w3 hn3 hk3 hs3; clear hs3; have hR3 := (hR2.alloc (.cells #[.int .i64 0, .int .i64 0, .int .i64 0, .int .i64 0] 64)).keep hk3 hne; have kk3 := (kk2.alloc (.cells #[.int .i64 0, .int .i64 0, .int .i64 0, .int .i64 0] 64)).trans hk3 (fun b hb e => by have h3 : b = w2.heap.size := e; omega)) | (refine wpList_ld rfl (.tmp 4) rfl w2.heap.size R rfl HQ.out hn3 ?_) | (refine wpList_st rfl (.tmp 2) _ rfl w.heap.size R noP rfl rfl HQ.out rfl hR3 ?_; intro w4 hr4 hk4 hs4; clear hs4))
   (try simp only [Exit.inBlock, Exit.then])
   refine bodyPost_ret (v := .tuple #[pv R, .int .i64 1]) (results_pair rfl _ _ w.heap.size R HQ.out rfl hr4 _ rfl) rfl ?_
   exact ⟨rfl, kk3.trans hk4 (fun b hb e => by have h3 : b = w.heap.size := e; omega)⟩
 subst h24
 obtain ⟨q, hq⟩ : ∃ q, aA l = q := ⟨_, rfl⟩
 have hbl := aa (kY (c := cap) hr0 (by omega) q hq)
 cases q with
 | true =>
  have hd2 : (noP, (0 : Int)) = (R, d) := by rw [← HD.out, dcd, if_pos hl, hq, if_pos rfl]
  cases hd2
  clear HD HL hr hl hq
  go_enter Tryz.func73, Tryz.ntmps73
  go_wp2_with fail
  refine (hbl.out).mono ?_; rintro e w1 ⟨rfl, rfl⟩
  go_wp2_with (refine wpList_st rfl _ _ rfl _ noP noP rfl rfl rfl rfl hR0 ?_; intro w4 hr4 hk4 hs4; clear hs4)
  (try simp only [Exit.inBlock, Exit.then])
  refine bodyPost_ret (v := .tuple #[pv noP, .int .i64 0]) (results_pair rfl _ _ w.heap.size noP rfl rfl hr4 _ rfl) rfl ?_
  exact ⟨rfl, hK0.trans hk4 (fun b hb e => by have h3 : b = w.heap.size := e; omega)⟩
 | false =>
  obtain ⟨b, hb⟩ : ∃ b, gd l = b := ⟨_, rfl⟩
  obtain ⟨Q, hQ⟩ : ∃ Q, (if b then rd l else noP) = Q := ⟨_, rfl⟩
  have HQ := aa (show Q.length = 4 from by rw [← hQ]; split; exact cY _; rfl)
  have h2 : eY l = (Q, b) := by rw [eY, if_pos hl, hb, ← hQ]; cases b <;> rfl
  have HQ2 := aa (show (if b then (Q, (1 : Int)) else (noP, 2)) = (R, d) from by rw [← HD.out, dcd, if_pos hl, hq, hb, ← hQ]; cases b <;> rfl)
  have HC := aa h2
  clear hQ hb h2 HD HL hr hl hq
  go_enter Tryz.func73, Tryz.ntmps73
  go_wp2_with fail
  refine (hbl.out).mono ?_; rintro e w1 ⟨rfl, rfl⟩
  go_wp2_with fail
  refine (eN _).mono ?_; rintro e w1 ⟨p, rfl, h1, k1⟩
  have hR1 := hR0.nob k1
  have kk1 := hK0.nobt k1
  have hr1 := hr0.nob k1
  clear hR0 hK0 hr0
  go_wp2_with fail
  refine (fi p A 8 cap l _ h1 hr1 hn Q b HC.out).mono ?_; rintro e w2 ⟨rfl, k2⟩
  have hR2 := hR1.nob k2
  have kk2 := kk1.nobt k2
  have hge : w.heap.size ≤ w2.heap.size := kk2.size
  have hne : w.heap.size ≠ w2.heap.size := by have := hR2.lt; omega
  clear hR1 kk1 hr1 h1 k1 k2
  unfold pv
  cases b with
  | false =>
   have hd2 := HQ2.out
   rw [if_neg (by simp)] at hd2
   cases hd2
   go_wp2_with (first | (refine wpList_st rfl (.tmp 4) (.tmp 18) rfl w2.heap.size Q noP rfl rfl HQ.out rfl (Blk.new w2 64 (ab noP)) ?_; intro w3 hn3 hk3 hs3; clear hs3; have hR3 := (hR2.alloc (.cells #[.int .i64 0, .int .i64 0, .int .i64 0, .int .i64 0] 64)).keep hk3 hne; have kk3 := (kk2.alloc (.cells #[.int .i64 0, .int .i64 0, .int .i64 0, .int .i64 0] 64)).trans hk3 (fun b hb e => by have h3 : b = w2.heap.size := e; omega)) | (refine wpList_st rfl (.tmp 2) _ rfl w.heap.size noP noP rfl rfl rfl rfl hR3 ?_; intro w4 hr4 hk4 hs4; clear hs4))
   (try simp only [Exit.inBlock, Exit.then])
   refine bodyPost_ret (v := .tuple #[pv noP, .int .i64 2]) (results_pair rfl _ _ w.heap.size noP rfl rfl hr4 _ rfl) rfl ?_
   exact ⟨rfl, kk3.trans hk4 (fun b hb e => by have h3 : b = w.heap.size := e; omega)⟩
  | true =>
   have hd2 := HQ2.out
   rw [if_pos rfl] at hd2
   cases hd2
   go_wp2_with (first | (refine wpList_st rfl (.tmp 4) (.tmp 18) rfl w2.heap.size R noP rfl rfl HQ.out rfl (Blk.new w2 64 (ab noP)) ?_; intro w3 hn3 hk3 hs3; clear hs3; have hR3 := (hR2.alloc (.cells #[.int .i64 0, .int .i64 0, .int .i64 0, .int .i64 0] 64)).keep hk3 hne; have kk3 := (kk2.alloc (.cells #[.int .i64 0, .int .i64 0, .int .i64 0, .int .i64 0] 64)).trans hk3 (fun b hb e => by have h3 : b = w2.heap.size := e; omega)) | (refine wpList_ld rfl (.tmp 4) rfl w2.heap.size R rfl HQ.out hn3 ?_) | (refine wpList_st rfl (.tmp 2) _ rfl w.heap.size R noP rfl rfl HQ.out rfl hR3 ?_; intro w4 hr4 hk4 hs4; clear hs4))
   (try simp only [Exit.inBlock, Exit.then])
   refine bodyPost_ret (v := .tuple #[pv R, .int .i64 1]) (results_pair rfl _ _ w.heap.size R HQ.out rfl hr4 _ rfl) rfl ?_
   exact ⟨rfl, kk3.trans hk4 (fun b hb e => by have h3 : b = w.heap.size := e; omega)⟩
end Go.Proofs.YtgcikpgcoemfnaaGreat.Fi
namespace Go.Proofs.YtgcikpgcoemfnaaGreat.Ri
open Go.RowKit Cd
theorem pc_splice (a b c d : Int) (l : List UInt8) (h : l.length = 32) : splice (pc ⟨a, b, c, d, nod⟩) 4 (bytes l) = pc ⟨a, b, c, d, l⟩ := by
 unfold splice
 show _ ++ (bytes l ++ List.drop (4 + (bytes l).length) _) = _
 rw [am, h]
 show _ ++ (bytes l ++ []) = _
 rw [List.append_nil]; rfl
theorem read_is (l : List UInt8) (hl : l.length = 40) (g c : Nat) (hc : 40 ≤ c) (w : World) (hr : ae w (some ⟨g, 0, none⟩) 40 (bytes l)) (R : Pp) (hR : rd l = R) (v : Bool) (hv : gd l = v) :
  Calls Tryz.prog 338 #[.slice (some ⟨g, 0, none⟩) 40 c] w fun e w' => e = .returned (.tuple #[pv R, .bool v]) ∧ Keep Nob w w' := by
 have hlt := block_lt_of_cell (aW hr (k := 0) (by decide))
 have hlt' : g < w.heap.size := hlt
 have h0 := aW hr (k := 1) (by decide)
 have h1 := aW hr (k := 2) (by decide)
 have h2 := aW hr (k := 3) (by decide)
 have h3 := aW hr (k := 4) (by decide)
 have u0 := cz (l.getD 1 0)
 have u1 := cz (l.getD 2 0)
 have u2 := cz (l.getD 3 0)
 have u3 := cz (l.getD 4 0)
 have hgd : (okd (rd l) && enc (rd l) == l) = v := hv
 have HRL := aa (show R.d.length = 32 from by rw [← hR]; exact cY hl)
 have hr8 : ae w (some ⟨g, 8, none⟩) 32 (bytes (l.drop 8)) := by
  refine ⟨by simp [hl], fun _ => ⟨_, rfl, fun j u hu => ?_⟩⟩
  obtain ⟨ad, e1, e2⟩ := hr.2 (by decide)
  cases e1
  have e3 := e2 (8 + j) u (by rw [ip, List.getElem?_drop] at hu; exact hu)
  rw [cR] at e3 ⊢
  rwa [Nat.zero_add] at e3
 have hl8 : (l.drop 8).length = 32 := by simp [hl]
 rw [hR] at hgd
 have hR4 : Pp.mk ((l.getD 1 0).toNat : Int) ((l.getD 2 0).toNat : Int) ((l.getD 3 0).toNat : Int) ((l.getD 4 0).toNat : Int) (l.drop 8) = R := hR
 obtain ⟨x0, hx0⟩ : ∃ x, ((l.getD 1 0).toNat : Int) = x := ⟨_, rfl⟩
 obtain ⟨x1, hx1⟩ : ∃ x, ((l.getD 2 0).toNat : Int) = x := ⟨_, rfl⟩
 obtain ⟨x2, hx2⟩ : ∃ x, ((l.getD 3 0).toNat : Int) = x := ⟨_, rfl⟩
 obtain ⟨x3, hx3⟩ : ∃ x, ((l.getD 4 0).toNat : Int) = x := ⟨_, rfl⟩
 rw [hx0, hx1, hx2, hx3] at hR4
 rw [hx0] at h0 u0
 rw [hx1] at h1 u1
 rw [hx2] at h2 u2
 rw [hx3] at h3 u3
 have i0 : IntKind.i64.wrap x0 = x0 := ax _ (by omega) (by omega)
 have i1 : IntKind.i64.wrap x1 = x1 := ax _ (by omega) (by omega)
 have i2 : IntKind.i64.wrap x2 = x2 := ax _ (by omega) (by omega)
 have i3 : IntKind.i64.wrap x3 = x3 := ax _ (by omega) (by omega)
 have HR := aa hr
 have HR8 := aa hr8
 have HL8 := aa hl8
 generalize l.drop 8 = m at *
 have HR4 := aa hR4
 have HGD := aa hgd
 have hc8 : ¬ (c = 8) := by omega
 have hcl : 40 ≤ c := hc
 have q0 : ∀ w2, Keep Nob w w2 → w2.cell? ⟨g, 1, none⟩ = some (.int .u8 x0) ∧ w2.cell? ⟨g, 2, none⟩ = some (.int .u8 x1) ∧ w2.cell? ⟨g, 3, none⟩ = some (.int .u8 x2) ∧ w2.cell? ⟨g, 4, none⟩ = some (.int .u8 x3) := fun w2 k => by
  have f : ∀ a v, w.cell? a = some v → a.block < w.heap.size → w2.cell? a = some v := fun a v h hb => by
   rw [← h]; exact World.cell?_of_block (w := w) (k.block _ hb (fun f => f))
  exact ⟨f _ _ h0 hlt', f _ _ h1 hlt', f _ _ h2 hlt', f _ _ h3 hlt'⟩
 have HQ0 := aa q0
 clear hR hv hr hx0 hx1 hx2 hx3 hlt hR4 hgd hr8 hl8 hc h0 h1 h2 h3 u0 u1 u2 u3 q0
 go_enter Tryz.func338, Tryz.ntmps338
 go_wp2_with (refine wpList_al rfl rfl ?_; intro w0 hr0 hk0 hs0; clear hs0)
 have hr0 := hr0.drew
 have hk0 := hk0.drew
 refine wp_region_held_drew (S := (fun w' => w'.cell? ⟨g, 1, none⟩ = some (.int .u8 x0) ∧ w'.cell? ⟨g, 2, none⟩ = some (.int .u8 x1) ∧ w'.cell? ⟨g, 3, none⟩ = some (.int .u8 x2) ∧ w'.cell? ⟨g, 4, none⟩ = some (.int .u8 x3))) (by kernel_rfl) (HQ0.out _ hk0) (fun hHeld => ?_)
 generalize w0.drew = wd at *
 refine tk 0 rfl ?_ ?_ ?_
 rotate_left
 ·(intro w hSw; (try dsimp only at hSw); obtain ⟨s1, s2, s3, s4⟩ := hSw; go_simp; try with_reducible rfl)
 try simp only [Act.put, zS]
 refine tk 1 rfl ?_ ?_ ?_
 rotate_left
 ·(intro w hSw; (try dsimp only at hSw); obtain ⟨s1, s2, s3, s4⟩ := hSw; go_simp; try with_reducible rfl)
 try simp only [Act.put, zS]
 refine tk 2 rfl ?_ ?_ ?_
 rotate_left
 ·(intro w hSw; (try dsimp only at hSw); obtain ⟨s1, s2, s3, s4⟩ := hSw; go_simp; try with_reducible rfl)
 try simp only [Act.put, zS]
 refine tk 3 rfl ?_ ?_ ?_
 rotate_left
 ·(intro w hSw; (try dsimp only at hSw); obtain ⟨s1, s2, s3, s4⟩ := hSw; go_simp; try with_reducible rfl)
 try simp only [Act.put, zS]
 refine tk 4 rfl ?_ ?_ ?_
 rotate_left
 ·(intro w hSw; (try dsimp only at hSw); obtain ⟨s1, s2, s3, s4⟩ := hSw; go_simp; try with_reducible rfl)
 try simp only [Act.put, zS]
 refine tk 5 rfl ?_ ?_ ?_
 rotate_left
 ·(intro w hSw; (try dsimp only at hSw); obtain ⟨s1, s2, s3, s4⟩ := hSw; go_simp; try with_reducible rfl)
 try simp only [Act.put, zS]
 refine tk 6 rfl ?_ ?_ ?_
 rotate_left
 ·(intro w hSw; (try dsimp only at hSw); obtain ⟨s1, s2, s3, s4⟩ := hSw; go_simp; try with_reducible rfl)
 try simp only [Act.put, zS]
 refine tk 7 rfl ?_ ?_ ?_
 rotate_left
 ·(intro w hSw; (try dsimp only at hSw); obtain ⟨s1, s2, s3, s4⟩ := hSw; go_simp; try with_reducible rfl)
 try simp only [Act.put, zS]
 refine tk 8 rfl ?_ ?_ ?_
 rotate_left
 ·(intro w hSw; (try dsimp only at hSw); obtain ⟨s1, s2, s3, s4⟩ := hSw; go_simp; try with_reducible rfl)
 try simp only [Act.put, zS]
 refine tk 9 rfl ?_ ?_ ?_
 rotate_left
 ·(intro w hSw; (try dsimp only at hSw); obtain ⟨s1, s2, s3, s4⟩ := hSw; go_simp; try with_reducible rfl)
 try simp only [Act.put, zS]
 refine tk 10 rfl ?_ ?_ ?_
 rotate_left
 ·(intro w hSw; (try dsimp only at hSw); obtain ⟨s1, s2, s3, s4⟩ := hSw; go_simp; try with_reducible rfl)
 try simp only [Act.put, zS]
 refine tk 11 rfl ?_ ?_ ?_
 rotate_left
 ·(intro w hSw; (try dsimp only at hSw); obtain ⟨s1, s2, s3, s4⟩ := hSw; go_simp; try with_reducible rfl)
 try simp only [Act.put, zS]
 refine tk 12 rfl ?_ ?_ ?_
 rotate_left
 ·(intro w hSw; (try dsimp only at hSw); obtain ⟨s1, s2, s3, s4⟩ := hSw; go_simp; try with_reducible rfl)
 try simp only [Act.put, zS]
 refine tk 13 rfl ?_ ?_ ?_
 rotate_left
 ·(intro w hSw; (try dsimp only at hSw); obtain ⟨s1, s2, s3, s4⟩ := hSw; go_simp; try with_reducible rfl)
 try simp only [Act.put, zS]
 refine tk 14 rfl ?_ ?_ ?_
 rotate_left
 ·(intro w hSw; (try dsimp only at hSw); obtain ⟨s1, s2, s3, s4⟩ := hSw; go_simp; try with_reducible rfl)
 try simp only [Act.put, zS]
 refine tk 15 rfl ?_ ?_ ?_
 rotate_left
 ·(intro w hSw; (try dsimp only at hSw); obtain ⟨s1, s2, s3, s4⟩ := hSw; go_simp; try with_reducible rfl)
 try simp only [Act.put, zS]
 refine tk 16 rfl ?_ ?_ ?_
 rotate_left
 ·(intro w hSw; (try dsimp only at hSw); obtain ⟨s1, s2, s3, s4⟩ := hSw; refine exec_bu (.tmp 9) (.tmp 13) (.tmp 17) (.tmp 21) ?_ x0 x1 x2 x3 ?_ ?_ ?_ ?_ <;> rfl)
 try simp only [Act.put, zS]
 refine wpAnyH_ready (rs := [17]) (by kernel_rfl) (by simp) ?_
 refine AllReadyH.cons rfl (fun K hK => ?_) AllReadyH.nil
 refine wp_al rfl ?_; intro wa hp0 kA sA; clear sA
 refine hK.out _ _ ?_ (fun hHeld => ?_)
 ·exact HQ0.out _ (hk0.nobt kA)
 clear hK K
 try simp only [Act.put, zS]
 have hgr : w.heap.size ≠ wd.heap.size := by have := hr0.lt; omega
 have hgp : g ≠ wd.heap.size := by have := hk0.size; omega
 have hgd : wd.heap.size ≤ wd.heap.size := Nat.le_refl _
 generalize hgpe : wd.heap.size = gp at *
 refine wpAnyH_ready (rs := [18]) (by kernel_rfl) (by simp) ?_
 refine AllReadyH.cons rfl (fun K hK => ?_) AllReadyH.nil
 rw [if_pos (by rfl)]
 refine aU (old := noP) (q := ⟨x0, x1, x2, x3, nod⟩) rfl rfl rfl rfl rfl hp0 ?_
 have kB := (Keep.refl (· = gp) wa).setRow gp (pc ⟨x0, x1, x2, x3, nod⟩).toArray (fun _ => rfl)
 have hp1 : Blk _ gp 83 (pc ⟨x0, x1, x2, x3, nod⟩) := hp0.setRow _
 refine hK.out _ _ ?_ (fun hHeld => ?_)
 ·exact (by have := HQ0.out _ (hk0.nobt kA |>.trans kB (fun b hb e => by have h3 : b = gp := e; have := hk0.size; omega)); exact this)
 clear hK K
 try simp only [Act.put, zS]
 refine wpAnyH_done (by kernel_rfl) ?_ _
 clear hp0 hgd
 generalize wa.setRow gp (pc ⟨x0, x1, x2, x3, nod⟩).toArray = w1 at *
 have hr1 : Blk w1 w.heap.size 83 (pc noP) := hr0.nob kA |>.keep kB hgr
 have hk1 : Keep Nob w w1 := (hk0.nobt kA).trans kB (fun b hb e => by have h3 : b = gp := e; have := hk0.size; omega)
 have hgn : w.heap.size ≤ gp := by have := hk0.size; omega
 clear hr0 hk0 kA kB HQ0 i0 i1 i2 i3
 obtain ⟨w2, hcp, hp2, hk2, hs2⟩ := run_cp (P := Tryz.prog) w1.drew 28 28 5 Tryz.underlying28 Tryz.size5 (some ⟨gp, 4, none⟩) (some ⟨g, 8, none⟩) 32 32 32 (c - 8) gp 4 _ 83 hp1.drew (bytes m) (HR8.out.nob hk1.drew) (fun _ => rfl) (by rw [bQ (by rfl)]; exact Nat.le_refl _) (dX _)
 rw [List.take_of_length_le (by rw [am, HL8.out]; exact Nat.le_refl _), pc_splice _ _ _ _ _ HL8.out, HR4.out] at hp2
 have hr2 : Blk w2 w.heap.size 83 (pc noP) := hr1.drew.keep hk2 hgr
 have hk2 : Keep Nob w w2 := hk1.drew.trans hk2 (fun b hb e => by have h3 : b = gp := e; omega)
 clear hp1 hr1 hk1 HR4 HR8 HL8
 clear hs2
 go_upto_region 2 with fail
 go_region
 clear hcp hc8 hcl
 go_wp2_with (refine bu rfl _ _ 28 rfl 5 (.int .u8 0) 1 Tryz.underlying28 Tryz.info5 rfl .i64 .i64 40 _ rfl rfl rfl (by omega) (by omega) ?_; intro w5 hb5 hk5 hs5)
 clear hs5
 have hp5 := hp2.nob hk5
 have hr5 := hr2.nob hk5
 have hk6 := hk2.nobt hk5
 have hR5 := (HR.out.nob hk2).nob hk5
 have hgw : w2.heap.size ≠ gp := by have := hp2.lt; omega
 have hga : w2.heap.size ≠ w.heap.size := by have := hr2.lt; omega
 have hgb : w2.heap.size ≠ g := by have := hk2.size; omega
 have hge : w.heap.size ≤ w2.heap.size := hk2.size
 rw [← ao] at hb5
 clear hp2 hr2 hk2 hk5
 generalize w2.heap.size = ga at *
 have hpd := hp5.drew
 have hrd := hr5.drew
 have hkd := hk6.drew
 have hRd := hR5.nob ((Keep.refl Nob w5).drew)
 have hbd := hb5.drew
 clear hp5 hr5 hk6 hR5 hb5
 have hgr' : gp ≠ w.heap.size := Ne.symm hgr
 have hgd := HGD.out
 clear HGD
 cases ho : okd R with
 | true =>
  rw [ho, Bool.true_and] at hgd
  have ho2 := li R HRL.out ga _ hbd true ho
  simp only [pv, if_true] at ho2
  have HO := aa ho2
  have HV := aa hgd
  clear ho2 ho hgd
  refine wp_region_held_drew (S := (fun w' => Blk w' gp 83 (pc R))) (by kernel_rfl) hpd (fun hHeld => ?_)
  refine tk 0 rfl ?_ ?_ ?_
  rotate_left
  ·(intro w hSw; (try dsimp only at hSw); refine aG (x := .tmp 4) ?_ ?_ HRL.out hSw <;> rfl)
  try simp only [Act.put, zS]
  refine tk 1 rfl ?_ ?_ ?_
  rotate_left
  ·(intro w hSw; (try dsimp only at hSw); refine aG (x := .tmp 4) ?_ ?_ HRL.out hSw <;> rfl)
  try simp only [Act.put, zS]
  refine tk 2 rfl ?_ ?_ ?_
  rotate_left
  ·(intro w hSw; (try dsimp only at hSw); go_simp; try with_reducible rfl)
  try simp only [Act.put, zS]
  refine wpAnyH_ready (rs := [3]) (by kernel_rfl) (by simp) ?_
  refine AllReadyH.cons rfl (fun K hK => ?_) AllReadyH.nil
  go_simp
  with_reducible_and_instances apply Calls.mono HO.out; rintro e w6 ⟨rfl, z6, k6⟩
  have hp6 := hpd.keep k6 (Ne.symm hgw)
  have hr6 := hrd.keep k6 (Ne.symm hga)
  refine hK.out _ _ ?_ (fun hHeld => ?_)
  ·exact hp6
  clear hK K
  try simp only [Act.put, zS]
  refine tk 4 rfl ?_ ?_ ?_
  rotate_left
  ·(intro w hSw; (try dsimp only at hSw); go_simp; try with_reducible rfl)
  try simp only [Act.put, zS]
  refine tk 5 rfl ?_ ?_ ?_
  rotate_left
  ·(intro w hSw; (try dsimp only at hSw); go_simp; try with_reducible rfl)
  try simp only [Act.put, zS]
  refine tk 6 rfl ?_ ?_ ?_
  rotate_left
  ·(intro w hSw; (try dsimp only at hSw); go_simp; try with_reducible rfl)
  try simp only [Act.put, zS]
  refine wpAnyH_ready (rs := [7]) (by kernel_rfl) (by simp) ?_
  refine AllReadyH.cons rfl (fun K hK => ?_) AllReadyH.nil
  go_simp
  refine (fR _ _ _ _ _ _ (enc R) l _ (aj z6 (by rw [am, aJ HRL.out])) (hRd.keep k6 (fun ad e => by cases e; exact Ne.symm hgb)) v HV.out).mono ?_; rintro e w7 ⟨rfl, rfl⟩
  refine hK.out _ _ ?_ (fun hHeld => ?_)
  ·exact hp6
  clear hK K
  try simp only [Act.put, zS]
  refine tk 8 rfl ?_ ?_ ?_
  rotate_left
  ·(intro w hSw; (try dsimp only at hSw); go_simp; try with_reducible rfl)
  try simp only [Act.put, zS]
  refine wpAnyH_ready (rs := [9]) (by kernel_rfl) (by simp) ?_
  refine AllReadyH.cons rfl (fun K hK => ?_) AllReadyH.nil
  rw [if_pos (by rfl)]
  refine aU (old := noP) (q := R) rfl rfl rfl HRL.out rfl hr6 ?_
  refine hK.out _ _ ?_ (fun hHeld => ?_)
  ·exact hp6.setRow_far hgr' _
  clear hK K
  try simp only [Act.put, zS]
  refine tk 10 rfl ?_ ?_ ?_
  rotate_left
  ·(intro w hSw; (try dsimp only at hSw); go_simp; try with_reducible rfl)
  try simp only [Act.put, zS]
  refine wpAnyH_done (by kernel_rfl) ?_ _
  have fin := (hkd.trans k6 (fun b hb e => by have h3 : b = ga := e; omega)).setRow w.heap.size (pc R).toArray (fun h => absurd h (Nat.lt_irrefl _))
  have hr7 := hr6.setRow (pc R)
  go_wp2
  (try simp only [Exit.inBlock, Exit.then])
  refine bodyPost_ret (v := .tuple #[pv R, .bool v]) (results_pair rfl _ _ w.heap.size R HRL.out rfl hr7 _ rfl) rfl ?_
  exact ⟨rfl, fin⟩
 | false =>
  rw [ho, Bool.false_and] at hgd
  have ho2 := li R HRL.out ga _ hbd false ho
  simp only [pv, if_false, Bool.false_eq_true] at ho2
  have HO := aa ho2
  clear ho2 ho
  subst hgd
  refine wp_region_held_drew (S := (fun w' => Blk w' gp 83 (pc R))) (by kernel_rfl) hpd (fun hHeld => ?_)
  refine tk 0 rfl ?_ ?_ ?_
  rotate_left
  ·(intro w hSw; (try dsimp only at hSw); refine aG (x := .tmp 4) ?_ ?_ HRL.out hSw <;> rfl)
  try simp only [Act.put, zS]
  refine tk 1 rfl ?_ ?_ ?_
  rotate_left
  ·(intro w hSw; (try dsimp only at hSw); refine aG (x := .tmp 4) ?_ ?_ HRL.out hSw <;> rfl)
  try simp only [Act.put, zS]
  refine tk 2 rfl ?_ ?_ ?_
  rotate_left
  ·(intro w hSw; (try dsimp only at hSw); go_simp; try with_reducible rfl)
  try simp only [Act.put, zS]
  refine wpAnyH_ready (rs := [3]) (by kernel_rfl) (by simp) ?_
  refine AllReadyH.cons rfl (fun K hK => ?_) AllReadyH.nil
  go_simp
  with_reducible_and_instances apply Calls.mono HO.out; rintro e w6 ⟨rfl, z6, k6⟩
  have hp6 := hpd.keep k6 (Ne.symm hgw)
  have hr6 := hrd.keep k6 (Ne.symm hga)
  refine hK.out _ _ ?_ (fun hHeld => ?_)
  ·exact hp6
  clear hK K
  try simp only [Act.put, zS]
  refine tk 4 rfl ?_ ?_ ?_
  rotate_left
  ·(intro w hSw; (try dsimp only at hSw); go_simp; try with_reducible rfl)
  try simp only [Act.put, zS]
  refine sk 5 rfl ?_
  try simp only [Act.put, zS]
  refine sk 6 rfl ?_
  try simp only [Act.put, zS]
  refine sk 7 rfl ?_
  try simp only [Act.put, zS]
  refine tk 8 rfl ?_ ?_ ?_
  rotate_left
  ·(intro w hSw; (try dsimp only at hSw); go_simp; try with_reducible rfl)
  try simp only [Act.put, zS]
  refine wpAnyH_ready (rs := [9]) (by kernel_rfl) (by simp) ?_
  refine AllReadyH.cons rfl (fun K hK => ?_) AllReadyH.nil
  rw [if_pos (by rfl)]
  refine aU (old := noP) (q := R) rfl rfl rfl HRL.out rfl hr6 ?_
  refine hK.out _ _ ?_ (fun hHeld => ?_)
  ·exact hp6.setRow_far hgr' _
  clear hK K
  try simp only [Act.put, zS]
  refine tk 10 rfl ?_ ?_ ?_
  rotate_left
  ·(intro w hSw; (try dsimp only at hSw); go_simp; try with_reducible rfl)
  try simp only [Act.put, zS]
  refine wpAnyH_done (by kernel_rfl) ?_ _
  have fin := (hkd.trans k6 (fun b hb e => by have h3 : b = ga := e; omega)).setRow w.heap.size (pc R).toArray (fun h => absurd h (Nat.lt_irrefl _))
  have hr7 := hr6.setRow (pc R)
  go_wp2
  (try simp only [Exit.inBlock, Exit.then])
  refine bodyPost_ret (v := .tuple #[pv R, .bool false]) (results_pair rfl _ _ w.heap.size R HRL.out rfl hr7 _ rfl) rfl ?_
  exact ⟨rfl, fin⟩
end Go.Proofs.YtgcikpgcoemfnaaGreat.Ri
