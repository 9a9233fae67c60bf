import Derived.Test.YtgcikpgcoemfnaaGreatPs13
import Derived.Test.YtgcikpgcoemfnaaGreatPsHd
set_option maxRecDepth 100000
set_option maxHeartbeats 8000000
set_option linter.unusedVariables false
set_option linter.unusedSimpArgs false
namespace Go.Proofs.YtgcikpgcoemfnaaGreat.Ri
open Go.RowKit Cd
def IsC (w : World) (p : Nat) : Prop := Blk w p 422 [.int .i64 40, .func (.func 337) #[] #[], .func (.func 338) #[] #[]]
theorem IsC.nob {w w' : World} {p : Nat} (h : IsC w p) (k : Keep Nob w w') : IsC w' p := Blk.nob h k
theorem new_is (w : World) : Calls Tryz.prog 336 #[.int .i64 40, .func (.func 337) #[] #[], .func (.func 338) #[] #[]] w fun e w' => e = .returned (.pointer (some ⟨w.heap.size, 0, none⟩)) ∧ IsC w' w.heap.size ∧ Keep Nob w w' := by
 go_enter Tryz.func336, Tryz.ntmps336
 go_wp2
 go_ret
 exact ⟨rfl, Blk.new w 422 [.int .i64 40, .func (.func 337) #[] #[], .func (.func 338) #[] #[]], (Keep.refl Nob w).alloc _⟩
theorem ez (w : World) : Calls Tryz.prog 302 #[] w fun e w' => ∃ p, e = .returned (.pointer (some ⟨p, 0, none⟩)) ∧ IsC w' p ∧ Keep Nob w w' := by
 go_enter Tryz.func302, Tryz.ntmps302
 go_wp2_with fail
 refine (new_is w).mono ?_; rintro e w1 ⟨rfl, h1, k1⟩
 go_wp2
 go_ret
 exact ⟨_, rfl, h1, k1⟩
theorem pnil (f : Fn) (a b : Array Value) (w : World) : (binOp .eql 420 (.func f a b) .nilFunc).run Tryz.prog w = .ok (.bool false) w := by
 have := Tryz.underlying420
 first
 | (rfl; done)
 | (go_simp; done)
theorem gnil (f : Fn) (a b : Array Value) (w : World) : (binOp .eql 400 (.func f a b) .nilFunc).run Tryz.prog w = .ok (.bool false) w := by
 have := Tryz.underlying400
 first
 | (rfl; done)
 | (go_simp; done)
def Told (w0 w : World) (P : Pp) (v : Bool) (x : Value) : Prop := match v with
 | true => ∃ A m, x = .slice A 40 m ∧ Vec w 5 1 A 40 m (bytes (enc P)) ∧ (∀ g, Own A g → w0.heap.size ≤ g)
 | false => x = .slice none 0 0
theorem Told.from_ {w0 w0' w : World} {P : Pp} {v : Bool} {x : Value} (h : Told w0' w P v x) (hs : w0.heap.size ≤ w0'.heap.size) : Told w0 w P v x := by
 cases v with
 | true => obtain ⟨A, m, h1, h2, h3⟩ := h; exact ⟨A, m, h1, h2, fun g hg => Nat.le_trans hs (h3 g hg)⟩
 | false => exact h
theorem iB (p : Nat) (P : Pp) (hl : P.d.length = 32) (w : World) (h : IsC w p) (v : Bool) (hv : okd P = v) :
  Calls Tryz.prog 335 #[.pointer (some ⟨p, 0, none⟩), pv P] w fun e w' => ∃ x, e = .returned (.tuple #[x, .bool v]) ∧ Told w w' P v x ∧ Keep Nob w w' := by
 have hnil := pnil
 have ho := fun g w hz => li P hl g w hz v hv
 simp only [pv] at ho ⊢
 have HO := aa ho
 have HL := aa hl
 clear ho hl
 go_enter Tryz.func335, Tryz.ntmps335
 go_wp2_with (first | (refine af rfl 83 _ rfl _ rfl ?_; intro w1 hb1 hk1 hs1; clear hs1; have hb1 : Blk w1 w.heap.size 83 (pc P) := hb1; have c0 : w1.cell? ⟨p, 0, none⟩ = some (.int .i64 40) := Blk.cell (h.nob hk1) 0) | (refine bu rfl _ _ 28 rfl 5 (.int .u8 0) 1 Tryz.underlying28 Tryz.info5 rfl .i64 .i64 40 _ rfl rfl rfl (by omega) (by omega) ?_; intro w2 hb2 hk2 hs2; clear hs2))
 rw [← ao] at hb2
 have hC2 := (h.nob hk1).nob hk2
 have hB2 := hb1.nob hk2
 have hK2 := hk1.nobt hk2
 have hge : w.heap.size ≤ w1.heap.size := hk1.size
 have hne : w.heap.size ≠ w1.heap.size := by have := hb1.lt; omega
 have hpe : p ≠ w1.heap.size := by have := (h.nob hk1).lt; omega
 clear c0 hb1 hk1 hk2 h
 generalize w1.heap.size = g at *
 have hC := hC2.nob (Keep.nobdrew w2)
 have hB := hB2.drew
 have kk := hK2.drew
 have hz := hb2.drew
 clear hC2 hB2 hK2 hb2
 have c1 : w2.drew.cell? ⟨p, 1, none⟩ = some (.func (.func 337) #[] #[]) := Blk.cell hC 1
 refine wp_region_held_drew (S := (fun w' => w'.cell? ⟨p, 1, none⟩ = some (.func (.func 337) #[] #[]) ∧ Blk w' w.heap.size 83 (pc P))) (by kernel_rfl) ⟨c1, hB⟩ (fun hHeld => ?_)
 refine tk 0 rfl ?_ ?_ ?_
 rotate_left
 ·(intro w hSw; (try dsimp only at hSw); obtain ⟨s1, s2⟩ := hSw; go_simp; try with_reducible rfl)
 try simp only [Act.put, zS]
 refine tk 1 rfl ?_ ?_ ?_
 rotate_left
 ·(intro w hSw; (try dsimp only at hSw); obtain ⟨s1, s2⟩ := hSw; go_simp; try with_reducible rfl)
 try simp only [Act.put, zS]
 refine tk 2 rfl ?_ ?_ ?_
 rotate_left
 ·(intro w hSw; (try dsimp only at hSw); obtain ⟨s1, s2⟩ := hSw; go_simp; try with_reducible rfl)
 try simp only [Act.put, zS]
 refine tk 3 rfl ?_ ?_ ?_
 rotate_left
 ·(intro w hSw; (try dsimp only at hSw); obtain ⟨s1, s2⟩ := hSw; go_simp; try with_reducible rfl)
 try simp only [Act.put, zS]
 refine tk 4 rfl ?_ ?_ ?_
 rotate_left
 ·(intro w hSw; (try dsimp only at hSw); obtain ⟨s1, s2⟩ := hSw; go_simp; try with_reducible rfl)
 try simp only [Act.put, zS]
 refine tk 5 rfl ?_ ?_ ?_
 rotate_left
 ·(intro w hSw; (try dsimp only at hSw); obtain ⟨s1, s2⟩ := hSw; go_simp; try with_reducible rfl)
 try simp only [Act.put, zS]
 refine tk 6 rfl ?_ ?_ ?_
 rotate_left
 ·(intro w hSw; (try dsimp only at hSw); obtain ⟨s1, s2⟩ := hSw; go_simp; try with_reducible rfl)
 try simp only [Act.put, zS]
 refine tk 7 rfl ?_ ?_ ?_
 rotate_left
 ·(intro w hSw; (try dsimp only at hSw); obtain ⟨s1, s2⟩ := hSw; go_simp; try with_reducible rfl)
 try simp only [Act.put, zS]
 refine tk 8 rfl ?_ ?_ ?_
 rotate_left
 ·(intro w hSw; (try dsimp only at hSw); obtain ⟨s1, s2⟩ := hSw; go_simp; try with_reducible rfl)
 try simp only [Act.put, zS]
 refine tk 9 rfl ?_ ?_ ?_
 rotate_left
 ·(intro w hSw; (try dsimp only at hSw); obtain ⟨s1, s2⟩ := hSw; go_simp; try with_reducible rfl)
 try simp only [Act.put, zS]
 refine tk 10 rfl ?_ ?_ ?_
 rotate_left
 ·(intro w hSw; (try dsimp only at hSw); obtain ⟨s1, s2⟩ := hSw; refine aG (x := .tmp 3) ?_ ?_ HL.out s2 <;> rfl)
 try simp only [Act.put, zS]
 refine tk 11 rfl ?_ ?_ ?_
 rotate_left
 ·(intro w hSw; (try dsimp only at hSw); obtain ⟨s1, s2⟩ := hSw; go_simp; try with_reducible rfl)
 try simp only [Act.put, zS]
 refine wpAnyH_ready (rs := [12]) (by kernel_rfl) (by simp) ?_
 refine AllReadyH.cons rfl (fun K hK => ?_) AllReadyH.nil
 go_simp
 with_reducible_and_instances apply Calls.mono (HO.out g _ hz); rintro e w6 ⟨rfl, z6, k6⟩
 have hC6 : IsC w6 p := Blk.keep hC k6 hpe
 have hB6 := hB.keep k6 hne
 have hK6 : Keep Nob w w6 := kk.trans k6 (fun b hb e => by have h3 : b = g := e; omega)
 refine hK.out _ _ ?_ (fun hHeld => ?_)
 ·exact ⟨Blk.cell hC6 1, hB6⟩
 clear hK K
 try simp only [Act.put, zS]
 refine tk 13 rfl ?_ ?_ ?_
 rotate_left
 ·(intro w hSw; (try dsimp only at hSw); obtain ⟨s1, s2⟩ := hSw; go_simp; try with_reducible rfl)
 try simp only [Act.put, zS]
 refine tk 14 rfl ?_ ?_ ?_
 rotate_left
 ·(intro w hSw; (try dsimp only at hSw); obtain ⟨s1, s2⟩ := hSw; go_simp; try with_reducible rfl)
 try simp only [Act.put, zS]
 refine wpAnyH_done (by kernel_rfl) ?_ _
 cases v with
 | false =>
  go_wp2
  go_ret2
  exact ⟨_, rfl, rfl, hK6⟩
 | true =>
  rw [if_pos rfl] at z6
  have r6 := aj z6 (by rw [am, aJ HL.out])
  go_wp2_with fail
  refine (clone_is _ _ _ _ _ r6 (by omega)).mono ?_; rintro e w7 ⟨A, m, rfl, v7, k7, o7⟩
  go_wp2
  go_ret2
  exact ⟨_, rfl, ⟨A, m, rfl, v7, fun b hb => Nat.le_trans hK6.size (o7 b hb)⟩, hK6.nobt k7⟩
def eY (l : List UInt8) : Pp × Bool := if l.length = 40 then (if gd l then (rd l, true) else (noP, false)) else (noP, false)
theorem fi (p : Nat) (A : Option Addr) (n cap : Nat) (l : List UInt8) (w : World) (h : IsC w p) (hr : ae w A n (bytes l)) (hn : n ≤ 140737488351232) (R : Pp) (v : Bool) (hd : eY l = (R, v)) :
  Calls Tryz.prog 303 #[.pointer (some ⟨p, 0, none⟩), .slice A n cap] w fun e w' => e = .returned (.tuple #[pv R, .bool v]) ∧ Keep Nob w w' := by
 have hl : l.length = n := by simpa using hr.1
 have hnil := gnil
 have HH := aa h
 clear h
 by_cases h24 : n = 40
 rotate_left
 ·have hd2 : (noP, false) = (R, v) := by rw [← hd, eY, if_neg (by omega)]
  cases hd2
  have hne : ((n : Int) != 40) = true := by simpa using (show (n : Int) ≠ 40 from by omega)
  clear hd hl h24
  go_enter Tryz.func303, Tryz.ntmps303
  go_upto_region 1 with (refine wpList_al rfl rfl ?_; intro w1 hR1 hk1 hs1; clear hs1)
  go_upto_region 2 with (refine wpList_al rfl rfl ?_; intro w2 hZ0 hk2 hs2; clear hs2)
  have hR0 := hR1.nob hk2
  have hK0 : Keep Nob w w2 := hk1.nobt hk2
  have hrz : w.heap.size ≠ w1.heap.size := by have := hR1.lt; omega
  have hC0 := HH.out.nob hK0
  have hr0 := hr.nob hK0
  have c2 : w2.cell? ⟨p, 2, none⟩ = some (.func (.func 338) #[] #[]) := Blk.cell hC0 2
  have c0 : w2.cell? ⟨p, 0, none⟩ = some (.int .i64 40) := Blk.cell hC0 0
  clear hR1 hk1 hk2
  generalize w1.heap.size = z at *
  go_wp2_with (first | (refine wpList_ld rfl _ rfl z noP rfl rfl hZ0 ?_) | (refine wpList_st rfl _ _ rfl _ noP noP rfl rfl rfl rfl hR0 ?_; intro w3 hr2 hk2 hs2; clear hs2))
  (try simp only [Exit.inBlock, Exit.then])
  refine bodyPost_ret (v := .tuple #[pv noP, .bool false]) (results_pair rfl _ _ w.heap.size noP rfl rfl hr2 _ rfl) rfl ?_
  exact ⟨rfl, hK0.trans hk2 (fun b hb e => by have h3 : b = w.heap.size := e; omega)⟩
 subst h24
 have hd2 : (if gd l then (rd l, true) else (noP, false)) = (R, v) := by rw [← hd, eY, if_pos hl]
 have HD := aa hd2
 have HL := aa hl
 clear hd hd2 hl
 go_enter Tryz.func303, Tryz.ntmps303
 go_upto_region 1 with (refine wpList_al rfl rfl ?_; intro w1 hR1 hk1 hs1; clear hs1)
 go_upto_region 2 with (refine wpList_al rfl rfl ?_; intro w2 hZ0 hk2 hs2; clear hs2)
 have hR0 := hR1.nob hk2
 have hK0 : Keep Nob w w2 := hk1.nobt hk2
 have hrz : w.heap.size ≠ w1.heap.size := by have := hR1.lt; omega
 have hC0 := HH.out.nob hK0
 have hr0 := hr.nob hK0
 have c2 : w2.cell? ⟨p, 2, none⟩ = some (.func (.func 338) #[] #[]) := Blk.cell hC0 2
 have c0 : w2.cell? ⟨p, 0, none⟩ = some (.int .i64 40) := Blk.cell hC0 0
 clear hR1 hk1 hk2
 generalize w1.heap.size = z at *
 go_upto_region 4 with fail
 have hRd := hR0.drew
 have hZd := hZ0.drew
 have hKd := hK0.drew
 have hCd := hC0.nob (Keep.nobdrew _)
 have hrd := hr0.nob (Keep.nobdrew _)
 clear hR0 hZ0 hK0 hC0 hr0 c0 c2 HH hr
 have c2 : w2.drew.cell? ⟨p, 2, none⟩ = some (.func (.func 338) #[] #[]) := Blk.cell hCd 2
 obtain ⟨Q, hQ⟩ : ∃ Q, rd l = Q := ⟨_, rfl⟩
 obtain ⟨b, hb⟩ : ∃ b, gd l = b := ⟨_, rfl⟩
 have HG := aa (fun g c hc w hr => read_is l HL.out g c hc w hr Q hQ b hb)
 rw [hQ, hb] at HD
 have hql : Q.d.length = 32 := by rw [← hQ]; exact cY HL.out
 have HQ := aa hql
 clear hQ hb hql
 go_cut [7, 8] from 24 to 33 (fun s7 s8 wx => ∃ g, s7 = .pointer (some ⟨g, 0, none⟩) ∧ s8 = .bool b ∧ Blk wx g 83 (pc Q) ∧ Blk wx w.heap.size 83 (pc noP) ∧ Blk wx z 83 (pc noP) ∧ Keep Nob w wx)
 case first =>
  go_wp2_with fail
  refine wp_region_held_drew (S := (fun w' => w'.cell? ⟨p, 2, none⟩ = some (.func (.func 338) #[] #[]))) (by kernel_rfl) c2 (fun hHeld => ?_)
  generalize w2.drew = wd at *
  refine tk 0 rfl ?_ ?_ ?_
  rotate_left
  ·(intro w hSw; (try dsimp only at hSw); go_simp; try with_reducible rfl)
  try simp only [Act.put, zS]
  refine tk 1 rfl ?_ ?_ ?_
  rotate_left
  ·(intro w hSw; (try dsimp only at hSw); go_simp; try with_reducible rfl)
  try simp only [Act.put, zS]
  refine tk 2 rfl ?_ ?_ ?_
  rotate_left
  ·(intro w hSw; (try dsimp only at hSw); go_simp; try with_reducible rfl)
  try simp only [Act.put, zS]
  refine tk 3 rfl ?_ ?_ ?_
  rotate_left
  ·(intro w hSw; (try dsimp only at hSw); go_simp; try with_reducible rfl)
  try simp only [Act.put, zS]
  refine tk 4 rfl ?_ ?_ ?_
  rotate_left
  ·(intro w hSw; (try dsimp only at hSw); go_simp; try with_reducible rfl)
  try simp only [Act.put, zS]
  refine wpAnyH_ready (rs := [5, 10]) (by kernel_rfl) (by simp) ?_
  refine AllReadyH.cons rfl (fun K hK => ?_) ?_
  ·go_simp
   refine (clone_is A 40 cap l _ hrd (by omega)).mono ?_; rintro e w_1 ⟨A_4, c_5, rfl, v_3, k_2, _⟩
   obtain ⟨g_6, cur, rfl, _, hc_8, _, _⟩ := v_3.at_ (by decide)
   have hr_7 : ae w_1 (some ⟨g_6, 0, none⟩) 40 (bytes l) := v_3.reads
   have hC_9 := hCd.nob k_2
   have hR_10 := hRd.nob k_2
   have hZ_11 := hZd.nob k_2
   have hI_12 := hrd.nob k_2
   have kk_13 := hKd.nobt k_2
   refine hK.out _ _ ?_ (fun hHeld => ?_)
   ·exact Blk.cell hC_9 2
   clear hK K
   try simp only [Act.put, zS]
   refine wpAnyH_ready (rs := [6, 10]) (by kernel_rfl) (by simp) ?_
   refine AllReadyH.cons rfl (fun K hK => ?_) ?_
   ·go_simp
    refine (HG.out g_6 c_5 hc_8 _ hr_7).mono ?_; rintro e w_14 ⟨rfl, k_15⟩
    have hC_16 := hC_9.nob k_15
    have hR_17 := hR_10.nob k_15
    have hZ_18 := hZ_11.nob k_15
    have hI_19 := hI_12.nob k_15
    have kk_20 := kk_13.nobt k_15
    unfold pv
    refine hK.out _ _ ?_ (fun hHeld => ?_)
    ·exact Blk.cell hC_16 2
    clear hK K
    try simp only [Act.put, zS]
    refine tk 7 rfl ?_ ?_ ?_
    rotate_left
    ·(intro w hSw; (try dsimp only at hSw); go_simp; try with_reducible rfl)
    try simp only [Act.put, zS]
    refine tk 8 rfl ?_ ?_ ?_
    rotate_left
    ·(intro w hSw; (try dsimp only at hSw); go_simp; try with_reducible rfl)
    try simp only [Act.put, zS]
    refine tk 9 rfl ?_ ?_ ?_
    rotate_left
    ·(intro w hSw; (try dsimp only at hSw); go_simp; try with_reducible rfl)
    try simp only [Act.put, zS]
    refine wpAnyH_ready (rs := [10]) (by kernel_rfl) (by simp) ?_
    refine AllReadyH.cons rfl (fun K hK => ?_) AllReadyH.nil
    refine wp_al rfl ?_; intro w_22 hn_21 ka_23 sa_24; clear sa_24
    have e_25 : w.heap.size ≤ w_14.heap.size := kk_20.size
    have e_26 : w.heap.size ≠ w_14.heap.size := by have := hR_17.lt; omega
    have e_27 : z ≠ w_14.heap.size := by have := hZ_18.lt; omega
    have e_28 : p ≠ w_14.heap.size := by have := Blk.lt hC_16; omega
    have hC_30 := hC_16.nob ka_23
    have hR_31 := hR_17.nob ka_23
    have hZ_32 := hZ_18.nob ka_23
    have hI_33 := hI_19.nob ka_23
    have kk_34 := kk_20.nobt ka_23
    refine hK.out _ _ ?_ (fun hHeld => ?_)
    ·exact Blk.cell hC_30 2
    clear hK K
    try simp only [Act.put, zS]
    generalize w_14.heap.size = gn_29 at *
    refine wpAnyH_ready (rs := [11]) (by kernel_rfl) (by simp) ?_
    refine AllReadyH.cons rfl (fun K hK => ?_) AllReadyH.nil
    rw [if_pos (by rfl)]
    refine aU (old := noP) (q := Q) rfl rfl rfl HQ.out rfl hn_21 ?_
    refine hK.out _ _ ?_ (fun hHeld => ?_)
    ·exact Blk.cell (Blk.setRow_far hC_30 e_28 _) 2
    clear hK K
    try simp only [Act.put, zS]
    refine tk 12 rfl ?_ ?_ ?_
    rotate_left
    ·(intro w hSw; (try dsimp only at hSw); go_simp; try with_reducible rfl)
    try simp only [Act.put, zS]
    refine wpAnyH_done (by kernel_rfl) ?_ _
    go_wp2_with fail
    go_meet
    exact ⟨_, rfl, rfl, hn_21.setRow (pc Q), hR_31.setRow_far e_26 _, hZ_32.setRow_far e_27 _, kk_34.setRow gn_29 _ (fun h => absurd h (by omega))⟩
   refine AllReadyH.cons rfl (fun K hK => ?_) AllReadyH.nil
   refine wp_al rfl ?_; intro w_36 hn_35 ka_37 sa_38; clear sa_38
   have e_39 : w.heap.size ≤ w_1.heap.size := kk_13.size
   have e_40 : w.heap.size ≠ w_1.heap.size := by have := hR_10.lt; omega
   have e_41 : z ≠ w_1.heap.size := by have := hZ_11.lt; omega
   have e_42 : p ≠ w_1.heap.size := by have := Blk.lt hC_9; omega
   have hC_44 := hC_9.nob ka_37
   have hR_45 := hR_10.nob ka_37
   have hZ_46 := hZ_11.nob ka_37
   have hI_47 := hI_12.nob ka_37
   have hr_48 := hr_7.nob ka_37
   have kk_49 := kk_13.nobt ka_37
   refine hK.out _ _ ?_ (fun hHeld => ?_)
   ·exact Blk.cell hC_44 2
   clear hK K
   try simp only [Act.put, zS]
   generalize w_1.heap.size = gn_43 at *
   refine wpAnyH_ready (rs := [6]) (by kernel_rfl) (by simp) ?_
   refine AllReadyH.cons rfl (fun K hK => ?_) AllReadyH.nil
   go_simp
   refine (HG.out g_6 c_5 hc_8 _ hr_48).mono ?_; rintro e w_50 ⟨rfl, k_51⟩
   have hC_52 := hC_44.nob k_51
   have hR_53 := hR_45.nob k_51
   have hZ_54 := hZ_46.nob k_51
   have hI_55 := hI_47.nob k_51
   have hn_56 := hn_35.nob k_51
   have kk_57 := kk_49.nobt k_51
   unfold pv
   refine hK.out _ _ ?_ (fun hHeld => ?_)
   ·exact Blk.cell hC_52 2
   clear hK K
   try simp only [Act.put, zS]
   refine tk 7 rfl ?_ ?_ ?_
   rotate_left
   ·(intro w hSw; (try dsimp only at hSw); go_simp; try with_reducible rfl)
   try simp only [Act.put, zS]
   refine tk 8 rfl ?_ ?_ ?_
   rotate_left
   ·(intro w hSw; (try dsimp only at hSw); go_simp; try with_reducible rfl)
   try simp only [Act.put, zS]
   refine tk 9 rfl ?_ ?_ ?_
   rotate_left
   ·(intro w hSw; (try dsimp only at hSw); go_simp; try with_reducible rfl)
   try simp only [Act.put, zS]
   refine wpAnyH_ready (rs := [11]) (by kernel_rfl) (by simp) ?_
   refine AllReadyH.cons rfl (fun K hK => ?_) AllReadyH.nil
   rw [if_pos (by rfl)]
   refine aU (old := noP) (q := Q) rfl rfl rfl HQ.out rfl hn_56 ?_
   refine hK.out _ _ ?_ (fun hHeld => ?_)
   ·exact Blk.cell (Blk.setRow_far hC_52 e_42 _) 2
   clear hK K
   try simp only [Act.put, zS]
   refine tk 12 rfl ?_ ?_ ?_
   rotate_left
   ·(intro w hSw; (try dsimp only at hSw); go_simp; try with_reducible rfl)
   try simp only [Act.put, zS]
   refine wpAnyH_done (by kernel_rfl) ?_ _
   go_wp2_with fail
   go_meet
   exact ⟨_, rfl, rfl, hn_56.setRow (pc Q), hR_53.setRow_far e_40 _, hZ_54.setRow_far e_41 _, kk_57.setRow gn_43 _ (fun h => absurd h (by omega))⟩
  refine AllReadyH.cons rfl (fun K hK => ?_) AllReadyH.nil
  refine wp_al rfl ?_; intro w_59 hn_58 ka_60 sa_61; clear sa_61
  have e_62 : w.heap.size ≤ wd.heap.size := hKd.size
  have e_63 : w.heap.size ≠ wd.heap.size := by have := hRd.lt; omega
  have e_64 : z ≠ wd.heap.size := by have := hZd.lt; omega
  have e_65 : p ≠ wd.heap.size := by have := Blk.lt hCd; omega
  have hC_67 := hCd.nob ka_60
  have hR_68 := hRd.nob ka_60
  have hZ_69 := hZd.nob ka_60
  have hI_70 := hrd.nob ka_60
  have kk_71 := hKd.nobt ka_60
  refine hK.out _ _ ?_ (fun hHeld => ?_)
  ·exact Blk.cell hC_67 2
  clear hK K
  try simp only [Act.put, zS]
  generalize wd.heap.size = gn_66 at *
  refine wpAnyH_ready (rs := [5]) (by kernel_rfl) (by simp) ?_
  refine AllReadyH.cons rfl (fun K hK => ?_) AllReadyH.nil
  go_simp
  refine (clone_is A 40 cap l _ hI_70 (by omega)).mono ?_; rintro e w_72 ⟨A_75, c_76, rfl, v_74, k_73, _⟩
  obtain ⟨g_77, cur, rfl, _, hc_79, _, _⟩ := v_74.at_ (by decide)
  have hr_78 : ae w_72 (some ⟨g_77, 0, none⟩) 40 (bytes l) := v_74.reads
  have hC_80 := hC_67.nob k_73
  have hR_81 := hR_68.nob k_73
  have hZ_82 := hZ_69.nob k_73
  have hI_83 := hI_70.nob k_73
  have hn_84 := hn_58.nob k_73
  have kk_85 := kk_71.nobt k_73
  refine hK.out _ _ ?_ (fun hHeld => ?_)
  ·exact Blk.cell hC_80 2
  clear hK K
  try simp only [Act.put, zS]
  refine wpAnyH_ready (rs := [6]) (by kernel_rfl) (by simp) ?_
  refine AllReadyH.cons rfl (fun K hK => ?_) AllReadyH.nil
  go_simp
  refine (HG.out g_77 c_76 hc_79 _ hr_78).mono ?_; rintro e w_86 ⟨rfl, k_87⟩
  have hC_88 := hC_80.nob k_87
  have hR_89 := hR_81.nob k_87
  have hZ_90 := hZ_82.nob k_87
  have hI_91 := hI_83.nob k_87
  have hn_92 := hn_84.nob k_87
  have kk_93 := kk_85.nobt k_87
  unfold pv
  refine hK.out _ _ ?_ (fun hHeld => ?_)
  ·exact Blk.cell hC_88 2
  clear hK K
  try simp only [Act.put, zS]
  refine tk 7 rfl ?_ ?_ ?_
  rotate_left
  ·(intro w hSw; (try dsimp only at hSw); go_simp; try with_reducible rfl)
  try simp only [Act.put, zS]
  refine tk 8 rfl ?_ ?_ ?_
  rotate_left
  ·(intro w hSw; (try dsimp only at hSw); go_simp; try with_reducible rfl)
  try simp only [Act.put, zS]
  refine tk 9 rfl ?_ ?_ ?_
  rotate_left
  ·(intro w hSw; (try dsimp only at hSw); go_simp; try with_reducible rfl)
  try simp only [Act.put, zS]
  refine wpAnyH_ready (rs := [11]) (by kernel_rfl) (by simp) ?_
  refine AllReadyH.cons rfl (fun K hK => ?_) AllReadyH.nil
  rw [if_pos (by rfl)]
  refine aU (old := noP) (q := Q) rfl rfl rfl HQ.out rfl hn_92 ?_
  refine hK.out _ _ ?_ (fun hHeld => ?_)
  ·exact Blk.cell (Blk.setRow_far hC_88 e_65 _) 2
  clear hK K
  try simp only [Act.put, zS]
  refine tk 12 rfl ?_ ?_ ?_
  rotate_left
  ·(intro w hSw; (try dsimp only at hSw); go_simp; try with_reducible rfl)
  try simp only [Act.put, zS]
  refine wpAnyH_done (by kernel_rfl) ?_ _
  go_wp2_with fail
  go_meet
  exact ⟨_, rfl, rfl, hn_92.setRow (pc Q), hR_89.setRow_far e_63 _, hZ_90.setRow_far e_64 _, kk_93.setRow gn_66 _ (fun h => absurd h (by omega))⟩
 case rest =>
 obtain ⟨g, rfl, rfl, hn6, hR6, hZ6, hK6⟩ := hcut
 clear hCd hRd hZd hKd hrd
 have hd3 := HD.out
 clear HD
 cases b with
 | false =>
  rw [if_neg (by simp)] at hd3
  cases hd3
  go_wp2_with (first | (refine wpList_ld rfl _ rfl z noP rfl rfl hZ6 ?_) | (refine wpList_st rfl _ _ rfl _ noP noP rfl rfl rfl rfl hR6 ?_; intro w7 hr7 hk7 hs7; clear hs7))
  (try simp only [Exit.inBlock, Exit.then])
  refine bodyPost_ret (v := .tuple #[pv noP, .bool false]) (results_pair rfl _ _ w.heap.size noP rfl rfl hr7 _ rfl) rfl ?_
  exact ⟨rfl, hK6.trans hk7 (fun b hb e => by have h3 : b = w.heap.size := e; omega)⟩
 | true =>
  rw [if_pos rfl] at hd3
  cases hd3
  go_wp2_with (first | (refine wpList_ld rfl _ rfl g R rfl HQ.out hn6 ?_) | (refine wpList_st rfl _ _ rfl _ R noP rfl rfl HQ.out rfl hR6 ?_; intro w7 hr7 hk7 hs7; clear hs7))
  (try simp only [Exit.inBlock, Exit.then])
  refine bodyPost_ret (v := .tuple #[pv R, .bool true]) (results_pair rfl _ _ w.heap.size R HQ.out rfl hr7 _ rfl) rfl ?_
  exact ⟨rfl, hK6.trans hk7 (fun b hb e => by have h3 : b = w.heap.size := e; omega)⟩
theorem fE (P : Pp) (hl : P.d.length = 32) (w : World) (v : Bool) (hv : okd P = v) :
  Calls Tryz.prog 299 #[pv P] w fun e w' => ∃ x, e = .returned (.tuple #[x, .bool v]) ∧ Told w w' P v x ∧ Keep Nob w w' := by
 have ho := fun p w h => iB p P hl w h v hv
 simp only [pv] at ho ⊢
 have HO := aa ho
 have HL := aa hl
 clear ho hl
 go_enter Tryz.func299, Tryz.ntmps299
 go_wp2_with (refine af rfl 83 _ rfl _ rfl ?_; intro w1 hb1 hk1 hs1; clear hs1; have hb1 : Blk w1 w.heap.size 83 (pc P) := hb1)
 have hB := hb1.drew
 have kk := hk1.drew
 clear hb1 hk1
 refine wp_region_held_drew (S := (fun w' => Blk w' w.heap.size 83 (pc P))) (by kernel_rfl) hB (fun hHeld => ?_)
 generalize w1.drew = wd at *
 refine tk 1 rfl ?_ ?_ ?_
 rotate_left
 ·(intro w hSw; (try dsimp only at hSw); refine aG (x := .tmp 1) ?_ ?_ HL.out hSw <;> rfl)
 try simp only [Act.put, zS]
 refine wpAnyH_ready (rs := [0]) (by kernel_rfl) (by simp) ?_
 refine AllReadyH.cons rfl (fun K hK => ?_) AllReadyH.nil
 go_simp
 refine (ez _).mono ?_; rintro e w2 ⟨p, rfl, h2, k2⟩
 have hB2 := hB.nob k2
 have kk2 := kk.nobt k2
 refine hK.out _ _ ?_ (fun hHeld => ?_)
 ·exact hB2
 clear hK K
 try simp only [Act.put, zS]
 refine wpAnyH_ready (rs := [2]) (by kernel_rfl) (by simp) ?_
 refine AllReadyH.cons rfl (fun K hK => ?_) AllReadyH.nil
 go_simp
 with_reducible_and_instances apply Calls.mono (HO.out p _ h2); rintro e w3 ⟨x, rfl, t3, k3⟩
 have hB3 := hB2.nob k3
 have kk3 := kk2.nobt k3
 refine hK.out _ _ ?_ (fun hHeld => ?_)
 ·exact hB3
 clear hK K
 try simp only [Act.put, zS]
 refine tk 3 rfl ?_ ?_ ?_
 rotate_left
 ·(intro w hSw; (try dsimp only at hSw); go_simp; try with_reducible rfl)
 try simp only [Act.put, zS]
 refine tk 4 rfl ?_ ?_ ?_
 rotate_left
 ·(intro w hSw; (try dsimp only at hSw); go_simp; try with_reducible rfl)
 try simp only [Act.put, zS]
 refine tk 5 rfl ?_ ?_ ?_
 rotate_left
 ·(intro w hSw; (try dsimp only at hSw); go_simp; try with_reducible rfl)
 try simp only [Act.put, zS]
 refine tk 6 rfl ?_ ?_ ?_
 rotate_left
 ·(intro w hSw; (try dsimp only at hSw); go_simp; try with_reducible rfl)
 try simp only [Act.put, zS]
 refine wpAnyH_done (by kernel_rfl) ?_ _
 go_wp2_with fail
 go_ret2
 exact ⟨x, rfl, t3.from_ kk2.size, kk3⟩
theorem fM (A : Option Addr) (n cap : Nat) (l : List UInt8) (w : World) (hr : ae w A n (bytes l)) (hn : n ≤ 140737488351232) (R : Pp) (d : Int) (hd : dcd l = (R, d)) :
  Calls Tryz.prog 222 #[.slice A n cap] w fun e w' => e = .returned (.tuple #[pv R, .int .i64 d]) ∧ Keep Nob w w' := by
 have hl : l.length = n := by simpa using hr.1
 have HD := aa hd
 have HL := aa hl
 clear hd
 by_cases h24 : n = 40
 rotate_left
 ·have hne24 : ((n : Int) == 40) = false := by simpa using (show (n : Int) ≠ 40 from by omega)
  have h2 : eY l = (noP, false) := by rw [eY, if_neg (by omega)]
  have hd2 : (noP, (2 : Int)) = (R, d) := by rw [← HD.out, dcd, if_neg (by omega)]
  obtain ⟨Q, hQ⟩ : ∃ Q, noP = Q := ⟨_, rfl⟩
  obtain ⟨b, hb⟩ : ∃ b, false = b := ⟨_, rfl⟩
  have HQ := aa (show Q.d.length = 32 from by rw [← hQ]; rfl)
  have HQ2 := aa (show (if b then (Q, (1 : Int)) else (noP, 2)) = (R, d) from by rw [← hb]; exact hd2)
  rw [hQ, hb] at h2
  have HC := aa h2
  clear hQ hb h2 hd2 HD HL hl h24
  go_enter Tryz.func222, Tryz.ntmps222
  go_upto_region 1 with (refine wpList_al rfl rfl ?_; intro w0 hR0 hK0 hs0; clear hs0)
  have hr0 := hr.nob hK0
  clear hr
  go_wp2_with fail
  refine (ez _).mono ?_; rintro e w1 ⟨p, rfl, h1, k1⟩
  have hR1 := hR0.nob k1
  have kk1 := hK0.nobt k1
  have hr1 := hr0.nob k1
  clear hR0 hK0 hr0
  go_wp2_with fail
  refine (fi p A n cap l _ h1 hr1 hn Q b HC.out).mono ?_; rintro e w2 ⟨rfl, k2⟩
  have hR2 := hR1.nob k2
  have kk2 := kk1.nobt k2
  have hge : w.heap.size ≤ w2.heap.size := kk2.size
  have hne : w.heap.size ≠ w2.heap.size := by have := hR2.lt; omega
  clear hR1 kk1 hr1 h1 k1 k2
  unfold pv
  cases b with
  | false =>
   have hd2 := HQ2.out
   rw [if_neg (by simp)] at hd2
   cases hd2
   go_wp2_with (first | (refine wpList_al rfl rfl ?_; intro wa hna ka sa; clear sa; have hRa := hR2.nob ka; have kka := kk2.nobt ka) | (refine wpList_st rfl (.tmp 4) (.tmp 18) rfl w2.heap.size Q noP rfl rfl HQ.out rfl hna ?_; intro w3 hn3 hk3 hs3; clear hs3; have hR3 := hRa.keep hk3 hne; have kk3 := kka.trans hk3 (fun b hb e => by have h3 : b = w2.heap.size := e; omega)) | (refine ib rfl rfl ?_) | (refine wpList_st rfl (.tmp 2) _ rfl w.heap.size noP noP rfl rfl rfl rfl hR3 ?_; intro w4 hr4 hk4 hs4; clear hs4))
   (try simp only [Exit.inBlock, Exit.then])
   refine bodyPost_ret (v := .tuple #[pv noP, .int .i64 2]) (results_pair rfl _ _ w.heap.size noP rfl rfl hr4 _ rfl) rfl ?_
   exact ⟨rfl, kk3.trans hk4 (fun b hb e => by have h3 : b = w.heap.size := e; omega)⟩
  | true =>
   have hd2 := HQ2.out
   rw [if_pos rfl] at hd2
   cases hd2
   go_wp2_with (first | (refine wpList_al rfl rfl ?_; intro wa hna ka sa; clear sa; have hRa := hR2.nob ka; have kka := kk2.nobt ka) | (refine wpList_st rfl (.tmp 4) (.tmp 18) rfl w2.heap.size R noP rfl rfl HQ.out rfl hna ?_; intro w3 hn3 hk3 hs3; clear hs3; have hR3 := hRa.keep hk3 hne; have kk3 := kka.trans hk3 (fun b hb e => by have h3 : b = w2.heap.size := e; omega)) | (refine wpList_ld rfl (.tmp 4) rfl w2.heap.size R rfl HQ.out hn3 ?_) | (refine wpList_st rfl (.tmp 2) _ rfl w.heap.size R noP rfl rfl HQ.out rfl hR3 ?_; intro w4 hr4 hk4 hs4; clear hs4))
   (try simp only [Exit.inBlock, Exit.then])
   refine bodyPost_ret (v := .tuple #[pv R, .int .i64 1]) (results_pair rfl _ _ w.heap.size R HQ.out rfl hr4 _ rfl) rfl ?_
   exact ⟨rfl, kk3.trans hk4 (fun b hb e => by have h3 : b = w.heap.size := e; omega)⟩
 subst h24
 obtain ⟨q, hq⟩ : ∃ q, aA l = q := ⟨_, rfl⟩
 have hbl := aa (fun w0 (hk : Keep Nob w w0) => kY (c := cap) (hr.nob hk) (by omega) q hq)
 cases q with
 | true =>
  have hd2 : (noP, (0 : Int)) = (R, d) := by rw [← HD.out, dcd, if_pos hl, hq, if_pos rfl]
  cases hd2
  clear HD HL hl hq
  go_enter Tryz.func222, Tryz.ntmps222
  go_upto_region 1 with (refine wpList_al rfl rfl ?_; intro w0 hR0 hK0 hs0; clear hs0)
  have hr0 := hr.nob hK0
  clear hr
  go_wp2_with fail
  refine (hbl.out _ hK0).mono ?_; rintro e w1 ⟨rfl, rfl⟩
  go_wp2_with (first | (refine ib rfl rfl ?_) | (refine wpList_st rfl _ _ rfl _ noP noP rfl rfl rfl rfl hR0 ?_; intro w4 hr4 hk4 hs4; clear hs4))
  (try simp only [Exit.inBlock, Exit.then])
  refine bodyPost_ret (v := .tuple #[pv noP, .int .i64 0]) (results_pair rfl _ _ w.heap.size noP rfl rfl hr4 _ rfl) rfl ?_
  exact ⟨rfl, hK0.trans hk4 (fun b hb e => by have h3 : b = w.heap.size := e; omega)⟩
 | false =>
  obtain ⟨b, hb⟩ : ∃ b, gd l = b := ⟨_, rfl⟩
  obtain ⟨Q, hQ⟩ : ∃ Q, (if b then rd l else noP) = Q := ⟨_, rfl⟩
  have HQ := aa (show Q.d.length = 32 from by rw [← hQ]; split; exact cY hl; rfl)
  have h2 : eY l = (Q, b) := by rw [eY, if_pos hl, hb, ← hQ]; cases b <;> rfl
  have HQ2 := aa (show (if b then (Q, (1 : Int)) else (noP, 2)) = (R, d) from by rw [← HD.out, dcd, if_pos hl, hq, hb, ← hQ]; cases b <;> rfl)
  have HC := aa h2
  clear hQ hb h2 HD HL hl hq
  go_enter Tryz.func222, Tryz.ntmps222
  go_upto_region 1 with (refine wpList_al rfl rfl ?_; intro w0 hR0 hK0 hs0; clear hs0)
  have hr0 := hr.nob hK0
  clear hr
  go_wp2_with fail
  refine (hbl.out _ hK0).mono ?_; rintro e w1 ⟨rfl, rfl⟩
  go_wp2_with fail
  refine (ez _).mono ?_; rintro e w1 ⟨p, rfl, h1, k1⟩
  have hR1 := hR0.nob k1
  have kk1 := hK0.nobt k1
  have hr1 := hr0.nob k1
  clear hR0 hK0 hr0
  go_wp2_with fail
  refine (fi p A 40 cap l _ h1 hr1 hn Q b HC.out).mono ?_; rintro e w2 ⟨rfl, k2⟩
  have hR2 := hR1.nob k2
  have kk2 := kk1.nobt k2
  have hge : w.heap.size ≤ w2.heap.size := kk2.size
  have hne : w.heap.size ≠ w2.heap.size := by have := hR2.lt; omega
  clear hR1 kk1 hr1 h1 k1 k2
  unfold pv
  cases b with
  | false =>
   have hd2 := HQ2.out
   rw [if_neg (by simp)] at hd2
   cases hd2
   go_wp2_with (first | (refine wpList_al rfl rfl ?_; intro wa hna ka sa; clear sa; have hRa := hR2.nob ka; have kka := kk2.nobt ka) | (refine wpList_st rfl (.tmp 4) (.tmp 18) rfl w2.heap.size Q noP rfl rfl HQ.out rfl hna ?_; intro w3 hn3 hk3 hs3; clear hs3; have hR3 := hRa.keep hk3 hne; have kk3 := kka.trans hk3 (fun b hb e => by have h3 : b = w2.heap.size := e; omega)) | (refine ib rfl rfl ?_) | (refine wpList_st rfl (.tmp 2) _ rfl w.heap.size noP noP rfl rfl rfl rfl hR3 ?_; intro w4 hr4 hk4 hs4; clear hs4))
   (try simp only [Exit.inBlock, Exit.then])
   refine bodyPost_ret (v := .tuple #[pv noP, .int .i64 2]) (results_pair rfl _ _ w.heap.size noP rfl rfl hr4 _ rfl) rfl ?_
   exact ⟨rfl, kk3.trans hk4 (fun b hb e => by have h3 : b = w.heap.size := e; omega)⟩
  | true =>
   have hd2 := HQ2.out
   rw [if_pos rfl] at hd2
   cases hd2
   go_wp2_with (first | (refine wpList_al rfl rfl ?_; intro wa hna ka sa; clear sa; have hRa := hR2.nob ka; have kka := kk2.nobt ka) | (refine wpList_st rfl (.tmp 4) (.tmp 18) rfl w2.heap.size R noP rfl rfl HQ.out rfl hna ?_; intro w3 hn3 hk3 hs3; clear hs3; have hR3 := hRa.keep hk3 hne; have kk3 := kka.trans hk3 (fun b hb e => by have h3 : b = w2.heap.size := e; omega)) | (refine wpList_ld rfl (.tmp 4) rfl w2.heap.size R rfl HQ.out hn3 ?_) | (refine wpList_st rfl (.tmp 2) _ rfl w.heap.size R noP rfl rfl HQ.out rfl hR3 ?_; intro w4 hr4 hk4 hs4; clear hs4))
   (try simp only [Exit.inBlock, Exit.then])
   refine bodyPost_ret (v := .tuple #[pv R, .int .i64 1]) (results_pair rfl _ _ w.heap.size R HQ.out rfl hr4 _ rfl) rfl ?_
   exact ⟨rfl, kk3.trans hk4 (fun b hb e => by have h3 : b = w.heap.size := e; omega)⟩
end Go.Proofs.YtgcikpgcoemfnaaGreat.Ri
