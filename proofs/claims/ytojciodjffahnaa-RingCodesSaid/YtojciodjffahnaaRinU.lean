/- Package ring: Put. -/
import Derived.Test.YtojciodjffahnaaRinP
namespace Go.Proofs.Ytojciodjffahnaa.Ri
open Go.RowKit
set_option linter.unusedVariables false
set_option linter.unusedSimpArgs false
theorem pc_setD (a b c d : Int) (l : List UInt8) (j : Nat) (y : UInt8) (u : Int) (hu : ((y.toNat : Nat) : Int) = u) : (pc ⟨a, b, c, d, l⟩).set (4 + j) (.int .u8 u) = pc ⟨a, b, c, d, l.set j y⟩ := by
  rw [Nat.add_comm]
  show _ :: _ :: _ :: _ :: (bytes l).set j _ = _
  rw [bytes_set l j y u hu]; rfl
set_option maxHeartbeats 4000000 in
set_option maxRecDepth 100000 in
theorem put_is (p : Pp) (hl : p.d.length = 32) (A : Option Addr) (n c : Nat) (l : List UInt8) (w : World) (hr : Reads w A n (bytes l)) (hnc : n ≤ c) (hn : n ≤ 1000000) (P' : Pp) (m : Nat) (hP : pput p l = (P', m)) :
    Calls Try.prog 9 #[pv p, .slice A n c] w fun e w' => e = .returned (.tuple #[pv P', .int .i64 (m : Int)]) ∧ Keep Nob w w' := by
  have hln : l.length = n := by simpa using hr.1
  have HL := Lib.hid hl
  have HPP := Lib.hid hP
  have hO := fun w v h => ok_is p w v h
  unfold pv at hO ⊢
  have HO := Lib.hid hO
  have HR := Lib.hid hr
  have HN := Lib.hid hln
  clear hl hO hP hr hln
  go_enter Try.func9, Try.ntmps9
  go_wp2_with (first | (refine wpList_box rfl 26 _ rfl _ rfl ?_; intro w1 hb hk hs; clear hs; have hb : Blk w1 w.heap.size 26 (pc p) := hb) | (refine wpList_al rfl rfl ?_; intro w2 hz hk2 hs2; clear hs2; have hb2 := hb.nob hk2; have hK2 := hk.nobt hk2) | (refine wpList_ld rfl (.tmp 2) rfl w.heap.size p rfl HL.out hb2 ?_))
  have hne : w.heap.size ≠ w1.heap.size := by have := hb.lt; omega
  have hge : w.heap.size ≤ w1.heap.size := hk.size
  clear hb hk hk2
  generalize w1.heap.size = gr at *
  cases hv : okd p with
  | false =>
    have hPP := HPP.out
    rw [pput, hv, if_neg (by simp)] at hPP
    cases hPP
    refine (HO.out _ _ hv).mono ?_; rintro e w3 ⟨rfl, k3⟩
    have hb3 := hb2.nob k3
    have hz3 := hz.nob k3
    have hK3 := hK2.nobt k3
    clear hb2 hz hK2 k3 HPP
    go_wp2_with (first | (refine wpList_ld rfl (.tmp 2) rfl w.heap.size p rfl HL.out hb3 ?_) | (refine wpList_st rfl (.tmp 4) _ rfl gr p noP rfl rfl HL.out rfl hz3 ?_; intro w4 hz4 hk4 hs4; clear hs4))
    (try simp only [Exit.inBlock, Exit.then])
    refine bodyPost_ret (v := .tuple #[pv p, .int .i64 0]) (results_pair rfl _ _ gr p HL.out rfl hz4 _ rfl) rfl ?_
    exact ⟨rfl, hK3.trans hk4 (fun b hb e => by have h3 : b = gr := e; omega)⟩
  | true =>
    refine (HO.out _ _ hv).mono ?_; rintro e w3 ⟨rfl, k3⟩
    have hb3 := hb2.nob k3
    have hz3 := hz.nob k3
    have hK3 := hK2.nobt k3
    clear hb2 hz hK2 k3
    have B := okd_bounds hv
    have hPP := HPP.out
    rw [pput, hv, if_pos rfl, HN.out] at hPP
    have hB1 := B.c
    have HBh := Lib.hid B.h
    have hR2 := HR.out.nob hK3
    obtain ⟨ph, b, pr, ps, d⟩ := p
    simp only at hB1 HBh
    obtain ⟨q, rfl⟩ : ∃ q : Nat, b = (q : Int) := ⟨b.toNat, by omega⟩
    have hq : q ≤ 32 := by omega
    have hroom : room ⟨ph, (q : Int), pr, ps, d⟩ = 32 - q := rfl
    rw [hroom] at hPP
    obtain ⟨e, he⟩ : ∃ e : Int, 32 - (q : Int) = e := ⟨_, rfl⟩
    have hw1 : IntKind.i64.wrap (32 - (q : Int)) = e := by
      rw [he]; exact wrap_small_i64 _ (by omega) (by omega)
    have hm1 : (if e < (n : Int) then e else (n : Int)) = (m : Int) := by
      have : min n (32 - q) = m := congrArg Prod.snd hPP
      split <;> omega
    have hmm : m = min n (32 - q) := (congrArg Prod.snd hPP).symm
    have hP1 : P' = ⟨ph, (q : Int) + (m : Int), pr, ps, lay d (ph.toNat + q) l m⟩ := by
      have := congrArg Prod.fst hPP
      rw [← hmm] at this
      exact this.symm
    have hmn : m ≤ n := by omega
    have hmq : q + m ≤ 32 := by omega
    have hm0 : (0 : Int) ≤ (m : Int) := by omega
    have hmc : (m : Int) ≤ (c : Int) := by omega
    subst hP1
    clear hPP HPP hroom hmm he B hv hB1
    obtain ⟨c0, c1, c2, c3⟩ := cells4 hb3
    simp only at c0 c1 c2 c3
    go_wp2_with fail
    clear c0 c1 c2 c3 hw1 hm1
    go_loopw [23] (fun s23 wx => ∃ k : Nat, k ≤ m ∧ s23 = .int .i64 k ∧ Blk wx w.heap.size 26 (pc ⟨ph, (q : Int), pr, ps, lay d (ph.toNat + q) l k⟩) ∧ Blk wx gr 26 (pc noP) ∧ Keep Nob w wx) (fun s23 _ => m - (intOf s23).toNat)
    case atStart => exact ⟨0, Nat.zero_le _, rfl, hb3, hz3, hK3⟩
    case round =>
      obtain ⟨k, hk, rfl, hb4, hz4, hK4⟩ := hrel
      clear hb3 hz3 hK3 hR2
      have hly := lay_len d (ph.toNat + q) l k
      rw [HL.out] at hly
      have HLY := Lib.hid hly
      have hP := fun (i j : Int) (hi : 0 ≤ i ∧ i ≤ 1000) (hm : (ph + i) % 32 = j) w => place_is ⟨ph, (q : Int), pr, ps, lay d (ph.toNat + q) l k⟩ i j HBh.out hi hm w
      unfold pv at hP
      have HP := Lib.hid hP
      clear hly hP
      by_cases hlt : k < m
      · have hr4 := HR.out.nob hK4
        obtain ⟨bb, off, rfl, hcl⟩ := hr4.lit (by omega)
        have hy := hcl k _ (bytes_getD (by rw [HN.out]; omega))
        obtain ⟨i, hi⟩ : ∃ i : Int, (q : Int) + (k : Int) = i := ⟨_, rfl⟩
        have hwi : IntKind.i64.wrap ((q : Int) + (k : Int)) = i := by rw [hi]; exact wrap_small_i64 _ (by omega) (by omega)
        obtain ⟨j, hj⟩ : ∃ j : Nat, (ph + i) % 32 = (j : Int) := ⟨((ph + i) % 32).toNat, by omega⟩
        have hbh := HBh.out
        have hj2 : (ph.toNat + q + k) % 32 = j := by omega
        have hj3 : j < 32 := by omega
        have hset : (lay d (ph.toNat + q) l k).set j (l.getD k 0) = lay d (ph.toNat + q) l (k + 1) := by rw [lay, hj2]
        have HPk := Lib.hid (HP.out i j (by omega) hj)
        have HSET := Lib.hid hset
        have c1 := (cells4 hb4).2.1
        simp only at c1
        clear hset hj hi hbh hj2 hcl hr4 HP
        generalize hu : ((l.getD k 0).toNat : Int) = u at *
        have HU := Lib.hid hu
        clear hu
        go_wp2_with (refine wpList_ld rfl (.tmp 2) rfl w.heap.size ⟨ph, (q : Int), pr, ps, lay d (ph.toNat + q) l k⟩ rfl HLY.out hb4 ?_)
        refine (HPk.out _).mono ?_; rintro e w5 ⟨rfl, k5⟩
        have hb5 := hb4.nob k5
        have hz5 := hz4.nob k5
        have hK5 := hK4.nobt k5
        clear hb4 hz4 hK4 k5 c1 hy hwi HPk
        have fr := hb5.frozen (4 + j)
        have cc : ∃ x, _ = some x := ⟨_, cellD hb5 (k := j) (by rw [HLY.out]; exact hj3)⟩
        obtain ⟨x, cc⟩ := cc
        have hb6 : Blk (w5.setCell ⟨w.heap.size, 4 + j, none⟩ (.int .u8 u)) w.heap.size 26 (pc ⟨ph, (q : Int), pr, ps, lay d (ph.toNat + q) l (k + 1)⟩) := by
          have := hb5.setCell (4 + j) (.int .u8 u)
          rw [pc_setD _ _ _ _ _ j _ _ HU.out, HSET.out] at this
          exact this
        have hz6 := hz5.far (p := ⟨w.heap.size, 4 + j, none⟩) (Ne.symm hne) (.int .u8 u)
        have hK6 := hK5.setCell ⟨w.heap.size, 4 + j, none⟩ (.int .u8 u) (fun h => absurd h (Nat.lt_irrefl _))
        clear hb5 hz5 hK5 HSET HU
        go_wp2_with fail
        go_round
        case rel => exact ⟨k + 1, by omega, by go_num, hb6, hz6, hK6⟩
        case measure => simp [intOf]; omega
      · obtain rfl : k = m := by omega
        clear HP hlt hk
        obtain ⟨c0, c1, c2, c3⟩ := cells4 hb4
        simp only at c1
        clear c0 c2 c3
        obtain ⟨v, hv⟩ : ∃ v : Int, (q : Int) + (k : Int) = v := ⟨_, rfl⟩
        have hwv : IntKind.i64.wrap ((q : Int) + (k : Int)) = v := by rw [hv]; exact wrap_small_i64 _ (by omega) (by omega)
        have fr := hb4.frozen 1
        have HV := Lib.hid hv
        have hb5 : Blk (wr.setCell ⟨w.heap.size, 1, none⟩ (.int .i64 v)) w.heap.size 26 (pc ⟨ph, v, pr, ps, lay d (ph.toNat + q) l k⟩) := hb4.setCell 1 (.int .i64 v)
        have hz5 := hz4.far (p := ⟨w.heap.size, 1, none⟩) (Ne.symm hne) (.int .i64 v)
        have hK5 := hK4.setCell ⟨w.heap.size, 1, none⟩ (.int .i64 v) (fun h => absurd h (Nat.lt_irrefl _))
        clear hb4 hz4 hK4 hv
        go_wp2_with (first | (refine wpList_ld rfl (.tmp 2) rfl w.heap.size ⟨ph, v, pr, ps, lay d (ph.toNat + q) l k⟩ rfl HLY.out hb5 ?_) | (refine wpList_st rfl (.tmp 4) _ rfl gr ⟨ph, v, pr, ps, lay d (ph.toNat + q) l k⟩ noP rfl rfl HLY.out rfl hz5 ?_; intro w6 hz6 hk6 hs6; clear hs6))
        (try simp only [Exit.inBlock, Exit.then])
        refine bodyPost_ret (v := .tuple #[pv ⟨ph, v, pr, ps, lay d (ph.toNat + q) l k⟩, .int .i64 (k : Int)]) (results_pair rfl _ _ gr _ HLY.out rfl hz6 _ rfl) rfl ?_
        exact ⟨by rw [HV.out]; rfl, hK5.trans hk6 (fun b hb e => by have h3 : b = gr := e; omega)⟩
end Go.Proofs.Ytojciodjffahnaa.Ri
