/- The document's Put. -/
import Derived.Test.YtojciodjffahnaaRinU
namespace Go.Proofs.Ytojciodjffahnaa.Ri
open Go.RowKit
set_option linter.unusedVariables false
set_option linter.unusedSimpArgs false
set_option maxHeartbeats 4000000 in
set_option maxRecDepth 100000 in
theorem rput_is (p : Pp) (hl : p.d.length = 32) (l : List UInt8) (w : World) (hn : l.length ≤ 1000000) (P' : Pp) (m : Nat) (hP : pput p l = (P', m)) :
    Calls Try.prog 18 #[pv p, .string (str l)] w fun e w' => e = .returned (.tuple #[pv P', .int .i64 (m : Int)]) ∧ Keep Nob w w' := by
  have hsz := str_size l
  have HL := Lib.hid hl
  have HPP := Lib.hid hP
  have hO := fun w v h => pipeok_is p w v h
  unfold pv at hO ⊢
  have HO := Lib.hid hO
  have HY := Lib.hid (fun (i : Int) (k : Nat) (hi : i = k) (hk : k < l.length) => index_str (str l) i k hi (by omega) _ (str_at l k (by omega)))
  obtain ⟨n, hln⟩ : ∃ n, l.length = n := ⟨_, rfl⟩
  have HN := Lib.hid hln
  rw [hln] at hsz hn
  clear hl hO hP hln
  generalize str l = S at *
  go_enter Try.func18, Try.ntmps18
  go_wp2_with (first | (refine wpList_box rfl 26 _ rfl _ rfl ?_; intro w1 hb hk hs; clear hs; have hb : Blk w1 w.heap.size 26 (pc p) := hb) | (refine wpList_al rfl rfl ?_; intro w2 hz hk2 hs2; clear hs2; have hb2 := hb.nob hk2; have hK2 := hk.nobt hk2) | (refine wpList_ld rfl (.tmp 2) rfl w.heap.size p rfl HL.out hb2 ?_))
  have hne : w.heap.size ≠ w1.heap.size := by have := hb.lt; omega
  have hge : w.heap.size ≤ w1.heap.size := hk.size
  clear hb hk hk2
  generalize w1.heap.size = gr at *
  cases hv : okd p with
  | false =>
    have hPP := HPP.out
    rw [pput, hv, if_neg (by simp)] at hPP
    cases hPP
    refine (HO.out _ _ hv).mono ?_; rintro e w3 ⟨rfl, k3⟩
    have hb3 := hb2.nob k3
    have hz3 := hz.nob k3
    have hK3 := hK2.nobt k3
    clear hb2 hz hK2 k3 HPP
    go_wp2_with (first | (refine wpList_ld rfl (.tmp 2) rfl w.heap.size p rfl HL.out hb3 ?_) | (refine wpList_st rfl (.tmp 4) _ rfl gr p noP rfl rfl HL.out rfl hz3 ?_; intro w4 hz4 hk4 hs4; clear hs4))
    (try simp only [Exit.inBlock, Exit.then])
    refine bodyPost_ret (v := .tuple #[pv p, .int .i64 0]) (results_pair rfl _ _ gr p HL.out rfl hz4 _ rfl) rfl ?_
    exact ⟨rfl, hK3.trans hk4 (fun b hb e => by have h3 : b = gr := e; omega)⟩
  | true =>
    refine (HO.out _ _ hv).mono ?_; rintro e w3 ⟨rfl, k3⟩
    have hb3 := hb2.nob k3
    have hz3 := hz.nob k3
    have hK3 := hK2.nobt k3
    clear hb2 hz hK2 k3
    have B := okd_bounds hv
    have hPP := HPP.out
    rw [pput, hv, if_pos rfl, HN.out] at hPP
    have hB1 := B.c
    have HBh := Lib.hid B.h
    obtain ⟨ph, b, pr, ps, d⟩ := p
    simp only at hB1 HBh
    obtain ⟨q, rfl⟩ : ∃ q : Nat, b = (q : Int) := ⟨b.toNat, by omega⟩
    have hq : q ≤ 32 := by omega
    have hroom : room ⟨ph, (q : Int), pr, ps, d⟩ = 32 - q := rfl
    rw [hroom] at hPP
    obtain ⟨e, he⟩ : ∃ e : Int, 32 - (q : Int) = e := ⟨_, rfl⟩
    have hw1 : IntKind.i64.wrap (32 - (q : Int)) = e := by
      rw [he]; exact wrap_small_i64 _ (by omega) (by omega)
    have hm1 : (if e < (n : Int) then e else (n : Int)) = (m : Int) := by
      have : min n (32 - q) = m := congrArg Prod.snd hPP
      split <;> omega
    have hmm : m = min n (32 - q) := (congrArg Prod.snd hPP).symm
    have hP1 : P' = ⟨ph, (q : Int) + (m : Int), pr, ps, lay d (ph.toNat + q) l m⟩ := by
      have := congrArg Prod.fst hPP
      rw [← hmm] at this
      exact this.symm
    have hmn : m ≤ n := by omega
    have hmq : q + m ≤ 32 := by omega
    subst hP1
    clear hPP HPP hroom hmm he B hv hB1
    obtain ⟨c0, c1, c2, c3⟩ := cells4 hb3
    simp only at c0 c1 c2 c3
    go_wp2_with fail
    clear c0 c1 c2 c3 hw1 hm1
    go_loopw [7] (fun s7 wx => ∃ k : Nat, k ≤ m ∧ s7 = .int .i64 k ∧ Blk wx w.heap.size 26 (pc ⟨ph, (q : Int), pr, ps, lay d (ph.toNat + q) l k⟩) ∧ Blk wx gr 26 (pc noP) ∧ Keep Nob w wx) (fun s7 _ => m - (intOf s7).toNat)
    case atStart => exact ⟨0, Nat.zero_le _, rfl, hb3, hz3, hK3⟩
    case round =>
      obtain ⟨k, hk, rfl, hb4, hz4, hK4⟩ := hrel
      clear hb3 hz3 hK3
      have hly := lay_len d (ph.toNat + q) l k
      rw [HL.out] at hly
      have HLY := Lib.hid hly
      clear hly
      by_cases hlt : k < m
      · have hbh := HBh.out
        have y := HY.out (k : Int) k rfl (by rw [HN.out]; omega)
        obtain ⟨s1, hs1⟩ : ∃ i : Int, ph + (q : Int) = i := ⟨_, rfl⟩
        obtain ⟨s2, hs2⟩ : ∃ i : Int, s1 + (k : Int) = i := ⟨_, rfl⟩
        have hw1 : IntKind.i64.wrap (ph + (q : Int)) = s1 := by rw [hs1]; exact wrap_small_i64 _ (by omega) (by omega)
        have hw2 : IntKind.i64.wrap (s1 + (k : Int)) = s2 := by rw [hs2]; exact wrap_small_i64 _ (by omega) (by omega)
        obtain ⟨j, hj⟩ : ∃ j : Nat, s2 % 32 = (j : Int) := ⟨(s2 % 32).toNat, by omega⟩
        have hj4 : s2.tmod 32 = (j : Int) := by rw [Int.tmod_eq_emod_of_nonneg (by omega)]; exact hj
        have hj2 : (ph.toNat + q + k) % 32 = j := by omega
        have hj3 : j < 32 := by omega
        have hwj : IntKind.i64.wrap (j : Int) = (j : Int) := wrap_small_i64 _ (by omega) (by omega)
        have hset : (lay d (ph.toNat + q) l k).set j (l.getD k 0) = lay d (ph.toNat + q) l (k + 1) := by rw [lay, hj2]
        have HSET := Lib.hid hset
        obtain ⟨c0, c1, c2, c3⟩ := cells4 hb4
        simp only at c0 c1 c2 c3
        clear hset hj hbh hj2 c2 c3 hs1 hs2
        generalize hu : ((l.getD k 0).toNat : Int) = u at *
        have HU := Lib.hid hu
        have fr := hb4.frozen (4 + j)
        have cc : ∃ x, _ = some x := ⟨_, cellD hb4 (k := j) (by rw [HLY.out]; exact hj3)⟩
        obtain ⟨x, cc⟩ := cc
        have hb6 : Blk (wr.setCell ⟨w.heap.size, 4 + j, none⟩ (.int .u8 u)).drew w.heap.size 26 (pc ⟨ph, (q : Int), pr, ps, lay d (ph.toNat + q) l (k + 1)⟩) := by
          have := (hb4.setCell (4 + j) (.int .u8 u)).drew
          rw [pc_setD _ _ _ _ _ j _ _ HU.out, HSET.out] at this
          exact this
        have hz6 := (hz4.far (p := ⟨w.heap.size, 4 + j, none⟩) (Ne.symm hne) (.int .u8 u)).drew
        have hK6 := (hK4.setCell ⟨w.heap.size, 4 + j, none⟩ (.int .u8 u) (fun h => absurd h (Nat.lt_irrefl _))).drew
        clear hb4 hz4 hK4 HSET HU hu
        go_wp2_with fail
        go_region
        go_wp2_with fail
        go_round
        case rel => exact ⟨k + 1, by omega, by go_num, hb6, hz6, hK6⟩
        case measure => simp [intOf]; omega
      · obtain rfl : k = m := by omega
        clear hlt hk HY
        obtain ⟨c0, c1, c2, c3⟩ := cells4 hb4
        simp only at c1
        clear c0 c2 c3
        obtain ⟨v, hv⟩ : ∃ v : Int, (q : Int) + (k : Int) = v := ⟨_, rfl⟩
        have hwv : IntKind.i64.wrap ((q : Int) + (k : Int)) = v := by rw [hv]; exact wrap_small_i64 _ (by omega) (by omega)
        have fr := hb4.frozen 1
        have HV := Lib.hid hv
        have hb5 : Blk (wr.setCell ⟨w.heap.size, 1, none⟩ (.int .i64 v)) w.heap.size 26 (pc ⟨ph, v, pr, ps, lay d (ph.toNat + q) l k⟩) := hb4.setCell 1 (.int .i64 v)
        have hz5 := hz4.far (p := ⟨w.heap.size, 1, none⟩) (Ne.symm hne) (.int .i64 v)
        have hK5 := hK4.setCell ⟨w.heap.size, 1, none⟩ (.int .i64 v) (fun h => absurd h (Nat.lt_irrefl _))
        clear hb4 hz4 hK4 hv
        go_wp2_with (first | (refine wpList_ld rfl (.tmp 2) rfl w.heap.size ⟨ph, v, pr, ps, lay d (ph.toNat + q) l k⟩ rfl HLY.out hb5 ?_) | (refine wpList_st rfl (.tmp 4) _ rfl gr ⟨ph, v, pr, ps, lay d (ph.toNat + q) l k⟩ noP rfl rfl HLY.out rfl hz5 ?_; intro w6 hz6 hk6 hs6; clear hs6))
        (try simp only [Exit.inBlock, Exit.then])
        refine bodyPost_ret (v := .tuple #[pv ⟨ph, v, pr, ps, lay d (ph.toNat + q) l k⟩, .int .i64 (k : Int)]) (results_pair rfl _ _ gr _ HLY.out rfl hz6 _ rfl) rfl ?_
        exact ⟨by rw [HV.out]; rfl, hK5.trans hk6 (fun b hb e => by have h3 : b = gr := e; omega)⟩
end Go.Proofs.Ytojciodjffahnaa.Ri
