/- The document's Take. -/
import Derived.Test.YtojciodjffahnaaRinK
namespace Go.Proofs.Ytojciodjffahnaa.Ri
open Go.RowKit
set_option linter.unusedVariables false
set_option linter.unusedSimpArgs false
theorem exec_str {ρ : Operand → Value} {o : Oper} {x : Operand} {w : World} {A : Option Addr} {n c : Nat} {l : List UInt8} (ho : o.op = .convert 22 9 x) (hx : ρ x = .slice A n c) (hr : Reads w A n (bytes l)) : (execOp ρ o).run Try.prog w = .ok (.value (.string (str l))) w := by
  have h := run_str (P := Try.prog) w 22 9 5 A n c l Try.underlying22 Try.underlying5 Try.underlying9 hr
  simp [execOp, ho, hx, h, Result.andThen]
theorem Vec.nob_ {w w' : World} {e sz n cap : Nat} {A : Option Addr} {xs : List Value} (h : Vec w e sz A n cap xs) (k : Keep Nob w w') : Vec w' e sz A n cap xs := h.keep k (fun _ _ f => f)
set_option maxHeartbeats 4000000 in
set_option maxRecDepth 100000 in
theorem rtake_is (p : Pp) (hl : p.d.length = 32) (n : Int) (w : World) (P' : Pp) (l : List UInt8) (hP : ptake p n = (P', l)) :
    Calls Try.prog 19 #[pv p, .int .i64 n] w fun e w' => e = .returned (.tuple #[pv P', .string (str l)]) ∧ Keep Nob w w' := by
  have HL := Lib.hid hl
  have HPP := Lib.hid hP
  have hO := fun w v h => pipeok_is p w v h
  unfold pv at hO ⊢
  have HO := Lib.hid hO
  clear hl hO hP
  go_enter Try.func19, Try.ntmps19
  go_wp2_with (first | (refine wpList_box rfl 26 _ rfl _ rfl ?_; intro w1 hb hk hs; clear hs; have hb : Blk w1 w.heap.size 26 (pc p) := hb) | (refine wpList_al rfl rfl ?_; intro w2 hz hk2 hs2; clear hs2; have hb2 := hb.nob hk2; have hK2 := hk.nobt hk2) | (refine wpList_ld rfl (.tmp 2) rfl w.heap.size p rfl HL.out hb2 ?_))
  have hne : w.heap.size ≠ w1.heap.size := by have := hb.lt; omega
  have hge : w.heap.size ≤ w1.heap.size := hk.size
  clear hb hk hk2
  generalize w1.heap.size = gr at *
  cases hv : okd p with
  | false =>
    have hPP := HPP.out
    rw [ptake, hv, if_neg (by simp)] at hPP
    cases hPP
    refine (HO.out _ _ hv).mono ?_; rintro e w3 ⟨rfl, k3⟩
    have hb3 := hb2.nob k3
    have hz3 := hz.nob k3
    have hK3 := hK2.nobt k3
    clear hb2 hz hK2 k3 HPP
    go_wp2_with (first | (refine wpList_ld rfl (.tmp 2) rfl w.heap.size p rfl HL.out hb3 ?_) | (refine wpList_st rfl (.tmp 4) _ rfl gr p noP rfl rfl HL.out rfl hz3 ?_; intro w4 hz4 hk4 hs4; clear hs4))
    (try simp only [Exit.inBlock, Exit.then])
    refine bodyPost_ret (v := .tuple #[pv p, .string (str [])]) (results_pair rfl _ _ gr p HL.out rfl hz4 _ rfl) rfl ?_
    exact ⟨rfl, hK3.trans hk4 (fun b hb e => by have h3 : b = gr := e; omega)⟩
  | true =>
    refine (HO.out _ _ hv).mono ?_; rintro e w3 ⟨rfl, k3⟩
    have hb3 := hb2.nob k3
    have hz3 := hz.nob k3
    have hK3 := hK2.nobt k3
    clear hb2 hz hK2 k3
    have B := okd_bounds hv
    have hPP := HPP.out
    rw [ptake, hv, if_pos rfl] at hPP
    have hB1 := B.c
    have HBh := Lib.hid B.h
    obtain ⟨ph, pb, pr, ps, d⟩ := p
    simp only at hB1 HBh
    have hmm : few ⟨ph, pb, pr, ps, d⟩ n = min n.toNat pb.toNat := rfl
    generalize few ⟨ph, pb, pr, ps, d⟩ n = m at *
    obtain ⟨M, hM⟩ : ∃ M : Int, (if n < 0 then 0 else n) = M := ⟨_, rfl⟩
    have hM2 : (if pb < M then pb else M) = (m : Int) := by
      subst hM
      split <;> split <;> omega
    have hmp : (m : Int) ≤ pb := by omega
    have hm32 : m ≤ 32 := by omega
    obtain ⟨sm, hsm⟩ : ∃ x : Int, ph + (m : Int) = x := ⟨_, rfl⟩
    obtain ⟨hd, hhd⟩ : ∃ x : Int, sm % 32 = x := ⟨_, rfl⟩
    obtain ⟨cn, hcn⟩ : ∃ x : Int, pb - (m : Int) = x := ⟨_, rfl⟩
    have hP1 : P' = ⟨hd, cn, pr, ps, d⟩ := by rw [← hhd, ← hcn, ← hsm]; exact (congrArg Prod.fst hPP).symm
    have hP2 : l = ahd d ph.toNat m := (congrArg Prod.snd hPP).symm
    subst hP1 hP2
    have hbh := HBh.out
    have hwc : IntKind.i64.wrap (pb - (m : Int)) = cn := by rw [hcn]; exact wrap_small_i64 _ (by omega) (by omega)
    have hwc2 : IntKind.i64.wrap cn = cn := by have := hwc; rwa [hcn] at this
    have hws : IntKind.i64.wrap (ph + (m : Int)) = sm := by rw [hsm]; exact wrap_small_i64 _ (by omega) (by omega)
    have htm : sm.tmod 32 = hd := by rw [Int.tmod_eq_emod_of_nonneg (by omega)]; exact hhd
    have hwh : IntKind.i64.wrap hd = hd := wrap_small_i64 _ (by omega) (by omega)
    have HWC := Lib.hid hwc
    have HWC2 := Lib.hid hwc2
    have HWS := Lib.hid hws
    have HTM := Lib.hid htm
    have HWH := Lib.hid hwh
    obtain ⟨c0, c1, c2, c3⟩ := cells4 hb3
    simp only at c0 c1 c2 c3
    clear hPP HPP hmm hhd B hv hB1 c0 c2 c3 HO hwc hwc2 hws htm hwh hbh hcn hsm hmp
    go_wp2_with fail
    clear c1 hM hM2
    go_loopw [7, 6] (fun s7 s6 wx => ∃ (k : Nat) (A : Option Addr) (cap : Nat), k ≤ m ∧ s7 = .int .i64 k ∧ s6 = .slice A k cap ∧ Vec wx 5 1 A k cap (bytes (ahd d ph.toNat k)) ∧ (∀ g, Own A g → w.heap.size ≤ g ∧ g ≠ w.heap.size ∧ g ≠ gr) ∧ Blk wx w.heap.size 26 (pc ⟨ph, pb, pr, ps, d⟩) ∧ Blk wx gr 26 (pc noP) ∧ Keep Nob w wx) (fun s7 _ _ => m - (intOf s7).toNat)
    case atStart => exact ⟨0, none, 0, Nat.zero_le _, rfl, rfl, Vec.nil _ _ _, fun g ⟨a, h, _⟩ => (by cases h), hb3, hz3, hK3⟩
    case round =>
      obtain ⟨k, A, cap, hk, rfl, rfl, hv4, ho4, hb4, hz4, hK4⟩ := hrel
      clear hb3 hz3 hK3
      by_cases hlt : k < m
      · have hbh := HBh.out
        obtain ⟨s1, hs1⟩ : ∃ i : Int, ph + (k : Int) = i := ⟨_, rfl⟩
        have hw1 : IntKind.i64.wrap (ph + (k : Int)) = s1 := by rw [hs1]; exact wrap_small_i64 _ (by omega) (by omega)
        obtain ⟨j, hj⟩ : ∃ j : Nat, s1 % 32 = (j : Int) := ⟨(s1 % 32).toNat, by omega⟩
        have hj4 : s1.tmod 32 = (j : Int) := by rw [Int.tmod_eq_emod_of_nonneg (by omega)]; exact hj
        have hj2 : (ph.toNat + k) % 32 = j := by omega
        have hj3 : j < 32 := by omega
        have hwj : IntKind.i64.wrap (j : Int) = (j : Int) := wrap_small_i64 _ (by omega) (by omega)
        have hsucc := ahd_succ d ph.toNat k
        rw [hj2] at hsucc
        have HSU := Lib.hid hsucc
        obtain ⟨c0, c1, c2, c3⟩ := cells4 hb4
        simp only at c0 c1 c2 c3
        have cD := cellD hb4 (k := j) (by rw [HL.out]; exact hj3)
        simp only at cD
        clear hsucc hj hbh hj2 c1 c2 c3 hs1
        generalize d.getD j 0 = t at *
        obtain ⟨u, hu⟩ : ∃ u, ((t.toNat : Nat) : Int) = u := ⟨_, rfl⟩
        rw [hu] at cD
        have HNEW := Lib.hid (show [Value.int .u8 u] = bytes [t] from by rw [← hu]; rfl)
        have hnl : wr.heap.size ≠ w.heap.size := by have := hb4.lt; omega
        have hnr : wr.heap.size ≠ gr := by have := hz4.lt; omega
        have hoL := hv4.lt
        have hs0 : w.heap.size ≤ wr.heap.size := hK4.size
        have hk32 : k < 32 := by omega
        go_wp2_with (at_builtin; go_loud (refine wpList_ap rfl _ _ 22 rfl 5 1 1 (.int .u8 0) Try.underlying22 Try.info5 rfl (by decide) A k cap _ rfl ((Vec.nob_ hv4) ((Keep.refl Nob wr).alloc _)) (some ⟨wr.heap.size, 0, none⟩) 1 1 [.int .u8 u] rfl _ (Nat.mul_one _) (reads_all (Blk.new wr 5 [.int .u8 u]) rfl) (by simp [Value.oneCell']) (by unfold maxLen; omega) (by omega) ?_); intro A' cap' w2 hv2 hk2 ho2)
        have hkk : Keep (Own A) wr w2 := ((Keep.refl (Own A) wr).alloc _).trans hk2 (fun _ _ h => h)
        have hb5 := hb4.keep hkk (fun h => (ho4 _ h).2.1 rfl)
        have hz5 := hz4.keep hkk (fun h => (ho4 _ h).2.2 rfl)
        have hK5 : Keep Nob w w2 := hK4.trans hkk (fun b hb h => by have := (ho4 b h).1; omega)
        rw [HNEW.out, ← bytes_append, ← HSU.out] at hv2
        go_round
        case rel =>
          refine ⟨k + 1, A', cap', by omega, by go_num, rfl, hv2, fun g hg => ?_, hb5, hz5, hK5⟩
          rcases ho2 g hg with h | h
          · exact ho4 g h
          · have h2 : g = wr.heap.size + 1 := by rw [h]; simp
            have := hb4.lt
            have := hz4.lt
            exact ⟨by omega, by omega, by omega⟩
        case measure => simp [intOf]; omega
      · obtain rfl : k = m := by omega
        clear hlt hk
        obtain ⟨c0, c1, c2, c3⟩ := cells4 hb4
        simp only at c0 c1
        clear c2 c3
        have hwc := HWC.out
        have hwc2 := HWC2.out
        have hws := HWS.out
        have htm := HTM.out
        have hwh := HWH.out
        have fr0 := hb4.frozen 0
        have fr1 := hb4.frozen 1
        have hb5 : Blk ((wr.setCell ⟨w.heap.size, 0, none⟩ (.int .i64 hd)).setCell ⟨w.heap.size, 1, none⟩ (.int .i64 cn)) w.heap.size 26 (pc ⟨hd, cn, pr, ps, d⟩) := (hb4.setCell 0 (.int .i64 hd)).setCell 1 (.int .i64 cn)
        have hz5 := (hz4.far (p := ⟨w.heap.size, 0, none⟩) (Ne.symm hne) (.int .i64 hd)).far (p := ⟨w.heap.size, 1, none⟩) (Ne.symm hne) (.int .i64 cn)
        have hK5 := (hK4.setCell ⟨w.heap.size, 0, none⟩ (.int .i64 hd) (fun h => absurd h (Nat.lt_irrefl _))).setCell ⟨w.heap.size, 1, none⟩ (.int .i64 cn) (fun h => absurd h (Nat.lt_irrefl _))
        have hr5 : Reads ((wr.setCell ⟨w.heap.size, 0, none⟩ (.int .i64 hd)).setCell ⟨w.heap.size, 1, none⟩ (.int .i64 cn)) A k (bytes (ahd d ph.toNat k)) := by
          have := hv4.reads
          rw [Nat.mul_one] at this
          refine this.keep (((Keep.refl (· = w.heap.size) wr).setCell ⟨w.heap.size, 0, none⟩ _ (fun _ => rfl)).setCell ⟨w.heap.size, 1, none⟩ _ (fun _ => rfl)) (fun ad e h => ?_)
          exact (ho4 ad.block ⟨ad, e, rfl⟩).2.1 h
        have hno : ∀ ad, A = some ad → ad.block ≠ gr := fun ad e => (ho4 ad.block ⟨ad, e, rfl⟩).2.2
        clear hv4 ho4
        go_upto_region 10 with fail
        clear hb4 hz4 hK4 c0 c1 fr0 fr1
        generalize ((wr.setCell ⟨w.heap.size, 0, none⟩ (.int .i64 hd)).setCell ⟨w.heap.size, 1, none⟩ (.int .i64 cn)) = w5 at *
        have hb6 := hb5.drew
        have hz6 := hz5.drew
        have hK6 := hK5.drew
        have hr6 := hr5.nob (Keep.nobdrew w5)
        clear hb5 hz5 hK5 hr5
        refine wp_region_held_drew (S := (fun w' => Blk w' w.heap.size 26 (pc ⟨hd, cn, pr, ps, d⟩) ∧ Reads w' A k (bytes (ahd d ph.toNat k)))) (by kernel_rfl) ⟨hb6, hr6⟩ (fun hHeld => ?_)
        generalize w5.drew = w6 at *
        refine wpAnyH_take (i := 0) (v := ?_) rfl (by kernel_rfl) (by kernel_rfl) (by kernel_rfl) (fun _ _ _ h => h) (Or.inl ⟨by rfl, ?_⟩) (by assumption) ?_
        rotate_left
        · (intro w hSw; (try dsimp only at hSw); obtain ⟨s1, s2⟩ := hSw; refine exec_load (x := .tmp 2) ?_ ?_ HL.out s1 <;> rfl)
        try simp only [Act.put, List.getElem_toArray, List.getElem_cons_zero, List.getElem_cons_succ, List.setIfInBounds_toArray, List.set_cons_zero, List.set_cons_succ]
        refine wpAnyH_take (i := 1) (v := ?_) rfl (by kernel_rfl) (by kernel_rfl) (by kernel_rfl) (fun _ _ _ h => h) (Or.inl ⟨by rfl, ?_⟩) (by assumption) ?_
        rotate_left
        · (intro w hSw; (try dsimp only at hSw); obtain ⟨s1, s2⟩ := hSw; go_simp; try with_reducible rfl)
        try simp only [Act.put, List.getElem_toArray, List.getElem_cons_zero, List.getElem_cons_succ, List.setIfInBounds_toArray, List.set_cons_zero, List.set_cons_succ]
        refine wpAnyH_take (i := 2) (v := ?_) rfl (by kernel_rfl) (by kernel_rfl) (by kernel_rfl) (fun _ _ _ h => h) (Or.inl ⟨by rfl, ?_⟩) (by assumption) ?_
        rotate_left
        · (intro w hSw; (try dsimp only at hSw); obtain ⟨s1, s2⟩ := hSw; refine exec_str (x := .tmp 45) (c := cap) ?_ ?_ s2 <;> rfl)
        try simp only [Act.put, List.getElem_toArray, List.getElem_cons_zero, List.getElem_cons_succ, List.setIfInBounds_toArray, List.set_cons_zero, List.set_cons_succ]
        refine wpAnyH_ready (rs := [3]) (by kernel_rfl) (by simp) ?_
        refine AllReadyH.cons rfl (fun K hK => ?_) AllReadyH.nil
        rw [if_pos (by rfl)]
        refine wp_store_ (old := noP) (q := ⟨hd, cn, pr, ps, d⟩) rfl rfl rfl HL.out rfl hz6 ?_
        have hz7 : Blk _ gr 26 (pc ⟨hd, cn, pr, ps, d⟩) := hz6.setRow _
        have hk7 := (Keep.refl (· = gr) w6).setRow gr (pc ⟨hd, cn, pr, ps, d⟩).toArray (fun _ => rfl)
        refine hK.out _ _ ?_ (fun hHeld => ?_)
        · exact ⟨hb6.setRow_far hne _, hr6.keep hk7 hno⟩
        clear hK K
        try simp only [Act.put, List.getElem_toArray, List.getElem_cons_zero, List.getElem_cons_succ, List.setIfInBounds_toArray, List.set_cons_zero, List.set_cons_succ]
        refine wpAnyH_take (i := 4) (v := ?_) rfl (by kernel_rfl) (by kernel_rfl) (by kernel_rfl) (fun _ _ _ h => h) (Or.inl ⟨by rfl, ?_⟩) (by assumption) ?_
        rotate_left
        · (intro w hSw; (try dsimp only at hSw); obtain ⟨s1, s2⟩ := hSw; go_simp; try with_reducible rfl)
        try simp only [Act.put, List.getElem_toArray, List.getElem_cons_zero, List.getElem_cons_succ, List.setIfInBounds_toArray, List.set_cons_zero, List.set_cons_succ]
        refine wpAnyH_done (by kernel_rfl) ?_ _
        go_wp2
        (try simp only [Exit.inBlock, Exit.then])
        refine bodyPost_ret (v := .tuple #[pv ⟨hd, cn, pr, ps, d⟩, .string (str (ahd d ph.toNat k))]) (results_pair rfl _ _ gr _ HL.out rfl hz7 _ rfl) rfl ?_
        exact ⟨rfl, hK6.trans hk7 (fun b hb e => by have h3 : b = gr := e; omega)⟩
end Go.Proofs.Ytojciodjffahnaa.Ri
