/- The walk of RingCodes. -/
import Derived.Test.YtojciodjffahnaaRinB
import Derived.Test.YtojciodjffahnaaRinT
import Derived.Test.YtojciodjffahnaaLaw13c
namespace Go.Proofs.Ytojciodjffahnaa
open Go.RowKit Ri
set_option linter.unusedVariables false
set_option linter.unusedSimpArgs false
set_option maxHeartbeats 8000000 in
set_option maxRecDepth 100000 in
theorem RingCodes_in (w : World) (P0 : Pp) (hl0 : P0.d.length = 32) (a1 : Int) (A2 : Option Addr) (n2 c2 : Nat) (x2 : List UInt8) (r2 : Reads w A2 n2 (bytes x2)) (A3 : Option Addr) (n3 c3 : Nat) (x3 : List UInt8) (r3 : Reads w A3 n3 (bytes x3)) (a4 tb : Int) (t0 : 0 ≤ tb) (t1 : tb ≤ 255) :
    Calls Try.prog 4 #[pv P0, .int .i64 a1, .slice A2 n2 c2, .slice A3 n3 c3, .int .i64 a4, .int .u8 tb] w fun e w' => e = .returned (.bool true) ∧ Below w.heap.size w w' := by
  unfold pv
  by_cases h100 : 100 < n3
  · go_enter Try.func4, Try.ntmps4
    go_wp2_with (refine wpList_box rfl 26 _ rfl _ rfl ?_; intro w1 hb1 hk1 hs1; clear hs1)
    refine (awake_is _).mono ?_; rintro e w1 ⟨rfl, k1⟩
    have K1 := hk1.nobt k1
    go_wp2
    go_ret
    exact ⟨rfl, K1.below (Nat.le_refl _) (fun _ _ f => f)⟩
  by_cases h101 : 100 < n2
  · go_enter Try.func4, Try.ntmps4
    go_wp2_with (refine wpList_box rfl 26 _ rfl _ rfl ?_; intro w1 hb1 hk1 hs1; clear hs1)
    refine (awake_is _).mono ?_; rintro e w1 ⟨rfl, k1⟩
    have K1 := hk1.nobt k1
    go_wp2
    go_ret
    exact ⟨rfl, K1.below (Nat.le_refl _) (fun _ _ f => f)⟩
  have hl3 : x3.length = n3 := by simpa using r3.1
  have HM := Lib.hid (fun w (hr : Reads w A2 n2 (bytes x2)) => made_is a1 A2 n2 c2 x2 w hr (made a1 x2) rfl)
  have hml := made_len a1 x2
  have hmo := made_ok a1 x2
  generalize made a1 x2 = M at *
  have HML := Lib.hid hml
  have HMO := Lib.hid hmo
  have HL0 := Lib.hid hl0
  have HR2 := Lib.hid r2
  have HR3 := Lib.hid r3
  have HL3 := Lib.hid hl3
  unfold pv at HM
  -- where a byte is turned
  have hand : bits .and .i64 a4 65535 = a4 % 65536 := i64_and65535 a4
  obtain ⟨q0, hq0⟩ : ∃ q : Nat, a4 % 65536 = (q : Int) := ⟨(a4 % 65536).toNat, by omega⟩
  rw [hq0] at hand
  obtain ⟨q, hq⟩ : ∃ q : Nat, (q0 : Int) % 40 = (q : Int) := ⟨q0 % 40, by omega⟩
  have hqt : (q0 : Int).tmod 40 = (q : Int) := by rw [Int.tmod_eq_emod_of_nonneg (by omega)]; exact hq
  have hq40 : q < 40 := by omega
  have hwq : IntKind.i64.wrap (q : Int) = (q : Int) := wrap_small_i64 _ (by omega) (by omega)
  have HAND := Lib.hid hand
  have HQT := Lib.hid hqt
  have HWQ := Lib.hid hwq
  clear hml hmo hl0 r2 r3 hl3 hand hqt hwq hq hq0
  go_enter Try.func4, Try.ntmps4
  go_wp2_with (first | (refine wpList_box rfl 26 _ rfl _ rfl ?_; intro w1 hb1 hk1 hs1; clear hs1; have hb1 : Blk w1 w.heap.size 26 (pc P0) := hb1) | (refine wpList_al rfl rfl ?_; intro v1 hp1 k1 hs1; clear hs1) | (refine wpList_ld rfl (.tmp 6) rfl w.heap.size P0 rfl HL0.out hb1 ?_) | (refine wpList_st rfl (.tmp 13) _ rfl w1.heap.size P0 noP rfl rfl HL0.out rfl hp1 ?_; intro v2 hp2 k2 hs2; clear hs2))
  have K2 : Keep Nob w v2 := (hk1.nobt k1).trans k2 (fun b hb e => by have h3 : b = w1.heap.size := e; have := hk1.size; omega)
  have hg9 : w.heap.size ≤ w1.heap.size := hk1.size
  clear hp1 k1 k2 hk1 hb1
  generalize w1.heap.size = g13 at *
  go_loopw [14] (fun s14 wx => ∃ (k : Nat) (P : Pp), k ≤ 2 ∧ s14 = .int .i64 k ∧ P.d.length = 32 ∧ (k = 0 ∨ okd P = true) ∧ Blk wx g13 26 (pc P) ∧ Keep Nob w wx) (fun s14 _ => 2 - (intOf s14).toNat)
  case atStart => exact ⟨0, P0, Nat.zero_le _, rfl, HL0.out, .inl rfl, hp2, K2⟩
  case round =>
    obtain ⟨k, P, hk, rfl, hl, hko, hp3, K3⟩ := hrel
    clear hp2 K2
    obtain ⟨v, hv⟩ : ∃ v, okd P = v := ⟨_, rfl⟩
    have HL := Lib.hid hl
    have HKO := Lib.hid hko
    have HVV := Lib.hid hv
    have he := fun w => encode_is P hl w v hv
    have ho := fun w => ok_is P w v hv
    have hpo := fun w => pipeok_is P w v hv
    have hpb := fun w => pipebytes_is P hl w
    have hne := fun W => ne_pv P P hl hl true (same_refl P) W
    have hel := enc_len hl
    have hde : okd P = true → dcd (enc P) = (P, 1) := dcd_enc hl
    unfold pv at he ho hpo hpb hne
    have HE := Lib.hid he
    have HO := Lib.hid ho
    have HPO := Lib.hid hpo
    have HPB := Lib.hid hpb
    have HNE := Lib.hid hne
    have HEL := Lib.hid hel
    have HDE := Lib.hid hde
    clear he ho hpo hpb hl hko hv hne hel hde
    by_cases hlt : k < 2
    · go_wp2_with (refine wpList_ld rfl (.tmp 13) rfl g13 P rfl HL.out hp3 ?_)
      refine (HE.out _).mono ?_; rintro e w4 ⟨x, rfl, tx, k4⟩
      have hp4 := hp3.nob k4
      have K4 := K3.nobt k4
      clear hp3 K3 k4
      go_wp2_with (refine wpList_ld rfl (.tmp 13) rfl g13 P rfl HL.out hp4 ?_)
      refine (HPO.out _).mono ?_; rintro e w5 ⟨rfl, k5⟩
      have hp5 := (hp4.nob k5).drew
      have K5 := (K4.nobt k5).drew
      clear hp4 K4
      cases v with
      | false =>
        have tx : x = .slice none 0 0 := tx
        subst tx
        go_wp2_with fail
        refine wp_region_held_drew (S := (fun w' => Blk w' g13 26 (pc P) ∧ True)) (by kernel_rfl) ⟨hp5, trivial⟩ (fun hHeld => ?_)
        generalize w5.drew = wd at *
        refine wpAnyH_take (i := 0) (v := ?_) rfl (by kernel_rfl) (by kernel_rfl) (by kernel_rfl) (fun _ _ _ h => h) (Or.inl ⟨by rfl, ?_⟩) (by assumption) ?_
        rotate_left
        · (intro w hSw; (try dsimp only at hSw); obtain ⟨sa, _⟩ := hSw; go_simp; try with_reducible rfl)
        try simp only [Act.put, List.getElem_toArray, List.getElem_cons_zero, List.getElem_cons_succ, List.setIfInBounds_toArray, List.set_cons_zero, List.set_cons_succ]
        refine wpAnyH_take (i := 1) (v := ?_) rfl (by kernel_rfl) (by kernel_rfl) (by kernel_rfl) (fun _ _ _ h => h) (Or.inl ⟨by rfl, ?_⟩) (by assumption) ?_
        rotate_left
        · (intro w hSw; (try dsimp only at hSw); obtain ⟨sa, _⟩ := hSw; go_simp; try with_reducible rfl)
        try simp only [Act.put, List.getElem_toArray, List.getElem_cons_zero, List.getElem_cons_succ, List.setIfInBounds_toArray, List.set_cons_zero, List.set_cons_succ]
        refine wpAnyH_take (i := 2) (v := ?_) rfl (by kernel_rfl) (by kernel_rfl) (by kernel_rfl) (fun _ _ _ h => h) (Or.inl ⟨by rfl, ?_⟩) (by assumption) ?_
        rotate_left
        · (intro w hSw; (try dsimp only at hSw); obtain ⟨sa, _⟩ := hSw; go_simp; try with_reducible rfl)
        try simp only [Act.put, List.getElem_toArray, List.getElem_cons_zero, List.getElem_cons_succ, List.setIfInBounds_toArray, List.set_cons_zero, List.set_cons_succ]
        refine wpAnyH_take (i := 3) (v := ?_) rfl (by kernel_rfl) (by kernel_rfl) (by kernel_rfl) (fun _ _ _ h => h) (Or.inl ⟨by rfl, ?_⟩) (by assumption) ?_
        rotate_left
        · (intro w hSw; (try dsimp only at hSw); obtain ⟨sa, _⟩ := hSw; go_simp; try with_reducible rfl)
        try simp only [Act.put, List.getElem_toArray, List.getElem_cons_zero, List.getElem_cons_succ, List.setIfInBounds_toArray, List.set_cons_zero, List.set_cons_succ]
        refine wpAnyH_take (i := 4) (v := ?_) rfl (by kernel_rfl) (by kernel_rfl) (by kernel_rfl) (fun _ _ _ h => h) (Or.inl ⟨by rfl, ?_⟩) (by assumption) ?_
        rotate_left
        · (intro w hSw; (try dsimp only at hSw); obtain ⟨sa, _⟩ := hSw; refine exec_load (x := .tmp 13) ?_ ?_ HL.out sa <;> rfl)
        try simp only [Act.put, List.getElem_toArray, List.getElem_cons_zero, List.getElem_cons_succ, List.setIfInBounds_toArray, List.set_cons_zero, List.set_cons_succ]
        refine wpAnyH_take (i := 6) (v := ?_) rfl (by kernel_rfl) (by kernel_rfl) (by kernel_rfl) (fun _ _ _ h => h) (Or.inl ⟨by rfl, ?_⟩) (by assumption) ?_
        rotate_left
        · (intro w hSw; (try dsimp only at hSw); obtain ⟨sa, _⟩ := hSw; go_simp; try with_reducible rfl)
        try simp only [Act.put, List.getElem_toArray, List.getElem_cons_zero, List.getElem_cons_succ, List.setIfInBounds_toArray, List.set_cons_zero, List.set_cons_succ]
        refine wpAnyH_ready (rs := [5]) (by kernel_rfl) (by simp) ?_
        refine AllReadyH.cons rfl (fun K hK => ?_) AllReadyH.nil
        go_simp
        with_reducible_and_instances apply Calls.mono (HO.out _); rintro e w6 ⟨rfl, k6⟩
        have hp6 := hp5.nob k6
        have K6 := K5.nobt k6
        refine hK.out _ _ ?_ (fun hHeld => ?_)
        · exact ⟨hp6, trivial⟩
        clear hK K
        try simp only [Act.put, List.getElem_toArray, List.getElem_cons_zero, List.getElem_cons_succ, List.setIfInBounds_toArray, List.set_cons_zero, List.set_cons_succ]
        refine wpAnyH_take (i := 7) (v := ?_) rfl (by kernel_rfl) (by kernel_rfl) (by kernel_rfl) (fun _ _ _ h => h) (Or.inl ⟨by rfl, ?_⟩) (by assumption) ?_
        rotate_left
        · (intro w hSw; (try dsimp only at hSw); obtain ⟨sa, _⟩ := hSw; go_simp; try with_reducible rfl)
        try simp only [Act.put, List.getElem_toArray, List.getElem_cons_zero, List.getElem_cons_succ, List.setIfInBounds_toArray, List.set_cons_zero, List.set_cons_succ]
        refine wpAnyH_take (i := 8) (v := ?_) rfl (by kernel_rfl) (by kernel_rfl) (by kernel_rfl) (fun _ _ _ h => h) (Or.inl ⟨by rfl, ?_⟩) (by assumption) ?_
        rotate_left
        · (intro w hSw; (try dsimp only at hSw); obtain ⟨sa, _⟩ := hSw; go_simp; try with_reducible rfl)
        try simp only [Act.put, List.getElem_toArray, List.getElem_cons_zero, List.getElem_cons_succ, List.setIfInBounds_toArray, List.set_cons_zero, List.set_cons_succ]
        refine wpAnyH_take (i := 9) (v := ?_) rfl (by kernel_rfl) (by kernel_rfl) (by kernel_rfl) (fun _ _ _ h => h) (Or.inl ⟨by rfl, ?_⟩) (by assumption) ?_
        rotate_left
        · (intro w hSw; (try dsimp only at hSw); obtain ⟨sa, _⟩ := hSw; go_simp; try with_reducible rfl)
        try simp only [Act.put, List.getElem_toArray, List.getElem_cons_zero, List.getElem_cons_succ, List.setIfInBounds_toArray, List.set_cons_zero, List.set_cons_succ]
        refine wpAnyH_take (i := 10) (v := ?_) rfl (by kernel_rfl) (by kernel_rfl) (by kernel_rfl) (fun _ _ _ h => h) (Or.inl ⟨by rfl, ?_⟩) (by assumption) ?_
        rotate_left
        · (intro w hSw; (try dsimp only at hSw); obtain ⟨sa, _⟩ := hSw; go_simp; try with_reducible rfl)
        try simp only [Act.put, List.getElem_toArray, List.getElem_cons_zero, List.getElem_cons_succ, List.setIfInBounds_toArray, List.set_cons_zero, List.set_cons_succ]
        refine wpAnyH_take (i := 11) (v := ?_) rfl (by kernel_rfl) (by kernel_rfl) (by kernel_rfl) (fun _ _ _ h => h) (Or.inl ⟨by rfl, ?_⟩) (by assumption) ?_
        rotate_left
        · (intro w hSw; (try dsimp only at hSw); obtain ⟨sa, _⟩ := hSw; go_simp; try with_reducible rfl)
        try simp only [Act.put, List.getElem_toArray, List.getElem_cons_zero, List.getElem_cons_succ, List.setIfInBounds_toArray, List.set_cons_zero, List.set_cons_succ]
        refine wpAnyH_take (i := 12) (v := ?_) rfl (by kernel_rfl) (by kernel_rfl) (by kernel_rfl) (fun _ _ _ h => h) (Or.inl ⟨by rfl, ?_⟩) (by assumption) ?_
        rotate_left
        · (intro w hSw; (try dsimp only at hSw); obtain ⟨sa, _⟩ := hSw; go_simp; try with_reducible rfl)
        try simp only [Act.put, List.getElem_toArray, List.getElem_cons_zero, List.getElem_cons_succ, List.setIfInBounds_toArray, List.set_cons_zero, List.set_cons_succ]
        refine wpAnyH_take (i := 13) (v := ?_) rfl (by kernel_rfl) (by kernel_rfl) (by kernel_rfl) (fun _ _ _ h => h) (Or.inl ⟨by rfl, ?_⟩) (by assumption) ?_
        rotate_left
        · (intro w hSw; (try dsimp only at hSw); obtain ⟨sa, _⟩ := hSw; go_simp; try with_reducible rfl)
        try simp only [Act.put, List.getElem_toArray, List.getElem_cons_zero, List.getElem_cons_succ, List.setIfInBounds_toArray, List.set_cons_zero, List.set_cons_succ]
        refine wpAnyH_take (i := 14) (v := ?_) rfl (by kernel_rfl) (by kernel_rfl) (by kernel_rfl) (fun _ _ _ h => h) (Or.inl ⟨by rfl, ?_⟩) (by assumption) ?_
        rotate_left
        · (intro w hSw; (try dsimp only at hSw); obtain ⟨sa, _⟩ := hSw; go_simp; try with_reducible rfl)
        try simp only [Act.put, List.getElem_toArray, List.getElem_cons_zero, List.getElem_cons_succ, List.setIfInBounds_toArray, List.set_cons_zero, List.set_cons_succ]
        refine wpAnyH_take (i := 15) (v := ?_) rfl (by kernel_rfl) (by kernel_rfl) (by kernel_rfl) (fun _ _ _ h => h) (Or.inl ⟨by rfl, ?_⟩) (by assumption) ?_
        rotate_left
        · (intro w hSw; (try dsimp only at hSw); obtain ⟨sa, _⟩ := hSw; go_simp; try with_reducible rfl)
        try simp only [Act.put, List.getElem_toArray, List.getElem_cons_zero, List.getElem_cons_succ, List.setIfInBounds_toArray, List.set_cons_zero, List.set_cons_succ]
        refine wpAnyH_take (i := 16) (v := ?_) rfl (by kernel_rfl) (by kernel_rfl) (by kernel_rfl) (fun _ _ _ h => h) (Or.inl ⟨by rfl, ?_⟩) (by assumption) ?_
        rotate_left
        · (intro w hSw; (try dsimp only at hSw); obtain ⟨sa, _⟩ := hSw; go_simp; try with_reducible rfl)
        try simp only [Act.put, List.getElem_toArray, List.getElem_cons_zero, List.getElem_cons_succ, List.setIfInBounds_toArray, List.set_cons_zero, List.set_cons_succ]
        refine wpAnyH_take (i := 17) (v := ?_) rfl (by kernel_rfl) (by kernel_rfl) (by kernel_rfl) (fun _ _ _ h => h) (Or.inl ⟨by rfl, ?_⟩) (by assumption) ?_
        rotate_left
        · (intro w hSw; (try dsimp only at hSw); obtain ⟨sa, _⟩ := hSw; go_simp; try with_reducible rfl)
        try simp only [Act.put, List.getElem_toArray, List.getElem_cons_zero, List.getElem_cons_succ, List.setIfInBounds_toArray, List.set_cons_zero, List.set_cons_succ]
        refine wpAnyH_take (i := 18) (v := ?_) rfl (by kernel_rfl) (by kernel_rfl) (by kernel_rfl) (fun _ _ _ h => h) (Or.inl ⟨by rfl, ?_⟩) (by assumption) ?_
        rotate_left
        · (intro w hSw; (try dsimp only at hSw); obtain ⟨sa, _⟩ := hSw; go_simp; try with_reducible rfl)
        try simp only [Act.put, List.getElem_toArray, List.getElem_cons_zero, List.getElem_cons_succ, List.setIfInBounds_toArray, List.set_cons_zero, List.set_cons_succ]
        refine wpAnyH_take (i := 19) (v := ?_) rfl (by kernel_rfl) (by kernel_rfl) (by kernel_rfl) (fun _ _ _ h => h) (Or.inl ⟨by rfl, ?_⟩) (by assumption) ?_
        rotate_left
        · (intro w hSw; (try dsimp only at hSw); obtain ⟨sa, _⟩ := hSw; go_simp; try with_reducible rfl)
        try simp only [Act.put, List.getElem_toArray, List.getElem_cons_zero, List.getElem_cons_succ, List.setIfInBounds_toArray, List.set_cons_zero, List.set_cons_succ]
        refine wpAnyH_take (i := 20) (v := ?_) rfl (by kernel_rfl) (by kernel_rfl) (by kernel_rfl) (fun _ _ _ h => h) (Or.inl ⟨by rfl, ?_⟩) (by assumption) ?_
        rotate_left
        · (intro w hSw; (try dsimp only at hSw); obtain ⟨sa, _⟩ := hSw; go_simp; try with_reducible rfl)
        try simp only [Act.put, List.getElem_toArray, List.getElem_cons_zero, List.getElem_cons_succ, List.setIfInBounds_toArray, List.set_cons_zero, List.set_cons_succ]
        refine wpAnyH_take (i := 21) (v := undef) rfl (by kernel_rfl) (by kernel_rfl) (by kernel_rfl) (fun _ _ _ h => h) (Or.inr ⟨by rfl, rfl⟩) (by assumption) ?_
        try simp only [Act.put, List.getElem_toArray, List.getElem_cons_zero, List.getElem_cons_succ, List.setIfInBounds_toArray, List.set_cons_zero, List.set_cons_succ]
        refine wpAnyH_take (i := 22) (v := undef) rfl (by kernel_rfl) (by kernel_rfl) (by kernel_rfl) (fun _ _ _ h => h) (Or.inr ⟨by rfl, rfl⟩) (by assumption) ?_
        try simp only [Act.put, List.getElem_toArray, List.getElem_cons_zero, List.getElem_cons_succ, List.setIfInBounds_toArray, List.set_cons_zero, List.set_cons_succ]
        refine wpAnyH_take (i := 23) (v := undef) rfl (by kernel_rfl) (by kernel_rfl) (by kernel_rfl) (fun _ _ _ h => h) (Or.inr ⟨by rfl, rfl⟩) (by assumption) ?_
        try simp only [Act.put, List.getElem_toArray, List.getElem_cons_zero, List.getElem_cons_succ, List.setIfInBounds_toArray, List.set_cons_zero, List.set_cons_succ]
        refine wpAnyH_take (i := 24) (v := undef) rfl (by kernel_rfl) (by kernel_rfl) (by kernel_rfl) (fun _ _ _ h => h) (Or.inr ⟨by rfl, rfl⟩) (by assumption) ?_
        try simp only [Act.put, List.getElem_toArray, List.getElem_cons_zero, List.getElem_cons_succ, List.setIfInBounds_toArray, List.set_cons_zero, List.set_cons_succ]
        refine wpAnyH_take (i := 25) (v := undef) rfl (by kernel_rfl) (by kernel_rfl) (by kernel_rfl) (fun _ _ _ h => h) (Or.inr ⟨by rfl, rfl⟩) (by assumption) ?_
        try simp only [Act.put, List.getElem_toArray, List.getElem_cons_zero, List.getElem_cons_succ, List.setIfInBounds_toArray, List.set_cons_zero, List.set_cons_succ]
        refine wpAnyH_take (i := 26) (v := ?_) rfl (by kernel_rfl) (by kernel_rfl) (by kernel_rfl) (fun _ _ _ h => h) (Or.inl ⟨by rfl, ?_⟩) (by assumption) ?_
        rotate_left
        · (intro w hSw; (try dsimp only at hSw); obtain ⟨sa, _⟩ := hSw; go_simp; try with_reducible rfl)
        try simp only [Act.put, List.getElem_toArray, List.getElem_cons_zero, List.getElem_cons_succ, List.setIfInBounds_toArray, List.set_cons_zero, List.set_cons_succ]
        refine wpAnyH_take (i := 27) (v := ?_) rfl (by kernel_rfl) (by kernel_rfl) (by kernel_rfl) (fun _ _ _ h => h) (Or.inl ⟨by rfl, ?_⟩) (by assumption) ?_
        rotate_left
        · (intro w hSw; (try dsimp only at hSw); obtain ⟨sa, _⟩ := hSw; go_simp; try with_reducible rfl)
        try simp only [Act.put, List.getElem_toArray, List.getElem_cons_zero, List.getElem_cons_succ, List.setIfInBounds_toArray, List.set_cons_zero, List.set_cons_succ]
        refine wpAnyH_done (by kernel_rfl) ?_ _
        clear hp5 K5 k6
        have hM := HM.out w6 (HR2.out.nob K6)
        go_wp2_with fail
        refine hM.mono ?_; rintro e w7 ⟨rfl, k7⟩
        have hp7 := hp6.nob k7
        have K7 := K6.nobt k7
        clear hp6 K6 k7 hM
        go_wp2_with (refine wpList_st rfl (.tmp 13) _ rfl g13 M P rfl rfl HML.out HL.out hp7 ?_; intro w8 hp8 hk8 hs8; clear hs8)
        have K8 : Keep Nob w w8 := K7.trans hk8 (fun b hb e => by have h3 : b = g13 := e; omega)
        go_round
        case rel => exact ⟨k + 1, M, by omega, by go_num, HML.out, .inr HMO.out, hp8, K8⟩
        case measure => simp [intOf]; omega
      | true =>
        obtain ⟨A, m, rfl, vx, ox⟩ := tx
        have r5 : Reads w5.drew A 40 (bytes (enc P)) := ((show Reads _ _ 40 _ from vx.reads).nob (k5.drew))
        obtain ⟨E, hE⟩ : ∃ E, enc P = E := ⟨_, rfl⟩
        have hde := HDE.out HVV.out
        have hpb := HPB.out
        rw [hE] at r5 hde hpb
        have HDP := Lib.hid hde
        have HPX := Lib.hid hpb
        clear hE vx ox k5 hde hpb HDE HPB HEL
        go_wp2_with fail
        refine wp_region_held_drew (S := (fun w' => Blk w' g13 26 (pc P) ∧ Reads w' A 40 (bytes E))) (by kernel_rfl) ⟨hp5, r5⟩ (fun hHeld => ?_)
        generalize w5.drew = wd at *
        refine wpAnyH_take (i := 0) (v := ?_) rfl (by kernel_rfl) (by kernel_rfl) (by kernel_rfl) (fun _ _ _ h => h) (Or.inl ⟨by rfl, ?_⟩) (by assumption) ?_
        rotate_left
        · (intro w hSw; (try dsimp only at hSw); obtain ⟨sa, sb⟩ := hSw; go_simp; try with_reducible rfl)
        try simp only [Act.put, List.getElem_toArray, List.getElem_cons_zero, List.getElem_cons_succ, List.setIfInBounds_toArray, List.set_cons_zero, List.set_cons_succ]
        refine wpAnyH_take (i := 1) (v := ?_) rfl (by kernel_rfl) (by kernel_rfl) (by kernel_rfl) (fun _ _ _ h => h) (Or.inl ⟨by rfl, ?_⟩) (by assumption) ?_
        rotate_left
        · (intro w hSw; (try dsimp only at hSw); obtain ⟨sa, sb⟩ := hSw; go_simp; try with_reducible rfl)
        try simp only [Act.put, List.getElem_toArray, List.getElem_cons_zero, List.getElem_cons_succ, List.setIfInBounds_toArray, List.set_cons_zero, List.set_cons_succ]
        refine wpAnyH_take (i := 2) (v := ?_) rfl (by kernel_rfl) (by kernel_rfl) (by kernel_rfl) (fun _ _ _ h => h) (Or.inl ⟨by rfl, ?_⟩) (by assumption) ?_
        rotate_left
        · (intro w hSw; (try dsimp only at hSw); obtain ⟨sa, sb⟩ := hSw; go_simp; try with_reducible rfl)
        try simp only [Act.put, List.getElem_toArray, List.getElem_cons_zero, List.getElem_cons_succ, List.setIfInBounds_toArray, List.set_cons_zero, List.set_cons_succ]
        refine wpAnyH_take (i := 3) (v := ?_) rfl (by kernel_rfl) (by kernel_rfl) (by kernel_rfl) (fun _ _ _ h => h) (Or.inl ⟨by rfl, ?_⟩) (by assumption) ?_
        rotate_left
        · (intro w hSw; (try dsimp only at hSw); obtain ⟨sa, sb⟩ := hSw; go_simp; try with_reducible rfl)
        try simp only [Act.put, List.getElem_toArray, List.getElem_cons_zero, List.getElem_cons_succ, List.setIfInBounds_toArray, List.set_cons_zero, List.set_cons_succ]
        refine wpAnyH_take (i := 4) (v := ?_) rfl (by kernel_rfl) (by kernel_rfl) (by kernel_rfl) (fun _ _ _ h => h) (Or.inl ⟨by rfl, ?_⟩) (by assumption) ?_
        rotate_left
        · (intro w hSw; (try dsimp only at hSw); obtain ⟨sa, sb⟩ := hSw; refine exec_load (x := .tmp 13) ?_ ?_ HL.out sa <;> rfl)
        try simp only [Act.put, List.getElem_toArray, List.getElem_cons_zero, List.getElem_cons_succ, List.setIfInBounds_toArray, List.set_cons_zero, List.set_cons_succ]
        refine wpAnyH_take (i := 6) (v := ?_) rfl (by kernel_rfl) (by kernel_rfl) (by kernel_rfl) (fun _ _ _ h => h) (Or.inl ⟨by rfl, ?_⟩) (by assumption) ?_
        rotate_left
        · (intro w hSw; (try dsimp only at hSw); obtain ⟨sa, sb⟩ := hSw; go_simp; try with_reducible rfl)
        try simp only [Act.put, List.getElem_toArray, List.getElem_cons_zero, List.getElem_cons_succ, List.setIfInBounds_toArray, List.set_cons_zero, List.set_cons_succ]
        refine wpAnyH_ready (rs := [5]) (by kernel_rfl) (by simp) ?_
        refine AllReadyH.cons rfl (fun K hK => ?_) AllReadyH.nil
        go_simp
        with_reducible_and_instances apply Calls.mono (HO.out _); rintro e w6 ⟨rfl, k6⟩
        have hp6 := hp5.nob k6
        have K6 := K5.nobt k6
        have r6 := r5.nob k6
        refine hK.out _ _ ?_ (fun hHeld => ?_)
        · exact ⟨hp6, r6⟩
        clear hK K
        try simp only [Act.put, List.getElem_toArray, List.getElem_cons_zero, List.getElem_cons_succ, List.setIfInBounds_toArray, List.set_cons_zero, List.set_cons_succ]
        refine wpAnyH_take (i := 7) (v := ?_) rfl (by kernel_rfl) (by kernel_rfl) (by kernel_rfl) (fun _ _ _ h => h) (Or.inl ⟨by rfl, ?_⟩) (by assumption) ?_
        rotate_left
        · (intro w hSw; (try dsimp only at hSw); obtain ⟨sa, sb⟩ := hSw; go_simp; try with_reducible rfl)
        try simp only [Act.put, List.getElem_toArray, List.getElem_cons_zero, List.getElem_cons_succ, List.setIfInBounds_toArray, List.set_cons_zero, List.set_cons_succ]
        refine wpAnyH_take (i := 8) (v := ?_) rfl (by kernel_rfl) (by kernel_rfl) (by kernel_rfl) (fun _ _ _ h => h) (Or.inl ⟨by rfl, ?_⟩) (by assumption) ?_
        rotate_left
        · (intro w hSw; (try dsimp only at hSw); obtain ⟨sa, sb⟩ := hSw; go_simp; try with_reducible rfl)
        try simp only [Act.put, List.getElem_toArray, List.getElem_cons_zero, List.getElem_cons_succ, List.setIfInBounds_toArray, List.set_cons_zero, List.set_cons_succ]
        refine wpAnyH_take (i := 9) (v := ?_) rfl (by kernel_rfl) (by kernel_rfl) (by kernel_rfl) (fun _ _ _ h => h) (Or.inl ⟨by rfl, ?_⟩) (by assumption) ?_
        rotate_left
        · (intro w hSw; (try dsimp only at hSw); obtain ⟨sa, sb⟩ := hSw; go_simp; try with_reducible rfl)
        try simp only [Act.put, List.getElem_toArray, List.getElem_cons_zero, List.getElem_cons_succ, List.setIfInBounds_toArray, List.set_cons_zero, List.set_cons_succ]
        refine wpAnyH_take (i := 10) (v := ?_) rfl (by kernel_rfl) (by kernel_rfl) (by kernel_rfl) (fun _ _ _ h => h) (Or.inl ⟨by rfl, ?_⟩) (by assumption) ?_
        rotate_left
        · (intro w hSw; (try dsimp only at hSw); obtain ⟨sa, sb⟩ := hSw; go_simp; try with_reducible rfl)
        try simp only [Act.put, List.getElem_toArray, List.getElem_cons_zero, List.getElem_cons_succ, List.setIfInBounds_toArray, List.set_cons_zero, List.set_cons_succ]
        refine wpAnyH_take (i := 11) (v := ?_) rfl (by kernel_rfl) (by kernel_rfl) (by kernel_rfl) (fun _ _ _ h => h) (Or.inl ⟨by rfl, ?_⟩) (by assumption) ?_
        rotate_left
        · (intro w hSw; (try dsimp only at hSw); obtain ⟨sa, sb⟩ := hSw; go_simp; try with_reducible rfl)
        try simp only [Act.put, List.getElem_toArray, List.getElem_cons_zero, List.getElem_cons_succ, List.setIfInBounds_toArray, List.set_cons_zero, List.set_cons_succ]
        refine wpAnyH_take (i := 12) (v := ?_) rfl (by kernel_rfl) (by kernel_rfl) (by kernel_rfl) (fun _ _ _ h => h) (Or.inl ⟨by rfl, ?_⟩) (by assumption) ?_
        rotate_left
        · (intro w hSw; (try dsimp only at hSw); obtain ⟨sa, sb⟩ := hSw; go_simp; try with_reducible rfl)
        try simp only [Act.put, List.getElem_toArray, List.getElem_cons_zero, List.getElem_cons_succ, List.setIfInBounds_toArray, List.set_cons_zero, List.set_cons_succ]
        refine wpAnyH_take (i := 13) (v := undef) rfl (by kernel_rfl) (by kernel_rfl) (by kernel_rfl) (fun _ _ _ h => h) (Or.inr ⟨by rfl, rfl⟩) (by assumption) ?_
        try simp only [Act.put, List.getElem_toArray, List.getElem_cons_zero, List.getElem_cons_succ, List.setIfInBounds_toArray, List.set_cons_zero, List.set_cons_succ]
        refine wpAnyH_take (i := 14) (v := undef) rfl (by kernel_rfl) (by kernel_rfl) (by kernel_rfl) (fun _ _ _ h => h) (Or.inr ⟨by rfl, rfl⟩) (by assumption) ?_
        try simp only [Act.put, List.getElem_toArray, List.getElem_cons_zero, List.getElem_cons_succ, List.setIfInBounds_toArray, List.set_cons_zero, List.set_cons_succ]
        refine wpAnyH_take (i := 15) (v := undef) rfl (by kernel_rfl) (by kernel_rfl) (by kernel_rfl) (fun _ _ _ h => h) (Or.inr ⟨by rfl, rfl⟩) (by assumption) ?_
        try simp only [Act.put, List.getElem_toArray, List.getElem_cons_zero, List.getElem_cons_succ, List.setIfInBounds_toArray, List.set_cons_zero, List.set_cons_succ]
        refine wpAnyH_take (i := 16) (v := ?_) rfl (by kernel_rfl) (by kernel_rfl) (by kernel_rfl) (fun _ _ _ h => h) (Or.inl ⟨by rfl, ?_⟩) (by assumption) ?_
        rotate_left
        · (intro w hSw; (try dsimp only at hSw); obtain ⟨sa, sb⟩ := hSw; go_simp; try with_reducible rfl)
        try simp only [Act.put, List.getElem_toArray, List.getElem_cons_zero, List.getElem_cons_succ, List.setIfInBounds_toArray, List.set_cons_zero, List.set_cons_succ]
        refine wpAnyH_take (i := 17) (v := ?_) rfl (by kernel_rfl) (by kernel_rfl) (by kernel_rfl) (fun _ _ _ h => h) (Or.inl ⟨by rfl, ?_⟩) (by assumption) ?_
        rotate_left
        · (intro w hSw; (try dsimp only at hSw); obtain ⟨sa, sb⟩ := hSw; go_simp; try with_reducible rfl)
        try simp only [Act.put, List.getElem_toArray, List.getElem_cons_zero, List.getElem_cons_succ, List.setIfInBounds_toArray, List.set_cons_zero, List.set_cons_succ]
        refine wpAnyH_take (i := 18) (v := ?_) rfl (by kernel_rfl) (by kernel_rfl) (by kernel_rfl) (fun _ _ _ h => h) (Or.inl ⟨by rfl, ?_⟩) (by assumption) ?_
        rotate_left
        · (intro w hSw; (try dsimp only at hSw); obtain ⟨sa, sb⟩ := hSw; go_simp; try with_reducible rfl)
        try simp only [Act.put, List.getElem_toArray, List.getElem_cons_zero, List.getElem_cons_succ, List.setIfInBounds_toArray, List.set_cons_zero, List.set_cons_succ]
        refine wpAnyH_take (i := 19) (v := ?_) rfl (by kernel_rfl) (by kernel_rfl) (by kernel_rfl) (fun _ _ _ h => h) (Or.inl ⟨by rfl, ?_⟩) (by assumption) ?_
        rotate_left
        · (intro w hSw; (try dsimp only at hSw); obtain ⟨sa, sb⟩ := hSw; go_simp; try with_reducible rfl)
        try simp only [Act.put, List.getElem_toArray, List.getElem_cons_zero, List.getElem_cons_succ, List.setIfInBounds_toArray, List.set_cons_zero, List.set_cons_succ]
        refine wpAnyH_take (i := 20) (v := ?_) rfl (by kernel_rfl) (by kernel_rfl) (by kernel_rfl) (fun _ _ _ h => h) (Or.inl ⟨by rfl, ?_⟩) (by assumption) ?_
        rotate_left
        · (intro w hSw; (try dsimp only at hSw); obtain ⟨sa, sb⟩ := hSw; go_simp; try with_reducible rfl)
        try simp only [Act.put, List.getElem_toArray, List.getElem_cons_zero, List.getElem_cons_succ, List.setIfInBounds_toArray, List.set_cons_zero, List.set_cons_succ]
        refine wpAnyH_take (i := 21) (v := ?_) rfl (by kernel_rfl) (by kernel_rfl) (by kernel_rfl) (fun _ _ _ h => h) (Or.inl ⟨by rfl, ?_⟩) (by assumption) ?_
        rotate_left
        · (intro w hSw; (try dsimp only at hSw); obtain ⟨sa, sb⟩ := hSw; go_simp; try with_reducible rfl)
        try simp only [Act.put, List.getElem_toArray, List.getElem_cons_zero, List.getElem_cons_succ, List.setIfInBounds_toArray, List.set_cons_zero, List.set_cons_succ]
        refine wpAnyH_take (i := 22) (v := ?_) rfl (by kernel_rfl) (by kernel_rfl) (by kernel_rfl) (fun _ _ _ h => h) (Or.inl ⟨by rfl, ?_⟩) (by assumption) ?_
        rotate_left
        · (intro w hSw; (try dsimp only at hSw); obtain ⟨sa, sb⟩ := hSw; refine exec_str (x := .tmp 69) (c := m) ?_ ?_ sb <;> rfl)
        try simp only [Act.put, List.getElem_toArray, List.getElem_cons_zero, List.getElem_cons_succ, List.setIfInBounds_toArray, List.set_cons_zero, List.set_cons_succ]
        refine wpAnyH_take (i := 23) (v := ?_) rfl (by kernel_rfl) (by kernel_rfl) (by kernel_rfl) (fun _ _ _ h => h) (Or.inl ⟨by rfl, ?_⟩) (by assumption) ?_
        rotate_left
        · (intro w hSw; (try dsimp only at hSw); obtain ⟨sa, sb⟩ := hSw; refine exec_load (x := .tmp 13) ?_ ?_ HL.out sa <;> rfl)
        try simp only [Act.put, List.getElem_toArray, List.getElem_cons_zero, List.getElem_cons_succ, List.setIfInBounds_toArray, List.set_cons_zero, List.set_cons_succ]
        refine wpAnyH_ready (rs := [24]) (by kernel_rfl) (by simp) ?_
        refine AllReadyH.cons rfl (fun K hK => ?_) AllReadyH.nil
        go_simp
        with_reducible_and_instances apply Calls.mono (HPX.out _); rintro e w7 ⟨rfl, k7⟩
        have hp7 := hp6.nob k7
        have K7 := K6.nobt k7
        have r7 := r6.nob k7
        refine hK.out _ _ ?_ (fun hHeld => ?_)
        · exact ⟨hp7, r7⟩
        clear hK K
        try simp only [Act.put, List.getElem_toArray, List.getElem_cons_zero, List.getElem_cons_succ, List.setIfInBounds_toArray, List.set_cons_zero, List.set_cons_succ]
        refine wpAnyH_take (i := 25) (v := ?_) rfl (by kernel_rfl) (by kernel_rfl) (by kernel_rfl) (fun _ _ _ h => h) (Or.inl ⟨by rfl, ?_⟩) (by assumption) ?_
        rotate_left
        · (intro w hSw; (try dsimp only at hSw); obtain ⟨sa, sb⟩ := hSw; go_simp; try with_reducible rfl)
        try simp only [Act.put, List.getElem_toArray, List.getElem_cons_zero, List.getElem_cons_succ, List.setIfInBounds_toArray, List.set_cons_zero, List.set_cons_succ]
        refine wpAnyH_take (i := 26) (v := ?_) rfl (by kernel_rfl) (by kernel_rfl) (by kernel_rfl) (fun _ _ _ h => h) (Or.inl ⟨by rfl, ?_⟩) (by assumption) ?_
        rotate_left
        · (intro w hSw; (try dsimp only at hSw); obtain ⟨sa, sb⟩ := hSw; go_simp; try with_reducible rfl)
        try simp only [Act.put, List.getElem_toArray, List.getElem_cons_zero, List.getElem_cons_succ, List.setIfInBounds_toArray, List.set_cons_zero, List.set_cons_succ]
        refine wpAnyH_take (i := 27) (v := ?_) rfl (by kernel_rfl) (by kernel_rfl) (by kernel_rfl) (fun _ _ _ h => h) (Or.inl ⟨by rfl, ?_⟩) (by assumption) ?_
        rotate_left
        · (intro w hSw; (try dsimp only at hSw); obtain ⟨sa, sb⟩ := hSw; go_simp; try with_reducible rfl)
        try simp only [Act.put, List.getElem_toArray, List.getElem_cons_zero, List.getElem_cons_succ, List.setIfInBounds_toArray, List.set_cons_zero, List.set_cons_succ]
        refine wpAnyH_done (by kernel_rfl) ?_ _
        clear hp5 K5 k6 hp6 K6 r5 r6 k7 HPX
        go_wp2_with fail
        refine (decode_is A 40 m E _ r7 (by decide) P 1 HDP.out).mono ?_; rintro e w8 ⟨rfl, k8⟩
        have hp8 := hp7.nob k8
        have K8 := K7.nobt k8
        clear hp7 K7 k8 r7
        unfold pv
        have hne := HNE.out
        have hg8 : g13 ≠ w8.heap.size := by have := hp8.lt; omega
        have hge8 : w.heap.size ≤ w8.heap.size := K8.size
        go_wp2_with (first | (refine wpList_al rfl rfl ?_; intro v9 hn9 ka9 sa9; clear sa9) | (refine wpList_st rfl (.tmp 18) _ rfl w8.heap.size P noP rfl rfl HL.out rfl hn9 ?_; intro w9 hq9 hk9 hs9; clear hs9; have hp9 := (hp8.nob ka9).keep hk9 hg8) | (refine wpList_ldw (by rfl) (.tmp 18) rfl w8.heap.size P rfl HL.out hq9 ?_) | (refine wpList_ldw (by rfl) (.tmp 13) rfl g13 P rfl HL.out hp9 ?_))
        have K9 : Keep Nob w w9 := (K8.nobt ka9).trans hk9 (fun b hb e => by have h3 : b = w8.heap.size := e; omega)
        have hM := HM.out w9 (HR2.out.nob K9)
        clear hne
        refine hM.mono ?_; rintro e w10 ⟨rfl, k10⟩
        have hp10 := hp9.nob k10
        have K10 := K9.nobt k10
        go_wp2_with (refine wpList_st rfl (.tmp 13) _ rfl g13 M P rfl rfl HML.out HL.out hp10 ?_; intro w11 hp11 hk11 hs11; clear hs11)
        have K11 : Keep Nob w w11 := K10.trans hk11 (fun b hb e => by have h3 : b = g13 := e; omega)
        go_round
        case rel => exact ⟨k + 1, M, by omega, by go_num, HML.out, .inr HMO.out, hp11, K11⟩
        case measure => simp [intOf]; omega
    · obtain rfl : k = 2 := by omega
      have hel := HEL.out
      have hpb := HPB.out
      obtain ⟨E, hE⟩ : ∃ E, enc P = E := ⟨_, rfl⟩
      rw [hE] at hel hpb
      have HPB2 := Lib.hid hpb
      have HEL2 := Lib.hid hel
      clear hE hel hpb HPB HEL HDE HE HO HPO HNE HVV HKO
      go_wp2_with (refine wpList_ld rfl (.tmp 13) rfl g13 P rfl HL.out hp3 ?_)
      refine (HPB2.out _).mono ?_; rintro e w4 ⟨rfl, k4⟩
      have K4 := K3.nobt k4
      clear hp3 K3 k4 HPB2
      have hand := HAND.out
      have hqt := HQT.out
      have hwq := HWQ.out
      go_wp2_with (refine wpList_sb rfl _ rfl E rfl ?_; intro w5 c5 hc5 hf5 hk5 hcc5; rw [HEL2.out]; rw [HEL2.out] at hcc5; have fr := hf5 q (by rw [HEL2.out]; exact hq40); have cc := hc5 q (by rw [HEL2.out]; exact hq40))
      have hge : w.heap.size ≤ w4.heap.size := K4.size
      have r6 := reads_set (i := q) HEL2.out (fun j hj => hc5 j (by rw [HEL2.out]; exact hj)) hq40 (UInt8.ofNat tb.toNat) tb (by rw [UInt8.toNat_ofNat']; omega)
      have K6 : Keep Nob w (w5.setCell ⟨w4.heap.size, q, none⟩ (.int .u8 tb)) := (K4.nobt hk5).setCell ⟨w4.heap.size, q, none⟩ _ (fun h => absurd h (by show ¬ w4.heap.size < _; omega))
      have hE4 : (E.set q (UInt8.ofNat tb.toNat)).length = 40 := by rw [List.length_set, HEL2.out]
      clear K4 hk5 hc5 hf5 HEL2
      generalize E.set q (UInt8.ofNat tb.toNat) = E4 at *
      generalize w5.setCell ⟨w4.heap.size, q, none⟩ (.int .u8 tb) = w6 at *
      clear fr cc hand hqt hwq
      generalize w4.heap.size = gc at *
      have HE4 := Lib.hid hE4
      clear hE4
      go_wp2_with fail
      go_loopw [21] (fun s21 wx => ∃ k : Nat, k ≤ 2 ∧ s21 = .int .i64 k ∧ Reads wx (some ⟨gc, 0, none⟩) 40 (bytes E4) ∧ Keep Nob w wx) (fun s21 _ => 2 - (intOf s21).toNat)
      case atStart => exact ⟨0, Nat.zero_le _, rfl, r6, K6⟩
      case round =>
        obtain ⟨k, hk, rfl, r7, K7⟩ := hrel
        clear r6 K6
        have ka : Keep Nob wr (wr.alloc (.cells #[.slice A3 n3 c3, .slice (some ⟨gc, 0, none⟩) 40 c5] 22)) := (Keep.refl Nob wr).alloc _
        rcases (show k = 0 ∨ k = 1 ∨ k = 2 from by omega) with rfl | rfl | rfl
        · have rX : Reads (wr.alloc (.cells #[.slice A3 n3 c3, .slice (some ⟨gc, 0, none⟩) 40 c5] 22)) A3 n3 (bytes x3) := (HR3.out.nob K7).nob ka
          have rc := r7.nob ka
          have KX := K7.nobt ka
          obtain ⟨R, d, hdc⟩ : ∃ R d, dcd x3 = (R, d) := ⟨_, _, rfl⟩
          have hRl : R.d.length = 32 := by have := dcd_len x3; rw [hdc] at this; exact this
          have HRl := Lib.hid hRl
          have hpf := fun w => pipeof_is x3 (by rw [HL3.out]; omega) w R d hdc
          have hne := fun W => ne_pv R R hRl hRl true (same_refl R) W
          have hdd := fun w hr => decode_is A3 n3 c3 x3 w hr (by omega) R d hdc
          unfold pv at hpf hne hdd
          have HPF := Lib.hid hpf
          have HNE := Lib.hid hne
          have HDD := Lib.hid hdd
          clear hRl hdc hpf hne hdd
          go_wp2_with fail
          refine (HDD.out _ rX).mono ?_; rintro e w8 ⟨rfl, k8⟩
          have rX8 := rX.nob k8
          have rc8 := rc.nob k8
          have K8 := KX.nobt k8
          clear rX rc KX k8 HDD ka r7 K7
          go_upto_region 23 with (first | (refine wpList_al rfl rfl ?_; intro v9 hn9 ka9 sa9; clear sa9) | (refine wpList_st rfl (.tmp 23) _ rfl w8.heap.size R noP rfl rfl HRl.out rfl hn9 ?_; intro w9 hp9 kb9 sb9; clear sb9))
          have kk : Keep (· = w8.heap.size) w8 w9 := (ka9.mono (M' := (· = w8.heap.size)) (fun _ _ f => f.elim)).trans kb9 (fun _ _ h => h)
          have rX9 := reads_fresh rX8 kk
          have rc9 := reads_fresh rc8 kk
          have K9 : Keep Nob w w9 := K8.trans kk (fun b hb e => by have h3 : b = w8.heap.size := e; have := K8.size; omega)
          have cv := fun c => run_str (P := Try.prog) w9 22 9 5 A3 n3 c x3 Try.underlying22 Try.underlying5 Try.underlying9 rX9
          clear kk ka9 kb9 hn9 rX8 rc8 K8
          generalize w8.heap.size = g23 at *
          go_wp2_with fail
          refine (HPF.out _).mono ?_; rintro e wA ⟨rfl, kA⟩
          have hpA := hp9.nob kA
          have rcA := rc9.nob kA
          have KA := K9.nobt kA
          have hgA : g23 ≠ wA.heap.size := Nat.ne_of_lt hpA.lt
          clear cv hp9 rX9 rc9 K9 kA HPF
          have hne := HNE.out
          go_wp2_with (first | (refine wpList_al rfl rfl ?_; intro vB hnB kaB saB; clear saB) | (refine wpList_st rfl (.tmp 25) _ rfl wA.heap.size R noP rfl rfl HRl.out rfl hnB ?_; intro wB hqB kbB sbB; clear sbB; have hpB := (hpA.nob kaB).keep kbB hgA) | (refine wpList_ld rfl (.tmp 23) rfl g23 R rfl HRl.out hpB ?_) | (refine wpList_ld rfl (.tmp 25) rfl wA.heap.size R rfl HRl.out hqB ?_))
          have kk : Keep (· = wA.heap.size) wA wB := (kaB.mono (M' := (· = wA.heap.size)) (fun _ _ f => f.elim)).trans kbB (fun _ _ h => h)
          have rcB := reads_fresh rcA kk
          have KB : Keep Nob w wB := KA.trans kk (fun b hb e => by have h3 : b = wA.heap.size := e; have := KA.size; omega)
          go_round
          case rel =>
            exact ⟨1, by omega, by go_num, rcB, KB⟩
          case measure => simp [intOf]
        · have rX : Reads (wr.alloc (.cells #[.slice A3 n3 c3, .slice (some ⟨gc, 0, none⟩) 40 c5] 22)) (some ⟨gc, 0, none⟩) 40 (bytes E4) := r7.nob ka
          have rc := r7.nob ka
          have KX := K7.nobt ka
          obtain ⟨R, d, hdc⟩ : ∃ R d, dcd E4 = (R, d) := ⟨_, _, rfl⟩
          have hRl : R.d.length = 32 := by have := dcd_len E4; rw [hdc] at this; exact this
          have HRl := Lib.hid hRl
          have hpf := fun w => pipeof_is E4 (by rw [HE4.out]; decide) w R d hdc
          have hne := fun W => ne_pv R R hRl hRl true (same_refl R) W
          have hdd := fun w hr => decode_is (some ⟨gc, 0, none⟩) 40 c5 E4 w hr (by decide) R d hdc
          unfold pv at hpf hne hdd
          have HPF := Lib.hid hpf
          have HNE := Lib.hid hne
          have HDD := Lib.hid hdd
          clear hRl hdc hpf hne hdd
          go_wp2_with fail
          refine (HDD.out _ rX).mono ?_; rintro e w8 ⟨rfl, k8⟩
          have rX8 := rX.nob k8
          have rc8 := rc.nob k8
          have K8 := KX.nobt k8
          clear rX rc KX k8 HDD ka r7 K7
          go_upto_region 23 with (first | (refine wpList_al rfl rfl ?_; intro v9 hn9 ka9 sa9; clear sa9) | (refine wpList_st rfl (.tmp 23) _ rfl w8.heap.size R noP rfl rfl HRl.out rfl hn9 ?_; intro w9 hp9 kb9 sb9; clear sb9))
          have kk : Keep (· = w8.heap.size) w8 w9 := (ka9.mono (M' := (· = w8.heap.size)) (fun _ _ f => f.elim)).trans kb9 (fun _ _ h => h)
          have rX9 := reads_fresh rX8 kk
          have rc9 := reads_fresh rc8 kk
          have K9 : Keep Nob w w9 := K8.trans kk (fun b hb e => by have h3 : b = w8.heap.size := e; have := K8.size; omega)
          have cv := fun c => run_str (P := Try.prog) w9 22 9 5 (some ⟨gc, 0, none⟩) 40 c E4 Try.underlying22 Try.underlying5 Try.underlying9 rX9
          clear kk ka9 kb9 hn9 rX8 rc8 K8
          generalize w8.heap.size = g23 at *
          go_wp2_with fail
          refine (HPF.out _).mono ?_; rintro e wA ⟨rfl, kA⟩
          have hpA := hp9.nob kA
          have rcA := rc9.nob kA
          have KA := K9.nobt kA
          have hgA : g23 ≠ wA.heap.size := Nat.ne_of_lt hpA.lt
          clear cv hp9 rX9 rc9 K9 kA HPF
          have hne := HNE.out
          go_wp2_with (first | (refine wpList_al rfl rfl ?_; intro vB hnB kaB saB; clear saB) | (refine wpList_st rfl (.tmp 25) _ rfl wA.heap.size R noP rfl rfl HRl.out rfl hnB ?_; intro wB hqB kbB sbB; clear sbB; have hpB := (hpA.nob kaB).keep kbB hgA) | (refine wpList_ld rfl (.tmp 23) rfl g23 R rfl HRl.out hpB ?_) | (refine wpList_ld rfl (.tmp 25) rfl wA.heap.size R rfl HRl.out hqB ?_))
          have kk : Keep (· = wA.heap.size) wA wB := (kaB.mono (M' := (· = wA.heap.size)) (fun _ _ f => f.elim)).trans kbB (fun _ _ h => h)
          have rcB := reads_fresh rcA kk
          have KB : Keep Nob w wB := KA.trans kk (fun b hb e => by have h3 : b = wA.heap.size := e; have := KA.size; omega)
          go_round
          case rel =>
            exact ⟨2, by omega, by go_num, rcB, KB⟩
          case measure => simp [intOf]
        · clear ka
          go_wp2_with fail
          refine (awake_is _).mono ?_; rintro e w8 ⟨rfl, k8⟩
          have K8 := K7.nobt k8
          go_wp2
          go_ret
          exact ⟨rfl, K8.below (Nat.le_refl _) (fun _ _ f => f)⟩
theorem RingCodes_walk (w : World) (s0 : Array Value) (x0 : Ty.den (.pair (.int .i64) (.pair (.int .i64) (.pair (.int .i64) (.pair (.int .i64) (.pair (.pair .byte (.pair .byte (.pair .byte (.pair .byte (.pair .byte (.pair .byte (.pair .byte (.pair .byte (.pair .byte (.pair .byte (.pair .byte (.pair .byte (.pair .byte (.pair .byte (.pair .byte (.pair .byte (.pair .byte (.pair .byte (.pair .byte (.pair .byte (.pair .byte (.pair .byte (.pair .byte (.pair .byte (.pair .byte (.pair .byte (.pair .byte (.pair .byte (.pair .byte (.pair .byte (.pair .byte (.pair .byte .unit)))))))))))))))))))))))))))))))) .unit)))))) (w0 : Holds w (.pair (.int .i64) (.pair (.int .i64) (.pair (.int .i64) (.pair (.int .i64) (.pair (.pair .byte (.pair .byte (.pair .byte (.pair .byte (.pair .byte (.pair .byte (.pair .byte (.pair .byte (.pair .byte (.pair .byte (.pair .byte (.pair .byte (.pair .byte (.pair .byte (.pair .byte (.pair .byte (.pair .byte (.pair .byte (.pair .byte (.pair .byte (.pair .byte (.pair .byte (.pair .byte (.pair .byte (.pair .byte (.pair .byte (.pair .byte (.pair .byte (.pair .byte (.pair .byte (.pair .byte (.pair .byte .unit)))))))))))))))))))))))))))))))) .unit))))) x0 s0.toList) (a1 : Int) (w1 : (Lit.int .i64 a1).wf = true) (A2 : Option Addr) (n2 c2 : Nat) (x2 : Ty.den (.sl 1 .byte)) (w2 : Holds w (.sl 1 .byte) x2 [.slice A2 n2 c2]) (A3 : Option Addr) (n3 c3 : Nat) (x3 : Ty.den (.sl 1 .byte)) (w3 : Holds w (.sl 1 .byte) x3 [.slice A3 n3 c3]) (a4 : Int) (w4 : (Lit.int .i64 a4).wf = true) (a5 : Int) (w5 : (Lit.int .u8 a5).wf = true) :
    Calls Try.prog 4 #[.agg s0, .int .i64 a1, .slice A2 n2 c2, .slice A3 n3 c3, .int .i64 a4, .int .u8 a5] w fun e w' => e = .returned (.bool true) ∧ Below w.heap.size w w' := by
  obtain ⟨P, hl, rfl⟩ := pipe_read w0
  have hb : 0 ≤ a5 ∧ a5 ≤ 255 := by
    simp [Lit.wf, IntKind.min, IntKind.max, IntKind.signed, IntKind.bits] at w5
    omega
  exact RingCodes_in w P hl a1 A2 n2 c2 x2 (holds_bytes w2).2.1 A3 n3 c3 x3 (holds_bytes w3).2.1 a4 a5 hb.1 hb.2
end Go.Proofs.Ytojciodjffahnaa
