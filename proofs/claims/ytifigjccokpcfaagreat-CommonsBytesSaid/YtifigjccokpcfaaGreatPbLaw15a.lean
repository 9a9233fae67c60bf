/- The walk of CommonsBytes. Written by c15/gen15a.py. -/
import Derived.BigRegion
import Derived.Test.YtifigjccokpcfaaGreatPk0
import Derived.Test.YtifigjccokpcfaaGreatPbx0
import Derived.Test.YtifigjccokpcfaaGreatPk3
import Derived.Test.YtifigjccokpcfaaGreatPk5
import Derived.Test.YtifigjccokpcfaaGreatPk18
import Derived.Test.YtifigjccokpcfaaGreatPk19
import Derived.Test.YtifigjccokpcfaaGreatPk1
import Derived.Test.YtifigjccokpcfaaGreatPk8
import Derived.Test.YtifigjccokpcfaaGreatPk12
import Derived.Test.YtifigjccokpcfaaGreatPk21
import Derived.Test.YtifigjccokpcfaaGreatPk22
import Derived.Test.YtifigjccokpcfaaGreatPk13
import Derived.Test.YtifigjccokpcfaaGreatPbx2
import Derived.Test.YtifigjccokpcfaaGreatPk15
import Derived.Test.YtifigjccokpcfaaGreatPk14
import Derived.Test.YtifigjccokpcfaaGreatPk16
import Derived.Test.YtifigjccokpcfaaGreatPk17
import Derived.Test.YtifigjccokpcfaaGreatPk24
import Derived.Test.YtifigjccokpcfaaGreatPk23
import Derived.Test.YtifigjccokpcfaaGreatPk6
import Derived.Test.YtifigjccokpcfaaGreatPk9
import Derived.Test.YtifigjccokpcfaaGreatPk20
import Derived.Test.YtifigjccokpcfaaGreatPk2
import Derived.Test.YtifigjccokpcfaaGreatPk25
import Derived.Test.YtifigjccokpcfaaGreatPk26
import Derived.Test.YtifigjccokpcfaaGreatPk10
import Derived.Test.YtifigjccokpcfaaGreatPk11
import Derived.Test.YtifigjccokpcfaaGreatPbx3
import Derived.Test.YtifigjccokpcfaaGreatPk27
import Derived.Test.YtifigjccokpcfaaGreatPk7
import Derived.Test.YtifigjccokpcfaaGreatPk28
import Derived.Test.YtifigjccokpcfaaGreatPbx1
namespace Go.Proofs.YtifigjccokpcfaaGreat.Pn
open Go.RowKit Co
set_option linter.unusedVariables false
set_option linter.unusedSimpArgs false
theorem view_get {xs : List UInt8} {k : Nat} (hk : k < 492) : ((xs.drop (0 + 0)).take 492).getD k 0 = xs.getD k 0 := by
  rw [List.getD_eq_getElem?_getD, List.getD_eq_getElem?_getD, List.getElem?_take, if_pos hk, List.getElem?_drop]
  simp only [Nat.zero_add]
set_option maxRecDepth 100000 in
set_option maxHeartbeats 32000000 in
theorem bytes_in (w : World) (a0 a1 : Int) (A2 : Option Addr) (n2 c2 : Nat) (x2 : List Int) (hr : Reads w A2 n2 (ints x2)) (a3 : Int) :
    Calls Tryz.prog 3 #[.int .i64 a0, .int .i64 a1, .slice A2 n2 c2, .int .i64 a3] w fun e w' => e = .returned (.bool true) ∧ Below w.heap.size w w' := by
  obtain ⟨m, hm⟩ : ∃ m, bits .and .i64 a0 3 = m := ⟨_, rfl⟩
  have hm2 : m = 0 ∨ m = 1 ∨ m = 2 ∨ m = 3 := by have := i64_mask a0 2 (by decide); rw [show (2 : Int) ^ 2 - 1 = 3 from rfl, hm] at this; omega
  have HRL := Lib.hid hr
  clear hr
  have Hx := Lib.hid (show ((xs0.drop (0 + 0)).take 492).length = 492 by rw [List.length_take, List.length_drop, xs0_len]; decide)
  rcases hm2 with h | h | h | h
  · rw [h] at hm
    clear h
    obtain ⟨i, hi⟩ : ∃ i, bits .and .i64 a1 7 = i := ⟨_, rfl⟩
    have hi2 : 0 ≤ i ∧ i ≤ 7 := by have := i64_mask a1 3 (by decide); rw [show (2 : Int) ^ 3 - 1 = 7 from rfl, hi] at this; omega
    obtain ⟨hi0, hi7⟩ := hi2
    obtain ⟨lo, hlo⟩ : ∃ lo, 24 * i = lo := ⟨_, rfl⟩
    have hl0 : 0 ≤ lo := by omega
    have hl9 : lo ≤ 168 := by omega
    go_enter Tryz.func3, Tryz.ntmps3
    go_wp2_with fail
    refine (plan_is w).mono ?_; rintro e w1 ⟨Ab, AB, rfl, hr, k1⟩
    go_wp2_with fail
    refine (open_is Ab AB hr).mono ?_; rintro e w2 ⟨N0, K, C, b, k2, pq, R, Ag, ng, cg, g, B, c, rfl, hO⟩
    have HF := Lib.hid (show K.xs = xs0 ∧ C.brs.length = 2 ∧ C.bad = [] from ⟨hO.xs, by rw [hO.brs]; rfl, hO.bad⟩)
    have O2 := Lib.hid hO.op
    have K1 := Lib.hid k1
    have hv := Co.view_new O2.out.kc ((xs0.drop (0 + 0)).take 492) (by rw [HF.out.1]; rfl)
    rw [Hx.out] at hv
    have HV := Lib.hid hv
    clear hO hr k1 hv
    go_wp2_with fail
    refine HV.out.mono ?_; rintro e w3 ⟨A1, c1, rfl, hr1, hf1, t⟩
    have O3 := Lib.hid (O2.out.still t)
    have HA := Lib.hid (show 0 < 492 ∧ ∀ ad, A1 = some ad → ¬ Mine K ad.block from ⟨by decide, fun ad e m => by have h1 := hf1 (by decide) ad e; have h2 := O2.out.kc.k.mine_lt _ m; omega⟩)
    have HR3 := Lib.hid hr1
    clear hr1 hf1 t O2 HV
    have hlp := lproc_is A2 n2 c2 x2 w3 (HRL.out.from_ (from_join K1.out O3.out.keep))
    go_wp2_with fail
    refine hlp.mono ?_; rintro e w5 ⟨kk, hkk, rfl, k5⟩
    have O5 := Lib.hid (O3.out.nob k5)
    have HR5 := Lib.hid (HR3.out.nob k5)
    have HP := Lib.hid (show (lv x2 kk).length = 16 ∧ Cd.okd (lv x2 kk) = true ∧ ∀ x ∈ lv x2 kk, Cd.Wf x from ⟨lv_len x2 hkk, lv_ok x2 kk, Cd.wf_ok (lv_len x2 hkk) (lv_ok x2 kk)⟩)
    clear hkk k5 O3 HR3 hlp
    generalize lv x2 kk = p at *

    obtain ⟨ys, hys⟩ : ∃ ys, ys = splice xs0 (0 + 24 * i.toNat) (Cd.enc p) := ⟨_, rfl⟩
    have hel : (Cd.enc p).length = 24 := Cd.enc_len HP.out.1
    have hyl := Lib.hid (show ((ys.drop (0 + 0)).take 492).length = 492 by rw [List.length_take, List.length_drop, hys, splice_len _ _ _ (by rw [xs0_len]; omega), xs0_len]; decide)
    have HSame := Lib.hid (show ∀ k : Nat, k < 492 → ((k : Int) < lo ∨ lo + 24 ≤ (k : Int)) → (((xs0.drop (0 + 0)).take 492).getD k 0).toNat = (((ys.drop (0 + 0)).take 492).getD k 0).toNat from fun k hk h => by
      rw [view_get hk, view_get hk, hys, splice_getD _ _ _ (by rw [xs0_len]; omega), if_neg (by omega)])
    have hset := Co.setProc_is O5.out.kc i (wfi (by omega) (by omega)) p HP.out.1 HP.out.2.2 true ys (by
      unfold pset
      rw [HP.out.2.1, if_pos rfl, HF.out.1, HF.out.2.1, HF.out.2.2, pwrite_some (x := (0, 24 * i.toNat, 24)) (by simp) (by simp [wher]; omega) (base := 0) rfl, hys])
    have HS := Lib.hid hset
    clear hys hel
    go_wp2_with fail
    refine HS.out.mono ?_; rintro e w6 ⟨rfl, t⟩
    have O6 := Lib.hid (O5.out.bytes t)
    have HR6 := Lib.hid (HR5.out.keep t.keep (fun ad e m => HA.out.2 ad e (.inl m)))
    clear t O5 HR5 hset
    obtain ⟨hh, hhh⟩ : ∃ hh, lo + 24 = hh := ⟨_, rfl⟩
    have HHH := Lib.hid hhh
    clear hhh
    have hv2 := Co.view_new O6.out.kc ((ys.drop (0 + 0)).take 492) rfl
    rw [hyl.out] at hv2
    have HV2 := Lib.hid hv2
    clear hv2
    go_wp2_with fail
    refine HV2.out.mono ?_; rintro e w7 ⟨A2, c2, rfl, hr2, hf2, t7⟩
    have O7 := Lib.hid (O6.out.still t7)
    have hr17 := HR6.out.keep t7.keep (fun ad e m => HA.out.2 ad e (.inl m))
    obtain ⟨g1, o1, hA1, hc1⟩ := hr17.lit (by decide)
    obtain ⟨g2, o2, hA2, hc2⟩ := hr2.lit (by decide)
    subst hA1
    subst hA2
    have HC := Lib.hid (And.intro hc1 hc2)
    clear hr2 hf2 t7 hr17 hc1 hc2 HV2 O6 HR6
    go_wp2_with fail
    go_loopw [18] (fun s18 wx => ∃ k : Nat, k ≤ 492 ∧ s18 = .int .i64 k ∧ Keep Nob w7 wx) (fun t _ => 492 - (intOf t).toNat)
    case atStart => exact ⟨0, by omega, rfl, Keep.refl _ _⟩
    case round =>
      obtain ⟨k, hk, rfl, hK⟩ := hrel
      have hwr : IntKind.i64.wrap (lo + 24) = hh := by rw [← HHH.out]; simp [IntKind.wrap, IntKind.bits, IntKind.signed]; omega
      have HK := Lib.hid hK
      clear hK
      by_cases hlt : k < 492
      · obtain ⟨y, hy⟩ : ∃ y, (((xs0.drop (0 + 0)).take 492).getD k 0).toNat = y := ⟨_, rfl⟩
        obtain ⟨z, hz⟩ : ∃ z, (((ys.drop (0 + 0)).take 492).getD k 0).toNat = z := ⟨_, rfl⟩
        have d1 : wr.cell? ⟨g1, o1 + k, none⟩ = some (.int .u8 y) := by
          have := HC.out.1 k _ (bytes_getD (by rw [Hx.out]; exact hlt))
          rw [hy] at this
          exact Keep.cell_from (HK.out.mono (fun _ _ f => f.elim)) this
        have d2 : wr.cell? ⟨g2, o2 + k, none⟩ = some (.int .u8 z) := by
          have := HC.out.2 k _ (bytes_getD (by rw [hyl.out]; exact hlt))
          rw [hz] at this
          exact Keep.cell_from (HK.out.mono (fun _ _ f => f.elim)) this
        have hk0 : (0 : Int) ≤ k := by omega
        have hk9 : (k : Int) < 492 := by omega
        by_cases h1 : (k : Int) < lo
        · have hyz := HSame.out k (by omega) (.inl h1)
          rw [hy, hz] at hyz
          subst hyz
          clear hy hz
          go_wp2_with fail
          go_quiet (fail)
          go_wp2_with fail
          go_roundw
          case rel => exact ⟨k + 1, by omega, by go_num, HK.out.drewN _⟩
          case measure => simp [intOf]; omega
        · by_cases h2 : hh ≤ (k : Int)
          · have hyz := HSame.out k (by omega) (.inr (by have := HHH.out; omega))
            rw [hy, hz] at hyz
            subst hyz
            clear hy hz
            go_wp2_with fail
            go_quiet (fail)
            go_wp2_with fail
            go_roundw
            case rel => exact ⟨k + 1, by omega, by go_num, HK.out.drewN _⟩
            case measure => simp [intOf]; omega
          · clear hy hz
            go_wp2_with fail
            have e1 : ((k : Int) < lo) = False := eq_false (by omega)
            have e2 : (hh ≤ (k : Int)) = False := eq_false (by omega)
            go_quiet (fail)
            go_wp2_with fail
            go_roundw
            case rel => exact ⟨k + 1, by omega, by go_num, HK.out.drewN _⟩
            case measure => simp [intOf]; omega
      · go_wp2_with fail
        refine (awake_is _).mono ?_; rintro e we ⟨rfl, ke⟩
        go_wp2
        go_ret
        exact ⟨rfl, (from_join2 (from_join K1.out (O7.out.keep.nob HK.out)) ke).done⟩
  · rw [h] at hm
    clear h
    obtain ⟨q, hq⟩ : ∃ q, bits .and .i64 a1 255 = q := ⟨_, rfl⟩
    have hq2 : 0 ≤ q ∧ q < 256 := by have := i64_mask a1 8 (by decide); rw [show (2 : Int) ^ 8 - 1 = 255 from rfl, hq] at this; omega
    obtain ⟨i, hi⟩ : ∃ i, q.tmod 12 = i := ⟨_, rfl⟩
    have hi2 : 0 ≤ i ∧ i ≤ 11 := by rw [Int.tmod_eq_emod_of_nonneg hq2.1] at hi; omega
    obtain ⟨hi0, hi7⟩ := hi2
    clear hq2
    obtain ⟨l8, hl8⟩ : ∃ l8, 8 * i = l8 := ⟨_, rfl⟩
    obtain ⟨lo, hlo⟩ : ∃ lo, 192 + l8 = lo := ⟨_, rfl⟩
    have hl80 : 0 ≤ l8 := by omega
    have hl89 : l8 ≤ 88 := by omega
    have hl0 : 0 ≤ lo := by omega
    have hl9 : lo ≤ 280 := by omega
    go_enter Tryz.func3, Tryz.ntmps3
    go_wp2_with fail
    refine (plan_is w).mono ?_; rintro e w1 ⟨Ab, AB, rfl, hr, k1⟩
    go_wp2_with fail
    refine (open_is Ab AB hr).mono ?_; rintro e w2 ⟨N0, K, C, b, k2, pq, R, Ag, ng, cg, g, B, c, rfl, hO⟩
    have HF := Lib.hid (show K.xs = xs0 ∧ C.brs.length = 2 ∧ C.bad = [] from ⟨hO.xs, by rw [hO.brs]; rfl, hO.bad⟩)
    have O2 := Lib.hid hO.op
    have K1 := Lib.hid k1
    have hv := Co.view_new O2.out.kc ((xs0.drop (0 + 0)).take 492) (by rw [HF.out.1]; rfl)
    rw [Hx.out] at hv
    have HV := Lib.hid hv
    clear hO hr k1 hv
    go_wp2_with fail
    refine HV.out.mono ?_; rintro e w3 ⟨A1, c1, rfl, hr1, hf1, t⟩
    have O3 := Lib.hid (O2.out.still t)
    have HA := Lib.hid (show 0 < 492 ∧ ∀ ad, A1 = some ad → ¬ Mine K ad.block from ⟨by decide, fun ad e m => by have h1 := hf1 (by decide) ad e; have h2 := O2.out.kc.k.mine_lt _ m; omega⟩)
    have HR3 := Lib.hid hr1
    clear hr1 hf1 t O2 HV
    obtain ⟨p, hp⟩ : ∃ p, Fi.made a3 = p := ⟨_, rfl⟩
    have hmade := Fi.made_is a3 w3 p hp
    have HP := Lib.hid (show p.length = 4 ∧ Fi.okd p = true from ⟨by rw [← hp]; exact Fi.made_len _, by rw [← hp]; exact Fi.made_ok _⟩)
    unfold Fi.pv at hmade
    clear hp
    go_wp2_with fail
    refine hmade.mono ?_; rintro e w5 ⟨rfl, k5⟩
    have O5 := Lib.hid (O3.out.nob k5)
    have HR5 := Lib.hid (HR3.out.nob k5)
    clear k5 O3 HR3 hmade

    obtain ⟨ys, hys⟩ : ∃ ys, ys = splice xs0 (0 + (192 + 8 * i.toNat)) (Fi.enc p) := ⟨_, rfl⟩
    have hel : (Fi.enc p).length = 8 := Fi.enc_len p
    have hyl := Lib.hid (show ((ys.drop (0 + 0)).take 492).length = 492 by rw [List.length_take, List.length_drop, hys, splice_len _ _ _ (by rw [xs0_len]; omega), xs0_len]; decide)
    have HSame := Lib.hid (show ∀ k : Nat, k < 492 → ((k : Int) < lo ∨ lo + 8 ≤ (k : Int)) → (((xs0.drop (0 + 0)).take 492).getD k 0).toNat = (((ys.drop (0 + 0)).take 492).getD k 0).toNat from fun k hk h => by
      rw [view_get hk, view_get hk, hys, splice_getD _ _ _ (by rw [xs0_len]; omega), if_neg (by omega)])
    have hset := Co.setFile_is O5.out.kc i (wfi (by omega) (by omega)) p HP.out.1 true ys (by
      unfold pset
      rw [HP.out.2, if_pos rfl, HF.out.1, HF.out.2.1, HF.out.2.2, pwrite_some (x := (0, 192 + 8 * i.toNat, 8)) (by simp) (by simp [wher]; omega) (base := 0) rfl, hys])
    have HS := Lib.hid hset
    clear hys hel
    go_wp2_with fail
    refine HS.out.mono ?_; rintro e w6 ⟨rfl, t⟩
    have O6 := Lib.hid (O5.out.bytes t)
    have HR6 := Lib.hid (HR5.out.keep t.keep (fun ad e m => HA.out.2 ad e (.inl m)))
    clear t O5 HR5 hset
    obtain ⟨hh, hhh⟩ : ∃ hh, lo + 8 = hh := ⟨_, rfl⟩
    have HHH := Lib.hid hhh
    clear hhh
    have hv2 := Co.view_new O6.out.kc ((ys.drop (0 + 0)).take 492) rfl
    rw [hyl.out] at hv2
    have HV2 := Lib.hid hv2
    clear hv2
    go_wp2_with fail
    refine HV2.out.mono ?_; rintro e w7 ⟨A2, c2, rfl, hr2, hf2, t7⟩
    have O7 := Lib.hid (O6.out.still t7)
    have hr17 := HR6.out.keep t7.keep (fun ad e m => HA.out.2 ad e (.inl m))
    obtain ⟨g1, o1, hA1, hc1⟩ := hr17.lit (by decide)
    obtain ⟨g2, o2, hA2, hc2⟩ := hr2.lit (by decide)
    subst hA1
    subst hA2
    have HC := Lib.hid (And.intro hc1 hc2)
    clear hr2 hf2 t7 hr17 hc1 hc2 HV2 O6 HR6
    go_wp2_with fail
    go_loopw [18] (fun s18 wx => ∃ k : Nat, k ≤ 492 ∧ s18 = .int .i64 k ∧ Keep Nob w7 wx) (fun t _ => 492 - (intOf t).toNat)
    case atStart => exact ⟨0, by omega, rfl, Keep.refl _ _⟩
    case round =>
      obtain ⟨k, hk, rfl, hK⟩ := hrel
      have hwr : IntKind.i64.wrap (lo + 8) = hh := by rw [← HHH.out]; simp [IntKind.wrap, IntKind.bits, IntKind.signed]; omega
      have HK := Lib.hid hK
      clear hK
      by_cases hlt : k < 492
      · obtain ⟨y, hy⟩ : ∃ y, (((xs0.drop (0 + 0)).take 492).getD k 0).toNat = y := ⟨_, rfl⟩
        obtain ⟨z, hz⟩ : ∃ z, (((ys.drop (0 + 0)).take 492).getD k 0).toNat = z := ⟨_, rfl⟩
        have d1 : wr.cell? ⟨g1, o1 + k, none⟩ = some (.int .u8 y) := by
          have := HC.out.1 k _ (bytes_getD (by rw [Hx.out]; exact hlt))
          rw [hy] at this
          exact Keep.cell_from (HK.out.mono (fun _ _ f => f.elim)) this
        have d2 : wr.cell? ⟨g2, o2 + k, none⟩ = some (.int .u8 z) := by
          have := HC.out.2 k _ (bytes_getD (by rw [hyl.out]; exact hlt))
          rw [hz] at this
          exact Keep.cell_from (HK.out.mono (fun _ _ f => f.elim)) this
        have hk0 : (0 : Int) ≤ k := by omega
        have hk9 : (k : Int) < 492 := by omega
        by_cases h1 : (k : Int) < lo
        · have hyz := HSame.out k (by omega) (.inl h1)
          rw [hy, hz] at hyz
          subst hyz
          clear hy hz
          go_wp2_with fail
          go_quiet (fail)
          go_wp2_with fail
          go_roundw
          case rel => exact ⟨k + 1, by omega, by go_num, HK.out.drewN _⟩
          case measure => simp [intOf]; omega
        · by_cases h2 : hh ≤ (k : Int)
          · have hyz := HSame.out k (by omega) (.inr (by have := HHH.out; omega))
            rw [hy, hz] at hyz
            subst hyz
            clear hy hz
            go_wp2_with fail
            go_quiet (fail)
            go_wp2_with fail
            go_roundw
            case rel => exact ⟨k + 1, by omega, by go_num, HK.out.drewN _⟩
            case measure => simp [intOf]; omega
          · clear hy hz
            go_wp2_with fail
            have e1 : ((k : Int) < lo) = False := eq_false (by omega)
            have e2 : (hh ≤ (k : Int)) = False := eq_false (by omega)
            go_quiet (fail)
            go_wp2_with fail
            go_roundw
            case rel => exact ⟨k + 1, by omega, by go_num, HK.out.drewN _⟩
            case measure => simp [intOf]; omega
      · go_wp2_with fail
        refine (awake_is _).mono ?_; rintro e we ⟨rfl, ke⟩
        go_wp2
        go_ret
        exact ⟨rfl, (from_join2 (from_join K1.out (O7.out.keep.nob HK.out)) ke).done⟩
  · rw [h] at hm
    clear h
    obtain ⟨i, hi⟩ : ∃ i, bits .and .i64 a1 3 = i := ⟨_, rfl⟩
    have hi2 : 0 ≤ i ∧ i ≤ 3 := by have := i64_mask a1 2 (by decide); rw [show (2 : Int) ^ 2 - 1 = 3 from rfl, hi] at this; omega
    obtain ⟨hi0, hi7⟩ := hi2
    obtain ⟨l8, hl8⟩ : ∃ l8, 40 * i = l8 := ⟨_, rfl⟩
    obtain ⟨lo, hlo⟩ : ∃ lo, 288 + l8 = lo := ⟨_, rfl⟩
    have hl80 : 0 ≤ l8 := by omega
    have hl89 : l8 ≤ 120 := by omega
    have hl0 : 0 ≤ lo := by omega
    have hl9 : lo ≤ 408 := by omega
    go_enter Tryz.func3, Tryz.ntmps3
    go_wp2_with fail
    refine (plan_is w).mono ?_; rintro e w1 ⟨Ab, AB, rfl, hr, k1⟩
    go_wp2_with fail
    refine (open_is Ab AB hr).mono ?_; rintro e w2 ⟨N0, K, C, b, k2, pq, R, Ag, ng, cg, g, B, c, rfl, hO⟩
    have HF := Lib.hid (show K.xs = xs0 ∧ C.brs.length = 2 ∧ C.bad = [] from ⟨hO.xs, by rw [hO.brs]; rfl, hO.bad⟩)
    have O2 := Lib.hid hO.op
    have K1 := Lib.hid k1
    have hv := Co.view_new O2.out.kc ((xs0.drop (0 + 0)).take 492) (by rw [HF.out.1]; rfl)
    rw [Hx.out] at hv
    have HV := Lib.hid hv
    clear hO hr k1 hv
    go_wp2_with fail
    refine HV.out.mono ?_; rintro e w3 ⟨A1, c1, rfl, hr1, hf1, t⟩
    have O3 := Lib.hid (O2.out.still t)
    have HA := Lib.hid (show 0 < 492 ∧ ∀ ad, A1 = some ad → ¬ Mine K ad.block from ⟨by decide, fun ad e m => by have h1 := hf1 (by decide) ad e; have h2 := O2.out.kc.k.mine_lt _ m; omega⟩)
    have HR3 := Lib.hid hr1
    clear hr1 hf1 t O2 HV
    obtain ⟨p, hp⟩ : ∃ p, Ri.made a3 [] = p := ⟨_, rfl⟩
    have hmade := Ri.made_is a3 none 0 0 [] w3 (Reads.nil_ _ _) p hp
    have HP := Lib.hid (show p.d.length = 32 ∧ Ri.okd p = true from ⟨by rw [← hp]; exact Ri.made_len _ _, by rw [← hp]; exact Ri.made_ok _ _⟩)
    unfold Ri.pv at hmade
    clear hp
    go_wp2_with fail
    refine hmade.mono ?_; rintro e w5 ⟨rfl, k5⟩
    have O5 := Lib.hid (O3.out.nob k5)
    have HR5 := Lib.hid (HR3.out.nob k5)
    clear k5 O3 HR3 hmade

    obtain ⟨ys, hys⟩ : ∃ ys, ys = splice xs0 (0 + (288 + 40 * i.toNat)) (Ri.enc p) := ⟨_, rfl⟩
    have hel : (Ri.enc p).length = 40 := Ri.enc_len HP.out.1
    have hyl := Lib.hid (show ((ys.drop (0 + 0)).take 492).length = 492 by rw [List.length_take, List.length_drop, hys, splice_len _ _ _ (by rw [xs0_len]; omega), xs0_len]; decide)
    have HSame := Lib.hid (show ∀ k : Nat, k < 492 → ((k : Int) < lo ∨ lo + 40 ≤ (k : Int)) → (((xs0.drop (0 + 0)).take 492).getD k 0).toNat = (((ys.drop (0 + 0)).take 492).getD k 0).toNat from fun k hk h => by
      rw [view_get hk, view_get hk, hys, splice_getD _ _ _ (by rw [xs0_len]; omega), if_neg (by omega)])
    have hset := Co.setPipe_is O5.out.kc i (wfi (by omega) (by omega)) p HP.out.1 true ys (by
      unfold pset
      rw [HP.out.2, if_pos rfl, HF.out.1, HF.out.2.1, HF.out.2.2, pwrite_some (x := (0, 288 + 40 * i.toNat, 40)) (by simp) (by unfold wher; dsimp only; rw [if_neg (by decide), if_neg (by decide), if_pos rfl, if_neg (by omega), if_pos hi0]) (base := 0) rfl, hys])
    have HS := Lib.hid hset
    clear hys hel
    go_wp2_with fail
    refine HS.out.mono ?_; rintro e w6 ⟨rfl, t⟩
    have O6 := Lib.hid (O5.out.bytes t)
    have HR6 := Lib.hid (HR5.out.keep t.keep (fun ad e m => HA.out.2 ad e (.inl m)))
    clear t O5 HR5 hset
    obtain ⟨hh, hhh⟩ : ∃ hh, lo + 40 = hh := ⟨_, rfl⟩
    have HHH := Lib.hid hhh
    clear hhh
    have hv2 := Co.view_new O6.out.kc ((ys.drop (0 + 0)).take 492) rfl
    rw [hyl.out] at hv2
    have HV2 := Lib.hid hv2
    clear hv2
    go_wp2_with fail
    refine HV2.out.mono ?_; rintro e w7 ⟨A2, c2, rfl, hr2, hf2, t7⟩
    have O7 := Lib.hid (O6.out.still t7)
    have hr17 := HR6.out.keep t7.keep (fun ad e m => HA.out.2 ad e (.inl m))
    obtain ⟨g1, o1, hA1, hc1⟩ := hr17.lit (by decide)
    obtain ⟨g2, o2, hA2, hc2⟩ := hr2.lit (by decide)
    subst hA1
    subst hA2
    have HC := Lib.hid (And.intro hc1 hc2)
    clear hr2 hf2 t7 hr17 hc1 hc2 HV2 O6 HR6
    go_wp2_with fail
    go_loopw [18] (fun s18 wx => ∃ k : Nat, k ≤ 492 ∧ s18 = .int .i64 k ∧ Keep Nob w7 wx) (fun t _ => 492 - (intOf t).toNat)
    case atStart => exact ⟨0, by omega, rfl, Keep.refl _ _⟩
    case round =>
      obtain ⟨k, hk, rfl, hK⟩ := hrel
      have hwr : IntKind.i64.wrap (lo + 40) = hh := by rw [← HHH.out]; simp [IntKind.wrap, IntKind.bits, IntKind.signed]; omega
      have HK := Lib.hid hK
      clear hK
      by_cases hlt : k < 492
      · obtain ⟨y, hy⟩ : ∃ y, (((xs0.drop (0 + 0)).take 492).getD k 0).toNat = y := ⟨_, rfl⟩
        obtain ⟨z, hz⟩ : ∃ z, (((ys.drop (0 + 0)).take 492).getD k 0).toNat = z := ⟨_, rfl⟩
        have d1 : wr.cell? ⟨g1, o1 + k, none⟩ = some (.int .u8 y) := by
          have := HC.out.1 k _ (bytes_getD (by rw [Hx.out]; exact hlt))
          rw [hy] at this
          exact Keep.cell_from (HK.out.mono (fun _ _ f => f.elim)) this
        have d2 : wr.cell? ⟨g2, o2 + k, none⟩ = some (.int .u8 z) := by
          have := HC.out.2 k _ (bytes_getD (by rw [hyl.out]; exact hlt))
          rw [hz] at this
          exact Keep.cell_from (HK.out.mono (fun _ _ f => f.elim)) this
        have hk0 : (0 : Int) ≤ k := by omega
        have hk9 : (k : Int) < 492 := by omega
        by_cases h1 : (k : Int) < lo
        · have hyz := HSame.out k (by omega) (.inl h1)
          rw [hy, hz] at hyz
          subst hyz
          clear hy hz
          go_wp2_with fail
          go_quiet (fail)
          go_wp2_with fail
          go_roundw
          case rel => exact ⟨k + 1, by omega, by go_num, HK.out.drewN _⟩
          case measure => simp [intOf]; omega
        · by_cases h2 : hh ≤ (k : Int)
          · have hyz := HSame.out k (by omega) (.inr (by have := HHH.out; omega))
            rw [hy, hz] at hyz
            subst hyz
            clear hy hz
            go_wp2_with fail
            go_quiet (fail)
            go_wp2_with fail
            go_roundw
            case rel => exact ⟨k + 1, by omega, by go_num, HK.out.drewN _⟩
            case measure => simp [intOf]; omega
          · clear hy hz
            go_wp2_with fail
            have e1 : ((k : Int) < lo) = False := eq_false (by omega)
            have e2 : (hh ≤ (k : Int)) = False := eq_false (by omega)
            go_quiet (fail)
            go_wp2_with fail
            go_roundw
            case rel => exact ⟨k + 1, by omega, by go_num, HK.out.drewN _⟩
            case measure => simp [intOf]; omega
      · go_wp2_with fail
        refine (awake_is _).mono ?_; rintro e we ⟨rfl, ke⟩
        go_wp2
        go_ret
        exact ⟨rfl, (from_join2 (from_join K1.out (O7.out.keep.nob HK.out)) ke).done⟩
  · rw [h] at hm
    clear h
    obtain ⟨i, hi⟩ : ∃ i, bits .and .i64 a1 7 = i := ⟨_, rfl⟩
    have hi2 : 0 ≤ i ∧ i ≤ 7 := by have := i64_mask a1 3 (by decide); rw [show (2 : Int) ^ 3 - 1 = 7 from rfl, hi] at this; omega
    obtain ⟨hi0, hi7⟩ := hi2
    obtain ⟨lo, hlo⟩ : ∃ lo : Int, lo = 488 := ⟨_, rfl⟩
    go_enter Tryz.func3, Tryz.ntmps3
    go_wp2_with fail
    refine (plan_is w).mono ?_; rintro e w1 ⟨Ab, AB, rfl, hr, k1⟩
    go_wp2_with fail
    refine (open_is Ab AB hr).mono ?_; rintro e w2 ⟨N0, K, C, b, k2, pq, R, Ag, ng, cg, g, B, c, rfl, hO⟩
    have HF := Lib.hid (show K.xs = xs0 ∧ C.brs.length = 2 ∧ C.bad = [] from ⟨hO.xs, by rw [hO.brs]; rfl, hO.bad⟩)
    have O2 := Lib.hid hO.op
    have K1 := Lib.hid k1
    have hv := Co.view_new O2.out.kc ((xs0.drop (0 + 0)).take 492) (by rw [HF.out.1]; rfl)
    rw [Hx.out] at hv
    have HV := Lib.hid hv
    clear hO hr k1 hv
    go_wp2_with fail
    refine HV.out.mono ?_; rintro e w3 ⟨A1, c1, rfl, hr1, hf1, t⟩
    have O3 := Lib.hid (O2.out.still t)
    have HA := Lib.hid (show 0 < 492 ∧ ∀ ad, A1 = some ad → ¬ Mine K ad.block from ⟨by decide, fun ad e m => by have h1 := hf1 (by decide) ad e; have h2 := O2.out.kc.k.mine_lt _ m; omega⟩)
    have HR3 := Lib.hid hr1
    clear hr1 hf1 t O2 HV
    have O5 := O3
    have HR5 := HR3
    clear O3 HR3

    obtain ⟨ys, hys⟩ : ∃ ys, ys = splice xs0 (0 + 488) (frontB i) := ⟨_, rfl⟩
    have hel : (frontB i).length = 4 := frontB_len i
    have hyl := Lib.hid (show ((ys.drop (0 + 0)).take 492).length = 492 by rw [List.length_take, List.length_drop, hys, splice_len _ _ _ (by rw [xs0_len]; omega), xs0_len]; decide)
    have HSame := Lib.hid (show ∀ k : Nat, k < 492 → ((k : Int) < lo ∨ lo + 4 ≤ (k : Int)) → (((xs0.drop (0 + 0)).take 492).getD k 0).toNat = (((ys.drop (0 + 0)).take 492).getD k 0).toNat from fun k hk h => by
      rw [view_get hk, view_get hk, hys, splice_getD _ _ _ (by rw [xs0_len]; omega), if_neg (by omega)])
    have hset := Co.setFront_is O5.out.kc i true ys (by
      unfold pset
      rw [decide_eq_true ⟨hi0, hi7⟩, if_pos rfl, HF.out.1, HF.out.2.1, HF.out.2.2, pwrite_some (x := (0, 488, 4)) (by simp) (by simp [wher]) (base := 0) rfl, hys])
    have HS := Lib.hid hset
    clear hys hel
    subst hlo
    go_wp2_with fail
    refine HS.out.mono ?_; rintro e w6 ⟨rfl, t⟩
    have O6 := Lib.hid (O5.out.bytes t)
    have HR6 := Lib.hid (HR5.out.keep t.keep (fun ad e m => HA.out.2 ad e (.inl m)))
    clear t O5 HR5 hset
    obtain ⟨hh, hhh⟩ : ∃ hh, (488 : Int) + 4 = hh := ⟨_, rfl⟩
    have HHH := Lib.hid hhh
    clear hhh
    have hv2 := Co.view_new O6.out.kc ((ys.drop (0 + 0)).take 492) rfl
    rw [hyl.out] at hv2
    have HV2 := Lib.hid hv2
    clear hv2
    go_wp2_with fail
    refine HV2.out.mono ?_; rintro e w7 ⟨A2, c2, rfl, hr2, hf2, t7⟩
    have O7 := Lib.hid (O6.out.still t7)
    have hr17 := HR6.out.keep t7.keep (fun ad e m => HA.out.2 ad e (.inl m))
    obtain ⟨g1, o1, hA1, hc1⟩ := hr17.lit (by decide)
    obtain ⟨g2, o2, hA2, hc2⟩ := hr2.lit (by decide)
    subst hA1
    subst hA2
    have HC := Lib.hid (And.intro hc1 hc2)
    clear hr2 hf2 t7 hr17 hc1 hc2 HV2 O6 HR6
    go_wp2_with fail
    go_loopw [18] (fun s18 wx => ∃ k : Nat, k ≤ 492 ∧ s18 = .int .i64 k ∧ Keep Nob w7 wx) (fun t _ => 492 - (intOf t).toNat)
    case atStart => exact ⟨0, by omega, rfl, Keep.refl _ _⟩
    case round =>
      obtain ⟨k, hk, rfl, hK⟩ := hrel
      obtain ⟨hh4⟩ : Nonempty (hh = 492) := ⟨by have := HHH.out; omega⟩
      have HK := Lib.hid hK
      clear hK
      by_cases hlt : k < 492
      · obtain ⟨y, hy⟩ : ∃ y, (((xs0.drop (0 + 0)).take 492).getD k 0).toNat = y := ⟨_, rfl⟩
        obtain ⟨z, hz⟩ : ∃ z, (((ys.drop (0 + 0)).take 492).getD k 0).toNat = z := ⟨_, rfl⟩
        have d1 : wr.cell? ⟨g1, o1 + k, none⟩ = some (.int .u8 y) := by
          have := HC.out.1 k _ (bytes_getD (by rw [Hx.out]; exact hlt))
          rw [hy] at this
          exact Keep.cell_from (HK.out.mono (fun _ _ f => f.elim)) this
        have d2 : wr.cell? ⟨g2, o2 + k, none⟩ = some (.int .u8 z) := by
          have := HC.out.2 k _ (bytes_getD (by rw [hyl.out]; exact hlt))
          rw [hz] at this
          exact Keep.cell_from (HK.out.mono (fun _ _ f => f.elim)) this
        have hk0 : (0 : Int) ≤ k := by omega
        have hk9 : (k : Int) < 492 := by omega
        by_cases h1 : (k : Int) < 488
        · have hyz := HSame.out k (by omega) (.inl h1)
          rw [hy, hz] at hyz
          subst hyz
          clear hy hz
          go_wp2_with fail
          go_quiet (fail)
          go_wp2_with fail
          go_roundw
          case rel => exact ⟨k + 1, by omega, by go_num, HK.out.drewN _⟩
          case measure => simp [intOf]; omega
        · clear hy hz
          have h2 : ¬ (492 : Int) ≤ (k : Int) := by omega
          go_wp2_with fail
          have e1 : ((k : Int) < 488) = False := eq_false (by omega)
          have e2 : ((492 : Int) ≤ (k : Int)) = False := eq_false (by omega)
          go_quiet (fail)
          go_wp2_with fail
          go_roundw
          case rel => exact ⟨k + 1, by omega, by go_num, HK.out.drewN _⟩
          case measure => simp [intOf]; omega
      · go_wp2_with fail
        refine (awake_is _).mono ?_; rintro e we ⟨rfl, ke⟩
        go_wp2
        go_ret
        exact ⟨rfl, (from_join2 (from_join K1.out (O7.out.keep.nob HK.out)) ke).done⟩
end Go.Proofs.YtifigjccokpcfaaGreat.Pn
namespace Go.Proofs.YtifigjccokpcfaaGreat
open Go.RowKit
theorem CommonsBytes_walk (w : World) (a0 : Int) (_w0 : (Lit.int .i64 a0).wf = true) (a1 : Int) (_w1 : (Lit.int .i64 a1).wf = true) (A2 : Option Addr) (n2 c2 : Nat) (x2 : Ty.den (.sl 8 (.int .i64))) (w2 : Holds w (.sl 8 (.int .i64)) x2 [.slice A2 n2 c2]) (a3 : Int) (_w3 : (Lit.int .i64 a3).wf = true) :
    Calls Tryz.prog 3 #[.int .i64 a0, .int .i64 a1, .slice A2 n2 c2, .int .i64 a3] w fun e w' => e = .returned (.bool true) ∧ Below w.heap.size w w' :=
  Pn.bytes_in w a0 a1 A2 n2 c2 x2 (Qu.holds_ints w2) a3
end Go.Proofs.YtifigjccokpcfaaGreat
