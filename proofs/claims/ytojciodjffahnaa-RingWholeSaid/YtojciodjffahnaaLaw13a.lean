/- The walk of RingWhole. -/
import Derived.Test.YtojciodjffahnaaRinN
import Derived.Test.YtojciodjffahnaaRinZ
import Derived.Test.YtojciodjffahnaaRinF
import Derived.Test.YtojciodjffahnaaRead
namespace Go.Proofs.Ytojciodjffahnaa
open Go.RowKit Ri
set_option linter.unusedVariables false
set_option linter.unusedSimpArgs false
theorem wh_ok {h c : Int} {L : List UInt8} (h0 : 0 ≤ h ∧ h ≤ 31) (hc : 0 ≤ c ∧ c ≤ 32) : okd ⟨h, c, 0, 0, L⟩ = true := Bounds.ok ⟨h0, hc, by show (0 : Int) ≤ 0 ∧ (0 : Int) ≤ 8; omega, by show (0 : Int) ≤ 0 ∧ (0 : Int) ≤ 8; omega⟩
theorem wh_put {h : Int} (h0 : 0 ≤ h ∧ h ≤ 31) {b L D : List UInt8} (hb : 32 ≤ b.length) (hL : lay D h.toNat b 32 = L) : pput ⟨h, 0, 0, 0, D⟩ b = (⟨h, 32, 0, 0, L⟩, 32) := by
  rw [pput, wh_ok h0 (by omega), if_pos rfl]
  have e : min b.length (room ⟨h, 0, 0, 0, D⟩) = 32 := by
    show min b.length (32 - (0 : Int).toNat) = 32
    rw [show (0 : Int).toNat = 0 from rfl]; omega
  rw [e]
  simp only
  rw [show (0 : Int).toNat = 0 from rfl, Nat.add_zero, hL]
  rfl
theorem whq_put {h : Int} (h0 : 0 ≤ h ∧ h ≤ 31) (L : List UInt8) : pput ⟨h, 32, 0, 0, L⟩ [1] = (⟨h, 32, 0, 0, L⟩, 0) := by
  rw [pput, wh_ok h0 (by omega), if_pos rfl]
  have e : min [(1 : UInt8)].length (room ⟨h, 32, 0, 0, L⟩) = 0 := rfl
  rw [e]; rfl
theorem whq_take {h : Int} (h0 : 0 ≤ h ∧ h ≤ 31) (L O : List UInt8) (hO : ahd L h.toNat 32 = O) : ptake ⟨h, 32, 0, 0, L⟩ 33 = (⟨h, 0, 0, 0, L⟩, O) := by
  rw [ptake, wh_ok h0 (by omega), if_pos rfl]
  have hf : few ⟨h, 32, 0, 0, L⟩ 33 = 32 := rfl
  rw [hf]
  simp only
  rw [hO, show (h + ((32 : Nat) : Int)) % 32 = h from by omega]; rfl
theorem whs_take {h : Int} (h0 : 0 ≤ h ∧ h ≤ 31) (L : List UInt8) : ptake ⟨h, 0, 0, 0, L⟩ 5 = (⟨h, 0, 0, 0, L⟩, []) := by
  rw [ptake, wh_ok h0 (by omega), if_pos rfl]
  have hf : few ⟨h, 0, 0, 0, L⟩ 5 = 0 := rfl
  rw [hf]
  simp only
  rw [show (h + ((0 : Nat) : Int)) % 32 = h from by omega]; rfl
theorem wh_back {D b : List UInt8} (hD : D.length = 32) (hb : 32 ≤ b.length) (s : Nat) : ahd (lay D s b 32) s 32 = b.take 32 := by
  apply List.ext_getElem?
  intro i
  by_cases hi : i < 32
  · rw [ahd_get _ _ _ _ hi, lay_get hD s b 32 (Nat.le_refl _) i hi, if_pos hi, List.getElem?_take, if_pos hi, List.getD_eq_getElem?_getD, List.getElem?_eq_getElem (by omega)]; rfl
  · rw [List.getElem?_eq_none (by rw [ahd_len]; omega), List.getElem?_eq_none (by rw [List.length_take]; omega)]
theorem row_of_vec {w : World} {A : Option Addr} {n cap : Nat} {l : List UInt8} (h : Vec w 5 1 A n cap (bytes l)) (hl : l.length = n) : Row w A l := by
  subst hl
  refine ⟨by have := h.reads; rwa [Nat.mul_one] at this, fun ad e => h.blk ⟨ad, e, rfl⟩⟩
theorem ap_two {w v2 v3 v4 : World} {A' : Option Addr} {g : Nat} {cs : List Value} (hp : Blk v2 g 26 cs) (K2 : Keep Nob w v2) (hk3 : Keep (Own (some ⟨v2.heap.size, 0, none⟩)) (v2.alloc (.cells #[] 5)) v3)
    (ho3 : ∀ b, Own A' b → Own (some ⟨v2.heap.size, 0, none⟩) b ∨ b = (v2.alloc (.cells #[] 5)).heap.size) (hk4 : Keep (Own A') v3 v4) : Blk v4 g 26 cs ∧ Keep Nob w v4 := by
  have hlt := hp.lt
  have hs := K2.size
  have n1 : ∀ b, b < v2.heap.size → ¬ Own (some ⟨v2.heap.size, 0, none⟩) b := fun b hb ⟨a, h1, h2⟩ => by
    cases h1
    have h3 : v2.heap.size = b := h2
    omega
  have n2 : ∀ b, b < v2.heap.size → ¬ Own A' b := fun b hb h => by
    rcases ho3 b h with h | h
    · exact n1 b hb h
    · have : (v2.alloc (.cells #[] 5)).heap.size = v2.heap.size + 1 := by simp
      omega
  exact ⟨((hp.alloc _).keep hk3 (n1 g hlt)).keep hk4 (n2 g hlt), ((K2.alloc _).trans hk3 (fun b hb h => n1 b (by omega) h)).trans hk4 (fun b hb h => n2 b (by omega) h)⟩
set_option maxHeartbeats 8000000 in
set_option maxRecDepth 100000 in
theorem RingWhole_in (w : World) (a0 : Int) (A1 : Option Addr) (n1 c1 : Nat) (x1 : List UInt8) (r1 : Reads w A1 n1 (bytes x1)) :
    Calls Try.prog 3 #[.int .i64 a0, .slice A1 n1 c1] w fun e w' => e = .returned (.bool true) ∧ Below w.heap.size w w' := by
  by_cases h100 : 100 < n1
  · go_enter Try.func3, Try.ntmps3
    go_wp2_with fail
    refine (awake_is _).mono ?_; rintro e w1 ⟨rfl, k1⟩
    go_wp2
    go_ret
    exact ⟨rfl, k1.below (Nat.le_refl _) (fun _ _ f => f)⟩
  have hl1 : x1.length = n1 := by simpa using r1.1
  have h31 : bits .and .i64 a0 31 = a0 % 32 := i64_and31 a0
  obtain ⟨h, hh⟩ : ∃ h : Int, a0 % 32 = h := ⟨_, rfl⟩
  have hh0 : 0 ≤ h ∧ h ≤ 31 := by omega
  rw [hh] at h31
  have hal : (x1 ++ List.replicate 40 0).length = n1 + 40 := by rw [List.length_append, hl1]; simp
  have hcs : bytes x1 ++ List.replicate 40 (.int .u8 0) = bytes (x1 ++ List.replicate 40 0) := by rw [bytes_append, bytes_replicate]
  obtain ⟨al, hald⟩ : ∃ al, x1 ++ List.replicate 40 0 = al := ⟨_, rfl⟩
  rw [hald] at hal hcs
  have hnl : nod.length = 32 := rfl
  have hO := wh_back hnl (b := al) (by omega) h.toNat
  have hLl : (lay nod h.toNat al 32).length = 32 := by rw [lay_len]; rfl
  obtain ⟨L, hL⟩ : ∃ L, lay nod h.toNat al 32 = L := ⟨_, rfl⟩
  rw [hL] at hO hLl
  have p1 := wh_put hh0 (by omega) hL
  have p2 := whq_put hh0 L
  have p3 := whq_take hh0 L _ hO
  have p4 := whs_take hh0 L
  obtain ⟨P0, hP0⟩ : ∃ P, Pp.mk h 0 0 0 nod = P := ⟨_, rfl⟩
  obtain ⟨q, hq⟩ : ∃ P, Pp.mk h 32 0 0 L = P := ⟨_, rfl⟩
  obtain ⟨s, hs⟩ : ∃ P, Pp.mk h 0 0 0 L = P := ⟨_, rfl⟩
  have e1 : P0.d.length = 32 := by rw [← hP0]; exact hnl
  have e2 : q.d.length = 32 := by rw [← hq]; exact hLl
  have e3 : s.d.length = 32 := by rw [← hs]; exact hLl
  have f1 : P0.h = h := by rw [← hP0]
  have f2 : q.c = 32 := by rw [← hq]
  have f3 : s.h = h := by rw [← hs]
  have f4 : s.c = 0 := by rw [← hs]
  rw [hP0, hq] at p1
  rw [hq] at p2 p3
  rw [hs] at p3 p4
  clear hO hL hLl hnl hq hs
  have hol : (al.take 32).length = 32 := by rw [List.length_take]; omega
  generalize hO : al.take 32 = O at *
  have HP1 := Lib.hid (fun w A c (hr : Reads w A (n1 + 40) (bytes al)) (hc : n1 + 40 ≤ c) => put_is P0 e1 A (n1 + 40) c al w hr hc (by omega) q 32 p1)
  have HP2 := Lib.hid (fun w g (hr : Reads w (some ⟨g, 0, none⟩) 1 (bytes [1])) => put_is q e2 (some ⟨g, 0, none⟩) 1 1 [1] w hr (by decide) (by decide) q 0 p2)
  have HT1 := Lib.hid (fun w => take_is q e2 33 w s O p3)
  have HT2 := Lib.hid (fun w => take_is s e3 5 w s [] p4)
  have HE1 := Lib.hid (fun W => eq_pv q q e2 e2 true (same_refl q) W)
  have HE2 := Lib.hid (fun W => eq_pv s s e3 e3 true (same_refl s) W)
  have HL0 := Lib.hid e1
  have HLq := Lib.hid e2
  have HLs := Lib.hid e3
  have HF := Lib.hid (And.intro f1 (And.intro f2 (And.intro f3 f4)))
  have HCS := Lib.hid hcs
  have HAL := Lib.hid hal
  have HOL := Lib.hid hol
  have HO := Lib.hid hO
  have HP0 := Lib.hid hP0
  unfold pv at HP1 HP2 HT1 HT2 HE1 HE2
  clear p1 p2 p3 p4 e1 e2 e3 f1 f2 f3 f4 hcs hal hol hO hald hP0 hh
  go_enter Try.func3, Try.ntmps3
  go_upto_region 4 with (first | (refine wpList_bu1 rfl _ rfl h rfl ?_; rw [HP0.out]) | (refine wpList_al rfl rfl ?_; intro v1 hp1 k1 hs1; clear hs1) | (refine wpList_st rfl (.tmp 5) _ rfl w.heap.size P0 noP rfl rfl HL0.out rfl hp1 ?_; intro v2 hp2 k2 hs2; clear hs2))
  have K2 : Keep Nob w v2 := k1.trans k2 (fun b hb e => by have h3 : b = w.heap.size := e; omega)
  have r2 := r1.nob K2
  clear hp1 k1 k2 h31 r1
  go_wp2_with (first | (at_builtin; go_loud (refine wpList_apz rfl _ rfl A' (0 + n1) cap' ([] ++ bytes x1) rfl hv3 (by omega) ?_); intro A2 c2 v4 hv4 hk4; have hpk := ap_two hp2 K2 hk3 ho3 hk4) | (at_builtin; refine wpList_ap rfl _ _ 22 rfl 5 1 1 (.int .u8 0) Try.underlying22 Try.info5 rfl (by decide) (some ⟨v2.heap.size, 0, none⟩) 0 0 [] rfl (Vec.of_blk (Blk.new v2 5 []) rfl (by decide)) A1 n1 c1 (bytes x1) rfl _ (Nat.mul_one _) (r2.nob ((Keep.refl Nob v2).alloc _)) (bytes_one x1) (by unfold maxLen; omega) (by omega) ?_; intro A' cap' v3 hv3 hk3 ho3) | (refine wpList_ld rfl (.tmp 5) rfl w.heap.size P0 rfl HL0.out hpk.1 ?_))
  obtain ⟨hp4, K4⟩ := hpk
  have hcv : n1 + 40 ≤ c2 := by
    obtain ⟨g, cur, _, _, hc, _⟩ := hv4.at_ (by omega)
    omega
  have row4 : Row v4 A2 al := by
    rw [List.nil_append, HCS.out] at hv4
    exact row_of_vec hv4 (by rw [HAL.out]; omega)
  clear hv3 hk3 ho3 hk4 hv4 hp2 K2 r2
  have ra4 : Reads v4 A2 (n1 + 40) (bytes al) := by have := row4.1; rwa [HAL.out] at this
  refine (HP1.out _ A2 c2 ra4 hcv).mono ?_; rintro e w5 ⟨rfl, k5⟩
  have hp5 := hp4.nob k5
  have ra5 := row4.nob k5
  have K5 := K4.nobt k5
  clear hp4 row4 K4 k5 HP1 ra4
  have hg0 : w.heap.size < w5.heap.size := hp5.lt
  go_wp2_with (first | (refine wpList_al rfl rfl ?_; intro v1 hq1 k1 hs1; clear hs1) | (refine wpList_st rfl (.tmp 7) _ rfl w5.heap.size q noP rfl rfl HLq.out rfl hq1 ?_; intro v5 hq5 k2 hs2; clear hs2) | (refine wpList_ld rfl (.tmp 7) rfl w5.heap.size q rfl HLq.out hq5 ?_))
  have kk : Keep (· = w5.heap.size) w5 v5 := (k1.mono (M' := (· = w5.heap.size)) (fun _ _ f => f.elim)).trans k2 (fun _ _ h => h)
  have hp6 := hp5.keep kk (Nat.ne_of_lt hp5.lt)
  have ra6 := ra5.fresh kk
  have K6 : Keep Nob w v5 := K5.trans kk (fun b hb e => by have h3 : b = w5.heap.size := e; omega)
  have hg7 : w.heap.size ≤ w5.heap.size := K5.size
  have kb := (Keep.refl Nob v5).alloc (.cells #[.int .u8 1] 5)
  have hq6 := hq5.nob kb
  have hp7 := hp6.nob kb
  have ra7 := ra6.nob kb
  have K7 := K6.nobt kb
  have hre := reads_all (Blk.new v5 5 (bytes [1])) rfl
  clear kk k1 k2 hq1 hp5 ra5 K5 hp6 ra6 K6 kb
  generalize w5.heap.size = g7 at *
  refine (HP2.out _ _ hre).mono ?_; rintro e w6 ⟨rfl, k6⟩
  have hp8 := hp7.nob k6
  have hq8 := hq6.nob k6
  have ra8 := ra7.nob k6
  have K8 := K7.nobt k6
  clear hp7 hq5 hq6 ra7 K7 k6 hre HP2
  go_wp2_with (first | (refine wpList_al rfl rfl ?_; intro v1 hr1 k1 hs1; clear hs1) | (refine wpList_st rfl (.tmp 9) _ rfl w6.heap.size q noP rfl rfl HLq.out rfl hr1 ?_; intro v8 hr8 k2 hs2; clear hs2; have hq9 := (hq8.nob k1).keep k2 (Nat.ne_of_lt hq8.lt)) | (refine wpList_ld rfl (.tmp 7) rfl g7 q rfl HLq.out hq9 ?_))
  have kk : Keep (· = w6.heap.size) w6 v8 := (k1.mono (M' := (· = w6.heap.size)) (fun _ _ f => f.elim)).trans k2 (fun _ _ h => h)
  have hp9 := hp8.keep kk (Nat.ne_of_lt hp8.lt)
  have ra9 := ra8.fresh kk
  have K9 : Keep Nob w v8 := K8.trans kk (fun b hb e => by have h3 : b = w6.heap.size := e; have := K8.size; omega)
  clear kk k1 k2 hr1 hp8 hq8 ra8 K8
  generalize w6.heap.size = g9 at *
  refine (HT1.out _).mono ?_; rintro e w9 ⟨x9, rfl, ⟨Ao, co, rfl, -, ro⟩, k9⟩
  have hpa := hp9.nob k9
  have hqa := hq9.nob k9
  have hra := hr8.nob k9
  have raa := ra9.nob k9
  have Ka := K9.nobt k9
  clear hp9 hq9 hr8 ra9 K9 k9 HT1
  go_wp2_with (first | (refine wpList_al rfl rfl ?_; intro v1 hs1 k1 hsz; clear hsz) | (refine wpList_st rfl (.tmp 11) _ rfl w9.heap.size s noP rfl rfl HLs.out rfl hs1 ?_; intro vb hsb k2 hs2; clear hs2) | (refine wpList_ld rfl (.tmp 11) rfl w9.heap.size s rfl HLs.out hsb ?_))
  have kk : Keep (· = w9.heap.size) w9 vb := (k1.mono (M' := (· = w9.heap.size)) (fun _ _ f => f.elim)).trans k2 (fun _ _ h => h)
  have hpb := hpa.keep kk (Nat.ne_of_lt hpa.lt)
  have hqb := hqa.keep kk (Nat.ne_of_lt hqa.lt)
  have hrb := hra.keep kk (Nat.ne_of_lt hra.lt)
  have rab := raa.fresh kk
  have rob := ro.fresh kk
  have Kb : Keep Nob w vb := Ka.trans kk (fun b hb e => by have h3 : b = w9.heap.size := e; have := Ka.size; omega)
  clear kk k1 k2 hs1 hpa hqa hra raa ro Ka
  generalize w9.heap.size = g11 at *
  refine (HT2.out _).mono ?_; rintro e wc ⟨xc, rfl, ⟨An, cn, rfl, -, rn⟩, kc⟩
  have hpc := hpb.nob kc
  have hqc := hqb.nob kc
  have hrc := hrb.nob kc
  have hsc := hsb.nob kc
  have rac := rab.nob kc
  have roc := rob.nob kc
  have Kc := Kb.nobt kc
  clear hpb hqb hrb hsb rab rob Kb kc HT2 rn
  go_upto_region 9 with (first | (refine wpList_al rfl rfl ?_; intro v1 ht1 k1 hsz; clear hsz) | (refine wpList_st rfl (.tmp 13) _ rfl wc.heap.size s noP rfl rfl HLs.out rfl ht1 ?_; intro vd htd k2 hs2; clear hs2))
  have kk : Keep (· = wc.heap.size) wc vd := (k1.mono (M' := (· = wc.heap.size)) (fun _ _ f => f.elim)).trans k2 (fun _ _ h => h)
  have hpd := (hpc.keep kk (Nat.ne_of_lt hpc.lt)).drew
  have hqd := (hqc.keep kk (Nat.ne_of_lt hqc.lt)).drew
  have hrd := (hrc.keep kk (Nat.ne_of_lt hrc.lt)).drew
  have hsd := (hsc.keep kk (Nat.ne_of_lt hsc.lt)).drew
  have rad := (rac.fresh kk).nob (Keep.nobdrew _)
  have rod := (roc.fresh kk).nob (Keep.nobdrew _)
  have Kd : Keep Nob w vd.drew := (Kc.trans kk (fun b hb e => by have h3 : b = wc.heap.size := e; have := Kc.size; omega)).drew
  have htd := htd.drew
  clear kk k1 k2 ht1 hpc hqc hrc hsc rac roc Kc
  generalize wc.heap.size = g13 at *
  have rt := rad.1
  rw [HAL.out] at rt
  have rt : Reads vd.drew A2 32 (bytes O) := by
    have := Reads.takes_ rt (show 32 ≤ n1 + 40 by omega) (Keep.refl Nob _)
    rwa [HO.out] at this
  have ro2 : Reads vd.drew Ao 32 (bytes O) := by have := rod.1; rwa [HOL.out] at this
  obtain ⟨f1, f2, f3, f4⟩ := HF.out
  have c7 : ∀ w', Blk w' g7 26 (pc q) → w'.cell? ⟨g7, 1, none⟩ = some (.int .i64 32) := fun w' hb => by rw [← f2]; exact (cells4 hb).2.1
  have c11 : ∀ w', Blk w' g11 26 (pc s) → w'.cell? ⟨g11, 1, none⟩ = some (.int .i64 0) := fun w' hb => by rw [← f4]; exact (cells4 hb).2.1
  have c11h : ∀ w', Blk w' g11 26 (pc s) → w'.cell? ⟨g11, 0, none⟩ = some (.int .i64 h) := fun w' hb => by rw [← f3]; exact (cells4 hb).1
  have c5h : ∀ w', Blk w' w.heap.size 26 (pc P0) → w'.cell? ⟨w.heap.size, 0, none⟩ = some (.int .i64 h) := fun w' hb => by rw [← f1]; exact (cells4 hb).1
  have C7 := Lib.hid c7
  have C11 := Lib.hid c11
  have C11h := Lib.hid c11h
  have C5h := Lib.hid c5h
  have he1 := HE1.out
  have he2 := HE2.out
  have h32 : (32 : Int) ≤ (c2 : Int) := by omega
  have hol := HOL.out
  clear c7 c11 c11h c5h rad rod f1 f2 f3 f4 HE1 HE2 HCS HAL HF HP0
  refine wp_region_held_drew (S := (fun w' => Blk w' w.heap.size 26 (pc P0) ∧ Blk w' g7 26 (pc q) ∧ Blk w' g9 26 (pc q) ∧ Blk w' g11 26 (pc s) ∧ Blk w' g13 26 (pc s) ∧ Reads w' Ao 32 (bytes O) ∧ Reads w' A2 32 (bytes O))) (by kernel_rfl) ⟨hpd, hqd, hrd, hsd, htd, ro2, rt⟩ (fun hHeld => ?_)
  generalize vd.drew = wd at *
  refine wpAnyH_take (i := 0) (v := ?_) rfl (by kernel_rfl) (by kernel_rfl) (by kernel_rfl) (fun _ _ _ h => h) (Or.inl ⟨by rfl, ?_⟩) (by assumption) ?_
  rotate_left
  · (intro w hSw; (try dsimp only at hSw); obtain ⟨s5, s7, s9, s11, s13, so, sa⟩ := hSw; go_simp; try with_reducible rfl)
  try simp only [Act.put, List.getElem_toArray, List.getElem_cons_zero, List.getElem_cons_succ, List.setIfInBounds_toArray, List.set_cons_zero, List.set_cons_succ]
  refine wpAnyH_take (i := 1) (v := ?_) rfl (by kernel_rfl) (by kernel_rfl) (by kernel_rfl) (fun _ _ _ h => h) (Or.inl ⟨by rfl, ?_⟩) (by assumption) ?_
  rotate_left
  · (intro w hSw; (try dsimp only at hSw); obtain ⟨s5, s7, s9, s11, s13, so, sa⟩ := hSw; go_simp; try with_reducible rfl)
  try simp only [Act.put, List.getElem_toArray, List.getElem_cons_zero, List.getElem_cons_succ, List.setIfInBounds_toArray, List.set_cons_zero, List.set_cons_succ]
  refine wpAnyH_take (i := 2) (v := ?_) rfl (by kernel_rfl) (by kernel_rfl) (by kernel_rfl) (fun _ _ _ h => h) (Or.inl ⟨by rfl, ?_⟩) (by assumption) ?_
  rotate_left
  · (intro w hSw; (try dsimp only at hSw); obtain ⟨s5, s7, s9, s11, s13, so, sa⟩ := hSw; go_simp; try with_reducible rfl)
  try simp only [Act.put, List.getElem_toArray, List.getElem_cons_zero, List.getElem_cons_succ, List.setIfInBounds_toArray, List.set_cons_zero, List.set_cons_succ]
  refine wpAnyH_take (i := 3) (v := ?_) rfl (by kernel_rfl) (by kernel_rfl) (by kernel_rfl) (fun _ _ _ h => h) (Or.inl ⟨by rfl, ?_⟩) (by assumption) ?_
  rotate_left
  · (intro w hSw; (try dsimp only at hSw); obtain ⟨s5, s7, s9, s11, s13, so, sa⟩ := hSw; go_simp; try with_reducible rfl)
  try simp only [Act.put, List.getElem_toArray, List.getElem_cons_zero, List.getElem_cons_succ, List.setIfInBounds_toArray, List.set_cons_zero, List.set_cons_succ]
  refine wpAnyH_take (i := 4) (v := ?_) rfl (by kernel_rfl) (by kernel_rfl) (by kernel_rfl) (fun _ _ _ h => h) (Or.inl ⟨by rfl, ?_⟩) (by assumption) ?_
  rotate_left
  · (intro w hSw; (try dsimp only at hSw); obtain ⟨s5, s7, s9, s11, s13, so, sa⟩ := hSw; refine exec_lc (x := .tmp 51) ?_ ?_ (C7.out _ s7) <;> rfl)
  try simp only [Act.put, List.getElem_toArray, List.getElem_cons_zero, List.getElem_cons_succ, List.setIfInBounds_toArray, List.set_cons_zero, List.set_cons_succ]
  refine wpAnyH_take (i := 5) (v := ?_) rfl (by kernel_rfl) (by kernel_rfl) (by kernel_rfl) (fun _ _ _ h => h) (Or.inl ⟨by rfl, ?_⟩) (by assumption) ?_
  rotate_left
  · (intro w hSw; (try dsimp only at hSw); obtain ⟨s5, s7, s9, s11, s13, so, sa⟩ := hSw; go_simp; try with_reducible rfl)
  try simp only [Act.put, List.getElem_toArray, List.getElem_cons_zero, List.getElem_cons_succ, List.setIfInBounds_toArray, List.set_cons_zero, List.set_cons_succ]
  refine wpAnyH_take (i := 6) (v := ?_) rfl (by kernel_rfl) (by kernel_rfl) (by kernel_rfl) (fun _ _ _ h => h) (Or.inl ⟨by rfl, ?_⟩) (by assumption) ?_
  rotate_left
  · (intro w hSw; (try dsimp only at hSw); obtain ⟨s5, s7, s9, s11, s13, so, sa⟩ := hSw; go_simp; try with_reducible rfl)
  try simp only [Act.put, List.getElem_toArray, List.getElem_cons_zero, List.getElem_cons_succ, List.setIfInBounds_toArray, List.set_cons_zero, List.set_cons_succ]
  refine wpAnyH_take (i := 7) (v := ?_) rfl (by kernel_rfl) (by kernel_rfl) (by kernel_rfl) (fun _ _ _ h => h) (Or.inl ⟨by rfl, ?_⟩) (by assumption) ?_
  rotate_left
  · (intro w hSw; (try dsimp only at hSw); obtain ⟨s5, s7, s9, s11, s13, so, sa⟩ := hSw; go_simp; try with_reducible rfl)
  try simp only [Act.put, List.getElem_toArray, List.getElem_cons_zero, List.getElem_cons_succ, List.setIfInBounds_toArray, List.set_cons_zero, List.set_cons_succ]
  refine wpAnyH_take (i := 8) (v := ?_) rfl (by kernel_rfl) (by kernel_rfl) (by kernel_rfl) (fun _ _ _ h => h) (Or.inl ⟨by rfl, ?_⟩) (by assumption) ?_
  rotate_left
  · (intro w hSw; (try dsimp only at hSw); obtain ⟨s5, s7, s9, s11, s13, so, sa⟩ := hSw; go_simp; try with_reducible rfl)
  try simp only [Act.put, List.getElem_toArray, List.getElem_cons_zero, List.getElem_cons_succ, List.setIfInBounds_toArray, List.set_cons_zero, List.set_cons_succ]
  refine wpAnyH_take (i := 9) (v := ?_) rfl (by kernel_rfl) (by kernel_rfl) (by kernel_rfl) (fun _ _ _ h => h) (Or.inl ⟨by rfl, ?_⟩) (by assumption) ?_
  rotate_left
  · (intro w hSw; (try dsimp only at hSw); obtain ⟨s5, s7, s9, s11, s13, so, sa⟩ := hSw; go_simp; try with_reducible rfl)
  try simp only [Act.put, List.getElem_toArray, List.getElem_cons_zero, List.getElem_cons_succ, List.setIfInBounds_toArray, List.set_cons_zero, List.set_cons_succ]
  refine wpAnyH_take (i := 10) (v := ?_) rfl (by kernel_rfl) (by kernel_rfl) (by kernel_rfl) (fun _ _ _ h => h) (Or.inl ⟨by rfl, ?_⟩) (by assumption) ?_
  rotate_left
  · (intro w hSw; (try dsimp only at hSw); obtain ⟨s5, s7, s9, s11, s13, so, sa⟩ := hSw; go_simp; try with_reducible rfl)
  try simp only [Act.put, List.getElem_toArray, List.getElem_cons_zero, List.getElem_cons_succ, List.setIfInBounds_toArray, List.set_cons_zero, List.set_cons_succ]
  refine wpAnyH_take (i := 11) (v := ?_) rfl (by kernel_rfl) (by kernel_rfl) (by kernel_rfl) (fun _ _ _ h => h) (Or.inl ⟨by rfl, ?_⟩) (by assumption) ?_
  rotate_left
  · (intro w hSw; (try dsimp only at hSw); obtain ⟨s5, s7, s9, s11, s13, so, sa⟩ := hSw; go_simp; try with_reducible rfl)
  try simp only [Act.put, List.getElem_toArray, List.getElem_cons_zero, List.getElem_cons_succ, List.setIfInBounds_toArray, List.set_cons_zero, List.set_cons_succ]
  refine wpAnyH_take (i := 12) (v := ?_) rfl (by kernel_rfl) (by kernel_rfl) (by kernel_rfl) (fun _ _ _ h => h) (Or.inl ⟨by rfl, ?_⟩) (by assumption) ?_
  rotate_left
  · (intro w hSw; (try dsimp only at hSw); obtain ⟨s5, s7, s9, s11, s13, so, sa⟩ := hSw; refine exec_load (x := .tmp 9) ?_ ?_ HLq.out s9 <;> rfl)
  try simp only [Act.put, List.getElem_toArray, List.getElem_cons_zero, List.getElem_cons_succ, List.setIfInBounds_toArray, List.set_cons_zero, List.set_cons_succ]
  refine wpAnyH_take (i := 13) (v := ?_) rfl (by kernel_rfl) (by kernel_rfl) (by kernel_rfl) (fun _ _ _ h => h) (Or.inl ⟨by rfl, ?_⟩) (by assumption) ?_
  rotate_left
  · (intro w hSw; (try dsimp only at hSw); obtain ⟨s5, s7, s9, s11, s13, so, sa⟩ := hSw; refine exec_load (x := .tmp 7) ?_ ?_ HLq.out s7 <;> rfl)
  try simp only [Act.put, List.getElem_toArray, List.getElem_cons_zero, List.getElem_cons_succ, List.setIfInBounds_toArray, List.set_cons_zero, List.set_cons_succ]
  refine wpAnyH_take (i := 14) (v := ?_) rfl (by kernel_rfl) (by kernel_rfl) (by kernel_rfl) (fun _ _ _ h => h) (Or.inl ⟨by rfl, ?_⟩) (by assumption) ?_
  rotate_left
  · (intro w hSw; (try dsimp only at hSw); obtain ⟨s5, s7, s9, s11, s13, so, sa⟩ := hSw; go_simp; try with_reducible rfl)
  try simp only [Act.put, List.getElem_toArray, List.getElem_cons_zero, List.getElem_cons_succ, List.setIfInBounds_toArray, List.set_cons_zero, List.set_cons_succ]
  refine wpAnyH_take (i := 15) (v := ?_) rfl (by kernel_rfl) (by kernel_rfl) (by kernel_rfl) (fun _ _ _ h => h) (Or.inl ⟨by rfl, ?_⟩) (by assumption) ?_
  rotate_left
  · (intro w hSw; (try dsimp only at hSw); obtain ⟨s5, s7, s9, s11, s13, so, sa⟩ := hSw; go_simp; try with_reducible rfl)
  try simp only [Act.put, List.getElem_toArray, List.getElem_cons_zero, List.getElem_cons_succ, List.setIfInBounds_toArray, List.set_cons_zero, List.set_cons_succ]
  refine wpAnyH_take (i := 16) (v := ?_) rfl (by kernel_rfl) (by kernel_rfl) (by kernel_rfl) (fun _ _ _ h => h) (Or.inl ⟨by rfl, ?_⟩) (by assumption) ?_
  rotate_left
  · (intro w hSw; (try dsimp only at hSw); obtain ⟨s5, s7, s9, s11, s13, so, sa⟩ := hSw; go_simp; try with_reducible rfl)
  try simp only [Act.put, List.getElem_toArray, List.getElem_cons_zero, List.getElem_cons_succ, List.setIfInBounds_toArray, List.set_cons_zero, List.set_cons_succ]
  refine wpAnyH_take (i := 17) (v := ?_) rfl (by kernel_rfl) (by kernel_rfl) (by kernel_rfl) (fun _ _ _ h => h) (Or.inl ⟨by rfl, ?_⟩) (by assumption) ?_
  rotate_left
  · (intro w hSw; (try dsimp only at hSw); obtain ⟨s5, s7, s9, s11, s13, so, sa⟩ := hSw; go_simp; try with_reducible rfl)
  try simp only [Act.put, List.getElem_toArray, List.getElem_cons_zero, List.getElem_cons_succ, List.setIfInBounds_toArray, List.set_cons_zero, List.set_cons_succ]
  refine wpAnyH_take (i := 18) (v := ?_) rfl (by kernel_rfl) (by kernel_rfl) (by kernel_rfl) (fun _ _ _ h => h) (Or.inl ⟨by rfl, ?_⟩) (by assumption) ?_
  rotate_left
  · (intro w hSw; (try dsimp only at hSw); obtain ⟨s5, s7, s9, s11, s13, so, sa⟩ := hSw; refine exec_str (x := .tmp 65) (c := co) ?_ ?_ so <;> first | rfl | (rw [hol]; rfl))
  try simp only [Act.put, List.getElem_toArray, List.getElem_cons_zero, List.getElem_cons_succ, List.setIfInBounds_toArray, List.set_cons_zero, List.set_cons_succ]
  refine wpAnyH_take (i := 19) (v := ?_) rfl (by kernel_rfl) (by kernel_rfl) (by kernel_rfl) (fun _ _ _ h => h) (Or.inl ⟨by rfl, ?_⟩) (by assumption) ?_
  rotate_left
  · (intro w hSw; (try dsimp only at hSw); obtain ⟨s5, s7, s9, s11, s13, so, sa⟩ := hSw; go_simp; try with_reducible rfl)
  try simp only [Act.put, List.getElem_toArray, List.getElem_cons_zero, List.getElem_cons_succ, List.setIfInBounds_toArray, List.set_cons_zero, List.set_cons_succ]
  refine wpAnyH_take (i := 20) (v := ?_) rfl (by kernel_rfl) (by kernel_rfl) (by kernel_rfl) (fun _ _ _ h => h) (Or.inl ⟨by rfl, ?_⟩) (by assumption) ?_
  rotate_left
  · (intro w hSw; (try dsimp only at hSw); obtain ⟨s5, s7, s9, s11, s13, so, sa⟩ := hSw; go_simp; try with_reducible rfl)
  try simp only [Act.put, List.getElem_toArray, List.getElem_cons_zero, List.getElem_cons_succ, List.setIfInBounds_toArray, List.set_cons_zero, List.set_cons_succ]
  refine wpAnyH_take (i := 21) (v := ?_) rfl (by kernel_rfl) (by kernel_rfl) (by kernel_rfl) (fun _ _ _ h => h) (Or.inl ⟨by rfl, ?_⟩) (by assumption) ?_
  rotate_left
  · (intro w hSw; (try dsimp only at hSw); obtain ⟨s5, s7, s9, s11, s13, so, sa⟩ := hSw; refine exec_str (x := .tmp 68) (c := c2) ?_ ?_ sa <;> rfl)
  try simp only [Act.put, List.getElem_toArray, List.getElem_cons_zero, List.getElem_cons_succ, List.setIfInBounds_toArray, List.set_cons_zero, List.set_cons_succ]
  refine wpAnyH_take (i := 22) (v := ?_) rfl (by kernel_rfl) (by kernel_rfl) (by kernel_rfl) (fun _ _ _ h => h) (Or.inl ⟨by rfl, ?_⟩) (by assumption) ?_
  rotate_left
  · (intro w hSw; (try dsimp only at hSw); obtain ⟨s5, s7, s9, s11, s13, so, sa⟩ := hSw; go_simp; try with_reducible rfl)
  try simp only [Act.put, List.getElem_toArray, List.getElem_cons_zero, List.getElem_cons_succ, List.setIfInBounds_toArray, List.set_cons_zero, List.set_cons_succ]
  refine wpAnyH_take (i := 23) (v := ?_) rfl (by kernel_rfl) (by kernel_rfl) (by kernel_rfl) (fun _ _ _ h => h) (Or.inl ⟨by rfl, ?_⟩) (by assumption) ?_
  rotate_left
  · (intro w hSw; (try dsimp only at hSw); obtain ⟨s5, s7, s9, s11, s13, so, sa⟩ := hSw; go_simp; try with_reducible rfl)
  try simp only [Act.put, List.getElem_toArray, List.getElem_cons_zero, List.getElem_cons_succ, List.setIfInBounds_toArray, List.set_cons_zero, List.set_cons_succ]
  refine wpAnyH_take (i := 24) (v := ?_) rfl (by kernel_rfl) (by kernel_rfl) (by kernel_rfl) (fun _ _ _ h => h) (Or.inl ⟨by rfl, ?_⟩) (by assumption) ?_
  rotate_left
  · (intro w hSw; (try dsimp only at hSw); obtain ⟨s5, s7, s9, s11, s13, so, sa⟩ := hSw; go_simp; try with_reducible rfl)
  try simp only [Act.put, List.getElem_toArray, List.getElem_cons_zero, List.getElem_cons_succ, List.setIfInBounds_toArray, List.set_cons_zero, List.set_cons_succ]
  refine wpAnyH_take (i := 25) (v := ?_) rfl (by kernel_rfl) (by kernel_rfl) (by kernel_rfl) (fun _ _ _ h => h) (Or.inl ⟨by rfl, ?_⟩) (by assumption) ?_
  rotate_left
  · (intro w hSw; (try dsimp only at hSw); obtain ⟨s5, s7, s9, s11, s13, so, sa⟩ := hSw; go_simp; try with_reducible rfl)
  try simp only [Act.put, List.getElem_toArray, List.getElem_cons_zero, List.getElem_cons_succ, List.setIfInBounds_toArray, List.set_cons_zero, List.set_cons_succ]
  refine wpAnyH_take (i := 26) (v := ?_) rfl (by kernel_rfl) (by kernel_rfl) (by kernel_rfl) (fun _ _ _ h => h) (Or.inl ⟨by rfl, ?_⟩) (by assumption) ?_
  rotate_left
  · (intro w hSw; (try dsimp only at hSw); obtain ⟨s5, s7, s9, s11, s13, so, sa⟩ := hSw; refine exec_lc (x := .tmp 73) ?_ ?_ (C11.out _ s11) <;> rfl)
  try simp only [Act.put, List.getElem_toArray, List.getElem_cons_zero, List.getElem_cons_succ, List.setIfInBounds_toArray, List.set_cons_zero, List.set_cons_succ]
  refine wpAnyH_take (i := 27) (v := ?_) rfl (by kernel_rfl) (by kernel_rfl) (by kernel_rfl) (fun _ _ _ h => h) (Or.inl ⟨by rfl, ?_⟩) (by assumption) ?_
  rotate_left
  · (intro w hSw; (try dsimp only at hSw); obtain ⟨s5, s7, s9, s11, s13, so, sa⟩ := hSw; go_simp; try with_reducible rfl)
  try simp only [Act.put, List.getElem_toArray, List.getElem_cons_zero, List.getElem_cons_succ, List.setIfInBounds_toArray, List.set_cons_zero, List.set_cons_succ]
  refine wpAnyH_take (i := 28) (v := ?_) rfl (by kernel_rfl) (by kernel_rfl) (by kernel_rfl) (fun _ _ _ h => h) (Or.inl ⟨by rfl, ?_⟩) (by assumption) ?_
  rotate_left
  · (intro w hSw; (try dsimp only at hSw); obtain ⟨s5, s7, s9, s11, s13, so, sa⟩ := hSw; go_simp; try with_reducible rfl)
  try simp only [Act.put, List.getElem_toArray, List.getElem_cons_zero, List.getElem_cons_succ, List.setIfInBounds_toArray, List.set_cons_zero, List.set_cons_succ]
  refine wpAnyH_take (i := 29) (v := ?_) rfl (by kernel_rfl) (by kernel_rfl) (by kernel_rfl) (fun _ _ _ h => h) (Or.inl ⟨by rfl, ?_⟩) (by assumption) ?_
  rotate_left
  · (intro w hSw; (try dsimp only at hSw); obtain ⟨s5, s7, s9, s11, s13, so, sa⟩ := hSw; go_simp; try with_reducible rfl)
  try simp only [Act.put, List.getElem_toArray, List.getElem_cons_zero, List.getElem_cons_succ, List.setIfInBounds_toArray, List.set_cons_zero, List.set_cons_succ]
  refine wpAnyH_take (i := 30) (v := ?_) rfl (by kernel_rfl) (by kernel_rfl) (by kernel_rfl) (fun _ _ _ h => h) (Or.inl ⟨by rfl, ?_⟩) (by assumption) ?_
  rotate_left
  · (intro w hSw; (try dsimp only at hSw); obtain ⟨s5, s7, s9, s11, s13, so, sa⟩ := hSw; go_simp; try with_reducible rfl)
  try simp only [Act.put, List.getElem_toArray, List.getElem_cons_zero, List.getElem_cons_succ, List.setIfInBounds_toArray, List.set_cons_zero, List.set_cons_succ]
  refine wpAnyH_take (i := 31) (v := ?_) rfl (by kernel_rfl) (by kernel_rfl) (by kernel_rfl) (fun _ _ _ h => h) (Or.inl ⟨by rfl, ?_⟩) (by assumption) ?_
  rotate_left
  · (intro w hSw; (try dsimp only at hSw); obtain ⟨s5, s7, s9, s11, s13, so, sa⟩ := hSw; refine exec_lc (x := .tmp 78) ?_ ?_ (C11h.out _ s11) <;> rfl)
  try simp only [Act.put, List.getElem_toArray, List.getElem_cons_zero, List.getElem_cons_succ, List.setIfInBounds_toArray, List.set_cons_zero, List.set_cons_succ]
  refine wpAnyH_take (i := 32) (v := ?_) rfl (by kernel_rfl) (by kernel_rfl) (by kernel_rfl) (fun _ _ _ h => h) (Or.inl ⟨by rfl, ?_⟩) (by assumption) ?_
  rotate_left
  · (intro w hSw; (try dsimp only at hSw); obtain ⟨s5, s7, s9, s11, s13, so, sa⟩ := hSw; go_simp; try with_reducible rfl)
  try simp only [Act.put, List.getElem_toArray, List.getElem_cons_zero, List.getElem_cons_succ, List.setIfInBounds_toArray, List.set_cons_zero, List.set_cons_succ]
  refine wpAnyH_take (i := 33) (v := ?_) rfl (by kernel_rfl) (by kernel_rfl) (by kernel_rfl) (fun _ _ _ h => h) (Or.inl ⟨by rfl, ?_⟩) (by assumption) ?_
  rotate_left
  · (intro w hSw; (try dsimp only at hSw); obtain ⟨s5, s7, s9, s11, s13, so, sa⟩ := hSw; refine exec_lc (x := .tmp 80) ?_ ?_ (C5h.out _ s5) <;> rfl)
  try simp only [Act.put, List.getElem_toArray, List.getElem_cons_zero, List.getElem_cons_succ, List.setIfInBounds_toArray, List.set_cons_zero, List.set_cons_succ]
  refine wpAnyH_take (i := 34) (v := ?_) rfl (by kernel_rfl) (by kernel_rfl) (by kernel_rfl) (fun _ _ _ h => h) (Or.inl ⟨by rfl, ?_⟩) (by assumption) ?_
  rotate_left
  · (intro w hSw; (try dsimp only at hSw); obtain ⟨s5, s7, s9, s11, s13, so, sa⟩ := hSw; go_simp; try with_reducible rfl)
  try simp only [Act.put, List.getElem_toArray, List.getElem_cons_zero, List.getElem_cons_succ, List.setIfInBounds_toArray, List.set_cons_zero, List.set_cons_succ]
  refine wpAnyH_take (i := 35) (v := ?_) rfl (by kernel_rfl) (by kernel_rfl) (by kernel_rfl) (fun _ _ _ h => h) (Or.inl ⟨by rfl, ?_⟩) (by assumption) ?_
  rotate_left
  · (intro w hSw; (try dsimp only at hSw); obtain ⟨s5, s7, s9, s11, s13, so, sa⟩ := hSw; go_simp; try with_reducible rfl)
  try simp only [Act.put, List.getElem_toArray, List.getElem_cons_zero, List.getElem_cons_succ, List.setIfInBounds_toArray, List.set_cons_zero, List.set_cons_succ]
  refine wpAnyH_take (i := 36) (v := ?_) rfl (by kernel_rfl) (by kernel_rfl) (by kernel_rfl) (fun _ _ _ h => h) (Or.inl ⟨by rfl, ?_⟩) (by assumption) ?_
  rotate_left
  · (intro w hSw; (try dsimp only at hSw); obtain ⟨s5, s7, s9, s11, s13, so, sa⟩ := hSw; go_simp; try with_reducible rfl)
  try simp only [Act.put, List.getElem_toArray, List.getElem_cons_zero, List.getElem_cons_succ, List.setIfInBounds_toArray, List.set_cons_zero, List.set_cons_succ]
  refine wpAnyH_take (i := 37) (v := ?_) rfl (by kernel_rfl) (by kernel_rfl) (by kernel_rfl) (fun _ _ _ h => h) (Or.inl ⟨by rfl, ?_⟩) (by assumption) ?_
  rotate_left
  · (intro w hSw; (try dsimp only at hSw); obtain ⟨s5, s7, s9, s11, s13, so, sa⟩ := hSw; go_simp; try with_reducible rfl)
  try simp only [Act.put, List.getElem_toArray, List.getElem_cons_zero, List.getElem_cons_succ, List.setIfInBounds_toArray, List.set_cons_zero, List.set_cons_succ]
  refine wpAnyH_take (i := 38) (v := ?_) rfl (by kernel_rfl) (by kernel_rfl) (by kernel_rfl) (fun _ _ _ h => h) (Or.inl ⟨by rfl, ?_⟩) (by assumption) ?_
  rotate_left
  · (intro w hSw; (try dsimp only at hSw); obtain ⟨s5, s7, s9, s11, s13, so, sa⟩ := hSw; go_simp; try with_reducible rfl)
  try simp only [Act.put, List.getElem_toArray, List.getElem_cons_zero, List.getElem_cons_succ, List.setIfInBounds_toArray, List.set_cons_zero, List.set_cons_succ]
  refine wpAnyH_take (i := 39) (v := ?_) rfl (by kernel_rfl) (by kernel_rfl) (by kernel_rfl) (fun _ _ _ h => h) (Or.inl ⟨by rfl, ?_⟩) (by assumption) ?_
  rotate_left
  · (intro w hSw; (try dsimp only at hSw); obtain ⟨s5, s7, s9, s11, s13, so, sa⟩ := hSw; go_simp; try with_reducible rfl)
  try simp only [Act.put, List.getElem_toArray, List.getElem_cons_zero, List.getElem_cons_succ, List.setIfInBounds_toArray, List.set_cons_zero, List.set_cons_succ]
  refine wpAnyH_take (i := 40) (v := ?_) rfl (by kernel_rfl) (by kernel_rfl) (by kernel_rfl) (fun _ _ _ h => h) (Or.inl ⟨by rfl, ?_⟩) (by assumption) ?_
  rotate_left
  · (intro w hSw; (try dsimp only at hSw); obtain ⟨s5, s7, s9, s11, s13, so, sa⟩ := hSw; go_simp; try with_reducible rfl)
  try simp only [Act.put, List.getElem_toArray, List.getElem_cons_zero, List.getElem_cons_succ, List.setIfInBounds_toArray, List.set_cons_zero, List.set_cons_succ]
  refine wpAnyH_take (i := 41) (v := ?_) rfl (by kernel_rfl) (by kernel_rfl) (by kernel_rfl) (fun _ _ _ h => h) (Or.inl ⟨by rfl, ?_⟩) (by assumption) ?_
  rotate_left
  · (intro w hSw; (try dsimp only at hSw); obtain ⟨s5, s7, s9, s11, s13, so, sa⟩ := hSw; go_simp; try with_reducible rfl)
  try simp only [Act.put, List.getElem_toArray, List.getElem_cons_zero, List.getElem_cons_succ, List.setIfInBounds_toArray, List.set_cons_zero, List.set_cons_succ]
  refine wpAnyH_take (i := 42) (v := ?_) rfl (by kernel_rfl) (by kernel_rfl) (by kernel_rfl) (fun _ _ _ h => h) (Or.inl ⟨by rfl, ?_⟩) (by assumption) ?_
  rotate_left
  · (intro w hSw; (try dsimp only at hSw); obtain ⟨s5, s7, s9, s11, s13, so, sa⟩ := hSw; refine exec_load (x := .tmp 13) ?_ ?_ HLs.out s13 <;> rfl)
  try simp only [Act.put, List.getElem_toArray, List.getElem_cons_zero, List.getElem_cons_succ, List.setIfInBounds_toArray, List.set_cons_zero, List.set_cons_succ]
  refine wpAnyH_take (i := 43) (v := ?_) rfl (by kernel_rfl) (by kernel_rfl) (by kernel_rfl) (fun _ _ _ h => h) (Or.inl ⟨by rfl, ?_⟩) (by assumption) ?_
  rotate_left
  · (intro w hSw; (try dsimp only at hSw); obtain ⟨s5, s7, s9, s11, s13, so, sa⟩ := hSw; refine exec_load (x := .tmp 11) ?_ ?_ HLs.out s11 <;> rfl)
  try simp only [Act.put, List.getElem_toArray, List.getElem_cons_zero, List.getElem_cons_succ, List.setIfInBounds_toArray, List.set_cons_zero, List.set_cons_succ]
  refine wpAnyH_take (i := 44) (v := ?_) rfl (by kernel_rfl) (by kernel_rfl) (by kernel_rfl) (fun _ _ _ h => h) (Or.inl ⟨by rfl, ?_⟩) (by assumption) ?_
  rotate_left
  · (intro w hSw; (try dsimp only at hSw); obtain ⟨s5, s7, s9, s11, s13, so, sa⟩ := hSw; go_simp; try with_reducible rfl)
  try simp only [Act.put, List.getElem_toArray, List.getElem_cons_zero, List.getElem_cons_succ, List.setIfInBounds_toArray, List.set_cons_zero, List.set_cons_succ]
  refine wpAnyH_take (i := 45) (v := ?_) rfl (by kernel_rfl) (by kernel_rfl) (by kernel_rfl) (fun _ _ _ h => h) (Or.inl ⟨by rfl, ?_⟩) (by assumption) ?_
  rotate_left
  · (intro w hSw; (try dsimp only at hSw); obtain ⟨s5, s7, s9, s11, s13, so, sa⟩ := hSw; go_simp; try with_reducible rfl)
  try simp only [Act.put, List.getElem_toArray, List.getElem_cons_zero, List.getElem_cons_succ, List.setIfInBounds_toArray, List.set_cons_zero, List.set_cons_succ]
  refine wpAnyH_take (i := 46) (v := ?_) rfl (by kernel_rfl) (by kernel_rfl) (by kernel_rfl) (fun _ _ _ h => h) (Or.inl ⟨by rfl, ?_⟩) (by assumption) ?_
  rotate_left
  · (intro w hSw; (try dsimp only at hSw); obtain ⟨s5, s7, s9, s11, s13, so, sa⟩ := hSw; go_simp; try with_reducible rfl)
  try simp only [Act.put, List.getElem_toArray, List.getElem_cons_zero, List.getElem_cons_succ, List.setIfInBounds_toArray, List.set_cons_zero, List.set_cons_succ]
  refine wpAnyH_ready (rs := [47]) (by kernel_rfl) (by simp) ?_
  refine AllReadyH.cons rfl (fun K hK => ?_) AllReadyH.nil
  go_simp
  refine (awake_is _).mono ?_; rintro e wf ⟨rfl, kf⟩
  have Kf := Kd.nobt kf
  refine hK.out _ _ ?_ (fun hHeld => ?_)
  · exact ⟨hpd.nob kf, hqd.nob kf, hrd.nob kf, hsd.nob kf, htd.nob kf, ro2.nob kf, rt.nob kf⟩
  clear hK K
  try simp only [Act.put, List.getElem_toArray, List.getElem_cons_zero, List.getElem_cons_succ, List.setIfInBounds_toArray, List.set_cons_zero, List.set_cons_succ]
  refine wpAnyH_take (i := 48) (v := ?_) rfl (by kernel_rfl) (by kernel_rfl) (by kernel_rfl) (fun _ _ _ h => h) (Or.inl ⟨by rfl, ?_⟩) (by assumption) ?_
  rotate_left
  · (intro w hSw; (try dsimp only at hSw); obtain ⟨s5, s7, s9, s11, s13, so, sa⟩ := hSw; go_simp; try with_reducible rfl)
  try simp only [Act.put, List.getElem_toArray, List.getElem_cons_zero, List.getElem_cons_succ, List.setIfInBounds_toArray, List.set_cons_zero, List.set_cons_succ]
  refine wpAnyH_take (i := 49) (v := ?_) rfl (by kernel_rfl) (by kernel_rfl) (by kernel_rfl) (fun _ _ _ h => h) (Or.inl ⟨by rfl, ?_⟩) (by assumption) ?_
  rotate_left
  · (intro w hSw; (try dsimp only at hSw); obtain ⟨s5, s7, s9, s11, s13, so, sa⟩ := hSw; go_simp; try with_reducible rfl)
  try simp only [Act.put, List.getElem_toArray, List.getElem_cons_zero, List.getElem_cons_succ, List.setIfInBounds_toArray, List.set_cons_zero, List.set_cons_succ]
  refine wpAnyH_done (by kernel_rfl) ?_ _
  go_wp2
  go_ret
  exact ⟨rfl, Kf.below (Nat.le_refl _) (fun _ _ f => f)⟩
theorem RingWhole_walk (w : World) (a0 : Int) (w0 : (Lit.int .i64 a0).wf = true) (A1 : Option Addr) (n1 c1 : Nat) (x1 : Ty.den (.sl 1 .byte)) (w1 : Holds w (.sl 1 .byte) x1 [.slice A1 n1 c1]) :
    Calls Try.prog 3 #[.int .i64 a0, .slice A1 n1 c1] w fun e w' => e = .returned (.bool true) ∧ Below w.heap.size w w' :=
  RingWhole_in w a0 A1 n1 c1 x1 (holds_bytes w1).2.1
end Go.Proofs.Ytojciodjffahnaa
