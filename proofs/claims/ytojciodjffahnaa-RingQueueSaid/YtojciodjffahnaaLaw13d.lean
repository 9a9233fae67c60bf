/- The walk of RingQueue. -/
import Derived.Test.YtojciodjffahnaaRinO
import Derived.Test.YtojciodjffahnaaLaw13e
namespace Go.Proofs.Ytojciodjffahnaa
open Go.RowKit Ri
set_option linter.unusedVariables false
set_option linter.unusedSimpArgs false
set_option maxHeartbeats 8000000 in
set_option maxRecDepth 100000 in
theorem RingQueue_in (w : World) (a0 : Int) (A1 : Option Addr) (n1 c1 : Nat) (x1 : List UInt8) (r1 : Reads w A1 n1 (bytes x1)) (A2 : Option Addr) (n2 c2 : Nat) (x2 : Ty.den (.sl 40 OpTy13)) (w2 : Holds w (.sl 40 OpTy13) x2 [.slice A2 n2 c2]) :
    Calls Try.prog 6 #[.int .i64 a0, .slice A1 n1 c1, .slice A2 n2 c2] w fun e w' => e = .returned (.bool true) ∧ Below w.heap.size w w' := by
  by_cases h100 : 100 < n1
  · go_enter Try.func6, Try.ntmps6
    go_wp2_with fail
    refine (awake_is _).mono ?_; rintro e w1 ⟨rfl, k1⟩
    go_wp2
    go_ret
    exact ⟨rfl, k1.below (Nat.le_refl _) (fun _ _ f => f)⟩
  have W2 := Lib.hid w2
  have HM := Lib.hid (fun w (hr : Reads w A1 n1 (bytes x1)) => made_is a0 A1 n1 c1 x1 w hr (made a0 x1) rfl)
  have hml := made_len a0 x1
  have hmo := made_ok a0 x1
  generalize made a0 x1 = M at *
  have HML := Lib.hid hml
  have HMO := Lib.hid hmo
  have hb := fun w => bytes_is M hml w
  unfold pv at HM hb
  have HB := Lib.hid hb
  clear w2 hml hmo hb
  go_enter Try.func6, Try.ntmps6
  go_wp2_with fail
  refine (HM.out _ r1).mono ?_; rintro e w1 ⟨rfl, K1⟩
  clear r1 HM
  go_wp2_with (first | (refine wpList_al rfl rfl ?_; intro v1 hp1 k1 hs1; clear hs1) | (refine wpList_st rfl (.tmp 7) _ rfl w1.heap.size M noP rfl rfl HML.out rfl hp1 ?_; intro v2 hp2 k2 hs2; clear hs2) | (refine wpList_ld rfl (.tmp 7) rfl w1.heap.size M rfl HML.out hp2 ?_))
  have K2 : Keep Nob w v2 := (K1.nobt k1).trans k2 (fun b hb e => by have h3 : b = w1.heap.size := e; have := K1.size; omega)
  have hg7 : w.heap.size ≤ w1.heap.size := K1.size
  clear hp1 k1 k2 K1
  generalize w1.heap.size = g7 at *
  refine (HB.out _).mono ?_; rintro e w3 ⟨x3, rfl, ⟨A3, c3, rfl, -, r3⟩, k3⟩
  have hp3 := hp2.nob k3
  have K3 := K2.nobt k3
  have cv := fun c => gives_str (c := c) r3
  clear hp2 K2 k3 HB r3
  go_wp2_with fail
  clear cv
  go_loopw [10, 8, 9] (fun s10 s8 s9 wx => ∃ (k : Nat) (P : Pp) (li lo : List UInt8), k ≤ 60 ∧ s10 = .int .i64 k ∧ s8 = .string (str li) ∧ s9 = .string (str lo) ∧ li = lo ++ has P ∧ okd P = true ∧ P.d.length = 32 ∧ li.length ≤ 32 + 100 * k ∧ Blk wx g7 26 (pc P) ∧ Keep Nob w wx) (fun s10 _ _ _ => 60 - (intOf s10).toNat)
  case atStart => exact ⟨0, M, has M, [], Nat.zero_le _, rfl, rfl, rfl, rfl, HMO.out, HML.out, by have := has_len HMO.out; have := (okd_bounds HMO.out).c; omega, hp3, K3⟩
  case round =>
    obtain ⟨i, P, li, lo, hi60, rfl, rfl, rfl, hio, hok, hl, hlen, hp4, K4⟩ := hrel
    clear hp3 K3
    have HIO := Lib.hid hio
    have HOK := Lib.hid hok
    have HL := Lib.hid hl
    have HLEN := Lib.hid hlen
    clear hio hok hl hlen
    obtain ⟨bo, hbo⟩ : ∃ bo, bo = decide (i < n2 ∧ i < 60) := ⟨_, rfl⟩
    have Hbo := Lib.hid hbo
    clear hbo
    generalize hSi : str li = Si at *
    generalize hSo : str lo = So at *
    have HSi := Lib.hid hSi
    have HSo := Lib.hid hSo
    clear hSi hSo
    go_upto_region 7 with fail
    go_cut [34] from 27 to 34 (fun s34 wx => s34 = .bool bo ∧ wx = wr)
    case first =>
      by_cases h1 : i < n2
      · by_cases h2 : i < 60
        · have h3 : decide (i < n2 ∧ i < 60) = true := by simp [h1, h2]
          go_wp2_with fail
          go_meet
          exact ⟨by (try rw [Hbo.out, h3]); (first | rfl | exact congrArg Value.bool (decide_eq_true (by omega)) | exact congrArg Value.bool (decide_eq_false (by omega)) | skip), rfl⟩
        · have h3 : decide (i < n2 ∧ i < 60) = false := by simp [h2]
          go_wp2_with fail
          go_meet
          exact ⟨by (try rw [Hbo.out, h3]); (first | rfl | exact congrArg Value.bool (decide_eq_true (by omega)) | exact congrArg Value.bool (decide_eq_false (by omega)) | skip), rfl⟩
      · have h3 : decide (i < n2 ∧ i < 60) = false := by simp [h1]
        go_wp2_with fail
        go_meet
        exact ⟨by (try rw [Hbo.out, h3]); (first | rfl | exact congrArg Value.bool (decide_eq_true (by omega)) | exact congrArg Value.bool (decide_eq_false (by omega)) | skip), rfl⟩
    case rest =>
    obtain ⟨rfl, hw⟩ := hcut
    have hw := hw.symm
    subst hw
    cases bo with
    | false =>
      go_wp2_with fail
      refine (awake_is _).mono ?_; rintro e w5 ⟨rfl, k5⟩
      have K5 := K4.nobt k5
      go_wp2
      go_ret
      exact ⟨rfl, K5.below (Nat.le_refl _) (fun _ _ f => f)⟩
    | true =>
    obtain ⟨hin, hi2⟩ : i < n2 ∧ i < 60 := of_decide_eq_true Hbo.out.symm
    obtain ⟨bb, off, oa, ov, B, m, cB, l, rfl, hf, hmc, hlm⟩ := op13_at W2.out hin
    obtain ⟨f0, f1, f2, rb⟩ := hf _ K4
    have kO := (Keep.refl Nob wr).alloc (.cells #[.int .i64 oa, .int .i64 ov, .slice B m cB] 43)
    have bO : Blk (wr.alloc (.cells #[.int .i64 oa, .int .i64 ov, .slice B m cB] 43)) wr.heap.size 43 [.int .i64 oa, .int .i64 ov, .slice B m cB] := Blk.new wr 43 _
    have hp5 := hp4.nob kO
    have K5 := K4.nobt kO
    have rb5 := rb.nob kO
    have HLM := Lib.hid hlm
    clear hp4 K4 rb kO hf hlm
    by_cases hm100 : 100 < m
    · go_wp2_with fail
      refine (awake_is _).mono ?_; rintro e w6 ⟨rfl, k6⟩
      have K6 := K5.nobt k6
      go_wp2
      go_ret
      exact ⟨rfl, K6.below (Nat.le_refl _) (fun _ _ f => f)⟩
    have hB := okd_bounds HOK.out
    have hBc := hB.c
    have c1 := (cells4 hp5).2.1
    by_cases ho : oa = 0
    · subst ho
      obtain ⟨P2, cnt, hP2⟩ : ∃ R n, pput P l = (R, n) := ⟨_, _, rfl⟩
      have hl2 : P2.d.length = 32 := by have := pput_len HL.out l; rwa [hP2] at this
      have ho2 : okd P2 = true := by have := pput_ok HOK.out l; rwa [hP2] at this
      have hh2 : has P2 = has P ++ l.take cnt := by have := has_put HL.out HOK.out l; rwa [hP2] at this
      have hcnt : cnt = min m (32 - P.c.toNat) := by
        have := congrArg Prod.snd hP2
        rw [pput, HOK.out, if_pos rfl] at this
        have := this.symm
        rwa [HLM.out] at this
      obtain ⟨e, he⟩ : ∃ e : Int, 32 - P.c = e := ⟨_, rfl⟩
      have hwe : IntKind.i64.wrap (32 - P.c) = e := by rw [he]; exact wrap_small_i64 _ (by omega) (by omega)
      have hmin : (if e < (m : Int) then e else (m : Int)) = (cnt : Int) := by split <;> omega
      have hc0 : (0 : Int) ≤ (cnt : Int) := by omega
      have hc1 : (cnt : Int) ≤ (cB : Int) := by omega
      have hcm : cnt ≤ m := by omega
      have hp := fun w (hr : Reads w B m (bytes l)) => put_is P HL.out B m cB l w hr hmc (by omega) P2 cnt hP2
      have hb2 := fun w => bytes_is P2 hl2 w
      unfold pv at hp hb2
      have HP := Lib.hid hp
      have HB2 := Lib.hid hb2
      have HO2 := Lib.hid ho2
      have HL2 := Lib.hid hl2
      have HH2 := Lib.hid hh2
      have hB2 := (okd_bounds ho2).c
      have hll := HLEN.out
      have htl : (l.take cnt).length ≤ 100 := by rw [List.length_take]; omega
      have sa := fun W => str_add li (l.take cnt) (by omega) W
      obtain ⟨li2, hli2⟩ : ∃ x, li ++ l.take cnt = x := ⟨_, rfl⟩
      have hio2 : li2 = lo ++ has P2 := by rw [← hli2, HIO.out, hh2, List.append_assoc]
      have hlen2 : li2.length ≤ 32 + 100 * (i + 1) := by rw [← hli2, List.length_append]; omega
      have sb := fun W => str_add lo (has P2) (by have := congrArg List.length hio2; rw [List.length_append] at this; omega) W
      rw [← hio2] at sb
      rw [hli2] at sa
      rw [HSi.out] at sa
      rw [HSo.out] at sb
      have HIO2 := Lib.hid hio2
      have HLEN2 := Lib.hid hlen2
      have HSA := Lib.hid sa
      have HSB := Lib.hid sb
      clear hP2 hl2 ho2 hh2 hcnt he hp hb2 hll htl sa sb hio2 hlen2 hli2
      go_wp2_with (refine wpList_ld rfl (.tmp 7) rfl g7 P rfl HL.out hp5 ?_)
      refine (HP.out _ rb5).mono ?_; rintro e w6 ⟨rfl, k6⟩
      have hp6 := hp5.nob k6
      have bO6 := bO.nob k6
      have K6 := K5.nobt k6
      have rb6 := rb5.nob k6
      have hne6 : wr.heap.size ≠ w6.heap.size := by have := bO6.lt; omega
      have hnp6 : g7 ≠ w6.heap.size := by have := hp6.lt; omega
      have hge6 : w.heap.size ≤ w6.heap.size := K6.size
      clear hp5 bO K5 rb5 k6 HP hwe c1 f0 f1 f2
      go_upto_region 15 with (first | (refine wpList_al rfl rfl ?_; intro v1 hq1 k1 hs1; clear hs1) | (refine wpList_st rfl (.tmp 13) _ rfl w6.heap.size P2 noP rfl rfl HL2.out rfl hq1 ?_; intro v2 hq2 k2 hs2; clear hs2))
      have kk : Keep (· = w6.heap.size) w6 v2 := (k1.mono (M' := (· = w6.heap.size)) (fun _ _ f => f.elim)).trans k2 (fun _ _ h => h)
      have hp7 := hp6.keep kk hnp6
      have bO7 := bO6.keep kk hne6
      have K7 : Keep Nob w v2 := K6.trans kk (fun b hb e => by have h3 : b = w6.heap.size := e; omega)
      have rb7 : Reads v2 B cnt (bytes (l.take cnt)) := by
        have hr := Reads.takes_ rb6 hcm (Keep.refl Nob w6)
        refine ⟨hr.1, fun h0 => ?_⟩
        obtain ⟨ad, rfl, hc⟩ := hr.2 h0
        refine ⟨ad, rfl, fun j u hu => ?_⟩
        have hcu := hc j u hu
        rw [← hcu]
        have hlt := block_lt_of_cell hcu
        exact World.cell?_of_block (w := w6) (kk.block _ hlt (fun e => by have h3 : (ad.add j).block = w6.heap.size := e; omega))
      have cc2 : v2.cell? ⟨wr.heap.size, 2, none⟩ = some (.slice B m cB) := bO7.cell 2
      have cvb := fun c => run_str (P := Try.prog) v2 22 9 5 B cnt c (l.take cnt) Try.underlying22 Try.underlying5 Try.underlying9 rb7
      have sa := HSA.out
      clear kk k1 k2 hq1 hp6 bO6 K6 rb6 rb7 HSA
      generalize str (l.take cnt) = T at *
      generalize hS2 : str li2 = S2 at *
      have HS2 := Lib.hid hS2
      clear hS2
      go_wp2_with (first | (refine wpList_ld rfl (.tmp 13) rfl w6.heap.size P2 rfl HL2.out hq2 ?_) | (refine wpList_st rfl (.tmp 7) _ rfl g7 P2 P rfl rfl HL2.out HL.out hp7 ?_; intro vz hpz kz hsz; clear hsz) | (refine wpList_ld rfl (.tmp 7) rfl g7 P2 rfl HL2.out hpz ?_))
      have Kz : Keep Nob w vz := K7.trans kz (fun b hb e => by have h3 : b = g7 := e; omega)
      clear kz hp7 bO7 K7 cc2 cvb sa hq2
      refine (HB2.out _).mono ?_; rintro e w9 ⟨x9, rfl, ⟨A9, c9, rfl, -, r9⟩, k9⟩
      have hp9 := hpz.nob k9
      have K9 := Kz.nobt k9
      have cv9 := fun c => gives_str (c := c) r9
      have c19 := (cells4 hp9).2.1
      have sb := HSB.out
      generalize str (has P2) = Sp at *
      clear hpz Kz k9 r9 HB2
      go_wp2_with fail
      go_round
      case rel => exact ⟨i + 1, P2, li2, lo, by omega, by go_num, by rw [HS2.out], by rw [HSo.out], HIO2.out, HO2.out, HL2.out, HLEN2.out, hp9, K9⟩
      case measure => simp [intOf]; omega
    · have ho1 : (oa == 0) = false := by simpa using ho
      obtain ⟨P2, tl, hP2⟩ : ∃ R n, ptake P ov = (R, n) := ⟨_, _, rfl⟩
      have hl2 : P2.d.length = 32 := by have := ptake_len HL.out ov; rwa [hP2] at this
      have ho2 : okd P2 = true := by have := ptake_ok HOK.out ov; rwa [hP2] at this
      have hh2 : has P = tl ++ has P2 := by have := has_take HOK.out ov; rwa [hP2] at this
      have htl : tl.length = min ov.toNat P.c.toNat := by have := take_len HOK.out ov; rw [hP2] at this; exact this
      obtain ⟨e, he⟩ : ∃ e : Int, (if ov < 0 then 0 else ov) = e := ⟨_, rfl⟩
      have hmin : (if P.c < e then P.c else e) = (tl.length : Int) := by
        subst he
        split <;> split <;> omega
      have hp := fun w => take_is P HL.out ov w P2 tl hP2
      have hb2 := fun w => bytes_is P2 hl2 w
      unfold pv at hp hb2
      have HP := Lib.hid hp
      have HB2 := Lib.hid hb2
      have HO2 := Lib.hid ho2
      have HL2 := Lib.hid hl2
      have hB2 := (okd_bounds ho2).c
      have hll := HLEN.out
      obtain ⟨lo2, hlo2⟩ : ∃ x, lo ++ tl = x := ⟨_, rfl⟩
      have hio2 : li = lo2 ++ has P2 := by rw [← hlo2, HIO.out, hh2, List.append_assoc]
      have hlo3 : lo2.length + (has P2).length = li.length := by rw [hio2, List.length_append]
      have hlo4 : lo.length + tl.length = lo2.length := by rw [← hlo2, List.length_append]
      have sa := fun W => str_add lo tl (by omega) W
      have sb := fun W => str_add lo2 (has P2) (by omega) W
      rw [← hio2] at sb
      rw [hlo2] at sa
      rw [HSi.out] at sb
      rw [HSo.out] at sa
      have HIO2 := Lib.hid hio2
      have HSA := Lib.hid sa
      have HSB := Lib.hid sb
      clear hP2 hl2 ho2 hh2 htl hp hb2 hll sa sb hio2 hlo2 hlo3 hlo4
      go_wp2_with (refine wpList_ld rfl (.tmp 7) rfl g7 P rfl HL.out hp5 ?_)
      refine (HP.out _).mono ?_; rintro e w6 ⟨x6, rfl, ⟨A6, c6, rfl, -, r6⟩, k6⟩
      have hp6 := hp5.nob k6
      have bO6 := bO.nob k6
      have K6 := K5.nobt k6
      have hne6 : wr.heap.size ≠ w6.heap.size := by have := bO6.lt; omega
      have hnp6 : g7 ≠ w6.heap.size := by have := hp6.lt; omega
      have hge6 : w.heap.size ≤ w6.heap.size := K6.size
      clear hp5 bO K5 rb5 k6 HP c1 f0 f1 f2
      go_upto_region 20 with (first | (refine wpList_al rfl rfl ?_; intro v1 hq1 k1 hs1; clear hs1) | (refine wpList_st rfl (.tmp 15) _ rfl w6.heap.size P2 noP rfl rfl HL2.out rfl hq1 ?_; intro v2 hq2 k2 hs2; clear hs2))
      have kk : Keep (· = w6.heap.size) w6 v2 := (k1.mono (M' := (· = w6.heap.size)) (fun _ _ f => f.elim)).trans k2 (fun _ _ h => h)
      have hp7 := hp6.keep kk hnp6
      have bO7 := bO6.keep kk hne6
      have K7 : Keep Nob w v2 := K6.trans kk (fun b hb e => by have h3 : b = w6.heap.size := e; omega)
      have r7 := r6.fresh kk
      have cc1 : v2.cell? ⟨wr.heap.size, 1, none⟩ = some (.int .i64 ov) := bO7.cell 1
      have c17 := (cells4 hp7).2.1
      have cvb := fun c => gives_str (c := c) r7
      have sa := HSA.out
      clear kk k1 k2 hq1 hp6 bO6 K6 r6 r7 HSA
      generalize str tl = T at *
      generalize hS2 : str lo2 = S2 at *
      have HS2 := Lib.hid hS2
      clear hS2
      go_wp2_with (first | (refine wpList_ld rfl (.tmp 15) rfl w6.heap.size P2 rfl HL2.out hq2 ?_) | (refine wpList_st rfl (.tmp 7) _ rfl g7 P2 P rfl rfl HL2.out HL.out hp7 ?_; intro vz hpz kz hsz; clear hsz) | (refine wpList_ld rfl (.tmp 7) rfl g7 P2 rfl HL2.out hpz ?_))
      have Kz : Keep Nob w vz := K7.trans kz (fun b hb e => by have h3 : b = g7 := e; omega)
      clear kz hp7 bO7 K7 cc1 cvb sa hq2 c17 he hmin
      refine (HB2.out _).mono ?_; rintro e w9 ⟨x9, rfl, ⟨A9, c9, rfl, -, r9⟩, k9⟩
      have hp9 := hpz.nob k9
      have K9 := Kz.nobt k9
      have cv9 := fun c => gives_str (c := c) r9
      have c19 := (cells4 hp9).2.1
      have sb := HSB.out
      generalize str (has P2) = Sp at *
      clear hpz Kz k9 r9 HB2
      go_wp2_with fail
      go_round
      case rel => exact ⟨i + 1, P2, li, lo2, by omega, by go_num, by rw [HSi.out], by rw [HS2.out], HIO2.out, HO2.out, HL2.out, by have := HLEN.out; omega, hp9, K9⟩
      case measure => simp [intOf]; omega
theorem RingQueue_walk (w : World) (a0 : Int) (w0 : (Lit.int .i64 a0).wf = true) (A1 : Option Addr) (n1 c1 : Nat) (x1 : Ty.den (.sl 1 .byte)) (w1 : Holds w (.sl 1 .byte) x1 [.slice A1 n1 c1]) (A2 : Option Addr) (n2 c2 : Nat) (x2 : Ty.den (.sl 40 (.pair (.int .i64) (.pair (.int .i64) (.pair (.sl 1 .byte) .unit))))) (w2 : Holds w (.sl 40 (.pair (.int .i64) (.pair (.int .i64) (.pair (.sl 1 .byte) .unit)))) x2 [.slice A2 n2 c2]) :
    Calls Try.prog 6 #[.int .i64 a0, .slice A1 n1 c1, .slice A2 n2 c2] w fun e w' => e = .returned (.bool true) ∧ Below w.heap.size w w' :=
  RingQueue_in w a0 A1 n1 c1 x1 (holds_bytes w1).2.1 A2 n2 c2 x2 w2
end Go.Proofs.Ytojciodjffahnaa
