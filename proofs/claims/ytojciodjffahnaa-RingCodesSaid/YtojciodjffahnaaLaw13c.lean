/- The walk of RingPlays; a pipe that comes in. -/
import Derived.Test.YtojciodjffahnaaRinO
import Derived.Test.YtojciodjffahnaaRinD
import Derived.Test.YtojciodjffahnaaRinF
import Derived.Test.YtojciodjffahnaaLaw13e
namespace Go.Proofs.Ytojciodjffahnaa
open Go.RowKit Ri
set_option linter.unusedVariables false
set_option linter.unusedSimpArgs false
/-- So many bytes, one behind the other. -/
def arrTy : Nat → Ty
  | 0 => .unit
  | n + 1 => .pair .byte (arrTy n)
theorem arr_read {w : World} : ∀ (n : Nat) (x : (arrTy n).den) (cs : List Value), Holds w (arrTy n) x cs → ∃ l : List UInt8, l.length = n ∧ cs = bytes l
  | 0, _, cs, h => ⟨[], rfl, h⟩
  | n + 1, (b, x), cs, h => by
    obtain ⟨c0, r0, e0, h0, t0⟩ := h
    obtain ⟨l, hl, rfl⟩ := arr_read n x r0 t0
    have h0 : c0 = [.int .u8 (b.toNat : Int)] := h0
    exact ⟨(show UInt8 from b) :: l, by show l.length + 1 = n + 1; rw [hl], by rw [e0, h0]; rfl⟩
def PipeTy : Ty := .pair (.int .i64) (.pair (.int .i64) (.pair (.int .i64) (.pair (.int .i64) (.pair (arrTy 32) .unit))))
theorem pipe_read {w : World} {s : Array Value} {x : PipeTy.den} (h : Holds w PipeTy x s.toList) : ∃ P : Pp, P.d.length = 32 ∧ s = (pc P).toArray := by
  obtain ⟨a, b, c, d, e, u⟩ := x
  obtain ⟨c0, r0, e0, ⟨h0, f0⟩, t0⟩ := h
  obtain ⟨c1, r1, e1, ⟨h1, f1⟩, t1⟩ := t0
  obtain ⟨c2, r2, e2, ⟨h2, f2⟩, t2⟩ := t1
  obtain ⟨c3, r3, e3, ⟨h3, f3⟩, t3⟩ := t2
  obtain ⟨c4, r4, e4, h4, t4⟩ := t3
  obtain ⟨l, hl, rfl⟩ := arr_read 32 e c4 h4
  have t4 : r4 = [] := t4
  refine ⟨⟨a, b, c, d, l⟩, hl, ?_⟩
  have : s.toList = pc ⟨a, b, c, d, l⟩ := by
    rw [e0, e1, e2, e3, e4, h0, h1, h2, h3, t4]
    simp [pc]
  rw [← this, Array.toArray_toList]
theorem take99 (P : Pp) : (ptake P 99).2 = has P := by
  unfold ptake has
  split
  · rename_i h
    have := (okd_bounds h).c
    have : few P 99 = P.c.toNat := by unfold few; omega
    rw [this]
  · rfl
set_option maxHeartbeats 8000000 in
set_option maxRecDepth 100000 in
theorem RingPlays_in (w : World) (P0 : Pp) (hl0 : P0.d.length = 32) (a1 : Int) (A2 : Option Addr) (n2 c2 : Nat) (x2 : List UInt8) (r2 : Reads w A2 n2 (bytes x2)) (A3 : Option Addr) (n3 c3 : Nat) (x3 : Ty.den (.sl 40 OpTy13)) (w3 : Holds w (.sl 40 OpTy13) x3 [.slice A3 n3 c3]) :
    Calls Try.prog 5 #[pv P0, .int .i64 a1, .slice A2 n2 c2, .slice A3 n3 c3] w fun e w' => e = .returned (.bool true) ∧ Below w.heap.size w w' := by
  unfold pv
  by_cases h100 : 100 < n2
  · go_enter Try.func5, Try.ntmps5
    go_wp2_with (refine wpList_box rfl 26 _ rfl _ rfl ?_; intro w1 hb1 hk1 hs1; clear hs1)
    refine (awake_is _).mono ?_; rintro e w1 ⟨rfl, k1⟩
    have K1 := hk1.nobt k1
    go_wp2
    go_ret
    exact ⟨rfl, K1.below (Nat.le_refl _) (fun _ _ f => f)⟩
  have W3 := Lib.hid w3
  have HM := Lib.hid (fun w (hr : Reads w A2 n2 (bytes x2)) => made_is a1 A2 n2 c2 x2 w hr (made a1 x2) rfl)
  have hml := made_len a1 x2
  generalize made a1 x2 = M at *
  have HML := Lib.hid hml
  have HL0 := Lib.hid hl0
  have HR2 := Lib.hid r2
  unfold pv at HM
  clear w3 hml hl0 r2
  go_enter Try.func5, Try.ntmps5
  go_wp2_with (first | (refine wpList_box rfl 26 _ rfl _ rfl ?_; intro w1 hb1 hk1 hs1; clear hs1; have hb1 : Blk w1 w.heap.size 26 (pc P0) := hb1) | (refine wpList_al rfl rfl ?_; intro v1 hp1 k1 hs1; clear hs1) | (refine wpList_ld rfl (.tmp 4) rfl w.heap.size P0 rfl HL0.out hb1 ?_) | (refine wpList_st rfl (.tmp 9) _ rfl w1.heap.size P0 noP rfl rfl HL0.out rfl hp1 ?_; intro v2 hp2 k2 hs2; clear hs2))
  have K2 : Keep Nob w v2 := (hk1.nobt k1).trans k2 (fun b hb e => by have h3 : b = w1.heap.size := e; have := hk1.size; omega)
  have hg9 : w.heap.size ≤ w1.heap.size := hk1.size
  clear hp1 k1 k2 hk1 hb1
  generalize w1.heap.size = g9 at *
  go_loopw [10] (fun s10 wx => ∃ (k : Nat) (P : Pp), k ≤ 2 ∧ s10 = .int .i64 k ∧ P.d.length = 32 ∧ Blk wx g9 26 (pc P) ∧ Keep Nob w wx) (fun s10 _ => 2 - (intOf s10).toNat)
  case atStart => exact ⟨0, P0, Nat.zero_le _, rfl, HL0.out, hp2, K2⟩
  case round =>
    obtain ⟨k, P, hk, rfl, hl, hp3, K3⟩ := hrel
    clear hp2 K2
    have HL := Lib.hid hl
    clear hl
    by_cases hlt : k < 2
    rotate_left
    · go_wp2_with fail
      refine (awake_is _).mono ?_; rintro e w4 ⟨rfl, k4⟩
      have K4 := K3.nobt k4
      go_wp2
      go_ret
      exact ⟨rfl, K4.below (Nat.le_refl _) (fun _ _ f => f)⟩
    have hsz := hp3.lt
    have hw0 : w.heap.size ≤ wr.heap.size := K3.size
    go_wp2_with (first | (refine wpList_al rfl rfl ?_; intro v1 hq1 k1 hs1; clear hs1) | (refine wpList_ld rfl (.tmp 9) rfl g9 P rfl HL.out hp3 ?_) | (refine wpList_st rfl (.tmp 11) _ rfl wr.heap.size P noP rfl rfl HL.out rfl hq1 ?_; intro v2 hq2 k2 hs2; clear hs2))
    have kk : Keep (· = wr.heap.size) wr v2 := (k1.mono (M' := (· = wr.heap.size)) (fun _ _ f => f.elim)).trans k2 (fun _ _ h => h)
    have hp4 := hp3.keep kk (Nat.ne_of_lt hsz)
    have K4 : Keep Nob w v2 := K3.trans kk (fun b hb e => by have h3 : b = wr.heap.size := e; omega)
    have hne : g9 ≠ wr.heap.size := Nat.ne_of_lt hsz
    clear kk k1 k2 hq1 hp3 K3 hsz
    generalize wr.heap.size = g11 at *
    go_loopw [12] (fun s12 wx => ∃ (i : Nat) (Q : Pp), i ≤ 40 ∧ s12 = .int .i64 i ∧ Q.d.length = 32 ∧ Blk wx g9 26 (pc Q) ∧ Blk wx g11 26 (pc Q) ∧ Keep Nob w wx) (fun s12 _ => 40 - (intOf s12).toNat)
    case atStart => exact ⟨0, P, Nat.zero_le _, rfl, HL.out, hp4, hq2, K4⟩
    case round =>
      obtain ⟨i, Q, hi, rfl, hlq, hp5, hq5, K5⟩ := hrel
      clear hp4 hq2 K4
      have HLQ := Lib.hid hlq
      clear hlq
      obtain ⟨bo, hbo⟩ : ∃ bo, bo = decide (i < n3 ∧ i < 40) := ⟨_, rfl⟩
      have Hbo := Lib.hid hbo
      clear hbo
      generalize hwr : wr = v3 at *
      clear hwr
      go_upto_region 9 with fail
      go_cut [41] from 34 to 41 (fun s41 wx => s41 = .bool bo ∧ wx = v3)
      case first =>
        by_cases h1 : i < n3
        · by_cases h2 : i < 40
          · have h3 : decide (i < n3 ∧ i < 40) = true := by simp [h1, h2]
            go_wp2_with fail
            go_meet
            exact ⟨by (try rw [Hbo.out, h3]); (first | rfl | exact congrArg Value.bool (decide_eq_true (by omega)) | exact congrArg Value.bool (decide_eq_false (by omega)) | skip), rfl⟩
          · have h3 : decide (i < n3 ∧ i < 40) = false := by simp [h2]
            go_wp2_with fail
            go_meet
            exact ⟨by (try rw [Hbo.out, h3]); (first | rfl | exact congrArg Value.bool (decide_eq_true (by omega)) | exact congrArg Value.bool (decide_eq_false (by omega)) | skip), rfl⟩
        · have h3 : decide (i < n3 ∧ i < 40) = false := by simp [h1]
          go_wp2_with fail
          go_meet
          exact ⟨by (try rw [Hbo.out, h3]); (first | rfl | exact congrArg Value.bool (decide_eq_true (by omega)) | exact congrArg Value.bool (decide_eq_false (by omega)) | skip), rfl⟩
      case rest =>
      obtain ⟨rfl, hw⟩ := hcut
      have hw := hw.symm
      subst hw
      cases bo with
      | false =>
        go_wp2_with fail
        refine (HM.out _ (HR2.out.nob K5)).mono ?_; rintro e w6 ⟨rfl, k6⟩
        have hp6 := hp5.nob k6
        have K6 := K5.nobt k6
        clear hp5 hq5 K5 k6
        go_wp2_with (refine wpList_st rfl (.tmp 9) _ rfl g9 M Q rfl rfl HML.out HLQ.out hp6 ?_; intro w7 hp7 k7 hs7; clear hs7)
        have K7 : Keep Nob w w7 := K6.trans k7 (fun b hb e => by have h3 : b = g9 := e; omega)
        go_round
        case rel => exact ⟨k + 1, M, by omega, by go_num, HML.out, hp7, K7⟩
        case measure => simp [intOf]; omega
      | true =>
      obtain ⟨hin, hi2⟩ : i < n3 ∧ i < 40 := of_decide_eq_true Hbo.out.symm
      obtain ⟨bb, off, oa, ov, B, m, cB, l, rfl, hf, hmc, hlm⟩ := op13_at W3.out hin
      obtain ⟨f0, f1, f2, rb⟩ := hf _ K5
      have kO := (Keep.refl Nob v3).alloc (.cells #[.int .i64 oa, .int .i64 ov, .slice B m cB] 43)
      have bO : Blk (v3.alloc (.cells #[.int .i64 oa, .int .i64 ov, .slice B m cB] 43)) v3.heap.size 43 [.int .i64 oa, .int .i64 ov, .slice B m cB] := Blk.new v3 43 _
      have hp6 := hp5.nob kO
      have hq6 := hq5.nob kO
      have K6 := K5.nobt kO
      have rb6 := rb.nob kO
      have HLM := Lib.hid hlm
      clear hp5 hq5 K5 rb kO hf hlm
      by_cases hm200 : 200 < m
      · go_wp2_with fail
        refine (awake_is _).mono ?_; rintro e w6 ⟨rfl, k6⟩
        have K7 := K6.nobt k6
        go_wp2
        go_ret
        exact ⟨rfl, K7.below (Nat.le_refl _) (fun _ _ f => f)⟩
      by_cases ho : oa = 0
      · subst ho
        obtain ⟨P2, cnt, hP2⟩ : ∃ R n, pput Q l = (R, n) := ⟨_, _, rfl⟩
        have hl2 : P2.d.length = 32 := by have := pput_len HLQ.out l; rwa [hP2] at this
        have hp := fun w (hr : Reads w B m (bytes l)) => put_is Q HLQ.out B m cB l w hr hmc (by omega) P2 cnt hP2
        have hrp := fun w => rput_is Q HLQ.out l w (by rw [HLM.out]; omega) P2 cnt hP2
        have h99 := take99 P2
        obtain ⟨P9, l9, hP9⟩ : ∃ R l, ptake P2 99 = (R, l) := ⟨_, _, rfl⟩
        have hl9 : P9.d.length = 32 := by have := ptake_len hl2 99; rwa [hP9] at this
        rw [hP9] at h99
        have h99 : l9 = has P2 := h99
        subst h99
        have ht9 := fun w => rtake_is P2 hl2 99 w P9 _ hP9
        have hb2 := fun w => bytes_is P2 hl2 w
        have hne2 := fun W => ne_pv P2 P2 hl2 hl2 true (same_refl P2) W
        unfold pv at hp hrp ht9 hb2 hne2
        have HP := Lib.hid hp
        have HRP := Lib.hid hrp
        have HT9 := Lib.hid ht9
        have HB2 := Lib.hid hb2
        have HL2 := Lib.hid hl2
        have HL9 := Lib.hid hl9
        have HNE := Lib.hid hne2
        clear hP2 hl2 hP9 hl9 hp hrp ht9 hb2 hne2
        go_wp2_with (refine wpList_ld rfl (.tmp 9) rfl g9 Q rfl HLQ.out hp6 ?_)
        refine (HP.out _ rb6).mono ?_; rintro e w7 ⟨rfl, k7⟩
        have hp7 := hp6.nob k7
        have hq7 := hq6.nob k7
        have bO7 := bO.nob k7
        have K7 := K6.nobt k7
        have rb7 := rb6.nob k7
        clear hp6 hq6 bO K6 rb6 k7 HP f0 f1 f2
        go_upto_region 16 with (first | (refine wpList_al rfl rfl ?_; intro v7a hn7a ka7 sa7; clear sa7) | (refine wpList_st rfl (.tmp 14) _ rfl w7.heap.size P2 noP rfl rfl HL2.out rfl hn7a ?_; intro v7b hn7 kb7 sb7; clear sb7))
        have kk7 : Keep (· = w7.heap.size) w7 v7b := (ka7.mono (M' := (· = w7.heap.size)) (fun _ _ f => f.elim)).trans kb7 (fun _ _ h => h)
        have hp8 := hp7.keep kk7 (Nat.ne_of_lt hp7.lt)
        have hq8 := hq7.keep kk7 (Nat.ne_of_lt hq7.lt)
        have bO8 := bO7.keep kk7 (Nat.ne_of_lt bO7.lt)
        have K8 : Keep Nob w v7b := K7.trans kk7 (fun b hb e => by have h3 : b = w7.heap.size := e; have := K7.size; omega)
        have rb8 : Reads v7b B m (bytes l) := reads_fresh rb7 kk7
        have cc2 : v7b.cell? ⟨v3.heap.size, 2, none⟩ = some (.slice B m cB) := bO8.cell 2
        have cvb := fun c => run_str (P := Try.prog) v7b 22 9 5 B m c l Try.underlying22 Try.underlying5 Try.underlying9 rb8
        have n149 : g9 ≠ w7.heap.size := Nat.ne_of_lt hp7.lt
        have n1411 : g11 ≠ w7.heap.size := Nat.ne_of_lt hq7.lt
        have hge7 : w.heap.size ≤ w7.heap.size := K7.size
        clear hp7 hq7 bO7 K7 rb7 rb8 ka7 kb7 hn7a kk7
        generalize w7.heap.size = g14 at *
        go_wp2_with (refine wpList_ld rfl (.tmp 11) rfl g11 Q rfl HLQ.out hq8 ?_)
        refine (HRP.out _).mono ?_; rintro e w8 ⟨rfl, k8⟩
        have hp9 := hp8.nob k8
        have hq9 := hq8.nob k8
        have hn9 := hn7.nob k8
        have K9 := K8.nobt k8
        clear hp8 hq8 hn7 bO8 K8 k8 HRP cc2 cvb
        go_upto_region 17 with (first | (refine wpList_al rfl rfl ?_; intro v8a hn8a ka8 sa8; clear sa8) | (refine wpList_st rfl (.tmp 16) _ rfl w8.heap.size P2 noP rfl rfl HL2.out rfl hn8a ?_; intro v8b hn8 kb8 sb8; clear sb8))
        have kk8 : Keep (· = w8.heap.size) w8 v8b := (ka8.mono (M' := (· = w8.heap.size)) (fun _ _ f => f.elim)).trans kb8 (fun _ _ h => h)
        have hpa := hp9.keep kk8 (Nat.ne_of_lt hp9.lt)
        have hqa := hq9.keep kk8 (Nat.ne_of_lt hq9.lt)
        have hna := hn9.keep kk8 (Nat.ne_of_lt hn9.lt)
        have Ka : Keep Nob w v8b := K9.trans kk8 (fun b hb e => by have h3 : b = w8.heap.size := e; have := K9.size; omega)
        have n169 : g9 ≠ w8.heap.size := Nat.ne_of_lt hp9.lt
        have n1611 : g11 ≠ w8.heap.size := Nat.ne_of_lt hq9.lt
        clear hp9 hq9 hn9 K9 ka8 kb8 hn8a kk8
        generalize w8.heap.size = g16 at *
        have hne2 := HNE.out
        go_upto_region 19 with (first | (refine wpList_ld rfl (.tmp 14) rfl g14 P2 rfl HL2.out hna ?_) | (refine wpList_ld rfl (.tmp 16) rfl g16 P2 rfl HL2.out hn8 ?_))
        clear hne2
        refine wp_region_held_drew (S := (fun w' => Blk w' g14 26 (pc P2) ∧ Blk w' g16 26 (pc P2))) (by kernel_rfl) ⟨hna.drew, hn8.drew⟩ (fun hHeld => ?_)
        have hpd := hpa.drew
        have hqd := hqa.drew
        have h1d := hna.drew
        have h2d := hn8.drew
        have Kd := Ka.drew
        generalize v8b.drew = wd at *
        refine wpAnyH_take (i := 0) (v := ?_) rfl (by kernel_rfl) (by kernel_rfl) (by kernel_rfl) (fun _ _ _ h => h) (Or.inl ⟨by rfl, ?_⟩) (by assumption) ?_
        rotate_left
        · (intro w hSw; (try dsimp only at hSw); obtain ⟨sa, sb⟩ := hSw; refine exec_load (x := .tmp 14) ?_ ?_ HL2.out sa <;> rfl)
        try simp only [Act.put, List.getElem_toArray, List.getElem_cons_zero, List.getElem_cons_succ, List.setIfInBounds_toArray, List.set_cons_zero, List.set_cons_succ]
        refine wpAnyH_take (i := 1) (v := ?_) rfl (by kernel_rfl) (by kernel_rfl) (by kernel_rfl) (fun _ _ _ h => h) (Or.inl ⟨by rfl, ?_⟩) (by assumption) ?_
        rotate_left
        · (intro w hSw; (try dsimp only at hSw); obtain ⟨sa, sb⟩ := hSw; refine exec_load (x := .tmp 16) ?_ ?_ HL2.out sb <;> rfl)
        try simp only [Act.put, List.getElem_toArray, List.getElem_cons_zero, List.getElem_cons_succ, List.setIfInBounds_toArray, List.set_cons_zero, List.set_cons_succ]
        refine wpAnyH_ready (rs := [2]) (by kernel_rfl) (by simp) ?_
        refine AllReadyH.cons rfl (fun K hK => ?_) AllReadyH.nil
        rw [if_pos (by rfl)]
        refine wp_store_ (old := Q) (q := P2) rfl rfl rfl HL2.out HLQ.out hpd ?_
        have hpe : Blk _ g9 26 (pc P2) := hpd.setRow _
        refine hK.out _ _ ?_ (fun hHeld => ?_)
        · exact ⟨h1d.setRow_far (Ne.symm n149) _, h2d.setRow_far (Ne.symm n169) _⟩
        clear hK K
        try simp only [Act.put, List.getElem_toArray, List.getElem_cons_zero, List.getElem_cons_succ, List.setIfInBounds_toArray, List.set_cons_zero, List.set_cons_succ]
        refine wpAnyH_ready (rs := [3]) (by kernel_rfl) (by simp) ?_
        refine AllReadyH.cons rfl (fun K hK => ?_) AllReadyH.nil
        rw [if_pos (by rfl)]
        refine wp_store_ (old := Q) (q := P2) rfl rfl rfl HL2.out HLQ.out (hqd.setRow_far (Ne.symm hne) _) ?_
        have hqf : Blk _ g11 26 (pc P2) := (hqd.setRow_far (Ne.symm hne) (pc P2).toArray).setRow (pc P2)
        have hpf := hpe.setRow_far hne (pc P2).toArray
        have Kf := (Kd.setRow g9 (pc P2).toArray (fun h => absurd h (by omega))).setRow g11 (pc P2).toArray (fun h => absurd h (by omega))
        refine hK.out _ _ ?_ (fun hHeld => ?_)
        · exact ⟨(h1d.setRow_far (Ne.symm n149) _).setRow_far (Ne.symm n1411) _, (h2d.setRow_far (Ne.symm n169) _).setRow_far (Ne.symm n1611) _⟩
        clear hK K
        try simp only [Act.put, List.getElem_toArray, List.getElem_cons_zero, List.getElem_cons_succ, List.setIfInBounds_toArray, List.set_cons_zero, List.set_cons_succ]
        refine wpAnyH_done (by kernel_rfl) ?_ _
        clear hpd hqd h1d h2d Kd hpe
        generalize (wd.setRow g9 (pc P2).toArray).setRow g11 (pc P2).toArray = we at *
        go_wp2_with (refine wpList_ld rfl (.tmp 11) rfl g11 P2 rfl HL2.out hqf ?_)
        refine (HT9.out _).mono ?_; rintro e w9 ⟨rfl, k9⟩
        have hp9 := hpf.nob k9
        have hq9 := hqf.nob k9
        have K9 := Kf.nobt k9
        clear hpf hqf Kf k9 HT9
        go_wp2_with (first | (refine wpList_al rfl rfl ?_; intro v9a hn9a ka9 sa9; clear sa9) | (refine wpList_st rfl (.tmp 22) _ rfl w9.heap.size P9 noP rfl rfl HL9.out rfl hn9a ?_; intro v9b hn9 kb9 sb9; clear sb9; have hp10 := (hp9.nob ka9).keep kb9 (Nat.ne_of_lt hp9.lt)) | (refine wpList_ld rfl (.tmp 9) rfl g9 P2 rfl HL2.out hp10 ?_))
        have kk9 : Keep (· = w9.heap.size) w9 v9b := (ka9.mono (M' := (· = w9.heap.size)) (fun _ _ f => f.elim)).trans kb9 (fun _ _ h => h)
        have hq10 := hq9.keep kk9 (Nat.ne_of_lt hq9.lt)
        have K10 : Keep Nob w v9b := K9.trans kk9 (fun b hb e => by have h3 : b = w9.heap.size := e; have := K9.size; omega)
        refine (HB2.out _).mono ?_; rintro e wA ⟨xA, rfl, ⟨AA, cA, rfl, -, rA⟩, kA⟩
        have hpA := hp10.nob kA
        have hqA := hq10.nob kA
        have KA := K10.nobt kA
        have cvA := fun c => gives_str (c := c) rA
        clear hp10 hq10 K10 kA rA HB2 hp9 hq9 K9 kk9 ka9 kb9 hn9a hn9
        generalize str (has P2) = Sx at *
        go_wp2_with fail
        go_round
        case rel => exact ⟨i + 1, P2, by omega, by go_num, HL2.out, hpA, hqA, KA⟩
        case measure => simp [intOf]; omega
      · have ho1 : (oa == 0) = false := by simpa using ho
        obtain ⟨P2, tl, hP2⟩ : ∃ R n, ptake Q ov = (R, n) := ⟨_, _, rfl⟩
        have hl2 : P2.d.length = 32 := by have := ptake_len HLQ.out ov; rwa [hP2] at this
        have hp := fun w => take_is Q HLQ.out ov w P2 tl hP2
        have hrp := fun w => rtake_is Q HLQ.out ov w P2 tl hP2
        have h99 := take99 P2
        obtain ⟨P9, l9, hP9⟩ : ∃ R l, ptake P2 99 = (R, l) := ⟨_, _, rfl⟩
        have hl9 : P9.d.length = 32 := by have := ptake_len hl2 99; rwa [hP9] at this
        rw [hP9] at h99
        have h99 : l9 = has P2 := h99
        subst h99
        have ht9 := fun w => rtake_is P2 hl2 99 w P9 _ hP9
        have hb2 := fun w => bytes_is P2 hl2 w
        have hne2 := fun W => ne_pv P2 P2 hl2 hl2 true (same_refl P2) W
        unfold pv at hp hrp ht9 hb2 hne2
        have HP := Lib.hid hp
        have HRP := Lib.hid hrp
        have HT9 := Lib.hid ht9
        have HB2 := Lib.hid hb2
        have HL2 := Lib.hid hl2
        have HL9 := Lib.hid hl9
        have HNE := Lib.hid hne2
        clear hP2 hl2 hP9 hl9 hp hrp ht9 hb2 hne2
        go_wp2_with (refine wpList_ld rfl (.tmp 9) rfl g9 Q rfl HLQ.out hp6 ?_)
        refine (HP.out _).mono ?_; rintro e w7 ⟨x7, rfl, ⟨A7, c7, rfl, -, r7⟩, k7⟩
        have hp7 := hp6.nob k7
        have hq7 := hq6.nob k7
        have bO7 := bO.nob k7
        have K7 := K6.nobt k7
        clear hp6 hq6 bO K6 rb6 k7 HP f0 f1 f2
        go_upto_region 21 with (first | (refine wpList_al rfl rfl ?_; intro v7a hn7a ka7 sa7; clear sa7) | (refine wpList_st rfl (.tmp 18) _ rfl w7.heap.size P2 noP rfl rfl HL2.out rfl hn7a ?_; intro v7b hn7 kb7 sb7; clear sb7))
        have kk7 : Keep (· = w7.heap.size) w7 v7b := (ka7.mono (M' := (· = w7.heap.size)) (fun _ _ f => f.elim)).trans kb7 (fun _ _ h => h)
        have hp8 := hp7.keep kk7 (Nat.ne_of_lt hp7.lt)
        have hq8 := hq7.keep kk7 (Nat.ne_of_lt hq7.lt)
        have bO8 := bO7.keep kk7 (Nat.ne_of_lt bO7.lt)
        have r8 := r7.fresh kk7
        have K8 : Keep Nob w v7b := K7.trans kk7 (fun b hb e => by have h3 : b = w7.heap.size := e; have := K7.size; omega)
        have cc1 : v7b.cell? ⟨v3.heap.size, 1, none⟩ = some (.int .i64 ov) := bO8.cell 1
        have n189 : g9 ≠ w7.heap.size := Nat.ne_of_lt hp7.lt
        have n1811 : g11 ≠ w7.heap.size := Nat.ne_of_lt hq7.lt
        have hge7 : w.heap.size ≤ w7.heap.size := K7.size
        clear hp7 hq7 bO7 K7 r7 ka7 kb7 hn7a kk7
        generalize w7.heap.size = g18 at *
        go_wp2_with (refine wpList_ld rfl (.tmp 11) rfl g11 Q rfl HLQ.out hq8 ?_)
        refine (HRP.out _).mono ?_; rintro e w8 ⟨rfl, k8⟩
        have hp9 := hp8.nob k8
        have hq9 := hq8.nob k8
        have hn9 := hn7.nob k8
        have K9 := K8.nobt k8
        have r9 := r8.nob k8
        clear hp8 hq8 hn7 bO8 K8 k8 HRP cc1 r8
        go_upto_region 22 with (first | (refine wpList_al rfl rfl ?_; intro v8a hn8a ka8 sa8; clear sa8) | (refine wpList_st rfl (.tmp 20) _ rfl w8.heap.size P2 noP rfl rfl HL2.out rfl hn8a ?_; intro v8b hn8 kb8 sb8; clear sb8))
        have kk8 : Keep (· = w8.heap.size) w8 v8b := (ka8.mono (M' := (· = w8.heap.size)) (fun _ _ f => f.elim)).trans kb8 (fun _ _ h => h)
        have hpa := hp9.keep kk8 (Nat.ne_of_lt hp9.lt)
        have hqa := hq9.keep kk8 (Nat.ne_of_lt hq9.lt)
        have hna := hn9.keep kk8 (Nat.ne_of_lt hn9.lt)
        have ra := r9.fresh kk8
        have Ka : Keep Nob w v8b := K9.trans kk8 (fun b hb e => by have h3 : b = w8.heap.size := e; have := K9.size; omega)
        have n209 : g9 ≠ w8.heap.size := Nat.ne_of_lt hp9.lt
        have n2011 : g11 ≠ w8.heap.size := Nat.ne_of_lt hq9.lt
        clear hp9 hq9 hn9 K9 ka8 kb8 hn8a kk8 r9
        generalize w8.heap.size = g20 at *
        have cva := fun c => gives_str (c := c) ra
        generalize str tl = T at *
        have hne2 := HNE.out
        go_upto_region 24 with (first | (refine wpList_ld rfl (.tmp 18) rfl g18 P2 rfl HL2.out hna ?_) | (refine wpList_ld rfl (.tmp 20) rfl g20 P2 rfl HL2.out hn8 ?_))
        clear hne2 cva ra
        refine wp_region_held_drew (S := (fun w' => Blk w' g18 26 (pc P2) ∧ Blk w' g20 26 (pc P2))) (by kernel_rfl) ⟨hna.drew, hn8.drew⟩ (fun hHeld => ?_)
        have hpd := hpa.drew
        have hqd := hqa.drew
        have h1d := hna.drew
        have h2d := hn8.drew
        have Kd := Ka.drew
        generalize v8b.drew = wd at *
        refine wpAnyH_take (i := 0) (v := ?_) rfl (by kernel_rfl) (by kernel_rfl) (by kernel_rfl) (fun _ _ _ h => h) (Or.inl ⟨by rfl, ?_⟩) (by assumption) ?_
        rotate_left
        · (intro w hSw; (try dsimp only at hSw); obtain ⟨sa, sb⟩ := hSw; refine exec_load (x := .tmp 18) ?_ ?_ HL2.out sa <;> rfl)
        try simp only [Act.put, List.getElem_toArray, List.getElem_cons_zero, List.getElem_cons_succ, List.setIfInBounds_toArray, List.set_cons_zero, List.set_cons_succ]
        refine wpAnyH_take (i := 1) (v := ?_) rfl (by kernel_rfl) (by kernel_rfl) (by kernel_rfl) (fun _ _ _ h => h) (Or.inl ⟨by rfl, ?_⟩) (by assumption) ?_
        rotate_left
        · (intro w hSw; (try dsimp only at hSw); obtain ⟨sa, sb⟩ := hSw; refine exec_load (x := .tmp 20) ?_ ?_ HL2.out sb <;> rfl)
        try simp only [Act.put, List.getElem_toArray, List.getElem_cons_zero, List.getElem_cons_succ, List.setIfInBounds_toArray, List.set_cons_zero, List.set_cons_succ]
        refine wpAnyH_ready (rs := [2]) (by kernel_rfl) (by simp) ?_
        refine AllReadyH.cons rfl (fun K hK => ?_) AllReadyH.nil
        rw [if_pos (by rfl)]
        refine wp_store_ (old := Q) (q := P2) rfl rfl rfl HL2.out HLQ.out hpd ?_
        have hpe : Blk _ g9 26 (pc P2) := hpd.setRow _
        refine hK.out _ _ ?_ (fun hHeld => ?_)
        · exact ⟨h1d.setRow_far (Ne.symm n189) _, h2d.setRow_far (Ne.symm n209) _⟩
        clear hK K
        try simp only [Act.put, List.getElem_toArray, List.getElem_cons_zero, List.getElem_cons_succ, List.setIfInBounds_toArray, List.set_cons_zero, List.set_cons_succ]
        refine wpAnyH_ready (rs := [3]) (by kernel_rfl) (by simp) ?_
        refine AllReadyH.cons rfl (fun K hK => ?_) AllReadyH.nil
        rw [if_pos (by rfl)]
        refine wp_store_ (old := Q) (q := P2) rfl rfl rfl HL2.out HLQ.out (hqd.setRow_far (Ne.symm hne) _) ?_
        have hqf : Blk _ g11 26 (pc P2) := (hqd.setRow_far (Ne.symm hne) (pc P2).toArray).setRow (pc P2)
        have hpf := hpe.setRow_far hne (pc P2).toArray
        have Kf := (Kd.setRow g9 (pc P2).toArray (fun h => absurd h (by omega))).setRow g11 (pc P2).toArray (fun h => absurd h (by omega))
        refine hK.out _ _ ?_ (fun hHeld => ?_)
        · exact ⟨(h1d.setRow_far (Ne.symm n189) _).setRow_far (Ne.symm n1811) _, (h2d.setRow_far (Ne.symm n209) _).setRow_far (Ne.symm n2011) _⟩
        clear hK K
        try simp only [Act.put, List.getElem_toArray, List.getElem_cons_zero, List.getElem_cons_succ, List.setIfInBounds_toArray, List.set_cons_zero, List.set_cons_succ]
        refine wpAnyH_done (by kernel_rfl) ?_ _
        clear hpd hqd h1d h2d Kd hpe
        generalize (wd.setRow g9 (pc P2).toArray).setRow g11 (pc P2).toArray = we at *
        go_wp2_with (refine wpList_ld rfl (.tmp 11) rfl g11 P2 rfl HL2.out hqf ?_)
        refine (HT9.out _).mono ?_; rintro e w9 ⟨rfl, k9⟩
        have hp9 := hpf.nob k9
        have hq9 := hqf.nob k9
        have K9 := Kf.nobt k9
        clear hpf hqf Kf k9 HT9
        go_wp2_with (first | (refine wpList_al rfl rfl ?_; intro v9a hn9a ka9 sa9; clear sa9) | (refine wpList_st rfl (.tmp 22) _ rfl w9.heap.size P9 noP rfl rfl HL9.out rfl hn9a ?_; intro v9b hn9 kb9 sb9; clear sb9; have hp10 := (hp9.nob ka9).keep kb9 (Nat.ne_of_lt hp9.lt)) | (refine wpList_ld rfl (.tmp 9) rfl g9 P2 rfl HL2.out hp10 ?_))
        have kk9 : Keep (· = w9.heap.size) w9 v9b := (ka9.mono (M' := (· = w9.heap.size)) (fun _ _ f => f.elim)).trans kb9 (fun _ _ h => h)
        have hq10 := hq9.keep kk9 (Nat.ne_of_lt hq9.lt)
        have K10 : Keep Nob w v9b := K9.trans kk9 (fun b hb e => by have h3 : b = w9.heap.size := e; have := K9.size; omega)
        refine (HB2.out _).mono ?_; rintro e wA ⟨xA, rfl, ⟨AA, cA, rfl, -, rA⟩, kA⟩
        have hpA := hp10.nob kA
        have hqA := hq10.nob kA
        have KA := K10.nobt kA
        have cvA := fun c => gives_str (c := c) rA
        clear hp10 hq10 K10 kA rA HB2 hp9 hq9 K9 kk9 ka9 kb9 hn9a hn9
        generalize str (has P2) = Sx at *
        go_wp2_with fail
        go_round
        case rel => exact ⟨i + 1, P2, by omega, by go_num, HL2.out, hpA, hqA, KA⟩
        case measure => simp [intOf]; omega
theorem RingPlays_walk (w : World) (s0 : Array Value) (x0 : Ty.den (.pair (.int .i64) (.pair (.int .i64) (.pair (.int .i64) (.pair (.int .i64) (.pair (.pair .byte (.pair .byte (.pair .byte (.pair .byte (.pair .byte (.pair .byte (.pair .byte (.pair .byte (.pair .byte (.pair .byte (.pair .byte (.pair .byte (.pair .byte (.pair .byte (.pair .byte (.pair .byte (.pair .byte (.pair .byte (.pair .byte (.pair .byte (.pair .byte (.pair .byte (.pair .byte (.pair .byte (.pair .byte (.pair .byte (.pair .byte (.pair .byte (.pair .byte (.pair .byte (.pair .byte (.pair .byte .unit)))))))))))))))))))))))))))))))) .unit)))))) (w0 : Holds w (.pair (.int .i64) (.pair (.int .i64) (.pair (.int .i64) (.pair (.int .i64) (.pair (.pair .byte (.pair .byte (.pair .byte (.pair .byte (.pair .byte (.pair .byte (.pair .byte (.pair .byte (.pair .byte (.pair .byte (.pair .byte (.pair .byte (.pair .byte (.pair .byte (.pair .byte (.pair .byte (.pair .byte (.pair .byte (.pair .byte (.pair .byte (.pair .byte (.pair .byte (.pair .byte (.pair .byte (.pair .byte (.pair .byte (.pair .byte (.pair .byte (.pair .byte (.pair .byte (.pair .byte (.pair .byte .unit)))))))))))))))))))))))))))))))) .unit))))) x0 s0.toList) (a1 : Int) (w1 : (Lit.int .i64 a1).wf = true) (A2 : Option Addr) (n2 c2 : Nat) (x2 : Ty.den (.sl 1 .byte)) (w2 : Holds w (.sl 1 .byte) x2 [.slice A2 n2 c2]) (A3 : Option Addr) (n3 c3 : Nat) (x3 : Ty.den (.sl 40 (.pair (.int .i64) (.pair (.int .i64) (.pair (.sl 1 .byte) .unit))))) (w3 : Holds w (.sl 40 (.pair (.int .i64) (.pair (.int .i64) (.pair (.sl 1 .byte) .unit)))) x3 [.slice A3 n3 c3]) :
    Calls Try.prog 5 #[.agg s0, .int .i64 a1, .slice A2 n2 c2, .slice A3 n3 c3] w fun e w' => e = .returned (.bool true) ∧ Below w.heap.size w w' := by
  obtain ⟨P, hl, rfl⟩ := pipe_read w0
  exact RingPlays_in w P hl a1 A2 n2 c2 x2 (holds_bytes w2).2.1 A3 n3 c3 x3 w3
end Go.Proofs.Ytojciodjffahnaa
