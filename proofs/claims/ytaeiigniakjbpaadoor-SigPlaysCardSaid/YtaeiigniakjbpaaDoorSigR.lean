/- The document's Deliver. -/
import Derived.Test.YtaeiigniakjbpaaDoorSigC
import Derived.BigRegion
import Derived.Deep.DeepCutAuto
import Derived.Deep.CutBlock
namespace Go.Proofs.YtaeiigniakjbpaaDoor.Sg
open Go.RowKit
set_option linter.unusedVariables false
set_option linter.unusedSimpArgs false
set_option maxHeartbeats 8000000 in
set_option maxRecDepth 100000 in
theorem rdeliver_is (p : Ps) (hl : p.f.length = 8) (w : World) (R : Ps) (l : List Int) (d : Int) (hP : deliver p = (R, l, d)) :
    Calls Tryd.prog 15 #[pv p] w fun e w' => ∃ x, e = .returned (.tuple #[pv R, x, .int .i64 d]) ∧ Gives w' l x ∧ Keep Nob w w' := by
  have HN := Lib.hid (fun P (hl : P.f.length = 8) w n g h => rnext_is P hl w n g h)
  have hP : dle p [] = (R, l, d) := hP
  have HL0 := Lib.hid hl
  have HP0 := Lib.hid hP
  unfold pv at *
  clear hl hP
  go_enter Tryd.func15, Tryd.ntmps15
  go_wp2_with (first | (refine wpList_box rfl 25 _ rfl _ rfl ?_; intro w1 hb hk hs; clear hs; have hb : Blk w1 w.heap.size 25 (pc p) := hb) | (refine wpList_al rfl rfl ?_; intro w2 hz hk2 hs2; clear hs2; have hb2 := hb.nob hk2; have hK2 := hk.nobt hk2; have hne : w.heap.size ≠ w1.heap.size := (by have := hb.lt; omega); have hge : w.heap.size ≤ w1.heap.size := hk.size; clear hb hk hk2; generalize w1.heap.size = gr at *))
  go_loopw [5, 6] (fun s5 s6 wx => ∃ (i : Nat) (P : Ps) (c : List Int) (A : Option Addr) (m cap : Nat), c.length = m ∧ m ≤ i ∧ s5 = .slice A m cap ∧ s6 = .int .i64 i ∧ P.f.length = 8 ∧ dle P c = (R, l, d) ∧ i + left P ≤ 15 ∧ Blk wx w.heap.size 25 (pc P) ∧ Blk wx gr 25 (pc noP) ∧ Vec wx 3 1 A m cap (ints c) ∧ (∀ x, Own A x → w.heap.size ≤ x) ∧ Keep Nob w wx) (fun _ s6 _ => 16 - (intOf s6).toNat)
  case atStart => exact ⟨0, p, [], none, 0, 0, rfl, Nat.le_refl _, rfl, rfl, HL0.out, HP0.out, by have := left_le p; omega, hb2, hz, Vec.nil _ _ _, (fun x ⟨a, ha, _⟩ => by cases ha), hK2⟩
  case round =>
    obtain ⟨i, P, c, A, m, cap, hcm, hmi, rfl, rfl, hlp, hD, hm, hb3, hz3, hv3, hA4, hK3⟩ := hrel
    clear hb2 hz hK2
    have hi15 : i ≤ 15 := by omega
    obtain ⟨n, g, hN⟩ : ∃ n g, next P = (n, g) := ⟨_, _, rfl⟩
    have HLP := Lib.hid hlp
    have HNN := Lib.hid hN
    have HD := Lib.hid hD
    have HM := Lib.hid hm
    have HCM := Lib.hid hcm
    have HMI := Lib.hid hmi
    have HA := Lib.hid hA4
    clear hlp hN hD hm hcm hA4 hmi
    go_wp2_with (refine wpList_ld rfl (.tmp 1) rfl w.heap.size P rfl HLP.out hb3 ?_)
    refine (HN.out P HLP.out _ n g HNN.out).mono ?_; rintro e w4 ⟨rfl, k4⟩
    have hb4 := hb3.nob k4
    have hz4 := hz3.nob k4
    have hv4 := hv3.nob k4
    have hK4 := hK3.nobt k4
    clear hb3 hz3 hv3 hK3 k4
    by_cases hn0 : n = 0
    · subst hn0
      obtain ⟨e1, e2⟩ := next_none HNN.out c
      have hD := HD.out
      rw [e1] at hD
      obtain ⟨rfl, rfl, rfl⟩ : P = R ∧ c = l ∧ (0 : Int) = d := by simpa using hD
      have HV := Lib.hid hv4
      clear hD e1 e2 hv4 HP0
      go_wp2_with (first | (refine wpList_ld rfl (.tmp 1) rfl w.heap.size P rfl HLP.out hb4 ?_) | (refine wpList_st rfl (.tmp 2) _ rfl gr P noP rfl rfl HLP.out rfl hz4 ?_; intro w9 hz9 k9 s9; clear s9))
      (try simp only [Exit.inBlock, Exit.then])
      refine bodyPost_ret (v := .tuple #[pv P, .slice A m cap, .int .i64 0]) (results_three rfl _ _ gr P HLP.out rfl hz9 _ _ rfl rfl) rfl ?_
      have e := HCM.out
      subst e
      exact ⟨_, rfl, ⟨A, cap, rfl, vec_far HV.out k9 hz4⟩, hK4.trans k9 (fun b hb e => by have h3 : b = gr := e; omega)⟩
    obtain ⟨hs1, hn15, hg, l2, hr⟩ := next_some HNN.out hn0
    have hn1 : (n == 0) = false := by simpa using hn0
    have hleft := Lib.hid (left_next hs1 hr)
    have hD2 : dl (n :: l2) P c = (R, l, d) := by have := HD.out; rwa [dle, if_pos hs1, hr] at this
    have hrn := rdl_next hr
    have HRN := Lib.hid hrn
    have HS1 := Lib.hid hs1
    have HG := Lib.hid hg
    have HD2 := Lib.hid hD2
    have HR := Lib.hid hr
    have hw : wrap64 (2 ^ n.toNat) = pw n := wrap_pw (by omega) hn15.2
    have hwm : wrap64 (2 ^ min n.toNat 64) = pw n := by rw [show min n.toNat 64 = n.toNat from by omega]; exact hw
    have hnn : 0 ≤ n := by omega
    have hn15 : n ≤ 15 := hn15.2
    obtain ⟨pe2, hpe2⟩ : ∃ x, wo P.pe n = x := ⟨_, rfl⟩
    have hpe3 : bits .andNot .i64 P.pe (pw n) = pe2 := hpe2
    rw [hpe2] at HRN hleft
    have HPE := Lib.hid hpe2
    obtain ⟨Q, hQ⟩ : ∃ Q : Ps, Q = { P with pe := pe2 } := ⟨_, rfl⟩
    have HQ := Lib.hid hQ
    obtain ⟨c0, c4, c5, c6, c7⟩ := cells hb4
    have hfa := fate_in P.ca n
    rw [← hg] at hfa
    have HFA := Lib.hid hfa
    clear hs1 hg hD2 hrn hr hpe2 hQ HD HNN HP0 hfa hn0
    have HLQ : Hid (Q.f.length = 8) := Lib.hid (by rw [HQ.out]; exact HLP.out)
    have hset : (pc P).set 4 (.int .i64 pe2) = pc Q := by rw [HQ.out]; rfl
    have HSET := Lib.hid hset
    clear hset
    have f4 := hb4.frozen 4
    go_upto_region 7 with fail
    go_region
    have hb5 : Blk (w4.setCell ⟨w.heap.size, 4, none⟩ (.int .i64 pe2)).drew w.heap.size 25 (pc Q) := by
      have := (hb4.setCell 4 (.int .i64 pe2)).drew
      rwa [HSET.out] at this
    have hz5 : Blk (w4.setCell ⟨w.heap.size, 4, none⟩ (.int .i64 pe2)).drew gr 25 (pc noP) := (hz4.far (p := ⟨w.heap.size, 4, none⟩) (Ne.symm hne) _).drew
    have k5 : Keep (· = w.heap.size) w4 (w4.setCell ⟨w.heap.size, 4, none⟩ (.int .i64 pe2)).drew := ((Keep.refl (· = w.heap.size) w4).setCell ⟨w.heap.size, 4, none⟩ _ (fun _ => rfl)).drew
    have hv5 := vec_far hv4 k5 hb4
    have hK5 : Keep Nob w (w4.setCell ⟨w.heap.size, 4, none⟩ (.int .i64 pe2)).drew := hK4.trans k5 (fun b hb e => by have h3 : b = w.heap.size := e; omega)
    clear k5
    generalize (w4.setCell ⟨w.heap.size, 4, none⟩ (.int .i64 pe2)).drew = w5 at *
    clear hb4 hz4 hv4 hK4 c0 c4 c5 c6 c7 f4 hpe3 hw hwm
    have hfa := HFA.out
    clear HFA
    rcases hfa with rfl | rfl | rfl | rfl
    · -- caught
      have hD3 : dle Q (c ++ [n]) = (R, l, d) := by
        have := HD2.out
        rw [dl, ← HG.out, if_pos rfl, HPE.out, ← HQ.out] at this
        rw [dle, if_pos (by rw [HQ.out]; exact HS1.out), show rdl Q = l2 from by rw [HQ.out]; exact HRN.out]
        exact this
      have HD3 := Lib.hid hD3
      clear hD3
      have hms : m ≤ 15 := by have := HM.out; have := HMI.out; omega
      have hv7 := hv5.nob ((Keep.refl Nob w5).alloc (.cells #[.int .i64 n] 3))
      have hr7 : Reads (w5.alloc (.cells #[.int .i64 n] 3)) (some ⟨w5.heap.size, 0, none⟩) 1 [.int .i64 n] := reads_all (n := 1) (Blk.new w5 3 [.int .i64 n]) rfl
      have hb7 := hb5.alloc (.cells #[.int .i64 n] 3)
      have hz7 := hz5.alloc (.cells #[.int .i64 n] 3)
      have hK7 := hK5.alloc (.cells #[.int .i64 n] 3)
      have hszA : w.heap.size ≤ (w5.alloc (.cells #[.int .i64 n] 3)).heap.size := hK7.size
      clear hv5 hb5 hz5 hK5
      have hnP : ∀ {g : Nat} {cs : List Value}, Blk (w5.alloc (.cells #[.int .i64 n] 3)) g 25 cs → ¬ Own A g := fun hb ho => by
        obtain ⟨cur, hc⟩ := hv7.blk ho
        exact hc.ne_ hb (by decide) rfl
      go_wp2_with (at_builtin; go_loud (refine wpList_ap rfl _ _ 22 rfl 3 1 8 (.int .i64 0) Tryd.underlying22 infoI rfl (by decide) A m cap _ rfl hv7 (some ⟨w5.heap.size, 0, none⟩) 1 1 [.int .i64 n] rfl _ (Nat.mul_one _) hr7 (by simp [Value.oneCell']) (by unfold maxLen; omega) (by omega) ?_; intro A2 cap2 w8 hv8 k8 ho8; have hb8 := hb7.keep k8 (hnP hb7)))
      have hz8 := hz7.keep k8 (hnP hz7)
      have hK8 : Keep Nob w w8 := hK7.trans k8 (fun b hb ho => by have := HA.out b ho; omega)
      have hA8 : ∀ x, Own A2 x → w.heap.size ≤ x := fun x hx => by
        rcases ho8 x hx with h | h
        · exact HA.out x h
        · omega
      have HA8 := Lib.hid hA8
      have e8 : ints c ++ [Value.int .i64 n] = ints (c ++ [n]) := by rw [ints_append]; rfl
      rw [e8] at hv8
      clear hb7 hz7 hK7 k8 hnP hv7 hr7 ho8 hA8 e8 hszA
      go_roundw
      case rel => exact ⟨i + 1, Q, c ++ [n], A2, m + 1, cap2, by rw [List.length_append, HCM.out]; rfl, by have := HMI.out; omega, rfl, by go_num, HLQ.out, HD3.out, by have := HM.out; have := hleft.out; rw [HQ.out]; omega, hb8, hz8, hv8, HA8.out, hK8⟩
      case measure => simp [intOf]; omega
    · -- ignored
      have hD3 : dle Q c = (R, l, d) := by
        have := HD2.out
        rw [dl, ← HG.out, if_neg (by decide), if_neg (by decide), if_neg (by decide), HPE.out, ← HQ.out] at this
        rw [dle, if_pos (by rw [HQ.out]; exact HS1.out), show rdl Q = l2 from by rw [HQ.out]; exact HRN.out]
        exact this
      have HD3 := Lib.hid hD3
      clear hD3
      go_wp2_with fail
      go_roundw
      case rel => exact ⟨i + 1, Q, c, A, m, cap, HCM.out, by have := HMI.out; omega, rfl, by go_num, HLQ.out, HD3.out, by have := HM.out; have := hleft.out; rw [HQ.out]; omega, hb5, hz5, hv5, HA.out, hK5⟩
      case measure => simp [intOf]; omega
    · -- stopped
      have hD3 : ({ Q with s := 3 }, c, (0 : Int)) = (R, l, d) := by
        have := HD2.out
        rw [dl, ← HG.out, if_neg (by decide), if_pos rfl, HPE.out] at this
        rw [HQ.out]
        exact this
      obtain ⟨rfl, rfl, rfl⟩ : { Q with s := 3 } = R ∧ c = l ∧ (0 : Int) = d := by simpa using hD3
      have HV := Lib.hid hv5
      clear hv5 hD3 HD2
      go_wp2_with (first | (refine wpList_sf rfl (.tmp 35) _ rfl w.heap.size 0 Q { Q with s := 3 } _ rfl rfl hb5 ⟨rfl, rfl⟩ ?_; intro w6 hb6 k6 s6; clear s6; have hz6 := hz5.keep k6 (fun e => hne e.symm)) | (refine wpList_ld rfl (.tmp 1) rfl w.heap.size { Q with s := 3 } rfl HLQ.out hb6 ?_) | (refine wpList_st rfl (.tmp 2) _ rfl gr { Q with s := 3 } noP rfl rfl HLQ.out rfl hz6 ?_; intro w9 hz9 k9 s9; clear s9))
      (try simp only [Exit.inBlock, Exit.then])
      refine bodyPost_ret (v := .tuple #[pv { Q with s := 3 }, .slice A m cap, .int .i64 0]) (results_three rfl _ _ gr { Q with s := 3 } HLQ.out rfl hz9 _ _ rfl rfl) rfl ?_
      have e := HCM.out
      subst e
      exact ⟨_, rfl, ⟨A, cap, rfl, vec_far (vec_far HV.out k6 hb5) k9 hz6⟩, (hK5.trans k6 (fun b hb e => by have h3 : b = w.heap.size := e; omega)).trans k9 (fun b hb e => by have h3 : b = gr := e; omega)⟩
    · -- it dies
      have hD3 : (Q, c, n) = (R, l, d) := by
        have := HD2.out
        rw [dl, ← HG.out, if_neg (by decide), if_neg (by decide), if_pos rfl, HPE.out, ← HQ.out] at this
        exact this
      cases hD3
      have HV := Lib.hid hv5
      clear hv5
      go_wp2_with (first | (refine wpList_ld rfl (.tmp 1) rfl w.heap.size R rfl HLQ.out hb5 ?_) | (refine wpList_st rfl (.tmp 2) _ rfl gr R noP rfl rfl HLQ.out rfl hz5 ?_; intro w9 hz9 k9 s9; clear s9))
      (try simp only [Exit.inBlock, Exit.then])
      refine bodyPost_ret (v := .tuple #[pv R, .slice A m cap, .int .i64 d]) (results_three rfl _ _ gr R HLQ.out rfl hz9 _ _ rfl rfl) rfl ?_
      have e := HCM.out
      subst e
      exact ⟨_, rfl, ⟨A, cap, rfl, vec_far HV.out k9 hz5⟩, hK5.trans k9 (fun b hb e => by have h3 : b = gr := e; omega)⟩
end Go.Proofs.YtaeiigniakjbpaaDoor.Sg
