/- Package sig: Deliver. -/
import Derived.Test.YtaeiigniakjbpaaDoorSigA
import Derived.BigRegion
import Derived.Deep.DeepCutAuto
import Derived.Deep.CutBlock
namespace Go.Proofs.YtaeiigniakjbpaaDoor.Sg
open Go.RowKit
set_option linter.unusedVariables false
set_option linter.unusedSimpArgs false
theorem infoI : (Tryd.prog.info? 3).map (fun i => (i.zero, i.size, i.bytes)) = some (some (.int .i64 0), 1, 8) := by kernel_rfl
/-- What a call tells: a row of numbers, wherever it lies. -/
def Gives (w : World) (l : List Int) (x : Value) : Prop := ∃ A c, x = .slice A l.length c ∧ Vec w 3 1 A l.length c (ints l)
theorem Gives.nob {w w' : World} {l : List Int} {x : Value} (h : Gives w l x) (k : Keep Nob w w') : Gives w' l x := by
  obtain ⟨A, c, h1, h2⟩ := h
  exact ⟨A, c, h1, h2.nob k⟩
theorem vec_far {w w' : World} {A : Option Addr} {n c : Nat} {xs : List Value} {g : Nat} {cs : List Value} (h : Vec w 3 1 A n c xs) (k : Keep (· = g) w w') (hg : Blk w g 25 cs) : Vec w' 3 1 A n c xs :=
  h.keep k (fun x hx e => by
    obtain ⟨cur, hc⟩ := h.blk hx
    have e : x = g := e
    exact hc.ne_ hg (by decide) e)
theorem Gives.far {w w' : World} {l : List Int} {x : Value} {g : Nat} {cs : List Value} (h : Gives w l x) (k : Keep (· = g) w w') (hg : Blk w g 25 cs) : Gives w' l x := by
  obtain ⟨A, c, h1, h2⟩ := h
  exact ⟨A, c, h1, vec_far h2 k hg⟩
theorem Gives.fresh {w w' : World} {l : List Int} {x : Value} (h : Gives w l x) (k : Keep (· = w.heap.size) w w') : Gives w' l x := by
  obtain ⟨A, c, h1, h2⟩ := h
  exact ⟨A, c, h1, h2.keep k (fun x hx e => by have := h2.lt x hx; have e : x = w.heap.size := e; omega)⟩
theorem Gives.nil_ (w : World) : Gives w [] (.slice none 0 0) := ⟨none, 0, rfl, Vec.nil w _ _⟩
theorem Gives.reads {w : World} {l : List Int} {A : Option Addr} {n c : Nat} (h : Gives w l (.slice A n c)) : Reads w A n (ints l) ∧ l.length = n := by
  obtain ⟨A', c', h1, h2⟩ := h
  cases h1
  have := h2.reads
  rw [Nat.mul_one] at this
  exact ⟨this, rfl⟩
def left (P : Ps) : Nat := if P.s = 1 then (rdl P).length else 0
def mu (g : Nat) (w : World) : Nat := match w.cell? ⟨g, 0, none⟩, w.cell? ⟨g, 4, none⟩, w.cell? ⟨g, 5, none⟩ with
  | some (.int _ s), some (.int _ pe), some (.int _ m) => left ⟨s, 0, 0, 0, pe, m, 0, 0, []⟩
  | _, _, _ => 0
theorem mu_is {g : Nat} {w : World} {P : Ps} (h : Blk w g 25 (pc P)) : mu g w = left P := by
  obtain ⟨c0, c4, c5, _, _⟩ := cells h
  unfold mu
  rw [c0, c4, c5]
  rfl
def dle (P : Ps) (c : List Int) : Ps × List Int × Int := if P.s = 1 then dl (rdl P) P c else (P, c, 0)
theorem next_none {P : Ps} {g : Int} (h : next P = (0, g)) (c : List Int) : dle P c = (P, c, 0) ∧ g = 0 := by
  unfold next at h
  unfold dle
  split at h
  · rename_i hs
    rw [if_pos hs]
    split at h
    · rename_i hr
      cases h
      rw [hr]
      exact ⟨rfl, rfl⟩
    · rename_i n l hr
      cases h
      have := rdl_in (p := P) (k := 0) (by rw [hr]; exact List.mem_cons_self)
      omega
  · rename_i hs
    cases h
    rw [if_neg hs]
    exact ⟨rfl, rfl⟩
theorem next_some {P : Ps} {n g : Int} (h : next P = (n, g)) (hn : n ≠ 0) : P.s = 1 ∧ (1 ≤ n ∧ n ≤ 15) ∧ g = fate P.ca n ∧ ∃ l, rdl P = n :: l := by
  unfold next at h
  split at h
  · rename_i hs
    split at h
    · cases h; exact absurd rfl hn
    · rename_i n' l hr
      cases h
      exact ⟨hs, rdl_in (p := P) (by rw [hr]; exact List.mem_cons_self), rfl, l, hr⟩
  · cases h; exact absurd rfl hn
theorem fate_in (ca n : Int) : fate ca n = 2 ∨ fate ca n = 1 ∨ fate ca n = 3 ∨ fate ca n = 4 := by
  unfold fate; split <;> (try split) <;> (try split) <;> simp
theorem left_next {P : Ps} {n : Int} {l : List Int} (hs : P.s = 1) (h : rdl P = n :: l) : left { P with pe := wo P.pe n } + 1 = left P := by
  unfold left
  rw [rdl_next h, h]
  simp [hs]
theorem rdl_len (P : Ps) : (rdl P).length ≤ 15 := List.length_filter_le _ _
theorem left_le (P : Ps) : left P ≤ 15 := by
  unfold left; split
  · exact rdl_len P
  · exact Nat.zero_le _
set_option maxHeartbeats 8000000 in
set_option maxRecDepth 100000 in
theorem deliver_is (p : Ps) (hl : p.f.length = 8) (w : World) (hT : Tb w) (R : Ps) (l : List Int) (d : Int) (hP : deliver p = (R, l, d)) :
    Calls Tryd.prog 12 #[pv p] w fun e w' => ∃ x, e = .returned (.tuple #[pv R, x, .int .i64 d]) ∧ Gives w' l x ∧ Keep Nob w w' := by
  have HN := Lib.hid (fun P (hl : P.f.length = 8) w hT n g h => next_is P hl w hT n g h)
  have HO := Lib.hid (fun x n (h : 1 ≤ n ∧ n ≤ 15) w => without_is x n (by omega) h.2 w _ rfl)
  have hP : dle p [] = (R, l, d) := hP
  have HL0 := Lib.hid hl
  have HP0 := Lib.hid hP
  have HT := Lib.hid hT
  obtain ⟨n0, g0, hN0⟩ : ∃ n g, next p = (n, g) := ⟨_, _, rfl⟩
  have HN0 := Lib.hid hN0
  unfold pv at *
  clear hl hP hT hN0
  go_enter Tryd.func12, Tryd.ntmps12
  go_wp2_with (first | (refine wpList_box rfl 25 _ rfl _ rfl ?_; intro w1 hb hk hs; clear hs; have hb : Blk w1 w.heap.size 25 (pc p) := hb) | (refine wpList_al rfl rfl ?_; intro w2 hz hk2 hs2; clear hs2; have hb2 := hb.nob hk2; have hK2 := hk.nobt hk2; have hne : w.heap.size ≠ w1.heap.size := (by have := hb.lt; omega); have hge : w.heap.size ≤ w1.heap.size := hk.size; clear hb hk hk2; generalize w1.heap.size = gr at *) | (refine wpList_ld rfl (.tmp 1) rfl w.heap.size p rfl HL0.out hb2 ?_))
  refine (HN.out p HL0.out _ (HT.out.nob hK2) n0 g0 HN0.out).mono ?_; rintro e w3 ⟨rfl, k3⟩
  have hb3 := hb2.nob k3
  have hz3 := hz.nob k3
  have hK3 := hK2.nobt k3
  clear hb2 hz hK2 k3
  go_wp2_with fail
  go_loopw [3, 5, 6] (fun s3 s5 s6 wx => ∃ (P : Ps) (c : List Int) (A : Option Addr) (m cap : Nat) (n g : Int), c.length = m ∧ s3 = .slice A m cap ∧ s5 = .int .i64 n ∧ s6 = .int .i64 g ∧ next P = (n, g) ∧ P.f.length = 8 ∧ dle P c = (R, l, d) ∧ m + left P ≤ 15 ∧ Blk wx w.heap.size 25 (pc P) ∧ Blk wx gr 25 (pc noP) ∧ Vec wx 3 1 A m cap (ints c) ∧ (∀ x, Own A x → w.heap.size ≤ x) ∧ Keep Nob w wx) (fun _ _ _ wx => mu w.heap.size wx)
  case atStart => exact ⟨p, [], none, 0, 0, n0, g0, rfl, rfl, rfl, rfl, HN0.out, HL0.out, HP0.out, by have := left_le p; omega, hb3, hz3, Vec.nil _ _ _, (fun x ⟨a, ha, _⟩ => by cases ha), hK3⟩
  case round =>
    obtain ⟨P, c, A, m, cap, n, g, hcm, rfl, rfl, rfl, hN, hlp, hD, hm, hb4, hz4, hv4, hA4, hK4⟩ := hrel
    clear hb3 hz3 hK3
    have HLP := Lib.hid hlp
    have HNN := Lib.hid hN
    have HD := Lib.hid hD
    have HM := Lib.hid hm
    have HCM := Lib.hid hcm
    have hmu := Lib.hid (mu_is hb4)
    have HA := Lib.hid hA4
    clear hlp hN hD hm hcm hA4
    by_cases hn0 : n = 0
    · subst hn0
      obtain ⟨e1, e2⟩ := next_none HNN.out c
      have hD := HD.out
      rw [e1] at hD
      obtain ⟨rfl, rfl, rfl⟩ : P = R ∧ c = l ∧ (0 : Int) = d := by simpa using hD
      have HV := Lib.hid hv4
      clear hD e1 e2 hv4 HN0 HP0
      go_wp2_with (first | (refine wpList_ld rfl (.tmp 1) rfl w.heap.size P rfl HLP.out hb4 ?_) | (refine wpList_st rfl (.tmp 2) _ rfl gr P noP rfl rfl HLP.out rfl hz4 ?_; intro w9 hz9 k9 s9; clear s9))
      (try simp only [Exit.inBlock, Exit.then])
      refine bodyPost_ret (v := .tuple #[pv P, .slice A m cap, .int .i64 0]) (results_three rfl _ _ gr P HLP.out rfl hz9 _ _ rfl rfl) rfl ?_
      have e := HCM.out
      subst e
      exact ⟨_, rfl, ⟨A, cap, rfl, vec_far HV.out k9 hz4⟩, hK4.trans k9 (fun b hb e => by have h3 : b = gr := e; omega)⟩
    obtain ⟨hs1, hn15, hg, l2, hr⟩ := next_some HNN.out hn0
    have hn1 : (n != 0) = true := by simpa using hn0
    have hleft := Lib.hid (left_next hs1 hr)
    have hD2 : dl (n :: l2) P c = (R, l, d) := by have := HD.out; rwa [dle, if_pos hs1, hr] at this
    have hrn := rdl_next hr
    have HRN := Lib.hid hrn
    have HS1 := Lib.hid hs1
    have HG := Lib.hid hg
    have HD2 := Lib.hid hD2
    have HR := Lib.hid hr
    have H15 := Lib.hid hn15
    obtain ⟨pe2, hpe2⟩ : ∃ x, wo P.pe n = x := ⟨_, rfl⟩
    rw [hpe2] at HRN hleft
    have HPE := Lib.hid hpe2
    have hO := fun w => HO.out P.pe n H15.out w
    rw [hpe2] at hO
    have HO2 := Lib.hid hO
    obtain ⟨Q, hQ⟩ : ∃ Q : Ps, Q = { P with pe := pe2 } := ⟨_, rfl⟩
    have HQ := Lib.hid hQ
    obtain ⟨c0, c4, c5, c6, c7⟩ := cells hb4
    have hfa := fate_in P.ca n
    rw [← hg] at hfa
    clear hs1 hg hD2 hrn hr hn15 hpe2 hO hQ HD HNN HN0 HP0
    have HLQ : Hid (Q.f.length = 8) := Lib.hid (by rw [HQ.out]; exact HLP.out)
    have hset : (pc P).set 4 (.int .i64 pe2) = pc Q := by rw [HQ.out]; rfl
    have HSET := Lib.hid hset
    clear hset
    go_wp2_with fail
    refine (HO2.out _).mono ?_; rintro e w5 ⟨rfl, rfl⟩
    rcases hfa with rfl | rfl | rfl | rfl
    · -- caught
      have hD3 : dle Q (c ++ [n]) = (R, l, d) := by
        have := HD2.out
        rw [dl, ← HG.out, if_pos rfl, HPE.out, ← HQ.out] at this
        rw [dle, if_pos (by rw [HQ.out]; exact HS1.out), show rdl Q = l2 from by rw [HQ.out]; exact HRN.out]
        exact this
      have HD3 := Lib.hid hD3
      clear hD3
      obtain ⟨n', g', hN'⟩ : ∃ n g, next Q = (n, g) := ⟨_, _, rfl⟩
      have HN' := Lib.hid hN'
      clear hN'
      have hms := HM.out
      go_upto_region 7 with (refine wpList_sf rfl (.tmp 23) _ rfl w.heap.size 4 P Q _ rfl rfl hb4 ⟨rfl, HSET.out⟩ ?_; intro w6 hb6 k6 s6; clear s6)
      have hz6 := hz4.keep k6 (fun e => hne e.symm)
      have hv6 := vec_far hv4 k6 hb4
      have hK6 : Keep Nob w w6 := hK4.trans k6 (fun b hb e => by have h3 : b = w.heap.size := e; omega)
      clear hb4 hz4 hv4 hK4 k6 c0 c4 c5 c6 c7
      have hv7 := hv6.nob ((Keep.refl Nob w6).alloc (.cells #[.int .i64 n] 3))
      have hr7 : Reads (w6.alloc (.cells #[.int .i64 n] 3)) (some ⟨w6.heap.size, 0, none⟩) 1 [.int .i64 n] := reads_all (n := 1) (Blk.new w6 3 [.int .i64 n]) rfl
      have hb7 := hb6.alloc (.cells #[.int .i64 n] 3)
      have hz7 := hz6.alloc (.cells #[.int .i64 n] 3)
      have hK7 := hK6.alloc (.cells #[.int .i64 n] 3)
      have hszA : w.heap.size ≤ (w6.alloc (.cells #[.int .i64 n] 3)).heap.size := hK7.size
      clear hv6 hb6 hz6 hK6
      have hnP : ∀ {g : Nat} {cs : List Value}, Blk (w6.alloc (.cells #[.int .i64 n] 3)) g 25 cs → ¬ Own A g := fun hb ho => by
        obtain ⟨cur, hc⟩ := hv7.blk ho
        exact hc.ne_ hb (by decide) rfl
      go_wp2_with (first | (at_builtin; go_loud (refine wpList_ap rfl _ _ 22 rfl 3 1 8 (.int .i64 0) Tryd.underlying22 infoI rfl (by decide) A m cap _ rfl hv7 (some ⟨w6.heap.size, 0, none⟩) 1 1 [.int .i64 n] rfl _ (Nat.mul_one _) hr7 (by simp [Value.oneCell']) (by unfold maxLen; omega) (by omega) ?_; intro A2 cap2 w8 hv8 k8 ho8; have hb8 := hb7.keep k8 (hnP hb7))) | (refine wpList_ld rfl (.tmp 1) rfl w.heap.size Q rfl HLQ.out hb8 ?_))
      have hz8 := hz7.keep k8 (hnP hz7)
      have hK8 : Keep Nob w w8 := hK7.trans k8 (fun b hb ho => by have := HA.out b ho; omega)
      have hA8 : ∀ x, Own A2 x → w.heap.size ≤ x := fun x hx => by
        rcases ho8 x hx with h | h
        · exact HA.out x h
        · omega
      have HA8 := Lib.hid hA8
      have e8 : ints c ++ [Value.int .i64 n] = ints (c ++ [n]) := by rw [ints_append]; rfl
      rw [e8] at hv8
      clear hb7 hz7 hK7 k8 hnP hv7 hr7 ho8 hA8 e8 hszA HO2
      refine (HN.out Q HLQ.out _ (HT.out.nob hK8) n' g' HN'.out).mono ?_; rintro e w9 ⟨rfl, k9⟩
      have hb9 := hb8.nob k9
      have hz9 := hz8.nob k9
      have hv9 := hv8.nob k9
      have hK9 := hK8.nobt k9
      clear hb8 hz8 hv8 hK8 k9
      go_wp2_with fail
      go_roundw
      case rel => exact ⟨Q, c ++ [n], A2, m + 1, cap2, n', g', by rw [List.length_append, HCM.out]; rfl, rfl, rfl, rfl, HN'.out, HLQ.out, HD3.out, by have := HM.out; have := hleft.out; rw [HQ.out]; omega, hb9, hz9, hv9, HA8.out, hK9⟩
      case measure => rw [hmu.out, mu_is hb9, HQ.out]; have := hleft.out; omega
    · -- ignored
      have hD3 : dle Q c = (R, l, d) := by
        have := HD2.out
        rw [dl, ← HG.out, if_neg (by decide), if_neg (by decide), if_neg (by decide), HPE.out, ← HQ.out] at this
        rw [dle, if_pos (by rw [HQ.out]; exact HS1.out), show rdl Q = l2 from by rw [HQ.out]; exact HRN.out]
        exact this
      have HD3 := Lib.hid hD3
      clear hD3
      obtain ⟨n', g', hN'⟩ : ∃ n g, next Q = (n, g) := ⟨_, _, rfl⟩
      have HN' := Lib.hid hN'
      clear hN'
      go_wp2_with (first | (refine wpList_sf rfl (.tmp 23) _ rfl w.heap.size 4 P Q _ rfl rfl hb4 ⟨rfl, HSET.out⟩ ?_; intro w6 hb6 k6 s6; clear s6) | (refine wpList_ld rfl (.tmp 1) rfl w.heap.size Q rfl HLQ.out hb6 ?_))
      have hz6 := hz4.keep k6 (fun e => hne e.symm)
      have hv6 := vec_far hv4 k6 hb4
      have hK6 : Keep Nob w w6 := hK4.trans k6 (fun b hb e => by have h3 : b = w.heap.size := e; omega)
      clear hb4 hz4 hv4 hK4 k6 c0 c4 c5 c6 c7
      refine (HN.out Q HLQ.out _ (HT.out.nob hK6) n' g' HN'.out).mono ?_; rintro e w9 ⟨rfl, k9⟩
      have hb9 := hb6.nob k9
      have hz9 := hz6.nob k9
      have hv9 := hv6.nob k9
      have hK9 := hK6.nobt k9
      clear hb6 hz6 hv6 hK6 k9
      go_wp2_with fail
      go_roundw
      case rel => exact ⟨Q, c, A, m, cap, n', g', HCM.out, rfl, rfl, rfl, HN'.out, HLQ.out, HD3.out, by have := HM.out; have := hleft.out; rw [HQ.out]; omega, hb9, hz9, hv9, HA.out, hK9⟩
      case measure => rw [hmu.out, mu_is hb9, HQ.out]; have := hleft.out; omega
    · -- stopped
      obtain ⟨Z, hZ⟩ : ∃ Z : Ps, Z = { Q with s := 3 } := ⟨_, rfl⟩
      have HZ := Lib.hid hZ
      have HLZ : Hid (Z.f.length = 8) := Lib.hid (by rw [HZ.out]; exact HLQ.out)
      have hset : (pc Q).set 0 (.int .i64 3) = pc Z := by rw [HZ.out]; rfl
      have HSET2 := Lib.hid hset
      have hD3 : dle Z c = (R, l, d) := by
        have := HD2.out
        rw [dl, ← HG.out, if_neg (by decide), if_pos rfl, HPE.out] at this
        rw [dle, if_neg (by rw [HZ.out]; exact (by decide : ¬ (3 : Int) = 1)), HZ.out, HQ.out]
        exact this
      have HD3 := Lib.hid hD3
      have hN' : next Z = (0, 0) := by rw [next, if_neg (by rw [HZ.out]; exact (by decide : ¬ (3 : Int) = 1))]
      have HN' := Lib.hid hN'
      have hleft2 : Hid (left Z = 0) := Lib.hid (by rw [left, if_neg (by rw [HZ.out]; exact (by decide : ¬ (3 : Int) = 1))])
      clear hD3 hN' hset hZ
      go_wp2_with (first | (refine wpList_sf rfl (.tmp 23) _ rfl w.heap.size 4 P Q _ rfl rfl hb4 ⟨rfl, HSET.out⟩ ?_; intro w6 hb6 k6 s6; clear s6) | (refine wpList_sf rfl (.tmp 33) _ rfl w.heap.size 0 Q Z _ rfl rfl hb6 ⟨rfl, HSET2.out⟩ ?_; intro w7 hb7 k7 s7; clear s7) | (refine wpList_ld rfl (.tmp 1) rfl w.heap.size Z rfl HLZ.out hb7 ?_))
      have hz7 := (hz4.keep k6 (fun e => hne e.symm)).keep k7 (fun e => hne e.symm)
      have hv7 := vec_far (vec_far hv4 k6 hb4) k7 hb6
      have hK7 : Keep Nob w w7 := (hK4.trans k6 (fun b hb e => by have h3 : b = w.heap.size := e; omega)).trans k7 (fun b hb e => by have h3 : b = w.heap.size := e; omega)
      clear hb4 hz4 hv4 hK4 k6 k7 hb6 c0 c4 c5 c6 c7
      refine (HN.out Z HLZ.out _ (HT.out.nob hK7) 0 0 HN'.out).mono ?_; rintro e w9 ⟨rfl, k9⟩
      have hb9 := hb7.nob k9
      have hz9 := hz7.nob k9
      have hv9 := hv7.nob k9
      have hK9 := hK7.nobt k9
      clear hb7 hz7 hv7 hK7 k9
      go_wp2_with fail
      go_roundw
      case rel => exact ⟨Z, c, A, m, cap, 0, 0, HCM.out, rfl, rfl, rfl, HN'.out, HLZ.out, HD3.out, by have := HM.out; rw [hleft2.out]; omega, hb9, hz9, hv9, HA.out, hK9⟩
      case measure => rw [hmu.out, mu_is hb9, hleft2.out]; have := hleft.out; omega
    · -- it dies
      have hD3 : (Q, c, n) = (R, l, d) := by
        have := HD2.out
        rw [dl, ← HG.out, if_neg (by decide), if_neg (by decide), if_pos rfl, HPE.out, ← HQ.out] at this
        exact this
      cases hD3
      have HV := Lib.hid hv4
      clear hv4
      go_wp2_with (first | (refine wpList_sf rfl (.tmp 23) _ rfl w.heap.size 4 P R _ rfl rfl hb4 ⟨rfl, HSET.out⟩ ?_; intro w6 hb6 k6 s6; clear s6; have hz6 := hz4.keep k6 (fun e => hne e.symm)) | (refine wpList_ld rfl (.tmp 1) rfl w.heap.size R rfl HLQ.out hb6 ?_) | (refine wpList_st rfl (.tmp 2) _ rfl gr R noP rfl rfl HLQ.out rfl hz6 ?_; intro w9 hz9 k9 s9; clear s9))
      (try simp only [Exit.inBlock, Exit.then])
      refine bodyPost_ret (v := .tuple #[pv R, .slice A m cap, .int .i64 d]) (results_three rfl _ _ gr R HLQ.out rfl hz9 _ _ rfl rfl) rfl ?_
      have e := HCM.out
      subst e
      exact ⟨_, rfl, ⟨A, cap, rfl, vec_far (vec_far HV.out k6 hb4) k9 hz6⟩, (hK4.trans k6 (fun b hb e => by have h3 : b = w.heap.size := e; omega)).trans k9 (fun b hb e => by have h3 : b = gr := e; omega)⟩
end Go.Proofs.YtaeiigniakjbpaaDoor.Sg
