/- The walk of CapsAlone. -/
import Derived.Test.YtjkmbffcmgeknaaLaw3f
import Derived.Test.YtjkmbffcmgeknaaLaw3c
import Derived.Outline
namespace Go.Proofs.Ytjkmbffcmgeknaa
open Go.RowKit
set_option linter.unusedVariables false
set_option linter.unusedSimpArgs false
set_option maxRecDepth 100000 in
set_option maxHeartbeats 16000000 in
theorem alone_core (w : World) (A0 : Option Addr) (n0 c0 : Nat) (x0 : Ty.den (.sl 112 OpTy3)) (w0 : Holds w (.sl 112 OpTy3) x0 [.slice A0 n0 c0]) :
    Calls Try.prog 3 #[.slice A0 n0 c0] w fun e w' => e = .returned (.bool true) ∧ Keep (From w.heap.size) w w' := by
  have W0 := Lib.hid w0
  clear w0
  go_enter Try.func3, Try.ntmps3
  go_wp2_with fail
  refine (new0 (w0 := w) 2 2 (by omega) (Keep.refl _ w)).mono ?_; rintro e w1 ⟨s1, B1, p1, r1, rfl, S1, _, _⟩
  go_wp2_with fail
  refine (new0 (w0 := w) 2 2 (by omega) S1.keep).mono ?_; rintro e w2 ⟨s2, B2, p2, r2, rfl, S2, k2, hr2⟩
  have hne : ∀ i j, i < 2 → j < 2 → r1 i ≠ r2 j := fun i j hi hj e => by
    have h1 := (S1.sp.tab i hi).row.lt
    have h2 := hr2 j hj
    omega
  have L0 : AloneAt w w2 s1 B1 p1 r1 init s2 B2 p2 r2 init none 0 0 [] none 0 0 [] := ⟨⟨S1.nob k2, S2, hne, rfl, flat_init, flat_init⟩, Vec.nil _ _ _, Vec.nil _ _ _, fun g ⟨a, h, _⟩ => (by cases h), fun g ⟨a, h, _⟩ => (by cases h), fun g ⟨a, h, _⟩ => (by cases h)⟩
  clear S1 S2 k2 hr2 hne
  go_wp2_with fail
  go_loopw [5, 6, 7] (fun s5 s6 s7 wx => ∃ (i : Nat) (T1 T2 : St) (A : Option Addr) (m c : Nat) (xs : List Int) (A' : Option Addr) (m' c' : Nat) (ys : List Int), i ≤ n0 ∧ i ≤ 80 ∧ m ≤ i ∧ m' ≤ i ∧ s7 = .int .i64 i ∧ s5 = .slice A m c ∧ s6 = .slice A' m' c' ∧ AloneAt w wx s1 B1 p1 r1 T1 s2 B2 p2 r2 T2 A m c xs A' m' c' ys) (fun _ _ s7 _ => 80 - (intOf s7).toNat)
  case atStart => exact ⟨0, init, init, none, 0, 0, [], none, 0, 0, [], Nat.zero_le _, Nat.zero_le _, Nat.le_refl _, Nat.le_refl _, rfl, rfl, rfl, L0⟩
  case round =>
    obtain ⟨i, T1, T2, A, m, c, xs, A', m', c', ys, hi, hi80, hm, hm', rfl, rfl, rfl, H⟩ := hrel
    obtain ⟨bo, hbo⟩ : ∃ bo, bo = decide (i < n0 ∧ i < 80) := ⟨_, rfl⟩
    have Hbo := Lib.hid hbo
    clear hbo L0
    go_upto_region 7 with fail
    go_cut [40] from 33 to 40 (fun s40 wx => s40 = .bool bo ∧ wx = wr)
    case first =>
      by_cases h1 : i < n0
      · by_cases h2 : i < 80
        · have h3 : decide (i < n0 ∧ i < 80) = true := by simp [h1, h2]
          go_wp2_with fail
          go_meet
          exact ⟨by (try rw [Hbo.out, h3]); (first | rfl | exact congrArg Value.bool (decide_eq_true (by omega)) | exact congrArg Value.bool (decide_eq_false (by omega)) | skip), rfl⟩
        · have h3 : decide (i < n0 ∧ i < 80) = false := by simp [h2]
          go_wp2_with fail
          go_meet
          exact ⟨by (try rw [Hbo.out, h3]); (first | rfl | exact congrArg Value.bool (decide_eq_true (by omega)) | exact congrArg Value.bool (decide_eq_false (by omega)) | skip), rfl⟩
      · have h3 : decide (i < n0 ∧ i < 80) = false := by simp [h1]
        go_wp2_with fail
        go_meet
        exact ⟨by (try rw [Hbo.out, h3]); (first | rfl | exact congrArg Value.bool (decide_eq_true (by omega)) | exact congrArg Value.bool (decide_eq_false (by omega)) | skip), rfl⟩
    case rest =>
    obtain ⟨rfl, hw⟩ := hcut
    have hw := hw.symm
    subst hw
    cases bo with
    | true =>
      obtain ⟨hin, hi2⟩ : i < n0 ∧ i < 80 := of_decide_eq_true Hbo.out.symm
      obtain ⟨b0, off, cs', hA0, hcl, hcc, hk', hh⟩ := holds_at W0.out (by decide) hin
      obtain ⟨o0, o1, o2, o3, o4, o5, o6, o7, o8, o9, o10, o11, o12, o13, rfl⟩ := op3_cells hh
      subst hA0
      have f0 := H.two.a.keep.cell_from (hcc 0 _ rfl)
      have f1 := H.two.a.keep.cell_from (hcc 1 _ rfl)
      have f2 := H.two.a.keep.cell_from (hcc 2 _ rfl)
      have f3 := H.two.a.keep.cell_from (hcc 3 _ rfl)
      have f4 := H.two.a.keep.cell_from (hcc 4 _ rfl)
      have f5 := H.two.a.keep.cell_from (hcc 5 _ rfl)
      have f6 := H.two.a.keep.cell_from (hcc 6 _ rfl)
      have f7 := H.two.a.keep.cell_from (hcc 7 _ rfl)
      have f8 := H.two.a.keep.cell_from (hcc 8 _ rfl)
      have f9 := H.two.a.keep.cell_from (hcc 9 _ rfl)
      have f10 := H.two.a.keep.cell_from (hcc 10 _ rfl)
      have f11 := H.two.a.keep.cell_from (hcc 11 _ rfl)
      have f12 := H.two.a.keep.cell_from (hcc 12 _ rfl)
      have f13 := H.two.a.keep.cell_from (hcc 13 _ rfl)
      simp only [show OpTy3.size = 14 from rfl, Nat.add_zero] at f0 f1 f2 f3 f4 f5 f6 f7 f8 f9 f10 f11 f12 f13
      clear hcc hcl hh hk'
      have hev : o2 % 2 = 0 ∨ o2 % 2 = 1 := by omega
      obtain ⟨rt, hrt⟩ : ∃ rt, o3 % 8 = rt := ⟨_, rfl⟩
      have hrtr : 0 ≤ rt ∧ rt ≤ 7 := by omega
      obtain ⟨nn, hnn⟩ : ∃ nn, o4 % 256 = nn := ⟨_, rfl⟩
      have hnr : 0 ≤ nn ∧ nn ≤ 65536 := by omega
      obtain ⟨hq, hhq⟩ : ∃ hq : Nat, o1 % 65536 = hq := ⟨(o1 % 65536).toNat, by omega⟩
      have kO := (Keep.refl Nob wr).alloc (.cells #[.int .i64 o0, .int .i64 o1, .int .i64 o2, .int .i64 o3, .int .i64 o4, .int .i64 o5, .int .i64 o6, .int .i64 o7, .int .i64 o8, .int .i64 o9, .int .i64 o10, .int .i64 o11, .int .i64 o12, .int .i64 o13] 31)
      have bO : Blk (wr.alloc (.cells #[.int .i64 o0, .int .i64 o1, .int .i64 o2, .int .i64 o3, .int .i64 o4, .int .i64 o5, .int .i64 o6, .int .i64 o7, .int .i64 o8, .int .i64 o9, .int .i64 o10, .int .i64 o11, .int .i64 o12, .int .i64 o13] 31)) wr.heap.size 31 [.int .i64 o0, .int .i64 o1, .int .i64 o2, .int .i64 o3, .int .i64 o4, .int .i64 o5, .int .i64 o6, .int .i64 o7, .int .i64 o8, .int .i64 o9, .int .i64 o10, .int .i64 o11, .int .i64 o12, .int .i64 o13] := Blk.new wr 31 _
      have HO := H.nob kO
      rcases hev with hev | hev
      · go_upto_if 56 with fail
        generalize hV : wr.alloc (.cells #[.int .i64 o0, .int .i64 o1, .int .i64 o2, .int .i64 o3, .int .i64 o4, .int .i64 o5, .int .i64 o6, .int .i64 o7, .int .i64 o8, .int .i64 o9, .int .i64 o10, .int .i64 o11, .int .i64 o12, .int .i64 o13] 31) = V at kO bO HO ⊢
        generalize wr.heap.size = gO at bO ⊢
        clear hV f0 f1 f2 f3 f4 f5 f6 f7 f8 f9 f10 f11 f12 f13 kO H
        go_cut [11] from 56 to 65 (fun s11 wx => (∃ nv : Int, s11 = .int .i64 nv) ∧ wx = V)
        case first =>
          by_cases hm0 : 0 < m
          · obtain ⟨g, cur, rfl, hb, _, _, ht⟩ := HO.v.at_ hm0
            obtain ⟨q, hq2⟩ : ∃ q, hq % m = q := ⟨_, rfl⟩
            have hql : q < m := by rw [← hq2]; exact Nat.mod_lt _ hm0
            have hq5 : (hq : Int).tmod (m : Int) = (q : Int) := by rw [Int.tmod_eq_emod_of_nonneg (by omega), ← hq2]; exact (Int.natCast_emod hq m).symm
            have hlx : xs.length = m := by have := HO.v.len; rw [ints_len] at this; omega
            obtain ⟨x, hx⟩ : ∃ x, (ints xs)[q]? = some (.int .i64 x) := ⟨xs.getD q 0, by rw [ints_get, List.getElem?_eq_getElem (by omega), List.getD_eq_getElem?_getD, List.getElem?_eq_getElem (by omega)]; rfl⟩
            have cq : V.cell? ⟨g, q, none⟩ = some (.int .i64 x) := by rw [hb.cell, ← hx, ← ht, List.getElem?_take, if_pos (by omega)]
            have q1 := bO.cell 1
            simp only [List.getElem?_cons_zero, List.getElem?_cons_succ] at q1
            clear hb ht hx hq2 hlx
            go_wp2_with fail
            go_meet
            exact ⟨⟨_, rfl⟩, rfl⟩
          · go_wp2_with fail
            go_meet
            exact ⟨⟨_, rfl⟩, rfl⟩
        case rest =>
        obtain ⟨⟨nv, rfl⟩, hw⟩ := hcut
        have hw := hw.symm
        subst hw
        have q0 := bO.cell 0
        have q3 := bO.cell 3
        have q4 := bO.cell 4
        have q5 := bO.cell 5
        simp only [List.getElem?_cons_zero, List.getElem?_cons_succ] at q0 q3 q4 q5
        have kC := (Keep.refl Nob V).alloc (.cells #[.int .i64 o5, .int .i64 rt, .int .i64 0, .int .i64 nn, .int .i64 0, .int .i64 0] 29)
        have bC : Blk (V.alloc (.cells #[.int .i64 o5, .int .i64 rt, .int .i64 0, .int .i64 nn, .int .i64 0, .int .i64 0] 29)) V.heap.size 29 [.int .i64 o5, .int .i64 rt, .int .i64 0, .int .i64 nn, .int .i64 0, .int .i64 0] := Blk.new V _ _
        have HC := HO.nob kC
        have bO2 := bO.alloc (.cells #[.int .i64 o5, .int .i64 rt, .int .i64 0, .int .i64 nn, .int .i64 0, .int .i64 0] 29)
        have z0 := bO2.cell 0
        simp only [List.getElem?_cons_zero, List.getElem?_cons_succ] at z0
        clear hhq HO kC bO bO2
        by_cases hk0 : o0 % 4 = 0
        · go_wp2_with fail
          refine (HC.two.a.put 0 (by decide) ⟨o5, rt, 0, nn, (0, 0)⟩ hrtr (by dsimp only; omega) (by dsimp only; omega)).mono ?_; rintro e w6 ⟨nm, er, T1', rfl, hA, S6, k6⟩
          have R6 := HC.two.a.other HC.two.b HC.two.ne k6
          have v6 := HC.two.a.offV HC.v (by decide) k6
          have u6 := HC.two.a.offV HC.u (by decide) k6
          have bC6 := HC.two.a.off bC (by decide) k6
          have d0 := bC6.cell 0
          have d1 := bC6.cell 1
          have d2 := bC6.cell 2
          have d3 := bC6.cell 3
          have d4 := bC6.cell 4
          have d5 := bC6.cell 5
          simp only [List.getElem?_cons_zero, List.getElem?_cons_succ] at d0 d1 d2 d3 d4 d5
          have fa6 := HC.two.fa.added HC.two.a.inv (by decide) hA rfl
          go_wp2_with fail
          refine (R6.put 0 (by decide) ⟨o5, rt, 0, nn, (0, 0)⟩ hrtr (by dsimp only; omega) (by dsimp only; omega)).mono ?_; rintro e w7 ⟨nm2, er2, T2', rfl, hB, S7, k7⟩
          obtain ⟨rfl, rfl, heq⟩ := Added.same HC.two.eq hA hB
          have fb7 := HC.two.fb.added HC.two.b.inv (by decide) hB rfl
          have S7a := R6.other S6 (fun i j hi hj e => HC.two.ne j i hj hi e.symm) k7
          have v7 := R6.offV v6 (by decide) k7
          have u7 := R6.offV u6 (by decide) k7
          have H7 : AloneAt w w7 s1 B1 p1 r1 T1' s2 B2 p2 r2 T2' A m c xs A' m' c' ys := ⟨⟨S7a, S7, HC.two.ne, heq, fa6, fb7⟩, v7, u7, HC.ov, HC.ou, HC.ne⟩
          rcases hA.has HC.two.a.inv (by decide) with ⟨rfl, rfl, _, _⟩ | ⟨rfl, _, _⟩
          · go_wp2_with fail
            go_roundw
            case rel => exact ⟨i + 1, T1', T2', A, m, c, xs, A', m', c', ys, by omega, by omega, by omega, by omega, by go_num, rfl, rfl, H7⟩
            case measure => simp [intOf]; omega
          · have a7 := (Keep.refl Nob w7).alloc (.cells #[.int .i64 nm] 3)
            go_wp2_with (at_builtin; go_loud (refine wpList_ap rfl _ _ 25 rfl 3 1 8 (.int .i64 0) Try.underlying25 TabC.infoint rfl (by decide) A m c _ rfl (H7.v.nob a7) (some ⟨w7.heap.size, 0, none⟩) 1 1 [.int .i64 nm] rfl _ (Nat.mul_one _) (reads_all (Blk.new w7 3 [.int .i64 nm]) rfl) (by simp [Value.oneCell']) (by unfold maxLen; omega) (by omega) ?_); intro A2 c2 w8 hv2 hk2 ho2)
            have H8 := (H7.nob a7).app1 hv2 hk2 ho2
            go_roundw
            case rel => exact ⟨i + 1, T1', T2', A2, m + 1, c2, xs ++ [nm], A', m', c', ys, by omega, by omega, by omega, by omega, by go_num, rfl, rfl, H8⟩
            case measure => simp [intOf]; omega
        · by_cases hk1 : o0 % 4 = 1
          · by_cases hh : ∃ cc, Has T1 2 ((0 : Int), nv) cc
            · obtain ⟨⟨y1, y2, y3, y4, ⟨y5, y6⟩⟩, hcc⟩ := hh
              go_wp2_with fail
              refine (HC.two.a.get ⟨y1, y2, y3, y4, (y5, y6)⟩ hcc).mono ?_; rintro e w6 ⟨rfl, _, k6⟩
              have H6 := HC.nob k6
              unfold cval
              have H7 := H6.nob ((Keep.refl Nob w6).alloc (.cells #[.int .i64 y1, .int .i64 y2, .int .i64 y3, .int .i64 y4, .int .i64 y5, .int .i64 y6] 29))
              have bD : Blk (w6.alloc (.cells #[.int .i64 y1, .int .i64 y2, .int .i64 y3, .int .i64 y4, .int .i64 y5, .int .i64 y6] 29)) w6.heap.size 29 [.int .i64 y1, .int .i64 y2, .int .i64 y3, .int .i64 y4, .int .i64 y5, .int .i64 y6] := Blk.new w6 _ _
              go_wp2_with fail
              refine (H7.two.b.get ⟨y1, y2, y3, y4, (y5, y6)⟩ (has_row H7.two.eq hcc)).mono ?_; rintro e w7 ⟨rfl, _, k7⟩
              unfold cval
              have H9 := (H7.nob k7).nob ((Keep.refl Nob w7).alloc (.cells #[.int .i64 y1, .int .i64 y2, .int .i64 y3, .int .i64 y4, .int .i64 y5, .int .i64 y6] 29))
              have bD8 := (bD.nob k7).alloc (.cells #[.int .i64 y1, .int .i64 y2, .int .i64 y3, .int .i64 y4, .int .i64 y5, .int .i64 y6] 29)
              have e0 := bD8.cell 0
              have e1 := bD8.cell 1
              have e2 := bD8.cell 2
              have e3 := bD8.cell 3
              have e4 := bD8.cell 4
              have e5 := bD8.cell 5
              simp only [List.getElem?_cons_zero, List.getElem?_cons_succ] at e0 e1 e2 e3 e4 e5
              have hcs : ∀ W, (Op.equalIn 10000 29 (.agg #[.int .i64 y1, .int .i64 y2, .int .i64 y3, .int .i64 y4, .int .i64 y5, .int .i64 y6]) (.agg #[.int .i64 y1, .int .i64 y2, .int .i64 y3, .int .i64 y4, .int .i64 y5, .int .i64 y6])).run Try.prog W = .ok true W := fun W => cap_same 9997 y1 y2 y3 y4 y5 y6 W
              go_wp2_with fail
              go_roundw
              case rel => exact ⟨i + 1, T1, T2, A, m, c, xs, A', m', c', ys, by omega, by omega, by omega, by omega, by go_num, rfl, rfl, H9⟩
              case measure => simp [intOf]; omega
            · go_wp2_with fail
              refine (HC.two.a.get_no (fun cc h => hh ⟨cc, h⟩)).mono ?_; rintro e w6 ⟨rfl, _, k6⟩
              have H6 := HC.nob k6
              unfold cval zcap
              have H7 := H6.nob ((Keep.refl Nob w6).alloc (.cells #[.int .i64 0, .int .i64 0, .int .i64 0, .int .i64 0, .int .i64 0, .int .i64 0] 29))
              have bD : Blk (w6.alloc (.cells #[.int .i64 0, .int .i64 0, .int .i64 0, .int .i64 0, .int .i64 0, .int .i64 0] 29)) w6.heap.size 29 [.int .i64 0, .int .i64 0, .int .i64 0, .int .i64 0, .int .i64 0, .int .i64 0] := Blk.new w6 _ _
              go_wp2_with fail
              refine (H7.two.b.get_no (fun cc h => hh ⟨cc, has_row H7.two.eq.symm h⟩)).mono ?_; rintro e w7 ⟨rfl, _, k7⟩
              unfold cval zcap
              have H9 := (H7.nob k7).nob ((Keep.refl Nob w7).alloc (.cells #[.int .i64 0, .int .i64 0, .int .i64 0, .int .i64 0, .int .i64 0, .int .i64 0] 29))
              have bD8 := (bD.nob k7).alloc (.cells #[.int .i64 0, .int .i64 0, .int .i64 0, .int .i64 0, .int .i64 0, .int .i64 0] 29)
              have e0 := bD8.cell 0
              have e1 := bD8.cell 1
              have e2 := bD8.cell 2
              have e3 := bD8.cell 3
              have e4 := bD8.cell 4
              have e5 := bD8.cell 5
              simp only [List.getElem?_cons_zero, List.getElem?_cons_succ] at e0 e1 e2 e3 e4 e5
              have hcs : ∀ W, (Op.equalIn 10000 29 (.agg #[.int .i64 0, .int .i64 0, .int .i64 0, .int .i64 0, .int .i64 0, .int .i64 0]) (.agg #[.int .i64 0, .int .i64 0, .int .i64 0, .int .i64 0, .int .i64 0, .int .i64 0])).run Try.prog W = .ok true W := fun W => cap_same 9997 0 0 0 0 0 0 W
              go_wp2_with fail
              go_roundw
              case rel => exact ⟨i + 1, T1, T2, A, m, c, xs, A', m', c', ys, by omega, by omega, by omega, by omega, by go_num, rfl, rfl, H9⟩
              case measure => simp [intOf]; omega
          · by_cases hh : ∃ cc, Has T1 2 ((0 : Int), nv) cc
            · obtain ⟨cc, hcc⟩ := hh
              go_wp2_with fail
              refine (HC.two.a.revoke cc hcc).mono ?_; rintro e w6 ⟨U, he, hU1, hU2, S6, k6⟩
              obtain rfl := HC.two.fa.nil HC.two.a.inv hcc hU2
              have he : e = .returned (.tuple #[.int .i64 1, .int .i64 0]) := he
              subst he
              have R6 := HC.two.a.other HC.two.b HC.two.ne k6
              have v6 := HC.two.a.offV HC.v (by decide) k6
              have u6 := HC.two.a.offV HC.u (by decide) k6
              go_wp2_with fail
              refine (R6.revoke cc (has_row HC.two.eq hcc)).mono ?_; rintro e w7 ⟨U2, he, hV1, hV2, S7, k7⟩
              obtain rfl := HC.two.fb.nil HC.two.b.inv (has_row HC.two.eq hcc) hV2
              have he : e = .returned (.tuple #[.int .i64 1, .int .i64 0]) := he
              subst he
              have S7a := R6.other S6 (fun i j hi hj e => HC.two.ne j i hj hi e.symm) k7
              have v7 := R6.offV v6 (by decide) k7
              have u7 := R6.offV u6 (by decide) k7
              have H7 : AloneAt w w7 s1 B1 p1 r1 (gone T1 [((0 : Int), nv)]) s2 B2 p2 r2 (gone T2 [((0 : Int), nv)]) A m c xs A' m' c' ys := ⟨⟨S7a, S7, HC.two.ne, gone_row HC.two.eq _, HC.two.fa.gone _, HC.two.fb.gone _⟩, v7, u7, HC.ov, HC.ou, HC.ne⟩
              go_wp2_with fail
              go_roundw
              case rel => exact ⟨i + 1, _, _, A, m, c, xs, A', m', c', ys, by omega, by omega, by omega, by omega, by go_num, rfl, rfl, H7⟩
              case measure => simp [intOf]; omega
            · go_wp2_with fail
              refine (HC.two.a.revoke_no (fun cc h => hh ⟨cc, h⟩)).mono ?_; rintro e w6 ⟨rfl, _, k6⟩
              have H6 := HC.nob k6
              go_wp2_with fail
              refine (H6.two.b.revoke_no (fun cc h => hh ⟨cc, has_row H6.two.eq.symm h⟩)).mono ?_; rintro e w7 ⟨rfl, _, k7⟩
              have H7 := H6.nob k7
              go_wp2_with fail
              go_roundw
              case rel => exact ⟨i + 1, T1, T2, A, m, c, xs, A', m', c', ys, by omega, by omega, by omega, by omega, by go_num, rfl, rfl, H7⟩
              case measure => simp [intOf]; omega
      · go_upto_if 56 with fail
        generalize hV : wr.alloc (.cells #[.int .i64 o0, .int .i64 o1, .int .i64 o2, .int .i64 o3, .int .i64 o4, .int .i64 o5, .int .i64 o6, .int .i64 o7, .int .i64 o8, .int .i64 o9, .int .i64 o10, .int .i64 o11, .int .i64 o12, .int .i64 o13] 31) = V at kO bO HO ⊢
        generalize wr.heap.size = gO at bO ⊢
        clear hV f0 f1 f2 f3 f4 f5 f6 f7 f8 f9 f10 f11 f12 f13 kO H
        go_cut [11] from 56 to 65 (fun s11 wx => (∃ nv : Int, s11 = .int .i64 nv) ∧ wx = V)
        case first =>
          by_cases hm0 : 0 < m'
          · obtain ⟨g, cur, rfl, hb, _, _, ht⟩ := HO.u.at_ hm0
            obtain ⟨q, hq2⟩ : ∃ q, hq % m' = q := ⟨_, rfl⟩
            have hql : q < m' := by rw [← hq2]; exact Nat.mod_lt _ hm0
            have hq5 : (hq : Int).tmod (m' : Int) = (q : Int) := by rw [Int.tmod_eq_emod_of_nonneg (by omega), ← hq2]; exact (Int.natCast_emod hq m').symm
            have hlx : ys.length = m' := by have := HO.u.len; rw [ints_len] at this; omega
            obtain ⟨x, hx⟩ : ∃ x, (ints ys)[q]? = some (.int .i64 x) := ⟨ys.getD q 0, by rw [ints_get, List.getElem?_eq_getElem (by omega), List.getD_eq_getElem?_getD, List.getElem?_eq_getElem (by omega)]; rfl⟩
            have cq : V.cell? ⟨g, q, none⟩ = some (.int .i64 x) := by rw [hb.cell, ← hx, ← ht, List.getElem?_take, if_pos (by omega)]
            have q1 := bO.cell 1
            simp only [List.getElem?_cons_zero, List.getElem?_cons_succ] at q1
            clear hb ht hx hq2 hlx
            go_wp2_with fail
            go_meet
            exact ⟨⟨_, rfl⟩, rfl⟩
          · go_wp2_with fail
            go_meet
            exact ⟨⟨_, rfl⟩, rfl⟩
        case rest =>
        obtain ⟨⟨nv, rfl⟩, hw⟩ := hcut
        have hw := hw.symm
        subst hw
        have q0 := bO.cell 0
        have q3 := bO.cell 3
        have q4 := bO.cell 4
        have q5 := bO.cell 5
        simp only [List.getElem?_cons_zero, List.getElem?_cons_succ] at q0 q3 q4 q5
        have kC := (Keep.refl Nob V).alloc (.cells #[.int .i64 o5, .int .i64 rt, .int .i64 0, .int .i64 nn, .int .i64 0, .int .i64 0] 29)
        have bC : Blk (V.alloc (.cells #[.int .i64 o5, .int .i64 rt, .int .i64 0, .int .i64 nn, .int .i64 0, .int .i64 0] 29)) V.heap.size 29 [.int .i64 o5, .int .i64 rt, .int .i64 0, .int .i64 nn, .int .i64 0, .int .i64 0] := Blk.new V _ _
        have HC := HO.nob kC
        have bO2 := bO.alloc (.cells #[.int .i64 o5, .int .i64 rt, .int .i64 0, .int .i64 nn, .int .i64 0, .int .i64 0] 29)
        have z0 := bO2.cell 0
        simp only [List.getElem?_cons_zero, List.getElem?_cons_succ] at z0
        clear hhq HO kC bO bO2
        by_cases hk0 : o0 % 4 = 0
        · go_wp2_with fail
          refine (HC.two.a.put 1 (by decide) ⟨o5, rt, 0, nn, (0, 0)⟩ hrtr (by dsimp only; omega) (by dsimp only; omega)).mono ?_; rintro e w6 ⟨nm, er, T1', rfl, hA, S6, k6⟩
          have R6 := HC.two.a.other HC.two.b HC.two.ne k6
          have v6 := HC.two.a.offV HC.v (by decide) k6
          have u6 := HC.two.a.offV HC.u (by decide) k6
          have fa6 := HC.two.fa.added HC.two.a.inv (by decide) hA rfl
          have H7 : AloneAt w w6 s1 B1 p1 r1 T1' s2 B2 p2 r2 T2 A m c xs A' m' c' ys := ⟨⟨S6, R6, HC.two.ne, (hA.other (by decide)).trans HC.two.eq, fa6, HC.two.fb⟩, v6, u6, HC.ov, HC.ou, HC.ne⟩
          rcases hA.has HC.two.a.inv (by decide) with ⟨rfl, rfl, _, _⟩ | ⟨rfl, _, _⟩
          · go_wp2_with fail
            go_roundw
            case rel => exact ⟨i + 1, T1', T2, A, m, c, xs, A', m', c', ys, by omega, by omega, by omega, by omega, by go_num, rfl, rfl, H7⟩
            case measure => simp [intOf]; omega
          · have a7 := (Keep.refl Nob w6).alloc (.cells #[.int .i64 nm] 3)
            go_wp2_with (at_builtin; go_loud (refine wpList_ap rfl _ _ 25 rfl 3 1 8 (.int .i64 0) Try.underlying25 TabC.infoint rfl (by decide) A' m' c' _ rfl (H7.u.nob a7) (some ⟨w6.heap.size, 0, none⟩) 1 1 [.int .i64 nm] rfl _ (Nat.mul_one _) (reads_all (Blk.new w6 3 [.int .i64 nm]) rfl) (by simp [Value.oneCell']) (by unfold maxLen; omega) (by omega) ?_); intro A2 c2 w8 hv2 hk2 ho2)
            have H8 := (H7.nob a7).app2 hv2 hk2 ho2
            go_roundw
            case rel => exact ⟨i + 1, T1', T2, A, m, c, xs, A2, m' + 1, c2, ys ++ [nm], by omega, by omega, by omega, by omega, by go_num, rfl, rfl, H8⟩
            case measure => simp [intOf]; omega
        · by_cases hk1 : o0 % 4 = 1
          · by_cases hh : ∃ cc, Has T1 2 ((1 : Int), nv) cc
            · obtain ⟨⟨y1, y2, y3, y4, ⟨y5, y6⟩⟩, hcc⟩ := hh
              go_wp2_with fail
              refine (HC.two.a.get ⟨y1, y2, y3, y4, (y5, y6)⟩ hcc).mono ?_; rintro e w6 ⟨rfl, _, k6⟩
              have H6 := HC.nob k6
              unfold cval
              have H7 := H6.nob ((Keep.refl Nob w6).alloc (.cells #[.int .i64 y1, .int .i64 y2, .int .i64 y3, .int .i64 y4, .int .i64 y5, .int .i64 y6] 29))
              go_wp2_with fail
              go_roundw
              case rel => exact ⟨i + 1, T1, T2, A, m, c, xs, A', m', c', ys, by omega, by omega, by omega, by omega, by go_num, rfl, rfl, H7⟩
              case measure => simp [intOf]; omega
            · go_wp2_with fail
              refine (HC.two.a.get_no (fun cc h => hh ⟨cc, h⟩)).mono ?_; rintro e w6 ⟨rfl, _, k6⟩
              have H6 := HC.nob k6
              unfold cval zcap
              have H7 := H6.nob ((Keep.refl Nob w6).alloc (.cells #[.int .i64 0, .int .i64 0, .int .i64 0, .int .i64 0, .int .i64 0, .int .i64 0] 29))
              go_wp2_with fail
              go_roundw
              case rel => exact ⟨i + 1, T1, T2, A, m, c, xs, A', m', c', ys, by omega, by omega, by omega, by omega, by go_num, rfl, rfl, H7⟩
              case measure => simp [intOf]; omega
          · by_cases hh : ∃ cc, Has T1 2 ((1 : Int), nv) cc
            · obtain ⟨cc, hcc⟩ := hh
              go_wp2_with fail
              refine (HC.two.a.revoke cc hcc).mono ?_; rintro e w6 ⟨U, he, hU1, hU2, S6, k6⟩
              obtain rfl := HC.two.fa.nil HC.two.a.inv hcc hU2
              have he : e = .returned (.tuple #[.int .i64 1, .int .i64 0]) := he
              subst he
              have R6 := HC.two.a.other HC.two.b HC.two.ne k6
              have v6 := HC.two.a.offV HC.v (by decide) k6
              have u6 := HC.two.a.offV HC.u (by decide) k6
              have H7 : AloneAt w w6 s1 B1 p1 r1 (gone T1 [((1 : Int), nv)]) s2 B2 p2 r2 T2 A m c xs A' m' c' ys := ⟨⟨S6, R6, HC.two.ne, (gone_row1 T1 nv).trans HC.two.eq, HC.two.fa.gone _, HC.two.fb⟩, v6, u6, HC.ov, HC.ou, HC.ne⟩
              go_wp2_with fail
              go_roundw
              case rel => exact ⟨i + 1, _, T2, A, m, c, xs, A', m', c', ys, by omega, by omega, by omega, by omega, by go_num, rfl, rfl, H7⟩
              case measure => simp [intOf]; omega
            · go_wp2_with fail
              refine (HC.two.a.revoke_no (fun cc h => hh ⟨cc, h⟩)).mono ?_; rintro e w6 ⟨rfl, _, k6⟩
              have H6 := HC.nob k6
              go_wp2_with fail
              go_roundw
              case rel => exact ⟨i + 1, T1, T2, A, m, c, xs, A', m', c', ys, by omega, by omega, by omega, by omega, by go_num, rfl, rfl, H6⟩
              case measure => simp [intOf]; omega
    | false =>
      obtain ⟨l, hl⟩ : ∃ l, names ((T1 0).map Q.pl) (T1 0).length = l := ⟨_, rfl⟩
      have hl32 : l.length ≤ 1000000 := by rw [← hl]; have h1 := names_le ((T1 0).map Q.pl) (T1 0).length; rw [H.two.a.inv.len 0 (by decide)] at h1; rw [H.two.a.inv.len 0 (by decide)]; omega
      have hn1 := snames_is H.two.a.sp (e := 0) (by decide)
      rw [hl] at hn1
      have hr0 := H.two.eq
      go_wp2_with fail
      refine hn1.mono ?_; rintro e w3 ⟨A3, c3, rfl, v3, k3⟩
      have H3 := H.two.nob k3
      have hn2 := snames_is H3.b.sp (e := 0) (by decide)
      rw [← hr0, hl] at hn2
      clear hn1 hl hr0
      go_wp2_with fail
      refine hn2.mono ?_; rintro e w4 ⟨A4, c4, rfl, v4, k4⟩
      have H4 := H3.nob k4
      have v3' := v3.nob k4
      clear hn2
      go_wp2_with fail
      refine (same_yes v3' v4 hl32).mono ?_; rintro e w5 ⟨rfl, k5⟩
      have H5 := H4.nob k5
      go_wp2_with fail
      refine (awake_true _).mono ?_; rintro e w8 ⟨rfl, k8⟩
      go_wp2
      go_ret
      exact ⟨rfl, H5.a.keep.nob k8⟩
theorem CapsAlone_walk (w : World) (A0 : Option Addr) (n0 c0 : Nat) (x0 : Ty.den (.sl 112 (.pair (.int .i64) (.pair (.int .i64) (.pair (.int .i64) (.pair (.int .i64) (.pair (.int .i64) (.pair (.int .i64) (.pair (.pair (.int .i64) (.pair (.int .i64) .unit)) (.pair (.pair (.int .i64) (.pair (.int .i64) (.pair (.int .i64) (.pair (.int .i64) (.pair (.pair (.int .i64) (.pair (.int .i64) .unit)) .unit))))) .unit)))))))))) (w0 : Holds w (.sl 112 (.pair (.int .i64) (.pair (.int .i64) (.pair (.int .i64) (.pair (.int .i64) (.pair (.int .i64) (.pair (.int .i64) (.pair (.pair (.int .i64) (.pair (.int .i64) .unit)) (.pair (.pair (.int .i64) (.pair (.int .i64) (.pair (.int .i64) (.pair (.int .i64) (.pair (.pair (.int .i64) (.pair (.int .i64) .unit)) .unit))))) .unit))))))))) x0 [.slice A0 n0 c0]) :
    Calls Try.prog 3 #[.slice A0 n0 c0] w fun e w' => e = .returned (.bool true) ∧ Below w.heap.size w w' :=
  (alone_core w A0 n0 c0 x0 w0).mono fun _ _ ⟨he, k⟩ => ⟨he, k.done⟩
end Go.Proofs.Ytjkmbffcmgeknaa
