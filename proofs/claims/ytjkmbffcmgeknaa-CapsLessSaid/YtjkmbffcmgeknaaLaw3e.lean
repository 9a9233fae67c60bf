/- The walk of CapsLess. -/
import Derived.Test.YtjkmbffcmgeknaaLaw3d
namespace Go.Proofs.Ytjkmbffcmgeknaa
open Go.RowKit
set_option linter.unusedVariables false
set_option linter.unusedSimpArgs false
set_option maxRecDepth 100000 in
set_option maxHeartbeats 16000000 in
theorem less_core (w : World) (A0 : Option Addr) (n0 c0 : Nat) (x0 : Ty.den (.sl 112 OpTy3)) (w0 : Holds w (.sl 112 OpTy3) x0 [.slice A0 n0 c0]) (a1 : Int) (av : Nat) (hav : bits .and .i64 a1 255 = av) (hav2 : av ≤ 255) :
    Calls Try.prog 5 #[.slice A0 n0 c0, .int .i64 a1] w fun e w' => e = .returned (.bool true) ∧ Keep (From w.heap.size) w w' := by
  have W0 := Lib.hid w0
  clear w0
  go_enter Try.func5, Try.ntmps5
  go_wp2_with fail
  refine (new0 (w0 := w) 5 5 (by omega) (Keep.refl _ w)).mono ?_; rintro e w1 ⟨s, B, p, r, rfl, S1, _, _⟩
  go_wp2_with fail
  refine (S1.put 0 (by decide) ⟨9, 7, 100, 1000, (0, 0)⟩ (by decide) (by decide) (by decide)).mono ?_; rintro e w2 ⟨a, er, T2, rfl, hA, S2, _⟩
  obtain ⟨rfl, hn1, hh1⟩ := hA.room S1.inv (by decide) rfl
  have ch2 : Chain T2 5 [(((0 : Int), a), (⟨9, 7, 100, 1000, (0, 0)⟩ : Cp))] := Chain.one (fun σ d => by rw [hh1]; exact ⟨fun h => h.elim (fun h => (init_has h).elim) id, .inr⟩) rfl
  have hlt2 := S2.keep.size
  have bA : Blk (w2.alloc (.cells #[.int .i64 0, .int .i64 a] 27)) w2.heap.size 27 [.int .i64 0, .int .i64 a] := Blk.new w2 _ [.int .i64 0, .int .i64 a]
  have L0 : LessAt w (w2.alloc (.cells #[.int .i64 0, .int .i64 a] 27)) s B p r T2 [(((0 : Int), a), (⟨9, 7, 100, 1000, (0, 0)⟩ : Cp))] w2.heap.size 1 :=
    ⟨S2.nob ((Keep.refl _ _).alloc _), ch2, Nat.le_refl _, by simp, Vec.of_blk bA rfl (show 1 ≤ maxLen by unfold maxLen; omega), hlt2⟩
  clear hA hh1 hn1 S2 S1 ch2 bA hlt2
  go_wp2
  go_loopw [8, 9] (fun s8 s9 wx => ∃ (i : Nat) (T : St) (L : List (Rf × Cp)) (g cap : Nat), i ≤ n0 ∧ i ≤ 25 ∧ L.length ≤ i + 1 ∧ s9 = .int .i64 i ∧ s8 = .slice (some ⟨g, 0, none⟩) L.length cap ∧ LessAt w wx s B p r T L g cap) (fun _ s9 _ => 25 - (intOf s9).toNat)
  case atStart => exact ⟨0, T2, _, _, 1, Nat.zero_le _, Nat.zero_le _, Nat.le_refl _, rfl, rfl, L0⟩
  case round =>
    obtain ⟨i, T, L, g, cap, hi, hi25, hLi, rfl, rfl, H⟩ := hrel
    obtain ⟨bo, hbo⟩ : ∃ bo, bo = decide (i < n0 ∧ i < 25) := ⟨_, rfl⟩
    have Hbo := Lib.hid hbo
    clear hbo L0
    go_upto_region 9 with fail
    go_cut [49] from 42 to 49 (fun s49 wx => s49 = .bool bo ∧ wx = wr)
    case first =>
      by_cases h1 : i < n0
      · by_cases h2 : i < 25
        · have h3 : decide (i < n0 ∧ i < 25) = true := by simp [h1, h2]
          go_wp2_with fail
          go_meet
          exact ⟨by (try rw [Hbo.out, h3]); (first | rfl | exact congrArg Value.bool (decide_eq_true (by omega)) | exact congrArg Value.bool (decide_eq_false (by omega)) | skip), rfl⟩
        · have h3 : decide (i < n0 ∧ i < 25) = false := by simp [h2]
          go_wp2_with fail
          go_meet
          exact ⟨by (try rw [Hbo.out, h3]); (first | rfl | exact congrArg Value.bool (decide_eq_true (by omega)) | exact congrArg Value.bool (decide_eq_false (by omega)) | skip), rfl⟩
      · have h3 : decide (i < n0 ∧ i < 25) = false := by simp [h1]
        go_wp2_with fail
        go_meet
        exact ⟨by (try rw [Hbo.out, h3]); (first | rfl | exact congrArg Value.bool (decide_eq_true (by omega)) | exact congrArg Value.bool (decide_eq_false (by omega)) | skip), rfl⟩
    case rest =>
    obtain ⟨rfl, hw⟩ := hcut
    have hw := hw.symm
    subst hw
    cases bo with
    | true =>
      obtain ⟨hin, hi2⟩ : i < n0 ∧ i < 25 := of_decide_eq_true Hbo.out.symm
      obtain ⟨b0, off, cs', hA0, hcl, hcc, hk', hh⟩ := holds_at W0.out (by decide) hin
      obtain ⟨o0, o1, o2, o3, o4, o5, o6, o7, o8, o9, o10, o11, o12, o13, rfl⟩ := op3_cells hh
      subst hA0
      have f0 := H.S.keep.cell_from (hcc 0 _ rfl)
      have f1 := H.S.keep.cell_from (hcc 1 _ rfl)
      have f2 := H.S.keep.cell_from (hcc 2 _ rfl)
      have f3 := H.S.keep.cell_from (hcc 3 _ rfl)
      have f4 := H.S.keep.cell_from (hcc 4 _ rfl)
      have f5 := H.S.keep.cell_from (hcc 5 _ rfl)
      have f6 := H.S.keep.cell_from (hcc 6 _ rfl)
      have f7 := H.S.keep.cell_from (hcc 7 _ rfl)
      have f8 := H.S.keep.cell_from (hcc 8 _ rfl)
      have f9 := H.S.keep.cell_from (hcc 9 _ rfl)
      have f10 := H.S.keep.cell_from (hcc 10 _ rfl)
      have f11 := H.S.keep.cell_from (hcc 11 _ rfl)
      have f12 := H.S.keep.cell_from (hcc 12 _ rfl)
      have f13 := H.S.keep.cell_from (hcc 13 _ rfl)
      simp only [show OpTy3.size = 14 from rfl, Nat.add_zero] at f0 f1 f2 f3 f4 f5 f6 f7 f8 f9 f10 f11 f12 f13
      clear hcc hcl hh hk'
      obtain ⟨l, hl⟩ : ∃ l, L.length = l + 1 := ⟨L.length - 1, by have := H.pos; omega⟩
      rw [hl]
      have HL := Lib.hid hl
      clear hl
      go_upto_block 1 with fail
      refine bd3_any w wr s B p r T L g cap l n0 c0 b0 off i o0 o1 o2 o3 o4 o5 o6 o7 o8 o9 o10 o11 o12 o13 H HL.out (by have := HL.out; omega) hin f0 f1 f2 f3 f4 f5 f6 f7 f8 f9 f10 f11 f12 f13 _ _ _ _ _ _ _ _ _ _ _ _ _ _ _ _ _ _ _ _ _ _ _ _ _ _ _ _ _ _ _ _ _ _ _ _ _ _ _ _ _ _ _ _ _ _ _ _ _ _ _ _ _ _ _ _ _ _ _ _ _ _ _ _ _ _ _ _ _ _ _ _ _ _ _ _ _ _ _ _ _ _ _ _ _ _ _ _ _ _ _ _ _ _ _ _ _ _ _ _ _ _ _ _ _ _ _ _ _ _ _ _ _ _ _ _ _ _ _ _ _ _ _ _ _ _ _ _ _ _ _ _ _ _ _ _ _ _ _ _ _ _ _ _ _ _ _ _ _ _ _ _ _ _ _ _ _ _ _ _ _ _ _ _ _ _ _ _ _ _ _ _ _ _ _ _ _ _ _ _ _ _ _ _ _ _ _ _ _ _ _ _ _ _ _ _ _ _ _ _ _ _ _ _ _ _ _ _ _ _ _ _ _ _ _ _ _ _ _ _ _ _ _ _ _ _ _ _ _ _ _ _ _ _ _ _ _ _ _ _ ?_
      intro a' w' h
      obtain ⟨u4, h⟩ := h
      obtain ⟨u10, h⟩ := h
      obtain ⟨u11, h⟩ := h
      obtain ⟨u12, h⟩ := h
      obtain ⟨u13, h⟩ := h
      obtain ⟨u14, h⟩ := h
      obtain ⟨u15, h⟩ := h
      obtain ⟨u16, h⟩ := h
      obtain ⟨u17, h⟩ := h
      obtain ⟨u18, h⟩ := h
      obtain ⟨u19, h⟩ := h
      obtain ⟨u52, h⟩ := h
      obtain ⟨u53, h⟩ := h
      obtain ⟨u54, h⟩ := h
      obtain ⟨u55, h⟩ := h
      obtain ⟨u56, h⟩ := h
      obtain ⟨u57, h⟩ := h
      obtain ⟨u58, h⟩ := h
      obtain ⟨u59, h⟩ := h
      obtain ⟨u60, h⟩ := h
      obtain ⟨u61, h⟩ := h
      obtain ⟨u62, h⟩ := h
      obtain ⟨u63, h⟩ := h
      obtain ⟨u64, h⟩ := h
      obtain ⟨u65, h⟩ := h
      obtain ⟨u66, h⟩ := h
      obtain ⟨u67, h⟩ := h
      obtain ⟨u68, h⟩ := h
      obtain ⟨u69, h⟩ := h
      obtain ⟨u70, h⟩ := h
      obtain ⟨u71, h⟩ := h
      obtain ⟨u72, h⟩ := h
      obtain ⟨u73, h⟩ := h
      obtain ⟨u74, h⟩ := h
      obtain ⟨u75, h⟩ := h
      obtain ⟨u76, h⟩ := h
      obtain ⟨u77, h⟩ := h
      obtain ⟨u78, h⟩ := h
      obtain ⟨u79, h⟩ := h
      obtain ⟨u80, h⟩ := h
      obtain ⟨u81, h⟩ := h
      obtain ⟨u82, h⟩ := h
      obtain ⟨u83, h⟩ := h
      obtain ⟨u84, h⟩ := h
      obtain ⟨u85, h⟩ := h
      obtain ⟨u86, h⟩ := h
      obtain ⟨u87, h⟩ := h
      obtain ⟨u88, h⟩ := h
      obtain ⟨u89, h⟩ := h
      obtain ⟨u90, h⟩ := h
      obtain ⟨u91, h⟩ := h
      obtain ⟨u92, h⟩ := h
      obtain ⟨u93, h⟩ := h
      obtain ⟨u94, h⟩ := h
      obtain ⟨u95, h⟩ := h
      obtain ⟨u96, h⟩ := h
      obtain ⟨u97, h⟩ := h
      obtain ⟨u98, h⟩ := h
      obtain ⟨u99, h⟩ := h
      obtain ⟨u100, h⟩ := h
      obtain ⟨u101, h⟩ := h
      obtain ⟨u102, h⟩ := h
      obtain ⟨u103, h⟩ := h
      obtain ⟨u104, h⟩ := h
      obtain ⟨u105, h⟩ := h
      obtain ⟨u106, h⟩ := h
      obtain ⟨u107, h⟩ := h
      obtain ⟨u108, h⟩ := h
      obtain ⟨u109, h⟩ := h
      obtain ⟨u110, h⟩ := h
      obtain ⟨u111, h⟩ := h
      obtain ⟨u112, h⟩ := h
      obtain ⟨u113, h⟩ := h
      obtain ⟨u114, h⟩ := h
      obtain ⟨u115, h⟩ := h
      obtain ⟨u116, h⟩ := h
      obtain ⟨u117, h⟩ := h
      obtain ⟨u118, h⟩ := h
      obtain ⟨u119, h⟩ := h
      obtain ⟨u120, h⟩ := h
      obtain ⟨u121, h⟩ := h
      obtain ⟨u122, h⟩ := h
      obtain ⟨u123, h⟩ := h
      obtain ⟨u124, h⟩ := h
      obtain ⟨u125, h⟩ := h
      obtain ⟨u126, h⟩ := h
      obtain ⟨u127, h⟩ := h
      obtain ⟨u128, h⟩ := h
      obtain ⟨u129, h⟩ := h
      obtain ⟨u130, h⟩ := h
      obtain ⟨u131, h⟩ := h
      obtain ⟨u132, h⟩ := h
      obtain ⟨u133, h⟩ := h
      obtain ⟨u134, h⟩ := h
      obtain ⟨u135, h⟩ := h
      obtain ⟨u136, h⟩ := h
      obtain ⟨u137, h⟩ := h
      obtain ⟨u138, h⟩ := h
      obtain ⟨u139, h⟩ := h
      obtain ⟨u140, h⟩ := h
      obtain ⟨u141, h⟩ := h
      obtain ⟨u142, h⟩ := h
      obtain ⟨u143, h⟩ := h
      obtain ⟨u144, h⟩ := h
      obtain ⟨u145, h⟩ := h
      obtain ⟨u146, h⟩ := h
      obtain ⟨u147, h⟩ := h
      obtain ⟨u148, h⟩ := h
      obtain ⟨u149, h⟩ := h
      obtain ⟨u150, h⟩ := h
      obtain ⟨u151, h⟩ := h
      obtain ⟨u152, h⟩ := h
      obtain ⟨u153, h⟩ := h
      obtain ⟨u154, h⟩ := h
      obtain ⟨u155, h⟩ := h
      obtain ⟨u156, h⟩ := h
      obtain ⟨u157, h⟩ := h
      obtain ⟨u158, h⟩ := h
      obtain ⟨T3, L3, g3, cap3, hl3, H3, rfl⟩ := h
      dsimp only
      go_wp2_with fail
      go_roundw
      case rel => exact ⟨i + 1, T3, L3, g3, cap3, by omega, by omega, by have := HL.out; omega, by go_num, rfl, H3⟩
      case measure => simp [intOf]; omega
    | false =>
      obtain ⟨k, hk⟩ : ∃ k, av % L.length = k := ⟨_, rfl⟩
      have hpos := H.pos
      have hkl : k < L.length := by rw [← hk]; exact Nat.mod_lt _ hpos
      have hk2 : (av : Int).tmod (L.length : Int) = k := by rw [Int.tmod_eq_emod_of_nonneg (by omega), ← hk]; exact (Int.natCast_emod av L.length).symm
      obtain ⟨⟨⟨xe, xn⟩, c⟩, hx⟩ : ∃ x, L[k]? = some x := ⟨_, List.getElem?_eq_getElem hkl⟩
      have hxr : (L.map (·.1))[k]? = some (xe, xn) := by rw [List.getElem?_map, hx]; rfl
      obtain ⟨g', hg', e0, e1⟩ := H.v.rf hxr
      cases hg'
      have hc : Has T 5 (xe, xn) c := (H.ch.has _ _).2 (List.mem_of_getElem? hx)
      simp only at e0 e1
      have hb := H.v.blk (g := g) ⟨_, rfl, rfl⟩
      obtain ⟨cur, hcur⟩ := hb
      have hL26 : L.length ≤ 26 := by omega
      clear hk
      obtain ⟨M, hM⟩ : ∃ M, L.length = M := ⟨_, rfl⟩
      obtain ⟨q, hq⟩ : ∃ q, M = q + k + 1 := ⟨M - k - 1, by omega⟩
      have hv0 := H.v
      rw [hM] at hk2 hkl hL26 hpos hv0 ⊢
      have HM := Lib.hid hM
      have Hq := Lib.hid hq
      clear hM hq
      have sf : ∀ W, Keep Nob wr W → (W.cell? ⟨g, k * 2, none⟩ = some (.int .i64 xe) ∧ W.cell? ⟨g, k * 2 + 1, none⟩ = some (.int .i64 xn)) := by
        intro W kk
        obtain ⟨g', hg', e0, e1⟩ := (H.v.nob kk).rf hxr
        cases hg'
        exact ⟨e0, e1⟩
      have kd : Keep Nob wr wr.drew := Keep.nobdrew _
      go_wp2_with fail
      go_region_held3 (fun w' => w'.cell? ⟨g, k * 2, none⟩ = some (.int .i64 xe) ∧ w'.cell? ⟨g, k * 2 + 1, none⟩ = some (.int .i64 xn))
        (first | exact sf _ kd | exact sf _ k1)
        (first | (go_at_call 15; refine ((H.S.nob (Keep.nobdrew _)).under c hc).mono ?_; rintro e w3 ⟨A3, cap3, U, he3, hU1, hU2, _, _, S3, k3⟩; have hUl : U.length = q := (by have h9 := (H.ch.under H.S.inv hx hU1 hU2).length_eq; rw [List.length_map, List.length_drop] at h9; have := HM.out; have := Hq.out; omega); rw [hUl] at he3; subst he3; have k1 := kd.nobt k3))
      clear hUl
      have v3 := hv0.nob k1
      have sf3 : ∀ W, Keep (Rows_ 5 r) w3 W → (W.cell? ⟨g, k * 2, none⟩ = some (.int .i64 xe) ∧ W.cell? ⟨g, k * 2 + 1, none⟩ = some (.int .i64 xn)) := by
        intro W kk
        obtain ⟨g', hg', e0, e1⟩ := (S3.offV v3 (by decide) kk).rf hxr
        cases hg'
        exact ⟨e0, e1⟩
      have kd3 : Keep (Rows_ 5 r) w3 w3.drew := (Keep.refl _ _).drew
      clear sf kd
      go_wp2_with fail
      go_region_held3 (fun w' => w'.cell? ⟨g, k * 2, none⟩ = some (.int .i64 xe) ∧ w'.cell? ⟨g, k * 2 + 1, none⟩ = some (.int .i64 xn))
        (first | exact sf3 _ kd3 | exact sf3 _ k5)
        (first | (go_at_call 10; refine ((S3.nob (Keep.nobdrew _)).revoke c hc).mono ?_; rintro e w5 ⟨U2, he5, hV1, hV2, S5, k4⟩; have hUl : U2.length = q := (by have h9 := (H.ch.under H.S.inv hx hV1 hV2).length_eq; rw [List.length_map, List.length_drop] at h9; have := HM.out; have := Hq.out; omega); rw [hUl] at he5; subst he5; have k5 := kd3.trans k4 (fun _ _ m => m)))
      have v5 := S3.offV v3 (by decide) k5
      have ch5 := H.ch.gone H.S.inv hx hV2
      have cond1 : (M : Int) - (k : Int) = 1 + (q : Int) := by have := Hq.out; omega
      clear hUl sf3 kd3 k5 k4 hV1 hV2 hU1 hU2 k1 k3 hk2
      go_wp2_with fail
      clear cond1
      go_loopw [25] (fun s25 wx => ∃ j : Nat, j ≤ M ∧ s25 = .int .i64 j ∧ Sp0 w wx s B 5 p r (gone T ((xe, xn) :: U2)) ∧ Vec wx 27 2 (some ⟨g, 0, none⟩) M cap (refs (L.map (·.1)))) (fun s25 _ => M - (intOf s25).toNat)
      case atStart => exact ⟨0, Nat.zero_le _, rfl, S5, v5⟩
      case round =>
        obtain ⟨j, hj, rfl, S6, v6⟩ := hrel
        by_cases hjl : j < M
        · obtain ⟨⟨⟨ye, yn⟩, yc⟩, hy⟩ : ∃ y, L[j]? = some y := ⟨_, List.getElem?_eq_getElem (by rw [HM.out]; exact hjl)⟩
          have hyr : (L.map (·.1))[j]? = some (ye, yn) := by rw [List.getElem?_map, hy]; rfl
          obtain ⟨g', hg', e0, e1⟩ := v6.rf hyr
          cases hg'
          simp only at e0 e1
          have sf : ∀ W, Keep Nob wr W → (W.cell? ⟨g, j * 2, none⟩ = some (.int .i64 ye) ∧ W.cell? ⟨g, j * 2 + 1, none⟩ = some (.int .i64 yn)) := by
            intro W kk
            obtain ⟨g', hg', e0, e1⟩ := (v6.nob kk).rf hyr
            cases hg'
            exact ⟨e0, e1⟩
          have kd : Keep Nob wr wr.drew := Keep.nobdrew _
          have hget : ∃ (c1 c2 c3 c4 c5 c6 er : Int), (∀ W, Keep Nob wr W → Calls Try.prog 9 #[.pointer (some ⟨s, 0, none⟩), .int .i64 ye, .int .i64 yn] W fun e' w' => e' = .returned (.tuple #[.agg #[.int .i64 c1, .int .i64 c2, .int .i64 c3, .int .i64 c4, .int .i64 c5, .int .i64 c6], .int .i64 er]) ∧ Keep Nob W w') ∧
              ((j < k ∧ er = 0) ∨ (¬ j < k ∧ er = 2)) := by
            by_cases hjk : j < k
            · have hyc : Has (gone T ((xe, xn) :: U2)) 5 (ye, yn) yc := (ch5.has _ _).2 (List.mem_iff_getElem?.2 ⟨j, by rw [List.getElem?_take, if_pos hjk]; exact hy⟩)
              exact ⟨yc.obj, yc.rights, yc.lo, yc.n, yc.root.1, yc.root.2, 0, fun W kk => ((S6.nob kk).get yc hyc).mono fun _ _ ⟨h1, _, h3⟩ => ⟨h1, h3⟩, .inl ⟨hjk, rfl⟩⟩
            · refine ⟨0, 0, 0, 0, 0, 0, 2, fun W kk => ((S6.nob kk).get_no (fun d hd => ?_)).mono fun _ _ ⟨h1, _, h3⟩ => ⟨h1, h3⟩, .inr ⟨hjk, rfl⟩⟩
              obtain ⟨i', hi'⟩ := List.getElem?_of_mem ((ch5.has _ _).1 hd)
              rw [List.getElem?_take] at hi'
              split at hi'
              · have := H.ch.idx hi' hy rfl
                omega
              · cases hi'
          obtain ⟨c1, c2, c3, c4, c5, c6, er, hget, hcase⟩ := hget
          go_upto_block 3 with fail
          refine bl3_to wr s g M cap k j ye yn hjl hkl hL26 sf c1 c2 c3 c4 c5 c6 er hget hcase _ _ _ _ _ _ _ _ _ _ _ _ _ _ _ _ _ _ _ _ _ _ _ _ _ _ _ _ _ _ _ _ _ _ _ _ _ _ _ _ _ _ _ _ _ _ _ _ _ _ _ _ _ _ _ _ _ _ _ _ _ _ _ _ _ _ _ _ _ _ _ _ _ _ _ _ _ _ _ _ _ _ _ _ _ _ _ _ _ _ _ _ _ _ _ _ _ _ _ _ _ _ _ _ _ _ _ _ _ _ _ _ _ _ _ _ _ _ _ _ _ _ _ _ _ _ _ _ _ _ _ _ _ _ _ _ _ _ _ _ _ _ _ _ _ _ _ _ _ _ _ _ _ _ _ _ _ _ _ _ _ _ _ _ _ _ _ _ _ _ _ _ _ _ _ _ _ _ _ _ _ _ _ _ _ _ _ _ _ _ _ _ _ _ _ _ _ _ _ _ _ _ _ _ _ _ _ _ _ _ _ _ _ _ _ _ _ _ _ _ _ _ _ _ _ _ _ _ _ _ _ _ _ _ _ _ _ _ _ _ ?_
          intro a' w' h
          obtain ⟨u4, h⟩ := h
          obtain ⟨u26, h⟩ := h
          obtain ⟨u27, h⟩ := h
          obtain ⟨u221, h⟩ := h
          obtain ⟨u222, h⟩ := h
          obtain ⟨u223, h⟩ := h
          obtain ⟨u224, h⟩ := h
          obtain ⟨u225, h⟩ := h
          obtain ⟨u226, h⟩ := h
          obtain ⟨u227, h⟩ := h
          obtain ⟨u228, h⟩ := h
          obtain ⟨u229, h⟩ := h
          obtain ⟨u230, h⟩ := h
          obtain ⟨u231, h⟩ := h
          obtain ⟨u232, h⟩ := h
          obtain ⟨u233, h⟩ := h
          obtain ⟨u234, h⟩ := h
          obtain ⟨u235, h⟩ := h
          obtain ⟨u236, h⟩ := h
          obtain ⟨u237, h⟩ := h
          obtain ⟨u238, h⟩ := h
          obtain ⟨u239, h⟩ := h
          obtain ⟨u240, h⟩ := h
          obtain ⟨u241, h⟩ := h
          obtain ⟨K3, rfl⟩ := h
          clear hget hcase sf
          dsimp only
          go_wp2_with fail
          go_roundw
          case rel => exact ⟨j + 1, by omega, by go_num, S6.nob K3, v6.nob K3⟩
          case measure => simp [intOf]; omega
        · obtain rfl : j = M := by omega
          go_wp2_with fail
          refine (awake_true _).mono ?_; rintro e w8 ⟨rfl, k8⟩
          go_wp2
          go_ret
          exact ⟨rfl, S6.keep.nob k8⟩
theorem CapsLess_walk (w : World) (A0 : Option Addr) (n0 c0 : Nat) (x0 : Ty.den (.sl 112 (.pair (.int .i64) (.pair (.int .i64) (.pair (.int .i64) (.pair (.int .i64) (.pair (.int .i64) (.pair (.int .i64) (.pair (.pair (.int .i64) (.pair (.int .i64) .unit)) (.pair (.pair (.int .i64) (.pair (.int .i64) (.pair (.int .i64) (.pair (.int .i64) (.pair (.pair (.int .i64) (.pair (.int .i64) .unit)) .unit))))) .unit)))))))))) (w0 : Holds w (.sl 112 (.pair (.int .i64) (.pair (.int .i64) (.pair (.int .i64) (.pair (.int .i64) (.pair (.int .i64) (.pair (.int .i64) (.pair (.pair (.int .i64) (.pair (.int .i64) .unit)) (.pair (.pair (.int .i64) (.pair (.int .i64) (.pair (.int .i64) (.pair (.int .i64) (.pair (.pair (.int .i64) (.pair (.int .i64) .unit)) .unit))))) .unit))))))))) x0 [.slice A0 n0 c0]) (a1 : Int) (_ : (Lit.int .i64 a1).wf = true) :
    Calls Try.prog 5 #[.slice A0 n0 c0, .int .i64 a1] w fun e w' => e = .returned (.bool true) ∧ Below w.heap.size w w' :=
  (less_core w A0 n0 c0 x0 w0 a1 (a1 % 256).toNat (by rw [i64_and255]; omega) (by omega)).mono fun _ _ ⟨he, k⟩ => ⟨he, k.done⟩
end Go.Proofs.Ytjkmbffcmgeknaa
