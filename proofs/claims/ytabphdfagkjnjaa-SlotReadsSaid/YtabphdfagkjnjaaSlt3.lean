/- Package pslot: put. -/
import Derived.Test.YtabphdfagkjnjaaSlt2
import Derived.BigRegion
namespace Go.Proofs.Ytabphdfagkjnjaa
open Go.RowKit
set_option linter.unusedVariables false
set_option linter.unusedSimpArgs false
/-- The first j bytes of p, and noughts. -/
def prt (p : List Int) (j : Nat) : List UInt8 := (enc p).take j ++ List.replicate (24 - j) 0
theorem ints_getD {l : List Int} {k : Nat} (h : k < l.length) : (ints l)[k]? = some (.int .i64 (l.getD k 0)) := by
  rw [ints_get, List.getD_eq_getElem?_getD, List.getElem?_eq_getElem h]; rfl
theorem prt_len {p : List Int} (hp : p.length = 16) {j : Nat} (hj : j ≤ 24) : (prt p j).length = 24 := by
  simp [prt, enc_len hp]; omega
theorem prt_all {p : List Int} (hp : p.length = 16) : prt p 24 = enc p := by
  rw [prt, List.take_of_length_le (by rw [enc_len hp]; exact Nat.le_refl _)]; simp
theorem wrap_byt (n : Int) : IntKind.u8.wrap n = ((byt n).toNat : Int) := by
  rw [byt, byte_back, IntKind.wrap_u8']
theorem vec_blk {w : World} {g : Nat} {l : List UInt8} (h : Vec w 5 1 (some ⟨g, 0, none⟩) 24 24 (bytes l)) : Blk w g 5 (bytes l) := by
  obtain ⟨g', cur, h1, h2, _, h3, h4⟩ := h.at_ (by decide)
  cases h1
  rw [List.take_of_length_le (by rw [h3]; exact Nat.le_refl _)] at h4
  rw [← h4]; exact h2
theorem bytes_sets (l : List UInt8) (k : Nat) (n v : Int) (hv : IntKind.u8.wrap n = v) : (bytes l).set k (.int .u8 v) = bytes (l.set k (byt n)) :=
  bytes_set l k (byt n) v (by rw [← hv, wrap_byt])
theorem prt_4 {p : List Int} (hp : p.length = 16) : ((((List.replicate 24 (0 : UInt8)).set 0 (byt (p.getD 0 0))).set 1 (byt (p.getD 1 0))).set 2 (byt (p.getD 2 0))).set 3 (byt (p.getD 3 0)) = prt p 4 := by
  obtain ⟨a0, a1, a2, a3, a4, a5, a6, a7, f0, f1, f2, f3, f4, f5, f6, f7, rfl⟩ := split16 hp
  rfl
theorem prt_two {p : List Int} (hp : p.length = 16) {k : Nat} (hk : k < 4) : splice (prt p (4 + 2 * k)) (4 + 2 * k) (two (p.getD (4 + k) 0)) = prt p (4 + 2 * (k + 1)) := by
  obtain ⟨a0, a1, a2, a3, a4, a5, a6, a7, f0, f1, f2, f3, f4, f5, f6, f7, rfl⟩ := split16 hp
  rcases (show k = 0 ∨ k = 1 ∨ k = 2 ∨ k = 3 from by omega) with rfl | rfl | rfl | rfl <;> rfl
theorem prt_one {p : List Int} (hp : p.length = 16) {k : Nat} (hk : k < 8) : (prt p (12 + k)).set (12 + k) (byt (p.getD (8 + k) 0)) = prt p (12 + (k + 1)) := by
  obtain ⟨a0, a1, a2, a3, a4, a5, a6, a7, f0, f1, f2, f3, f4, f5, f6, f7, rfl⟩ := split16 hp
  rcases (show k = 0 ∨ k = 1 ∨ k = 2 ∨ k = 3 ∨ k = 4 ∨ k = 5 ∨ k = 6 ∨ k = 7 from by omega) with rfl | rfl | rfl | rfl | rfl | rfl | rfl | rfl <;> rfl
theorem prt_mark {p : List Int} (hp : p.length = 16) : (prt p 20).set 20 167 = prt p 21 := by
  obtain ⟨a0, a1, a2, a3, a4, a5, a6, a7, f0, f1, f2, f3, f4, f5, f6, f7, rfl⟩ := split16 hp
  rfl
theorem prt_sum {p : List Int} (hp : p.length = 16) : (prt p 21).set 21 (sumb (pre p)) = enc p := by
  obtain ⟨a0, a1, a2, a3, a4, a5, a6, a7, f0, f1, f2, f3, f4, f5, f6, f7, rfl⟩ := split16 hp
  rfl
theorem prt_pre {p : List Int} (hp : p.length = 16) : (prt p 21).take 21 = pre p := by
  obtain ⟨a0, a1, a2, a3, a4, a5, a6, a7, f0, f1, f2, f3, f4, f5, f6, f7, rfl⟩ := split16 hp
  rfl
set_option maxHeartbeats 4000000 in
set_option maxRecDepth 100000 in
theorem put_is_ (p : List Int) (hl : p.length = 16) (hw : ∀ x ∈ p, Wf x) (g : Nat) (w : World) (hz : Blk w g 5 (bytes (List.replicate 24 0))) (v : Bool) (hv : okd p = v) :
    Calls Try.prog 33 #[pv p, .slice (some ⟨g, 0, none⟩) 24 24] w fun e w' => e = .returned (.bool v) ∧ Blk w' g 5 (bytes (if v then enc p else List.replicate 24 0)) ∧ Keep (· = g) w w' := by
  have q1 := ok_is p hl hw
  have B : v = true → Bounds p := fun e => okd_bounds (by rw [hv, e])
  have z4 := prt_4 hl
  have HB := Lib.hid B
  have HL := Lib.hid hl
  obtain ⟨a0, a1, a2, a3, a4, a5, a6, a7, f0, f1, f2, f3, f4, f5, f6, f7, rfl⟩ := split16 hl
  simp only [List.getD_cons_succ, List.getD_cons_zero] at z4
  have Q1 := Lib.hid (fun w => q1 w v hv)
  have Z4 := Lib.hid z4
  clear q1 hv z4 B hw hl
  generalize hP : ([a0, a1, a2, a3, a4, a5, a6, a7, f0, f1, f2, f3, f4, f5, f6, f7] : List Int) = Pp at *
  have hpv : pv Pp = .agg #[.int .i64 a0, .int .i64 a1, .int .i64 a2, .int .i64 a3, .int .i64 a4, .int .i64 a5, .int .i64 a6, .int .i64 a7, .int .i64 f0, .int .i64 f1, .int .i64 f2, .int .i64 f3, .int .i64 f4, .int .i64 f5, .int .i64 f6, .int .i64 f7] := by rw [← hP]; rfl
  rw [hpv]
  go_enter Try.func33, Try.ntmps33
  go_wp2_with (refine wpList_box rfl 24 _ rfl _ rfl ?_; intro w1 hb hk hs; clear hs; rw [show (Value.agg #[.int .i64 a0, .int .i64 a1, .int .i64 a2, .int .i64 a3, .int .i64 a4, .int .i64 a5, .int .i64 a6, .int .i64 a7, .int .i64 f0, .int .i64 f1, .int .i64 f2, .int .i64 f3, .int .i64 f4, .int .i64 f5, .int .i64 f6, .int .i64 f7]).cells.toList = ints Pp from by rw [← hP]; rfl] at hb; have hb' := hb; rw [← hP] at hb'; obtain ⟨c0, c1, c2, c3, c4, c5, c6, c7, c8, c9, c10, c11, c12, c13, c14, c15⟩ := cells16 hb'; clear hb')
  have hne : w.heap.size ≠ g := by have := hz.lt; omega
  have hz1 := hz.nob hk
  rw [← hpv]
  refine (Q1.out _).mono ?_; rintro e w2 ⟨rfl, k2⟩
  have hb2 := hb.nob k2
  have hz2 := hz1.nob k2
  have hk2 := hk.nobt k2
  clear c0 c1 c2 c3 c4 c5 c6 c7 c8 c9 c10 c11 c12 c13 c14 c15 hb hz1 hk k2 hz
  cases v with
  | false =>
    go_wp2
    go_ret
    exact ⟨rfl, hz2, hk2.mono (fun _ _ f => f.elim)⟩
  | true =>
  have BB := Lib.hid (HB.out rfl)
  clear HB Q1
  have hb' := hb2; rw [← hP] at hb'; obtain ⟨c0, c1, c2, c3, c4, c5, c6, c7, c8, c9, c10, c11, c12, c13, c14, c15⟩ := cells16 hb'; clear hb'
  obtain ⟨y0, hy0⟩ : ∃ y, IntKind.u8.wrap a0 = y := ⟨_, rfl⟩
  obtain ⟨y1, hy1⟩ : ∃ y, IntKind.u8.wrap a1 = y := ⟨_, rfl⟩
  obtain ⟨y2, hy2⟩ : ∃ y, IntKind.u8.wrap a2 = y := ⟨_, rfl⟩
  obtain ⟨y3, hy3⟩ : ∃ y, IntKind.u8.wrap a3 = y := ⟨_, rfl⟩
  have fr0 := hz2.frozen 0
  have fr1 := hz2.frozen 1
  have fr2 := hz2.frozen 2
  have fr3 := hz2.frozen 3
  have q0 := hz2.cell 0
  have q1 := hz2.cell 1
  have q2 := hz2.cell 2
  have q3 := hz2.cell 3
  simp only [bytes_replicate, List.getElem?_replicate] at q0 q1 q2 q3
  have HP := Lib.hid hP
  clear hP
  go_wp2_with fail
  go_region
  have hz3 : Blk (((((w2.setCell ⟨g, 0, none⟩ (.int .u8 y0)).setCell ⟨g, 1, none⟩ (.int .u8 y1)).setCell ⟨g, 2, none⟩ (.int .u8 y2)).setCell ⟨g, 3, none⟩ (.int .u8 y3)).drew) g 5 (bytes (prt Pp 4)) := by
    have := ((((hz2.setCell 0 (.int .u8 y0)).setCell 1 (.int .u8 y1)).setCell 2 (.int .u8 y2)).setCell 3 (.int .u8 y3)).drew
    rw [bytes_sets _ 0 a0 y0 hy0, bytes_sets _ 1 a1 y1 hy1, bytes_sets _ 2 a2 y2 hy2, bytes_sets _ 3 a3 y3 hy3, Z4.out] at this
    exact this
  have hb3 : Blk (((((w2.setCell ⟨g, 0, none⟩ (.int .u8 y0)).setCell ⟨g, 1, none⟩ (.int .u8 y1)).setCell ⟨g, 2, none⟩ (.int .u8 y2)).setCell ⟨g, 3, none⟩ (.int .u8 y3)).drew) w.heap.size 24 (ints Pp) := ((((hb2.far (p := ⟨g, 0, none⟩) hne _).far (p := ⟨g, 1, none⟩) hne _).far (p := ⟨g, 2, none⟩) hne _).far (p := ⟨g, 3, none⟩) hne _).drew
  have hk3 : Keep (· = g) w (((((w2.setCell ⟨g, 0, none⟩ (.int .u8 y0)).setCell ⟨g, 1, none⟩ (.int .u8 y1)).setCell ⟨g, 2, none⟩ (.int .u8 y2)).setCell ⟨g, 3, none⟩ (.int .u8 y3)).drew) := ((((hk2.mono (M' := (· = g)) (fun _ _ f => f.elim)).setCell ⟨g, 0, none⟩ _ (fun _ => rfl)).setCell ⟨g, 1, none⟩ _ (fun _ => rfl)).setCell ⟨g, 2, none⟩ _ (fun _ => rfl)).setCell ⟨g, 3, none⟩ _ (fun _ => rfl) |>.drew
  clear c0 c1 c2 c3 c4 c5 c6 c7 c8 c9 c10 c11 c12 c13 c14 c15 hy0 hy1 hy2 hy3 fr0 fr1 fr2 fr3 q0 q1 q2 q3 hz2 hb2 hk2 Z4
  generalize (((((w2.setCell ⟨g, 0, none⟩ (.int .u8 y0)).setCell ⟨g, 1, none⟩ (.int .u8 y1)).setCell ⟨g, 2, none⟩ (.int .u8 y2)).setCell ⟨g, 3, none⟩ (.int .u8 y3)).drew) = w3 at *
  have e0 := hb3.cell 4
  have e1 := hb3.cell 5
  have e2 := hb3.cell 6
  have e3 := hb3.cell 7
  have hX : ∀ k, k < 4 → ([a4, a5, a6, a7] : List Int).getD k 0 = Pp.getD (4 + k) 0 := fun k hk => by
    rw [← HP.out]
    rcases (show k = 0 ∨ k = 1 ∨ k = 2 ∨ k = 3 from by omega) with rfl | rfl | rfl | rfl <;> rfl
  have HX := Lib.hid hX
  have hY : ∀ k, k < 8 → ([f0, f1, f2, f3, f4, f5, f6, f7] : List Int).getD k 0 = Pp.getD (8 + k) 0 := fun k hk => by
    rw [← HP.out]
    rcases (show k = 0 ∨ k = 1 ∨ k = 2 ∨ k = 3 ∨ k = 4 ∨ k = 5 ∨ k = 6 ∨ k = 7 from by omega) with rfl | rfl | rfl | rfl | rfl | rfl | rfl | rfl <;> rfl
  have HY := Lib.hid hY
  have hV : ∀ k, k < 4 → 0 ≤ Pp.getD (4 + k) 0 ∧ Pp.getD (4 + k) 0 ≤ 65535 := fun k hk => by
    rcases (show k = 0 ∨ k = 1 ∨ k = 2 ∨ k = 3 from by omega) with rfl | rfl | rfl | rfl
    · exact BB.out.pe
    · exact BB.out.m
    · exact BB.out.i
    · exact BB.out.ca
  have HVV := Lib.hid hV
  clear hX hY hV
  have hlt3 := hz3.lt
  have hlp3 := hb3.lt
  have hs3 : Blk (w3.alloc (.cells #[.int .i64 a4, .int .i64 a5, .int .i64 a6, .int .i64 a7] 3)) w3.heap.size 3 (ints [a4, a5, a6, a7]) := Blk.new w3 _ _
  have hz4 := hz3.alloc (.cells #[.int .i64 a4, .int .i64 a5, .int .i64 a6, .int .i64 a7] 3)
  have hb4 := hb3.alloc (.cells #[.int .i64 a4, .int .i64 a5, .int .i64 a6, .int .i64 a7] 3)
  have hk4 := hk3.alloc (.cells #[.int .i64 a4, .int .i64 a5, .int .i64 a6, .int .i64 a7] 3)
  rw [← HP.out] at e0 e1 e2 e3
  simp only [ints, List.map_cons, List.map_nil, List.getElem?_cons_succ, List.getElem?_cons_zero] at e0 e1 e2 e3
  go_wp2_with fail
  clear e0 e1 e2 e3
  go_loopw [42] (fun s42 wx => ∃ k : Nat, k ≤ 4 ∧ s42 = .int .i64 k ∧ Blk wx g 5 (bytes (prt Pp (4 + 2 * k))) ∧ Blk wx w.heap.size 24 (ints Pp) ∧ Blk wx w3.heap.size 3 (ints [a4, a5, a6, a7]) ∧ Keep (· = g) w wx) (fun s42 _ => 4 - (intOf s42).toNat)
  case atStart => exact ⟨0, Nat.zero_le _, rfl, hz4, hb4, hs3, hk4⟩
  case round =>
    obtain ⟨k, hk, rfl, hz5, hb5, hs5, hk5⟩ := hrel
    clear hz4 hb4 hs3 hk4 hz3 hb3 hk3
    by_cases hlt : k < 4
    · have c4 := hs5.cell k
      rw [ints_getD (show k < ([a4, a5, a6, a7] : List Int).length from hlt), HX.out k hlt] at c4
      have hvv := HVV.out k hlt
      have hpt := Lib.hid (prt_two HL.out hlt)
      generalize Pp.getD (4 + k) 0 = u at *
      go_wp2_with fail
      refine (put_is (some ⟨g, 0, none⟩) 24 24 _ u (prt Pp (4 + 2 * k)) (prt Pp (4 + 2 * (k + 1))) _ (Vec.of_blk hz5 (by rw [bytes_length, prt_len HL.out (by omega)]) (by decide)) (by decide) true (decide_eq_true ⟨by omega, by omega, hvv.1, hvv.2⟩) (by rw [if_pos rfl, ← hpt.out]; congr 1 <;> omega)).mono ?_; rintro e wy ⟨rfl, vy, ky⟩
      have ky' : Keep (· = g) _ wy := ky.mono (M' := (· = g)) (fun b _ ⟨a, h1, h2⟩ => by cases h1; exact h2.symm)
      have hz6 := vec_blk vy
      have hb6 := hb5.keep ky' hne
      have hs6 := hs5.keep ky' (show ¬ w3.heap.size = g from by omega)
      have hk6 := hk5.trans ky' (fun _ _ e => e)
      clear vy ky ky' hz5 hb5 hs5 hk5 c4
      go_wp2_with fail
      go_round
      case rel => exact ⟨k + 1, by omega, by go_num, hz6, hb6, hs6, hk6⟩
      case measure => simp [intOf]; omega
    · obtain rfl : k = 4 := by omega
      clear hlt hk hs5 HX HVV
      have hb' := hb5; rw [← HP.out] at hb'; obtain ⟨c0, c1, c2, c3, c4, c5, c6, c7, c8, c9, c10, c11, c12, c13, c14, c15⟩ := cells16 hb'; clear hb'
      go_wp2_with fail
      clear c0 c1 c2 c3 c4 c5 c6 c7 c8 c9 c10 c11 c12 c13 c14 c15
      go_loopw [56] (fun s56 wx => ∃ k : Nat, k ≤ 8 ∧ s56 = .int .i64 k ∧ Blk wx g 5 (bytes (prt Pp (12 + k))) ∧ Keep (· = g) w wx) (fun s56 _ => 8 - (intOf s56).toNat)
      case atStart => exact ⟨0, Nat.zero_le _, rfl, hz5, hk5⟩
      case round =>
        obtain ⟨k, hk, rfl, hz6, hk6⟩ := hrel
        clear hz5 hb5 hk5
        by_cases hlt : k < 8
        · have hix := index8 [f0, f1, f2, f3, f4, f5, f6, f7] rfl k hlt
          rw [HY.out k hlt] at hix
          simp only [ints, List.map_cons, List.map_nil] at hix
          have hpo := Lib.hid (prt_one HL.out hlt)
          generalize Pp.getD (8 + k) 0 = u at *
          obtain ⟨y, hy⟩ : ∃ y, IntKind.u8.wrap u = y := ⟨_, rfl⟩
          have fr := hz6.frozen (12 + k)
          have cc : ∃ x, _ = some x := ⟨_, (hz6.cell (12 + k)).trans (bytes_getD (by rw [prt_len HL.out (by omega)]; omega))⟩
          obtain ⟨x, cc⟩ := cc
          have hz7 : Blk (wr.setCell ⟨g, 12 + k, none⟩ (.int .u8 y)) g 5 (bytes (prt Pp (12 + (k + 1)))) := by
            have := hz6.setCell (12 + k) (.int .u8 y)
            rw [bytes_sets _ _ u y hy, hpo.out] at this
            exact this
          have hk7 : Keep (· = g) w (wr.setCell ⟨g, 12 + k, none⟩ (.int .u8 y)) := hk6.setCell ⟨g, 12 + k, none⟩ _ (fun _ => rfl)
          clear hz6 hk6
          go_wp2_with fail
          go_round
          case rel => exact ⟨k + 1, by omega, by go_num, hz7, hk7⟩
          case measure => simp [intOf]; omega
        · obtain rfl : k = 8 := by omega
          clear hlt hk HY
          have fr := hz6.frozen 20
          have cc : ∃ x, _ = some x := ⟨_, (hz6.cell 20).trans (bytes_getD (by rw [prt_len HL.out (by omega)]; omega))⟩
          obtain ⟨x, cc⟩ := cc
          have hz7 : Blk (wr.setCell ⟨g, 20, none⟩ (.int .u8 167)) g 5 (bytes (prt Pp 21)) := by
            have := hz6.setCell 20 (.int .u8 167)
            rw [bytes_set _ 20 167 167 rfl, prt_mark HL.out] at this
            exact this
          have hk7 : Keep (· = g) w (wr.setCell ⟨g, 20, none⟩ (.int .u8 167)) := hk6.setCell ⟨g, 20, none⟩ _ (fun _ => rfl)
          clear hz6 hk6
          go_wp2_with fail
          have hr : Reads (wr.setCell ⟨g, 20, none⟩ (.int .u8 167)) (some ⟨g, 0, none⟩) 21 (bytes (pre Pp)) := by
            have := Reads.of_blk (A := some ⟨g, 0, none⟩) (off := 0) (n := 21) hz7 (fun _ => rfl) (by rw [bytes_length, prt_len HL.out (by omega)]; omega)
            rw [List.drop_zero, ← bytes_take, prt_pre HL.out] at this
            exact this
          refine (sum_is hr (by decide) _ rfl).mono ?_; rintro e wy ⟨rfl, rfl⟩
          have hq : (((sumb (pre Pp)).toNat : Nat) : Int) = ((tot (pre Pp) % 256 : Nat) : Int) := by
            rw [sumb, UInt8.toNat_ofNat', Nat.mod_mod]
          generalize ((tot (pre Pp) % 256 : Nat) : Int) = q at *
          generalize wr.setCell ⟨g, 20, none⟩ (.int .u8 167) = wz at *
          have fr := hz7.frozen 21
          have cc : ∃ x, _ = some x := ⟨_, (hz7.cell 21).trans (bytes_getD (by rw [prt_len HL.out (by omega)]; omega))⟩
          obtain ⟨x, cc⟩ := cc
          have hz8 : Blk (wz.setCell ⟨g, 21, none⟩ (.int .u8 q)) g 5 (bytes (enc Pp)) := by
            have := hz7.setCell 21 (.int .u8 q)
            rw [bytes_set _ 21 (sumb (pre Pp)) q hq, prt_sum HL.out] at this
            exact this
          have hk8 : Keep (· = g) w (wz.setCell ⟨g, 21, none⟩ (.int .u8 q)) := hk7.setCell ⟨g, 21, none⟩ _ (fun _ => rfl)
          clear hz7 hk7
          go_wp2
          go_ret
          exact ⟨rfl, hz8, hk8⟩
end Go.Proofs.Ytabphdfagkjnjaa
