/- Layer 5 (region): awake; the walk of RegionCopies. -/
import Derived.Test.YtedfoffcgfijoaaReg1
import Derived.Test.YtedfoffcgfijoaaBits
import Derived.Test.YtedfoffcgfijoaaRead
namespace Go.Proofs.Ytedfoffcgfijoaa
open Go.RowKit
set_option linter.unusedVariables false
set_option linter.unusedSimpArgs false
set_option maxRecDepth 100000 in
set_option maxHeartbeats 2000000 in
theorem awake_true (w : World) : Calls Try.prog 9 #[] w fun e w' => e = .returned (.bool true) ∧ Keep Nob w w' := by
  go_enter Try.func9, Try.ntmps9
  go_wp2_with fail
  refine (new_is _ 2 (by omega) _).mono ?_; rintro e w1 ⟨m, mr, rfl, hm, hmp, hmr, k1⟩
  go_wp2_with fail
  refine (new0 (w0 := w) 2 2 (by omega) ((Keep.refl _ w).nob k1)).mono ?_; rintro e w2 ⟨s, B, p, r, rfl, S1, k2, _⟩
  go_wp2_with fail
  refine (rg_new (hm.nob k2) S1 hmr).mono ?_; rintro e w3 ⟨q, rfl, R3, _⟩
  clear hm S1 k1 k2
  go_wp2_with fail
  refine (R3.add (lo := 10) (k := 20) (by rw [zeros_len]; decide) (by decide) 0 rfl [(10, 20)] rfl).mono ?_; rintro e w4 ⟨A, cap, rfl, R4, _⟩
  go_wp2_with fail
  refine (R4.put 0 (by decide) ⟨0, 7, 0, 20, (0, 0)⟩ (by decide) (by decide) (by decide)).mono ?_; rintro e w5 ⟨a, er, T5, rfl, hA, R5, _⟩
  obtain ⟨rfl, hn1, hh1⟩ := hA.room R4.g.inv (by decide) rfl
  have h1 : T5 1 = init 1 := hA.other (by decide)
  go_wp2_with fail
  refine (R5.grant 1 (by decide) ⟨0, 7, 0, 20, (0, 0)⟩ ((hh1 _ _).2 (.inr ⟨rfl, rfl⟩)) (by decide) (by decide) (by decide) (by decide)).mono ?_; rintro e w6 ⟨b, er, T6, rfl, hB, R6, _⟩
  obtain ⟨rfl, hn2, hh2⟩ := hB.room R5.g.inv (by decide) h1
  have g0 : Has T6 2 (0, a) ⟨0, 7, 0, 20, (0, 0)⟩ := (hh2 _ _).2 (.inl ((hh1 _ _).2 (.inr ⟨rfl, rfl⟩)))
  have g1 : Has T6 2 (1, b) ⟨0, 1, 5, 2, (0, a)⟩ := (hh2 _ _).2 (.inr ⟨rfl, rfl⟩)
  clear hA hB hh1 hh2 hn1 hn2 h1 R3 R4 R5
  have R6' := R6.nob ((Keep.refl Nob w6).alloc (.cells #[.int .u8 7, .int .u8 8, .int .u8 9] 5))
  go_wp2_with fail
  refine (R6'.write 15 [7, 8, 9] (.yes _ (10, 20) _ g0 (by decide) ⟨by decide, by decide, by decide, by decide, rfl, by decide⟩ (by decide)) (reads_new w6 5 _ rfl [7, 8, 9] _ rfl) _ rfl).mono ?_; rintro e w7 ⟨rfl, R7, _⟩
  go_wp2_with fail
  refine (R7.read 2 15 (.yes _ (10, 20) _ g1 (by dsimp only; decide) ⟨by decide, by decide, by dsimp only; decide, by dsimp only; decide, rfl, by dsimp only; decide⟩ (by dsimp only; decide)) [7, 8] (by decide)).mono ?_; rintro e w8 ⟨g, rfl, hb, _, _, R8, _⟩
  have k9 := (Keep.refl Nob w8).alloc (.cells #[.int .u8 1] 5)
  have R9 := R8.nob k9
  go_wp2_with fail
  refine (R9.write_no 3 (.noright _ g1 (by dsimp only; decide)) (by decide)).mono ?_; rintro e wA ⟨rfl, RA, kA⟩
  have s1 : ∀ c, (convert 22 9 (.slice (some ⟨g, 0, none⟩) 2 c)).run Try.prog wA = .ok (.string ⟨#[7, 8]⟩) wA := fun c => run_str (P := Try.prog) wA 22 9 5 (some ⟨g, 0, none⟩) 2 c [7, 8] Try.underlying22 Try.underlying5 Try.underlying9 (reads_all ((hb.nob k9).nob kA) rfl)
  go_wp2
  go_ret
  exact ⟨rfl, RA.nob_⟩
section
variable {w0 w w' : World} {q m mr s B n : Nat} {p r : Nat → Nat} {A : Option Addr} {cap : Nat} {xs : List UInt8} {T : St} {L : List Rf}
/-- A copy by two Caps of all of one region, who may or may not. -/
theorem Rg0.copy_any (h : Rg0 w0 w q m mr s B n p r A cap xs T L) {env x at_ y on : Int} {k : Nat} (a b : Nat) (nx ny : Bool) (c d : Cp) (u v : Rf) (hc : Has T n (env, x) c) (hd : Has T n (env, y) d) (hx : (bits .and .i64 c.rights 1 == 0) = nx) (hy : (bits .and .i64 d.rights 2 == 0) = ny)
    (hf : Fits L c at_ k u) (hf2 : Fits L d on k v) (ha : (a : Int) = u.1 + c.lo + at_) (hb : (b : Int) = v.1 + d.lo + on) (er : Int) (zs : List UInt8) (he : (if nx || ny then 3 else 0) = er) (hz : (if nx || ny then xs else splice xs b ((xs.drop a).take k)) = zs) :
    Calls Try.prog 14 #[.pointer (some ⟨q, 0, none⟩), .int .i64 env, .int .i64 x, .int .i64 at_, .int .i64 y, .int .i64 on, .int .i64 k] w fun e w' => e = .returned (.int .i64 er) ∧ Rg0 w0 w' q m mr s B n p r A cap zs T L ∧ Keep (· = mr) w w' := by
  subst he hz
  cases nx with
  | true => exact (h.copy_no1 3 (.noright c hc hx) (by decide)).mono fun _ _ ⟨e, R, k⟩ => ⟨e, R, k.mono (fun _ _ f => f.elim)⟩
  | false =>
    cases ny with
    | true => exact (h.copy_no2 a 3 (.yes c u _ hc hx hf ha) (.noright d hd hy) (by decide)).mono fun _ _ ⟨e, R, k⟩ => ⟨e, R, k.mono (fun _ _ f => f.elim)⟩
    | false => exact h.copy a b (.yes c u _ hc hx hf ha) (.yes d v _ hd hy hf2 hb) _ rfl
end
set_option maxRecDepth 100000 in
set_option maxHeartbeats 4000000 in
theorem copies_core (w : World) (A0 : Option Addr) (c0 : Nat) (b : List UInt8) (rb : Reads w A0 b.length (bytes b)) (hb : b.length ≤ 100) (a1 a2 a3 a4 a5 : Int) (at_ on n : Nat) (rd wr : Int) (nx ny : Bool)
    (h1 : bits .and .i64 a1 63 = (at_ : Int)) (h2 : bits .and .i64 a2 63 = (on : Int)) (h3 : bits .and .i64 a3 31 = (n : Int)) (h4 : bits .and .i64 a4 7 = rd) (h5 : bits .and .i64 a5 7 = wr)
    (r1 : at_ ≤ 63) (r2 : on ≤ 63) (r3 : n ≤ 31) (r4 : 0 ≤ rd ∧ rd ≤ 7) (r5 : 0 ≤ wr ∧ wr ≤ 7)
    (hx : (bits .and .i64 rd 1 == 0) = nx) (hy : (bits .and .i64 wr 2 == 0) = ny) (hx' : (a4 % 2 != 0) = !nx) (hy' : (bits .and .i64 a5 2 != 0) = !ny) :
    Calls Try.prog 3 #[.slice A0 b.length c0, .int .i64 a1, .int .i64 a2, .int .i64 a3, .int .i64 a4, .int .i64 a5] w fun e w' => e = .returned (.bool true) ∧ Below w.heap.size w w' := by
  have hb' : (b.length : Int) ≤ 100 := by omega
  have HX := Lib.hid hx
  have HY := Lib.hid hy
  clear hx hy
  go_enter Try.func3, Try.ntmps3
  go_wp2_with fail
  refine (new_is _ 2 (by omega) _).mono ?_; rintro e w1 ⟨m, mr, rfl, hm, hmp, hmr, k1⟩
  go_wp2_with fail
  refine (new0 (w0 := w) 1 1 (by omega) ((Keep.refl _ w).nob k1)).mono ?_; rintro e w2 ⟨s, B, p, r, rfl, S1, k2, _⟩
  go_wp2_with fail
  refine (rg_new (hm.nob k2) S1 hmr).mono ?_; rintro e w3 ⟨q, rfl, R3, _⟩
  clear hm S1 k1 k2
  go_wp2_with fail
  refine (R3.add (lo := 0) (k := 100) (by rw [zeros_len]; decide) (by decide) 0 rfl [(0, 100)] rfl).mono ?_; rintro e w4 ⟨A, cap, rfl, R4, _⟩
  have hl0 : (splice (zeros 2) 0 b).length = 128 := by rw [splice_len _ _ _ (by rw [zeros_len]; omega), zeros_len]
  generalize hxs : splice (zeros 2) 0 b = xs at *
  have HXS := Lib.hid hxs
  have HL := Lib.hid hl0
  clear hxs hl0
  go_wp2_with fail
  refine (R4.store 0 rfl b (R4.old rb) (by rw [zeros_len]; omega) xs HXS.out).mono ?_; rintro e w5 ⟨rfl, R5, _⟩
  go_wp2_with fail
  refine (R5.load 0 100 0 100 rfl rfl (by rw [HL.out]; decide) _ rfl).mono ?_; rintro e w6 ⟨g6, rfl, b6, l6, lo6, R6, _⟩
  have hg6 : g6 ≠ mr := by have := R5.g.mem.row_lt; omega
  clear R3 R4 R5
  go_wp2_with fail
  refine (R6.put 0 (by decide) ⟨0, rd, 0, 100, (0, 0)⟩ r4 (by dsimp only; decide) (by dsimp only; decide)).mono ?_; rintro e w7 ⟨x, er, T7, rfl, hA, R7, k7⟩
  obtain ⟨rfl, em1, hn1, hh1⟩ := hA.room_at R6.g.inv (by decide) (empties_init 0) (by decide)
  have b7 := R6.off b6 (by decide) k7
  go_wp2_with fail
  refine (R7.put 0 (by decide) ⟨0, wr, 0, 100, (0, 0)⟩ r5 (by dsimp only; decide) (by dsimp only; decide)).mono ?_; rintro e w8 ⟨y, er, T8, rfl, hB, R8, k8⟩
  obtain ⟨rfl, em2, hn2, hh2⟩ := hB.room_at R7.g.inv (by decide) em1 (by decide)
  have b8 := R7.off b7 (by decide) k8
  have g0 : Has T8 1 (0, x) ⟨0, rd, 0, 100, (0, 0)⟩ := (hh2 _ _).2 (.inl ((hh1 _ _).2 (.inr ⟨rfl, rfl⟩)))
  have g1 : Has T8 1 (0, y) ⟨0, wr, 0, 100, (0, 0)⟩ := (hh2 _ _).2 (.inr ⟨rfl, rfl⟩)
  clear hA hB hn1 hn2 hh1 hh2 em1 em2 R6 R7 b6 b7
  go_wp2_with fail
  obtain ⟨er, her⟩ : ∃ er : Int, (if nx || ny then 3 else 0) = er := ⟨_, rfl⟩
  obtain ⟨zs, hzs⟩ : ∃ zs, (if nx || ny then xs else splice xs on ((xs.drop at_).take n)) = zs := ⟨_, rfl⟩
  refine (R8.copy_any (k := n) at_ on nx ny _ _ (0, 100) (0, 100) g0 g1 HX.out HY.out ⟨by omega, by omega, by dsimp only; omega, by dsimp only; decide, rfl, by dsimp only; omega⟩ ⟨by omega, by omega, by dsimp only; omega, by dsimp only; decide, rfl, by dsimp only; omega⟩ (by dsimp only; omega) (by dsimp only; omega) er zs her hzs).mono ?_
  rintro e w9 ⟨rfl, R9, k9⟩
  have b9 := R8.offm b8 hg6 k9
  have hlz : zs.length = 128 := by
    rw [← hzs]
    split
    · exact HL.out
    · rw [splice_len _ _ _ (by rw [HL.out]; simp [HL.out]; omega), HL.out]
  have hz : ∀ k, k < 100 → zs.getD k 0 = if (nx || ny) = false ∧ on ≤ k ∧ k < on + n then xs.getD (at_ + k - on) 0 else xs.getD k 0 := by
    intro k hk
    rw [← hzs]
    have hl3 : ((xs.drop at_).take n).length = n := by simp [HL.out]; omega
    cases nx || ny with
    | true => simp
    | false =>
      rw [if_neg (by decide), splice_getD _ _ _ (by rw [hl3, HL.out]; omega), hl3]
      by_cases hq : on ≤ k ∧ k < on + n
      · rw [if_pos hq, if_pos ⟨rfl, hq⟩, List.getD_eq_getElem?_getD, List.getElem?_take, if_pos (by omega), List.getElem?_drop, List.getD_eq_getElem?_getD]
        congr 2
        omega
      · rw [if_neg hq, if_neg (fun h => hq h.2)]
  have HZ := Lib.hid hz
  have HLZ := Lib.hid hlz
  have HE := Lib.hid her
  clear hz hlz hzs her R8 b8 g0 g1 k9 k8 k7
  go_wp2_with fail
  refine (R9.load 0 100 0 100 rfl rfl (by rw [HLZ.out]; decide) _ rfl).mono ?_; rintro e wA ⟨gA, rfl, bA, lA, loA, RA, kA⟩
  have b6 := b9.nob kA
  clear b9 R9
  have c6 : ∀ k, k < 100 → wA.cell? ⟨g6, k, none⟩ = some (.int .u8 ((xs.getD k 0).toNat : Int)) := fun k hk => by
    rw [b6.cell, bytes_getD (by rw [l6]; exact hk), List.drop_zero, List.getD_eq_getElem?_getD, List.getElem?_take, if_pos hk, List.getD_eq_getElem?_getD]
  have cA : ∀ k, k < 100 → wA.cell? ⟨gA, k, none⟩ = some (.int .u8 ((zs.getD k 0).toNat : Int)) := fun k hk => by
    rw [bA.cell, bytes_getD (by rw [lA]; exact hk), List.drop_zero, List.getD_eq_getElem?_getD, List.getElem?_take, if_pos hk, List.getD_eq_getElem?_getD]
  have C6 := Lib.hid c6
  have CA := Lib.hid cA
  clear c6 cA b6 bA l6 lA h4 h5 h1 h2 h3
  have fin := fun (W : World) (k : Keep Nob wA W) => (RA.nob k).keep.done
  clear RA
  have HX' := Lib.hid hx'
  have HY' := Lib.hid hy'
  clear hx' hy'
  cases nx <;> cases ny
  all_goals
    first
    | have hx2 : (a4 % 2 != 0) = true := HX'.out
    | have hx2 : (a4 % 2 != 0) = false := HX'.out
    first
    | have hy2 : (bits .and .i64 a5 2 != 0) = true := HY'.out
    | have hy2 : (bits .and .i64 a5 2 != 0) = false := HY'.out
    first
    | obtain rfl : er = 3 := HE.out.symm
    | obtain rfl : er = 0 := HE.out.symm
    go_wp2
    go_loop [28, 29] (fun i _ => ∃ k : Nat, k ≤ 100 ∧ i = .int .i64 k) (fun i _ => 100 - (intOf i).toNat)
    case atStart => exact ⟨0, Nat.zero_le _, rfl⟩
    case round =>
      obtain ⟨k, hk, rfl⟩ := hrel
      by_cases hlt : k < 100
      · have d6 := C6.out k hlt
        have dA := CA.out k hlt
        rw [HZ.out k hlt] at dA
        by_cases hq : on ≤ k ∧ k < on + n
        · first
          | rw [if_neg (fun h => absurd h.1 (by decide))] at dA
          | (rw [if_pos ⟨rfl, hq⟩] at dA
             have d7 := C6.out (at_ + k - on) (by omega)
             have hsub : ((at_ + k - on : Nat) : Int) = (at_ : Int) + k - on := by omega)
          go_wp2
          all_goals
            go_round
            case rel => exact ⟨k + 1, by omega, by go_num⟩
            case measure => simp [intOf]; omega
        · rw [if_neg (fun h => hq h.2)] at dA
          go_wp2
          all_goals
            go_round
            case rel => exact ⟨k + 1, by omega, by go_num⟩
            case measure => simp [intOf]; omega
      · go_wp2_with fail
        refine (awake_true _).mono ?_; rintro e wB ⟨rfl, kB⟩
        go_wp2
        go_ret
        exact ⟨rfl, fin _ kB⟩
set_option maxRecDepth 100000 in
set_option maxHeartbeats 2000000 in
theorem copies_long (w : World) (A0 : Option Addr) (n0 c0 : Nat) (hb : 100 < n0) (a1 a2 a3 a4 a5 : Int) :
    Calls Try.prog 3 #[.slice A0 n0 c0, .int .i64 a1, .int .i64 a2, .int .i64 a3, .int .i64 a4, .int .i64 a5] w fun e w' => e = .returned (.bool true) ∧ Below w.heap.size w w' := by
  have hb' : (100 : Int) < n0 := by omega
  go_enter Try.func3, Try.ntmps3
  go_wp2_with fail
  refine (new_is _ 2 (by omega) _).mono ?_; rintro e w1 ⟨m, mr, rfl, hm, hmp, hmr, k1⟩
  go_wp2_with fail
  refine (new0 (w0 := w) 1 1 (by omega) ((Keep.refl _ w).nob k1)).mono ?_; rintro e w2 ⟨s, B, p, r, rfl, S1, k2, _⟩
  go_wp2_with fail
  refine (rg_new (hm.nob k2) S1 hmr).mono ?_; rintro e w3 ⟨q, rfl, R3, _⟩
  clear hm S1 k1 k2
  go_wp2_with fail
  refine (awake_true _).mono ?_; rintro e wB ⟨rfl, kB⟩
  go_wp2
  go_ret
  exact ⟨rfl, (R3.nob kB).keep.done⟩
theorem bne_not {x : Int} {b : Bool} (h : (x == 0) = b) : (x != 0) = !b := by rw [bne, h]
theorem RegionCopies_walk (w : World) (A0 : Option Addr) (n0 c0 : Nat) (x0 : Ty.den (.sl 1 .byte)) (w0 : Holds w (.sl 1 .byte) x0 [.slice A0 n0 c0]) (a1 : Int) (w1 : (Lit.int .i64 a1).wf = true) (a2 : Int) (w2 : (Lit.int .i64 a2).wf = true) (a3 : Int) (w3 : (Lit.int .i64 a3).wf = true) (a4 : Int) (w4 : (Lit.int .i64 a4).wf = true) (a5 : Int) (w5 : (Lit.int .i64 a5).wf = true) :
    Calls Try.prog 3 #[.slice A0 n0 c0, .int .i64 a1, .int .i64 a2, .int .i64 a3, .int .i64 a4, .int .i64 a5] w fun e w' => e = .returned (.bool true) ∧ Below w.heap.size w w' := by
  obtain ⟨rfl, r0, _, _⟩ := holds_bytes w0
  by_cases h : 100 < List.length (α := UInt8) x0
  · exact copies_long w A0 _ c0 h a1 a2 a3 a4 a5
  · refine copies_core w A0 c0 x0 r0 (by omega) a1 a2 a3 a4 a5 (a1 % 64).toNat (a2 % 64).toNat (a3 % 32).toNat (a4 % 8) (a5 % 8) (bits .and .i64 (a4 % 8) 1 == 0) (bits .and .i64 (a5 % 8) 2 == 0) (by rw [i64_and63]; omega) (by rw [i64_and63]; omega) (by rw [i64_and31]; omega) (by rw [i64_and7]) (by rw [i64_and7]) (by omega) (by omega) (by omega) (by omega) (by omega) rfl rfl (bne_not ?_) (bne_not ?_)
    · rw [← i64_and7, and7_1, i64_and1]
    · rw [← i64_and7, and7_2]
end Go.Proofs.Ytedfoffcgfijoaa
