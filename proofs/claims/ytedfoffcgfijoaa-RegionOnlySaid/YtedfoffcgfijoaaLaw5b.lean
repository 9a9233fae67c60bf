/- Layer 5 (region): the walk of RegionOnly. -/
import Derived.Test.YtedfoffcgfijoaaLaw5a
import Derived.Deep.DeepCutAuto
import Derived.Deep.CutBlock
import Derived.Deep.RegionHeld3
namespace Go.Proofs.Ytedfoffcgfijoaa
open Go.RowKit
set_option linter.unusedVariables false
set_option linter.unusedSimpArgs false
/-- Bytes 1, 2, 3 .. -/
def ramp : List UInt8 := mk 128 fun j => UInt8.ofNat (j + 1)
theorem ramp_len : ramp.length = 128 := by simp [ramp]
theorem ramp_get {j : Nat} (h : j < 128) : (ramp.getD j 0).toNat = j + 1 := by
  rw [List.getD_eq_getElem?_getD, ramp, mk_get h]
  simp
  omega
/-- The first k of them, the rest 0. -/
def rampTo (k : Nat) : List Value := mk 128 fun j => .int .u8 (if j < k then (j : Int) + 1 else 0)
theorem rampTo_0 : rampTo 0 = List.replicate 128 (.int .u8 0) := by
  rw [mk_rep]
  exact mk_congr (fun i _ => by rw [if_neg (Nat.not_lt_zero i)])
theorem rampTo_set {k : Nat} (h : k < 128) : (rampTo k).set k (.int .u8 ((k : Int) + 1)) = rampTo (k + 1) := mk_set _ (fun j hj => by
  by_cases e : j = k
  · subst e; simp
  · rw [if_neg e]
    congr 1
    simp only [show j < k + 1 ↔ j < k by omega])
theorem rampTo_all : rampTo 128 = bytes ramp := by
  apply List.ext_getElem?
  intro j
  by_cases h : j < 128
  · rw [rampTo, mk_get h, if_pos h, bytes_getD (by rw [ramp_len]; exact h), ramp_get h]
    simp
  · rw [List.getElem?_eq_none (by simp [rampTo]; omega), List.getElem?_eq_none (by rw [bytes_length, ramp_len]; omega)]
theorem rampTo_at {k j : Nat} (h : j < 128) : (rampTo k)[j]? = some (.int .u8 (if j < k then (j : Int) + 1 else 0)) := by rw [rampTo, mk_get h]
section
variable {w0 w w' : World} {q m mr s B n : Nat} {p r : Nat → Nat} {A : Option Addr} {cap : Nat} {xs : List UInt8} {T : St} {L : List Rf}
/-- A write by a Cap that may, at a place that is in its range or not. -/
theorem Rg0.write_any (h : Rg0 w0 w q m mr s B n p r A cap xs T L) {env name at_ : Int} {k c : Nat} (t : Nat) {A' : Option Addr} (bs : List UInt8) (inn : Bool) (d : Cp) (u : Rf) (hd : Has T n (env, name) d) (hr : (bits .and .i64 d.rights 2 == 0) = false)
    (hin : inn = true → Fits L d at_ k u ∧ (t : Int) = u.1 + d.lo + at_) (hno : inn = false → ∀ x, ¬ Fits L d at_ k x) (hb : Reads w A' k (bytes bs)) (er : Int) (ys : List UInt8) (he : (if inn then 0 else 1) = er) (hy : (if inn then splice xs t bs else xs) = ys) :
    Calls Try.prog 16 #[.pointer (some ⟨q, 0, none⟩), .int .i64 env, .int .i64 name, .int .i64 at_, .slice A' k c] w fun e w' => e = .returned (.int .i64 er) ∧ Rg0 w0 w' q m mr s B n p r A cap ys T L ∧ Keep (· = mr) w w' := by
  subst he hy
  cases inn with
  | true =>
    obtain ⟨h1, h2⟩ := hin rfl
    exact h.write t bs (.yes d u _ hd hr h1 h2) hb _ rfl
  | false => exact (h.write_no 1 (.noarg d hd hr (hno rfl)) (by decide)).mono fun _ _ ⟨e, R, k⟩ => ⟨e, R, k.mono (fun _ _ f => f.elim)⟩
end
set_option maxRecDepth 100000 in
set_option maxHeartbeats 4000000 in
theorem only_core (w : World) (A3 : Option Addr) (c3 : Nat) (b : List UInt8) (rb : Reads w A3 b.length (bytes b)) (hb : b.length ≤ 200) (a0 a1 at_ : Int) (lo n t : Nat) (inn : Bool)
    (h0 : bits .and .i64 a0 63 = (lo : Int)) (h1 : bits .and .i64 a1 63 = (n : Int)) (r0 : lo ≤ 63) (r1 : n ≤ 63)
    (hin : inn = true → at_ = t ∧ t + b.length ≤ n) (hno : inn = false → ¬ (0 ≤ at_ ∧ at_ + b.length ≤ n)) :
    Calls Try.prog 4 #[.int .i64 a0, .int .i64 a1, .int .i64 at_, .slice A3 b.length c3] w fun e w' => e = .returned (.bool true) ∧ Below w.heap.size w w' := by
  have hb' : (b.length : Int) ≤ 200 := by omega
  have HIN := Lib.hid hin
  have HNO := Lib.hid hno
  clear hin hno
  go_enter Try.func4, Try.ntmps4
  go_wp2_with fail
  refine (new_is _ 2 (by omega) _).mono ?_; rintro e w1 ⟨m, mr, rfl, hm, hmp, hmr, k1⟩
  go_wp2_with fail
  refine (new0 (w0 := w) 2 2 (by omega) ((Keep.refl _ w).nob k1)).mono ?_; rintro e w2 ⟨s, B, p, r, rfl, S1, k2, _⟩
  go_wp2_with fail
  refine (rg_new (hm.nob k2) S1 hmr).mono ?_; rintro e w3 ⟨q, rfl, R3, _⟩
  clear hm S1 k1 k2
  go_wp2_with (refine wpList_mk rfl _ _ 22 rfl 5 (.int .u8 0) 1 Try.underlying22 Try.info5 rfl .i64 .i64 128 _ rfl rfl rfl (by omega) (by omega) ?_; intro w4 hb4 hk4 hs4)
  have R4 := R3.nob hk4
  have hgR : w3.heap.size ≠ mr := by have := R3.g.mem.row_lt; omega
  have hR3 := R3.keep.size
  rw [← rampTo_0] at hb4
  clear R3 hk4 hs4
  generalize w3.heap.size = gR at *
  go_loopw [13, 66] (fun _ s66 wx => ∃ i : Nat, i ≤ 128 ∧ s66 = .int .i64 i ∧ Blk wx gR 5 (rampTo i) ∧ Rg0 w wx q m mr s B 2 p r none 0 (zeros 2) init []) (fun _ s66 _ => 128 - (intOf s66).toNat)
  case atStart => exact ⟨0, Nat.zero_le _, rfl, hb4, R4⟩
  case round =>
    obtain ⟨i, hi, rfl, hbl, R5⟩ := hrel
    by_cases hlt : i < 128
    · have z1 : wr.cell? ⟨gR, i, none⟩ = some (.int .u8 0) := by rw [hbl.cell, rampTo_at hlt, if_neg (Nat.lt_irrefl i)]
      have z2 := hbl.frozen i
      have hl2 : (i : Int) < 128 := by omega
      have bn := hbl.setCell i (.int .u8 ((i : Int) + 1))
      rw [rampTo_set hlt] at bn
      have kn : Keep (· = gR) wr (wr.setCell ⟨gR, i, none⟩ (.int .u8 ((i : Int) + 1))) := (Keep.refl _ wr).setCell _ _ (fun _ => rfl)
      go_wp2
      go_roundw
      case rel => exact ⟨i + 1, by omega, by go_num, bn, R5.far hbl hgR (by omega) kn⟩
      case measure => simp [intOf]; omega
    · obtain rfl : i = 128 := by omega
      clear hb4 R4 w4
      rw [rampTo_all] at hbl
      have hz2 : splice (zeros 2) 0 ramp = ramp := by
        rw [splice, List.take_zero, List.nil_append, ramp_len, Nat.zero_add, List.drop_of_length_le (by rw [zeros_len]; decide), List.append_nil]
      go_wp2_with fail
      refine (R5.store 0 rfl ramp (reads_all hbl (by rw [bytes_length, ramp_len])) (by rw [zeros_len]; decide) ramp hz2).mono ?_; rintro e w5 ⟨rfl, R6, k6⟩
      have b6 := R5.offm hbl hgR k6
      go_wp2_with fail
      refine (R6.add (lo := 0) (k := 128) (by rw [ramp_len]; decide) (by decide) 0 rfl [(0, 128)] rfl).mono ?_; rintro e w6 ⟨A, cap, rfl, R7, k7⟩
      have b7 := b6.keep k7 (fun h => h.elim (b6.ne_ R6.g.obj (by decide)) (fun ⟨a, ha, _⟩ => by cases ha))
      clear R5 R6 hbl b6 k6 hz2
      go_wp2_with fail
      refine (R7.put 0 (by decide) ⟨0, 7, 0, 128, (0, 0)⟩ (by decide) (by decide) (by decide)).mono ?_; rintro e w7 ⟨x, er, T7, rfl, hA, R8, k8⟩
      obtain ⟨rfl, em1, hn1, hh1⟩ := hA.room_at R7.g.inv (by decide) (empties_init 0) (by decide)
      have em2 : Empties T7 1 0 := (empties_init 1).of_eq (hA.other (by decide))
      have b8 := R7.off b7 (by decide) k8
      go_wp2_with fail
      refine (R8.grant 1 (by decide) ⟨0, 7, 0, 128, (0, 0)⟩ ((hh1 _ _).2 (.inr ⟨rfl, rfl⟩)) (by decide) (by decide) (by decide) (by dsimp only; omega)).mono ?_; rintro e w8 ⟨y, er, T8, rfl, hB, R9, k9⟩
      obtain ⟨rfl, _, hn2, hh2⟩ := hB.room_at R8.g.inv (by decide) em2 (by decide)
      have g1 : Has T8 2 (1, y) ⟨0, 3, 0 + lo, n, (0, x)⟩ := (hh2 _ _).2 (.inr ⟨rfl, rfl⟩)
      have b9 := R8.off b8 (by decide) k9
      clear hA hB hn1 hn2 hh1 hh2 em1 em2 R7 R8 b7 b8 k7 k8 k9 h0 h1
      go_upto_region 19 with fail
      go_cut [20] from 105 to 119 (fun s20 wx => s20 = .bool inn ∧ wx = w8)
      case first =>
        cases inn with
        | true =>
          obtain ⟨h1, h2⟩ := HIN.out rfl
          subst h1
          have h3 : (t : Int) ≤ n := by omega
          have h4 : (b.length : Int) ≤ n - t := by omega
          go_wp2
          go_meet
          exact ⟨rfl, rfl⟩
        | false =>
          have hno := HNO.out rfl
          by_cases q0 : 0 ≤ at_
          · by_cases q1 : at_ ≤ n
            · have q2 : (n : Int) - at_ < b.length := by
                have : ¬ at_ + b.length ≤ n := fun h => hno ⟨q0, h⟩
                omega
              have q3 : decide ((b.length : Int) ≤ n - at_) = false := by simp; omega
              clear hno
              go_wp2
              go_meet
              exact ⟨by first | rfl | rw [q3], rfl⟩
            · clear hno
              go_wp2
              go_meet
              exact ⟨rfl, rfl⟩
          · clear hno
            go_wp2
            go_meet
            exact ⟨rfl, rfl⟩
      case rest =>
        obtain ⟨rfl, rfl⟩ := hcut
        obtain ⟨er, her⟩ : ∃ er : Int, (if inn then 0 else 1) = er := ⟨_, rfl⟩
        obtain ⟨zs, hzs⟩ : ∃ zs, (if inn then splice ramp (lo + t) b else ramp) = zs := ⟨_, rfl⟩
        go_wp2_with fail
        refine (R9.write_any (k := b.length) (lo + t) b inn _ (0, 128) g1 (by dsimp only; decide) (fun h => ?_) (fun h x hx => ?_) (R9.old rb) er zs her hzs).mono ?_
        · obtain ⟨h1, h2⟩ := HIN.out h
          exact ⟨⟨by omega, by omega, by dsimp only; omega, by dsimp only; decide, rfl, by dsimp only; omega⟩, by dsimp only; omega⟩
        · have h3 := HNO.out h
          exact h3 ⟨hx.1, hx.2.2.1⟩
        rintro e wA ⟨rfl, RA, kA⟩
        have bA := R9.offm b9 hgR kA
        have hlz : zs.length = 128 := by
          rw [← hzs]
          cases inn with
          | true =>
            have := (HIN.out rfl).2
            rw [if_pos rfl, splice_len _ _ _ (by rw [ramp_len]; omega), ramp_len]
          | false => rw [if_neg (by decide), ramp_len]
        have hz : ∀ k, k < 128 → zs.getD k 0 = if inn = true ∧ lo + t ≤ k ∧ k < lo + t + b.length then b.getD (k - lo - t) 0 else ramp.getD k 0 := by
          intro k hk
          rw [← hzs]
          cases inn with
          | true =>
            have := (HIN.out rfl).2
            rw [if_pos rfl, splice_getD _ _ _ (by rw [ramp_len]; omega)]
            by_cases hq : lo + t ≤ k ∧ k < lo + t + b.length
            · rw [if_pos hq, if_pos ⟨rfl, hq⟩, show k - (lo + t) = k - lo - t by omega]
            · rw [if_neg hq, if_neg (fun h => hq h.2)]
          | false => rw [if_neg (by decide), if_neg (fun h => absurd h.1 (by decide))]
        have HZ := Lib.hid hz
        have HLZ := Lib.hid hlz
        have HE := Lib.hid her
        clear hz hlz her hzs R9 b9 kA
        have rb2 := RA.old rb
        have no : ∀ x, ¬ Fits [((0 : Int), (128 : Int))] ⟨0, 3, 0 + lo, n, (0, x)⟩ 0 (n + 1) (0, 128) := fun x h => by have h3 := h.2.2.1; dsimp only at h3; omega
        have hE : er = if inn then 0 else 1 := HE.out.symm
        have hcases : (inn = true ∧ er = 0) ∨ (inn = false ∧ er = 1) := by
          cases inn with
          | true => exact .inl ⟨rfl, hE⟩
          | false => exact .inr ⟨rfl, hE⟩
        clear hE
        rcases hcases with ⟨rfl, rfl⟩ | ⟨rfl, rfl⟩
        all_goals
          go_wp2_with fail
          refine (RA.load 0 128 0 128 rfl rfl (by rw [HLZ.out]; decide) zs (by rw [List.drop_zero, List.take_of_length_le (by rw [HLZ.out]; decide)])).mono ?_; rintro e wC ⟨gX, rfl, bX, lX, loX, RC, kC⟩
          have bR := bA.nob kC
          have rb3 := rb2.nob kC
          have cR : ∀ k, k < 128 → wC.cell? ⟨gR, k, none⟩ = some (.int .u8 ((ramp.getD k 0).toNat : Int)) := fun k hk => by rw [bR.cell, bytes_getD (by rw [ramp_len]; exact hk)]
          have cX : ∀ k, k < 128 → wC.cell? ⟨gX, k, none⟩ = some (.int .u8 ((zs.getD k 0).toNat : Int)) := fun k hk => by rw [bX.cell, bytes_getD (by rw [lX]; exact hk)]
          have CR := Lib.hid cR
          have CX := Lib.hid cX
          have RB := Lib.hid rb3
          clear cR cX rb3 rb2 bA
          go_wp2_with fail
          go_loop [24, 25] (fun i _ => ∃ k : Nat, k ≤ 128 ∧ i = .int .i64 k) (fun i _ => 128 - (intOf i).toNat)
          case atStart => exact ⟨0, Nat.zero_le _, rfl⟩
          case round =>
            obtain ⟨k, hk, rfl⟩ := hrel
            by_cases hlt : k < 128
            · have d6 := CR.out k hlt
              have dA := CX.out k hlt
              rw [HZ.out k hlt] at dA
              by_cases hq : lo + t ≤ k ∧ k < lo + t + b.length
              · first
                | rw [if_neg (fun h => absurd h.1 (by decide))] at dA
                | (rw [if_pos ⟨(by first | rfl | trivial), hq⟩] at dA
                   have ht := (HIN.out (by first | rfl | trivial)).1
                   subst ht
                   obtain ⟨b0, off, rfl, hcb⟩ := RB.out.lit (by omega)
                   have d7 := hcb (k - lo - t) _ (bytes_getD (by omega))
                   have hsub : ((k - lo - t : Nat) : Int) = (k : Int) - lo - t := by omega)
                go_wp2
                all_goals
                  go_round
                  case rel => exact ⟨k + 1, by omega, by go_num⟩
                  case measure => simp [intOf]; omega
              · rw [if_neg (fun h => hq h.2)] at dA
                first
                | (have ht2 := (HIN.out (by first | rfl | trivial)).2; have ht := (HIN.out (by first | rfl | trivial)).1; subst ht; have ht3 : (t : Int) + b.length ≤ 63 := by omega)
                | skip
                have hqi : (k : Int) < lo + t ∨ ((lo : Int) + t ≤ k ∧ (lo : Int) + t + b.length ≤ k) := by omega
                rcases hqi with hqi | ⟨hqi, hqj⟩
                all_goals
                  go_wp2
                  all_goals
                    go_round
                    case rel => exact ⟨k + 1, by omega, by go_num⟩
                    case measure => simp [intOf]; omega
            · obtain rfl : k = 128 := by omega
              clear CR CX
              go_wp2_with fail
              refine (RC.read n lo (.yes _ (0, 128) _ g1 (by dsimp only; decide) ⟨by decide, by omega, by dsimp only; omega, by dsimp only; decide, rfl, by dsimp only; omega⟩ (by dsimp only; omega)) _ rfl).mono ?_; rintro e wD ⟨gY, rfl, bY, lY, loY, RD, kD⟩
              have hlen : ((n + 1 : Nat) : Int) = (n : Int) + 1 := by omega
              go_wp2_with fail
              refine (RD.read_no 1 (.noarg _ g1 (by dsimp only; decide) (fun x h => by have h3 := h.2.2.1; dsimp only at h3; omega)) (by decide)).mono ?_; rintro e wE ⟨rfl, RE, kE⟩
              have bX2 := (bX.nob kD).nob kE
              have bY2 := bY.nob kE
              obtain ⟨hh, hhe⟩ : ∃ hh : Nat, lo + n = hh := ⟨_, rfl⟩
              have sf : ∀ W, Keep Nob wE W → (∀ c, (convert 22 9 (.slice (some ⟨gY, 0, none⟩) n c)).run Try.prog W = .ok (.string (str ((zs.drop lo).take n))) W) ∧ (∀ c, (convert 22 9 (.slice (some ⟨gX, lo, none⟩) (hh - lo) c)).run Try.prog W = .ok (.string (str ((zs.drop lo).take n))) W) := by
                intro W k
                rw [show hh - lo = n by omega]
                refine ⟨fun c => run_str (P := Try.prog) W 22 9 5 _ n c _ Try.underlying22 Try.underlying5 Try.underlying9 (reads_all (bY2.nob k) (by rw [bytes_length]; exact lY)), fun c => run_str (P := Try.prog) W 22 9 5 _ n c _ Try.underlying22 Try.underlying5 Try.underlying9 ?_⟩
                rw [bytes_take, bytes_drop]
                exact Reads.of_blk (bX2.nob k) (fun _ => rfl) (by rw [bytes_length, HLZ.out]; omega)
              have kd := (Keep.refl Nob wE).drew
              generalize str ((zs.drop lo).take n) = sv at *
              have hcap : ¬ (128 = lo) := by omega
              have hw1 : IntKind.i64.wrap ((lo : Int) + n) = (hh : Int) := by simp [IntKind.wrap, IntKind.bits, IntKind.signed]; omega
              have hw2 : (0 : Int) ≤ (lo : Int) := by omega
              have hw3 : (lo : Int) ≤ (hh : Int) := by omega
              have hw4 : (hh : Int) ≤ 128 := by omega
              have HH := Lib.hid hhe
              clear hhe
              go_upto_region 36 with fail
              go_region_held3 (fun w' => (∀ c, (convert 22 9 (.slice (some ⟨gY, 0, none⟩) n c)).run Try.prog w' = .ok (.string sv) w') ∧ (∀ c, (convert 22 9 (.slice (some ⟨gX, lo, none⟩) (hh - lo) c)).run Try.prog w' = .ok (.string sv) w'))
                (first | exact sf _ kd | exact sf _ k1)
                (first | (go_at_call 9; refine (awake_true _).mono ?_; rintro e' w9 ⟨rfl, k9⟩; have k1 := kd.nobt k9))
              go_wp2
              go_ret
              exact ⟨rfl, (RE.nob k1).keep.done⟩
set_option maxRecDepth 100000 in
set_option maxHeartbeats 2000000 in
theorem only_long (w : World) (A0 : Option Addr) (n0 c0 : Nat) (hb : 200 < n0) (a1 a2 a3 : Int) :
    Calls Try.prog 4 #[.int .i64 a1, .int .i64 a2, .int .i64 a3, .slice A0 n0 c0] w fun e w' => e = .returned (.bool true) ∧ Below w.heap.size w w' := by
  have hb' : (200 : Int) < n0 := by omega
  go_enter Try.func4, Try.ntmps4
  go_wp2_with fail
  refine (new_is _ 2 (by omega) _).mono ?_; rintro e w1 ⟨m, mr, rfl, hm, hmp, hmr, k1⟩
  go_wp2_with fail
  refine (new0 (w0 := w) 2 2 (by omega) ((Keep.refl _ w).nob k1)).mono ?_; rintro e w2 ⟨s, B, p, r, rfl, S1, k2, _⟩
  go_wp2_with fail
  refine (rg_new (hm.nob k2) S1 hmr).mono ?_; rintro e w3 ⟨q, rfl, R3, _⟩
  clear hm S1 k1 k2
  go_wp2_with fail
  refine (awake_true _).mono ?_; rintro e wB ⟨rfl, kB⟩
  go_wp2
  go_ret
  exact ⟨rfl, (R3.nob kB).keep.done⟩
theorem RegionOnly_walk (w : World) (a0 : Int) (w0 : (Lit.int .i64 a0).wf = true) (a1 : Int) (w1 : (Lit.int .i64 a1).wf = true) (a2 : Int) (w2 : (Lit.int .i64 a2).wf = true) (A3 : Option Addr) (n3 c3 : Nat) (x3 : Ty.den (.sl 1 .byte)) (w3 : Holds w (.sl 1 .byte) x3 [.slice A3 n3 c3]) :
    Calls Try.prog 4 #[.int .i64 a0, .int .i64 a1, .int .i64 a2, .slice A3 n3 c3] w fun e w' => e = .returned (.bool true) ∧ Below w.heap.size w w' := by
  obtain ⟨rfl, r0, _, _⟩ := holds_bytes w3
  by_cases h : 200 < List.length (α := UInt8) x3
  · exact only_long w A3 _ c3 h a0 a1 a2
  · exact only_core w A3 c3 x3 r0 (by omega) a0 a1 a2 (a0 % 64).toNat (a1 % 64).toNat a2.toNat (decide (0 ≤ a2 ∧ a2 + List.length (α := UInt8) x3 ≤ a1 % 64)) (by rw [i64_and63]; omega) (by rw [i64_and63]; omega) (by omega) (by omega)
      (fun h => by have := of_decide_eq_true h; omega) (fun h => by have := of_decide_eq_false h; omega)
end Go.Proofs.Ytedfoffcgfijoaa
