/- Package ofile: put. -/
import Derived.Test.YtdlenjooidnofaaFil1
import Derived.Test.YtdlenjooidnofaaFilQ
import Derived.BigRegion
namespace Go.Proofs.Ytdlenjooidnofaa.Fi
open Go.RowKit
set_option linter.unusedVariables false
set_option linter.unusedSimpArgs false
theorem bytes_sets (l : List UInt8) (k : Nat) (n v : Int) (hv : IntKind.u8.wrap n = v) : (bytes l).set k (.int .u8 v) = bytes (l.set k (byt n)) :=
  bytes_set l k (byt n) v (by rw [← hv, wrap_byt])
/-- The first j bytes of p, and noughts. -/
def prt (p : List Int) (j : Nat) : List UInt8 := (enc p).take j ++ List.replicate (8 - j) 0
theorem prt_4 (p : List Int) : ((((List.replicate 8 (0 : UInt8)).set 0 (byt (p.getD 0 0))).set 1 (byt (p.getD 1 0))).set 2 (byt (p.getD 2 0))).set 3 (byt (p.getD 3 0)) = prt p 4 := rfl
theorem prt_mark (p : List Int) : (prt p 4).set 4 179 = prt p 5 := rfl
theorem prt_sum (p : List Int) : (prt p 5).set 5 (sumb (pre p)) = enc p := rfl
theorem prt_pre (p : List Int) : (prt p 5).take 5 = pre p := rfl
set_option maxHeartbeats 4000000 in
theorem put_is_ (p : List Int) (hl : p.length = 4) (g : Nat) (w : World) (hz : Blk w g 5 (bytes (List.replicate 8 0))) (v : Bool) (hv : okd p = v) :
    Calls Try.prog 26 #[pv p, .slice (some ⟨g, 0, none⟩) 8 8] w fun e w' => e = .returned (.bool v) ∧ Blk w' g 5 (bytes (if v then enc p else List.replicate 8 0)) ∧ Keep (· = g) w w' := by
  have q1 := ok_is p hl
  have z4 := prt_4 p
  obtain ⟨a0, a1, a2, a3, rfl⟩ := split4 hl
  simp only [List.getD_cons_succ, List.getD_cons_zero] at z4
  have Q1 := Lib.hid (fun w => q1 w v hv)
  have Z4 := Lib.hid z4
  clear q1 hv z4 hl
  generalize hP : ([a0, a1, a2, a3] : List Int) = Pp at *
  have hpv : pv Pp = .agg #[.int .i64 a0, .int .i64 a1, .int .i64 a2, .int .i64 a3] := by rw [← hP]; rfl
  rw [hpv]
  go_enter Try.func26, Try.ntmps26
  go_wp2_with (refine wpList_box rfl 23 _ rfl _ rfl ?_; intro w1 hb hk hs; clear hs; rw [show (Value.agg #[.int .i64 a0, .int .i64 a1, .int .i64 a2, .int .i64 a3]).cells.toList = ints Pp from by rw [← hP]; rfl] at hb; have hb' := hb; rw [← hP] at hb'; obtain ⟨c0, c1, c2, c3⟩ := cells4 hb'; clear hb')
  have hne : w.heap.size ≠ g := by have := hz.lt; omega
  have hz1 := hz.nob hk
  rw [← hpv]
  refine (Q1.out _).mono ?_; rintro e w2 ⟨rfl, k2⟩
  have hb2 := hb.nob k2
  have hz2 := hz1.nob k2
  have hk2 := hk.nobt k2
  clear c0 c1 c2 c3 hb hz1 hk k2 hz
  cases v with
  | false =>
    go_wp2
    go_ret
    exact ⟨rfl, hz2, hk2.mono (fun _ _ f => f.elim)⟩
  | true =>
  clear Q1
  have hb' := hb2; rw [← hP] at hb'; obtain ⟨c0, c1, c2, c3⟩ := cells4 hb'; clear hb'
  obtain ⟨y0, hy0⟩ : ∃ y, IntKind.u8.wrap a0 = y := ⟨_, rfl⟩
  obtain ⟨y1, hy1⟩ : ∃ y, IntKind.u8.wrap a1 = y := ⟨_, rfl⟩
  obtain ⟨y2, hy2⟩ : ∃ y, IntKind.u8.wrap a2 = y := ⟨_, rfl⟩
  obtain ⟨y3, hy3⟩ : ∃ y, IntKind.u8.wrap a3 = y := ⟨_, rfl⟩
  have fr0 := hz2.frozen 0
  have fr1 := hz2.frozen 1
  have fr2 := hz2.frozen 2
  have fr3 := hz2.frozen 3
  have q0 := hz2.cell 0
  have q1 := hz2.cell 1
  have q2 := hz2.cell 2
  have q3 := hz2.cell 3
  simp only [bytes_replicate, List.getElem?_replicate] at q0 q1 q2 q3
  clear hP
  go_wp2_with fail
  go_region
  have hz3 : Blk (((((w2.setCell ⟨g, 0, none⟩ (.int .u8 y0)).setCell ⟨g, 1, none⟩ (.int .u8 y1)).setCell ⟨g, 2, none⟩ (.int .u8 y2)).setCell ⟨g, 3, none⟩ (.int .u8 y3)).drew) g 5 (bytes (prt Pp 4)) := by
    have := ((((hz2.setCell 0 (.int .u8 y0)).setCell 1 (.int .u8 y1)).setCell 2 (.int .u8 y2)).setCell 3 (.int .u8 y3)).drew
    rw [bytes_sets _ 0 a0 y0 hy0, bytes_sets _ 1 a1 y1 hy1, bytes_sets _ 2 a2 y2 hy2, bytes_sets _ 3 a3 y3 hy3, Z4.out] at this
    exact this
  have hk3 : Keep (· = g) w (((((w2.setCell ⟨g, 0, none⟩ (.int .u8 y0)).setCell ⟨g, 1, none⟩ (.int .u8 y1)).setCell ⟨g, 2, none⟩ (.int .u8 y2)).setCell ⟨g, 3, none⟩ (.int .u8 y3)).drew) := ((((hk2.mono (M' := (· = g)) (fun _ _ f => f.elim)).setCell ⟨g, 0, none⟩ _ (fun _ => rfl)).setCell ⟨g, 1, none⟩ _ (fun _ => rfl)).setCell ⟨g, 2, none⟩ _ (fun _ => rfl)).setCell ⟨g, 3, none⟩ _ (fun _ => rfl) |>.drew
  clear c0 c1 c2 c3 hy0 hy1 hy2 hy3 fr0 fr1 fr2 fr3 q0 q1 q2 q3 hz2 hb2 hk2 Z4
  generalize (((((w2.setCell ⟨g, 0, none⟩ (.int .u8 y0)).setCell ⟨g, 1, none⟩ (.int .u8 y1)).setCell ⟨g, 2, none⟩ (.int .u8 y2)).setCell ⟨g, 3, none⟩ (.int .u8 y3)).drew) = w3 at *
  have fr := hz3.frozen 4
  have cc : ∃ x, _ = some x := ⟨_, (hz3.cell 4).trans (bytes_getD (show 4 < (prt Pp 4).length from (by decide : 4 < 8)))⟩
  obtain ⟨x, cc⟩ := cc
  have hz7 : Blk (w3.setCell ⟨g, 4, none⟩ (.int .u8 179)) g 5 (bytes (prt Pp 5)) := by
    have := hz3.setCell 4 (.int .u8 179)
    rw [bytes_set _ 4 179 179 rfl, prt_mark] at this
    exact this
  have hk7 : Keep (· = g) w (w3.setCell ⟨g, 4, none⟩ (.int .u8 179)) := hk3.setCell ⟨g, 4, none⟩ _ (fun _ => rfl)
  clear hz3 hk3
  go_wp2_with fail
  have hr : Reads (w3.setCell ⟨g, 4, none⟩ (.int .u8 179)) (some ⟨g, 0, none⟩) 5 (bytes (pre Pp)) := by
    have := Reads.of_blk (A := some ⟨g, 0, none⟩) (off := 0) (n := 5) hz7 (fun _ => rfl) (by rw [bytes_length]; exact (by decide : 0 + 5 ≤ 8))
    rw [List.drop_zero, ← bytes_take, prt_pre] at this
    exact this
  refine (sum_is hr (by decide) _ rfl).mono ?_; rintro e wy ⟨rfl, rfl⟩
  have hq : (((sumb (pre Pp)).toNat : Nat) : Int) = ((tot (pre Pp) % 256 : Nat) : Int) := by
    rw [sumb, UInt8.toNat_ofNat', Nat.mod_mod]
  generalize ((tot (pre Pp) % 256 : Nat) : Int) = q at *
  generalize w3.setCell ⟨g, 4, none⟩ (.int .u8 179) = wz at *
  have fr := hz7.frozen 5
  have cc : ∃ x, _ = some x := ⟨_, (hz7.cell 5).trans (bytes_getD (show 5 < (prt Pp 5).length from (by decide : 5 < 8)))⟩
  obtain ⟨x, cc⟩ := cc
  have hz8 : Blk (wz.setCell ⟨g, 5, none⟩ (.int .u8 q)) g 5 (bytes (enc Pp)) := by
    have := hz7.setCell 5 (.int .u8 q)
    rw [bytes_set _ 5 (sumb (pre Pp)) q hq, prt_sum] at this
    exact this
  have hk8 : Keep (· = g) w (wz.setCell ⟨g, 5, none⟩ (.int .u8 q)) := hk7.setCell ⟨g, 5, none⟩ _ (fun _ => rfl)
  clear hz7 hk7
  go_wp2
  go_ret
  exact ⟨rfl, hz8, hk8⟩
end Go.Proofs.Ytdlenjooidnofaa.Fi
