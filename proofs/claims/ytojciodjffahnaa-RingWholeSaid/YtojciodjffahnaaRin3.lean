/- Package ring: write. -/
import Derived.Test.YtojciodjffahnaaRinQ
import Derived.BigRegion
namespace Go.Proofs.Ytojciodjffahnaa.Ri
open Go.RowKit
set_option linter.unusedVariables false
set_option linter.unusedSimpArgs false
theorem bytes_sets (l : List UInt8) (k : Nat) (n v : Int) (hv : IntKind.u8.wrap n = v) : (bytes l).set k (.int .u8 v) = bytes (l.set k (byt n)) :=
  bytes_set l k (byt n) v (by rw [← hv, wrap_byt])
theorem prt_5 (p : Pp) : (((((List.replicate 40 (0 : UInt8)).set 0 1).set 1 (byt p.h)).set 2 (byt p.c)).set 3 (byt p.r)).set 4 (byt p.s) = [1, byt p.h, byt p.c, byt p.r, byt p.s] ++ List.replicate 35 0 := rfl
theorem prt_mark (p : Pp) : ([1, byt p.h, byt p.c, byt p.r, byt p.s] ++ List.replicate 35 (0 : UInt8)).set 5 197 = pre p ++ List.replicate 34 0 := rfl
theorem prt_sum (p : Pp) : (pre p ++ List.replicate 34 (0 : UInt8)).set 6 (sumb (pre p)) = pre p ++ [sumb (pre p)] ++ List.replicate 33 0 := rfl
theorem prt_pre (p : Pp) : (pre p ++ List.replicate 34 (0 : UInt8)).take 6 = pre p := rfl
theorem prt_all {p : Pp} (h : p.d.length = 32) : splice (pre p ++ [sumb (pre p)] ++ List.replicate 33 (0 : UInt8)) 8 p.d = enc p := by
  unfold splice
  rw [h]
  show _ ++ (p.d ++ []) = _
  rw [List.append_nil]; rfl
/-- The Data of a pipe that lies in memory. -/
theorem readsD {w : World} {g : Nat} {t : TypeId} {p : Pp} (hl : p.d.length = 32) (hb : Blk w g t (pc p)) : Reads w (some ⟨g, 4, none⟩) 32 (bytes p.d) := by
  have := Reads.of_blk (A := some ⟨g, 4, none⟩) (off := 4) (n := 32) hb (fun _ => rfl) (by rw [pc_len hl]; exact Nat.le_refl _)
  rwa [show ((pc p).drop 4).take 32 = bytes p.d from List.take_of_length_le (by rw [show (pc p).drop 4 = bytes p.d from rfl, bytes_length, hl]; exact Nat.le_refl _)] at this
set_option maxHeartbeats 4000000 in
theorem write_is (p : Pp) (hl : p.d.length = 32) (g : Nat) (w : World) (hz : Blk w g 5 (bytes (List.replicate 40 0))) (v : Bool) (hv : okd p = v) :
    Calls Try.prog 32 #[pv p, .slice (some ⟨g, 0, none⟩) 40 40] w fun e w' => e = .returned (.bool v) ∧ Blk w' g 5 (bytes (if v then enc p else List.replicate 40 0)) ∧ Keep (· = g) w w' := by
  have HL := Lib.hid hl
  have q1 := fun w => ok_is p w v hv
  unfold pv at q1 ⊢
  have Q1 := Lib.hid q1
  clear q1 hv hl
  go_enter Try.func32, Try.ntmps32
  go_wp2_with (first | (refine wpList_box rfl 26 _ rfl _ rfl ?_; intro w1 hb hk hs; clear hs; have hb : Blk w1 w.heap.size 26 (pc p) := hb) | (refine wpList_ld rfl (.tmp 2) rfl w.heap.size p rfl HL.out hb ?_))
  have hne : w.heap.size ≠ g := by have := hz.lt; omega
  have hz1 := hz.nob hk
  refine (Q1.out _).mono ?_; rintro e w2 ⟨rfl, k2⟩
  have hb2 := hb.nob k2
  have hz2 := hz1.nob k2
  have hk2 := hk.nobt k2
  clear hb hz1 hk k2 hz
  cases v with
  | false =>
    go_wp2
    go_ret
    exact ⟨rfl, hz2, hk2.mono (fun _ _ f => f.elim)⟩
  | true =>
  clear Q1
  obtain ⟨c0, c1, c2, c3⟩ := cells4 hb2
  obtain ⟨y1, hy1⟩ : ∃ y, IntKind.u8.wrap p.h = y := ⟨_, rfl⟩
  obtain ⟨y2, hy2⟩ : ∃ y, IntKind.u8.wrap p.c = y := ⟨_, rfl⟩
  obtain ⟨y3, hy3⟩ : ∃ y, IntKind.u8.wrap p.r = y := ⟨_, rfl⟩
  obtain ⟨y4, hy4⟩ : ∃ y, IntKind.u8.wrap p.s = y := ⟨_, rfl⟩
  have fr0 := hz2.frozen 0
  have fr1 := hz2.frozen 1
  have fr2 := hz2.frozen 2
  have fr3 := hz2.frozen 3
  have fr4 := hz2.frozen 4
  have q0 := hz2.cell 0
  have q1 := hz2.cell 1
  have q2 := hz2.cell 2
  have q3 := hz2.cell 3
  have q4 := hz2.cell 4
  simp only [bytes_replicate, List.getElem?_replicate] at q0 q1 q2 q3 q4
  go_upto_region 4 with fail
  have hz3 : Blk (((((w2.setCell ⟨g, 0, none⟩ (.int .u8 1)).setCell ⟨g, 1, none⟩ (.int .u8 y1)).setCell ⟨g, 2, none⟩ (.int .u8 y2)).setCell ⟨g, 3, none⟩ (.int .u8 y3)).setCell ⟨g, 4, none⟩ (.int .u8 y4)) g 5 (bytes ([1, byt p.h, byt p.c, byt p.r, byt p.s] ++ List.replicate 35 0)) := by
    have := ((((hz2.setCell 0 (.int .u8 1)).setCell 1 (.int .u8 y1)).setCell 2 (.int .u8 y2)).setCell 3 (.int .u8 y3)).setCell 4 (.int .u8 y4)
    rw [bytes_set _ 0 1 1 rfl, bytes_sets _ 1 p.h y1 hy1, bytes_sets _ 2 p.c y2 hy2, bytes_sets _ 3 p.r y3 hy3, bytes_sets _ 4 p.s y4 hy4, prt_5] at this
    exact this
  have hb3 := ((((hb2.far (p := ⟨g, 0, none⟩) hne (.int .u8 1)).far (p := ⟨g, 1, none⟩) hne (.int .u8 y1)).far (p := ⟨g, 2, none⟩) hne (.int .u8 y2)).far (p := ⟨g, 3, none⟩) hne (.int .u8 y3)).far (p := ⟨g, 4, none⟩) hne (.int .u8 y4)
  have hk3 := (((((hk2.mono (M' := (· = g)) (fun _ _ f => f.elim)).setCell ⟨g, 0, none⟩ (.int .u8 1) (fun _ => rfl)).setCell ⟨g, 1, none⟩ (.int .u8 y1) (fun _ => rfl)).setCell ⟨g, 2, none⟩ (.int .u8 y2) (fun _ => rfl)).setCell ⟨g, 3, none⟩ (.int .u8 y3) (fun _ => rfl)).setCell ⟨g, 4, none⟩ (.int .u8 y4) (fun _ => rfl)
  clear c0 c1 c2 c3 hy1 hy2 hy3 hy4 fr0 fr1 fr2 fr3 fr4 q0 q1 q2 q3 q4 hz2 hb2 hk2
  generalize (((((w2.setCell ⟨g, 0, none⟩ (.int .u8 1)).setCell ⟨g, 1, none⟩ (.int .u8 y1)).setCell ⟨g, 2, none⟩ (.int .u8 y2)).setCell ⟨g, 3, none⟩ (.int .u8 y3)).setCell ⟨g, 4, none⟩ (.int .u8 y4)) = w3 at *
  have fr := hz3.frozen 5
  have cc : ∃ x, _ = some x := ⟨_, (hz3.cell 5).trans (bytes_getD (by simp))⟩
  obtain ⟨x, cc⟩ := cc
  have hz7 : Blk (w3.setCell ⟨g, 5, none⟩ (.int .u8 197)) g 5 (bytes (pre p ++ List.replicate 34 0)) := by
    have := hz3.setCell 5 (.int .u8 197)
    rw [bytes_set _ 5 197 197 rfl, prt_mark] at this
    exact this
  have hb7 := hb3.far (p := ⟨g, 5, none⟩) hne (.int .u8 197)
  have hk7 := hk3.setCell ⟨g, 5, none⟩ (.int .u8 197) (fun _ => rfl)
  clear hz3 hk3 hb3
  go_wp2_with fail
  have hr : Reads (w3.setCell ⟨g, 5, none⟩ (.int .u8 197)) (some ⟨g, 0, none⟩) 6 (bytes (pre p)) := by
    have := Reads.of_blk (A := some ⟨g, 0, none⟩) (off := 0) (n := 6) hz7 (fun _ => rfl) (by rw [bytes_length]; exact (by decide : 0 + 6 ≤ 40))
    rw [List.drop_zero, ← bytes_take, prt_pre] at this
    exact this
  refine (sum_is hr (by decide) _ rfl).mono ?_; rintro e wy ⟨rfl, rfl⟩
  have hq : (((sumb (pre p)).toNat : Nat) : Int) = ((tot (pre p) % 256 : Nat) : Int) := by
    rw [sumb, UInt8.toNat_ofNat', Nat.mod_mod]
  generalize ((tot (pre p) % 256 : Nat) : Int) = q at *
  clear hr cc fr
  generalize w3.setCell ⟨g, 5, none⟩ (.int .u8 197) = wz at *
  have fr := hz7.frozen 6
  have cc : ∃ x, _ = some x := ⟨_, (hz7.cell 6).trans (bytes_getD (show 6 < (pre p ++ List.replicate 34 (0 : UInt8)).length from (by decide : 6 < 40)))⟩
  obtain ⟨x, cc⟩ := cc
  have hz8 : Blk (wz.setCell ⟨g, 6, none⟩ (.int .u8 q)).drew g 5 (bytes (pre p ++ [sumb (pre p)] ++ List.replicate 33 0)) := by
    have := (hz7.setCell 6 (.int .u8 q)).drew
    rw [bytes_set _ 6 (sumb (pre p)) q hq, prt_sum] at this
    exact this
  have hb8 := (hb7.far (p := ⟨g, 6, none⟩) hne (.int .u8 q)).drew
  have hk8 := (hk7.setCell ⟨g, 6, none⟩ (.int .u8 q) (fun _ => rfl)).drew
  clear hz7 hk7 hb7
  obtain ⟨w9, hcp, hb9, hk9, _⟩ := run_cp (P := Try.prog) (wz.setCell ⟨g, 6, none⟩ (.int .u8 q)).drew 22 22 5 Try.underlying22 Try.size5 (some ⟨g, 8, none⟩) (some ⟨w.heap.size, 4, none⟩) 32 32 32 32 g 8 _ 5 hz8 (bytes p.d) (readsD HL.out hb8) (fun _ => rfl) (by simp [pre]) (bytes_one _)
  rw [List.take_of_length_le (by rw [bytes_length, HL.out]; exact Nat.le_refl _), splice_bytes, prt_all HL.out] at hb9
  have hk9 := hk8.trans hk9 (fun b _ e => e)
  clear hz8 hb8 hk8
  go_upto_region 6 with fail
  go_region
  go_wp2
  go_ret
  exact ⟨rfl, hb9, hk9⟩
end Go.Proofs.Ytojciodjffahnaa.Ri
