/- The Boot that the statements of layer 8 make of numbers: its walk. Written by tools/kboot.py. -/
import Derived.Test.YtompckcnpidbdaaGreatBoot3
import Derived.Laws.Rows
namespace Go.Proofs.YtompckcnpidbdaaGreat
open Go.RowKit
set_option linter.unusedVariables false
set_option linter.unusedSimpArgs false
set_option maxRecDepth 100000 in
set_option maxHeartbeats 16000000 in
theorem boot_is {w : World} {A : Option Addr} {n c : Nat} {xs : List Int} (hr : Reads w A n (ints xs)) :
    Calls Tryz.prog 15 #[.slice A n c] w fun e w' => ∃ b ns, e = .returned b.val ∧ IsBt w' b ∧ BtOk b ns ∧ b.envs.length = 5 ∧ b.shared.length = 3 ∧ (∀ s ∈ b.shared, s.tos.length = 2) ∧ Keep (From w.heap.size) w w' := by
  have k0 := (((Keep.refl Nob w).alloc (.cells #[.slice A n c] 27)).alloc (.cells #[.slice none 0 0, .slice none 0 0, .slice none 0 0, .int .i64 0, .slice none 0 0] 31)).alloc (.cells #[.int .i64 0] 3)
  have hl0 : Blk (((w.alloc (.cells #[.slice A n c] 27)).alloc (.cells #[.slice none 0 0, .slice none 0 0, .slice none 0 0, .int .i64 0, .slice none 0 0] 31)).alloc (.cells #[.int .i64 0] 3)) w.heap.size 27 [.slice A n c] := ((Blk.new w 27 _).alloc _).alloc _
  have hz0 : Blk (((w.alloc (.cells #[.slice A n c] 27)).alloc (.cells #[.slice none 0 0, .slice none 0 0, .slice none 0 0, .int .i64 0, .slice none 0 0] 31)).alloc (.cells #[.int .i64 0] 3)) (w.heap.size + 1) 31 [.slice none 0 0, .slice none 0 0, .slice none 0 0, .int .i64 0, .slice none 0 0] := by
    have := (Blk.new (w.alloc (.cells #[.slice A n c] 27)) 31 [.slice none 0 0, .slice none 0 0, .slice none 0 0, .int .i64 0, .slice none 0 0]).alloc (.cells #[.int .i64 0] 3)
    simpa using this
  have ha0 : Blk (((w.alloc (.cells #[.slice A n c] 27)).alloc (.cells #[.slice none 0 0, .slice none 0 0, .slice none 0 0, .int .i64 0, .slice none 0 0] 31)).alloc (.cells #[.int .i64 0] 3)) (w.heap.size + 1 + 1) 3 [.int .i64 ((0 : Nat) : Int)] := by
    have := Blk.new ((w.alloc (.cells #[.slice A n c] 27)).alloc (.cells #[.slice none 0 0, .slice none 0 0, .slice none 0 0, .int .i64 0, .slice none 0 0] 31)) 3 [.int .i64 0]
    simpa using this
  have N0 : Nx w _ (w.heap.size + 1 + 1) w.heap.size A n c xs 0 := ⟨ha0, hl0, hr, k0.mono (fun _ _ f => f.elim), by omega⟩
  have NN := Lib.hid (And.intro N0 hz0)
  clear k0 hl0 hz0 ha0 N0 hr
  go_enter Tryz.func15, Tryz.ntmps15
  go_wp2_with fail
  refine (next_is NN.out.1 (by decide) 6 (by decide) (by decide)).mono ?_; rintro e w1 ⟨lv, rfl, lv0, lv1, N1, k1⟩
  have hz1 := NN.out.2.keep k1 (NN.out.2.ne_ NN.out.1.a (by decide))
  obtain ⟨ab, hab⟩ : ∃ ab, w.heap.size + 1 + 1 = ab := ⟨_, rfl⟩
  obtain ⟨rb, hrb⟩ : ∃ rb, w.heap.size + 1 = rb := ⟨_, rfl⟩
  obtain ⟨lb, hlb⟩ : ∃ lb, w.heap.size = lb := ⟨_, rfl⟩
  rw [hab] at N1 k1 ⊢
  rw [hrb] at hz1 ⊢
  rw [hlb] at N1 ⊢
  have HL := Lib.hid (And.intro hab (And.intro hrb hlb))
  clear hab hrb hlb NN k1
  have bz : Bs w (w1.alloc (.cells #[.slice none 0 0, .slice none 0 0, .slice none 0 0, .int .i64 (1 + lv), .slice none 0 0] 31)) ab lb w1.heap.size A n c xs 1 ⟨[], none, 0, [], none, 0, [], none, 0, 1 + lv, [], none, 0⟩ := by
    have kx := (Keep.refl Nob w1).alloc (.cells #[.slice none 0 0, .slice none 0 0, .slice none 0 0, .int .i64 (1 + lv), .slice none 0 0] 31)
    have no : ∀ x, ¬ Own none x := fun x ⟨a, e, _⟩ => by cases e
    exact ⟨N1.nob kx, Blk.new w1 31 _, Vec.nil _ _ _, Vec.nil _ _ _, Vec.nil _ _ _, fun s hs => (by cases hs), Vec.nil _ _ _, fun s hs => (by cases hs), no _, no _, fun x hx => (no x hx).elim, no _, N1.keep.size, fun x hx => (no x hx).elim, fun x hx => (no x hx).elim, fun x hx => (no x hx).elim, fun x hx => (no x hx).elim⟩
  have hz2 := hz1.alloc (.cells #[.slice none 0 0, .slice none 0 0, .slice none 0 0, .int .i64 (1 + lv), .slice none 0 0] 31)
  have hrp : rb ≠ w1.heap.size := by have := hz1.lt; omega
  clear N1 hz1
  go_wp2_with fail
  refine (next_is bz.nx (by decide) 3 (by decide) (by decide)).mono ?_; rintro e w2 ⟨nv, rfl, nv0, nv1, N2, k2⟩
  have B2 := bz.tick N2 k2
  have hz3 := hz2.keep k2 (hz2.ne_ bz.nx.a (by decide))
  generalize w1.heap.size = pb at *
  clear bz hz2 N2 k2
  obtain ⟨nn, hnn⟩ := Int.eq_ofNat_of_zero_le (show 0 ≤ 1 + nv by omega)
  have hnn1 : 1 ≤ nn ∧ nn ≤ 3 := by omega
  have HLV := Lib.hid (And.intro lv0 lv1)
  clear lv0 lv1
  generalize hlease : 1 + lv = lease at *
  have HLE := Lib.hid (show 1 ≤ lease ∧ lease ≤ 6 by have := HLV.out; omega)
  clear hlease HLV
  have HNV := Lib.hid hnn
  clear hnn
  go_wp2_with fail
  rw [HNV.out]
  clear nv0 nv1
  go_loopw [7] (fun s7 wx => ∃ (i k : Nat) (b : Bt), i ≤ nn ∧ k ≤ 2 + i ∧ s7 = .int .i64 i ∧ Bs w wx ab lb pb A n c xs k b ∧ Blk wx rb 31 [.slice none 0 0, .slice none 0 0, .slice none 0 0, .int .i64 0, .slice none 0 0] ∧ b.frames.length = i ∧ (b.envs = [] ∧ b.Ae = none ∧ b.sects = [] ∧ b.shared = [] ∧ b.lease = lease ∧ ∀ x ∈ b.frames, 1 ≤ x ∧ x ≤ 4)) (fun t _ => nn - (intOf t).toNat)
  case atStart => exact ⟨0, 2, _, Nat.zero_le _, by decide, rfl, B2, hz3, rfl, rfl, rfl, rfl, rfl, rfl, fun x hx => (by cases hx)⟩
  case round =>
    clear B2 hz3
    obtain ⟨i, k, b, hi, hk, rfl, hB, hz, hlen, hfacts⟩ := hrel
    by_cases hlt : i < nn
    · have hk1000 : k ≤ 1000 := by omega
      have kd := Keep.nobdrew wr
      have hBd := hB.nob kd
      have sf : ∀ W kk, Bs w W ab lb pb A n c xs kk b → W.cell? ⟨pb, 0, none⟩ = some (.slice b.Af i b.cf) := fun W kk h => by
        have := h.o.cell 0
        simp only [List.getElem?_cons_zero, List.getElem?_cons_succ] at this
        rw [hlen] at this
        exact this
      have s0 := sf _ _ hBd
      have SF := Lib.hid sf
      have HB := Lib.hid (And.intro hBd (And.intro hz (And.intro hlen hfacts)))
      have hnx := next_is hBd.nx hk1000 4 (by decide) (by decide)
      clear sf hB hz hlen hfacts hBd
      go_wp2_with fail
      go_region_law (first
        | (go_simp; go_at_call 43; refine hnx.mono ?_; rintro e w3 ⟨v, rfl, v0, v1, N3, k3⟩; have hwr : IntKind.i64.wrap (1 + v) = 1 + v := (by simp [IntKind.wrap, IntKind.bits, IntKind.signed]; omega); have B3 := HB.out.1.tick N3 k3; have kx := (Keep.refl Nob w3).alloc (.cells #[.int .i64 (1 + v)] 3); have B4 := B3.nob kx; have q1 := SF.out _ _ B3; have q2 := SF.out _ _ B4; have hv1 := B4.fr; rw [HB.out.2.2.1] at hv1; have hr1 := reads_all (n := 1) (Blk.new w3 3 [.int .i64 (1 + v)]) rfl)
        | (refine Qu.step_ap (by rfl) _ _ 27 (by rfl) 3 1 8 (.int .i64 0) Tryz.underlying27 infoint_ (by rfl) (by decide) b.Af i b.cf (ints b.frames) (by rfl) hv1 (some ⟨w3.heap.size, 0, none⟩) 1 1 [.int .i64 (1 + v)] (by rfl) 1 (by rfl) hr1 (by simp [Value.oneCell']) (by unfold maxLen; omega) (by omega) ?_; intro A2 c2 w5 hv2 hk2 ho2; have o2 := B4.o.keep hk2 (offB (fun g hg => B4.fr.blk hg) B4.o (by decide)); have z1 := o2.cell 0; have f1 := o2.frozen 0; simp only [List.getElem?_cons_zero, List.getElem?_cons_succ] at z1; rw [HB.out.2.2.1] at z1))
      all_goals
        have F := B4.frame HB.out.2.2.2.1 HB.out.2.2.2.2.1 HB.out.2.2.2.2.2.1 HB.out.2.2.2.2.2.2.1 (W2 := w5) (v := 1 + v) (A2 := A2) (c2 := c2) (by rw [HB.out.2.2.1]; exact hv2) hk2 (fun g hg => (ho2 g hg).imp id (fun e => by omega))
        rw [HB.out.2.2.1] at F
        have hz5 : Blk (w5.setCell ⟨pb, 0, none⟩ (.slice A2 (i + 1) c2)) rb 31 [.slice none 0 0, .slice none 0 0, .slice none 0 0, .int .i64 0, .slice none 0 0] := by
          have z3 := ((HB.out.2.1.nob (Keep.nobdrew wr)).keep k3 ((HB.out.2.1.nob (Keep.nobdrew wr)).ne_ HB.out.1.nx.a (by decide))).nob kx
          exact (z3.keep hk2 (offB (fun g hg => B4.fr.blk hg) z3 (by decide))).far hrp _
        have FI := Lib.hid (And.intro F (And.intro hz5 (And.intro v0 v1)))
        clear F hz5 v0 v1 B3 B4 hv1 hr1 hv2 hk2 ho2 o2 q1 q2 kx k3 N3 hnx s0 kd SF
        go_wp2_with fail
        go_roundw
        case rel => exact ⟨i + 1, k + 1, _, by omega, by omega, by go_num, FI.out.1, FI.out.2.1, by dsimp only; rw [List.length_append, HB.out.2.2.1]; rfl, ⟨HB.out.2.2.2.1, HB.out.2.2.2.2.1, HB.out.2.2.2.2.2.1, HB.out.2.2.2.2.2.2.1, HB.out.2.2.2.2.2.2.2.1, fun x hx => (List.mem_append.1 hx).elim (HB.out.2.2.2.2.2.2.2.2 x) (fun h => by have := List.mem_singleton.1 h; have := FI.out.2.2; omega)⟩⟩
        case measure => simp [intOf]; omega
    · obtain rfl : i = nn := by omega
      have hF2 : b.sects = [] ∧ b.shared = [] ∧ b.lease = lease ∧ b.frames.length = i ∧ (∀ x ∈ b.frames, 1 ≤ x ∧ x ≤ 4) ∧ ∀ x ∈ b.envs, 0 ≤ x ∧ x < i := ⟨hfacts.2.2.1, hfacts.2.2.2.1, hfacts.2.2.2.2.1, hlen, hfacts.2.2.2.2.2, fun x hx => by rw [hfacts.1] at hx; cases hx⟩
      have hlen2 : b.envs.length = 0 := by rw [hfacts.1]; rfl
      have hk5 : k ≤ 5 := by omega
      clear hfacts hlen hk
      generalize i = nn at *
      go_wp2_with fail
      go_loopw [8] (fun s8 wx => ∃ (i k : Nat) (b : Bt), i ≤ 5 ∧ k ≤ 5 + i ∧ s8 = .int .i64 i ∧ Bs w wx ab lb pb A n c xs k b ∧ Blk wx rb 31 [.slice none 0 0, .slice none 0 0, .slice none 0 0, .int .i64 0, .slice none 0 0] ∧ b.envs.length = i ∧ (b.sects = [] ∧ b.shared = [] ∧ b.lease = lease ∧ b.frames.length = nn ∧ (∀ x ∈ b.frames, 1 ≤ x ∧ x ≤ 4) ∧ ∀ x ∈ b.envs, 0 ≤ x ∧ x < nn)) (fun t _ => 5 - (intOf t).toNat)
      case atStart => exact ⟨0, k, b, Nat.zero_le _, hk5, rfl, hB, hz, hlen2, hF2⟩
      case round =>
        clear hB hz hlen2 hF2 hk5
        obtain ⟨i, k, b, hi, hk, rfl, hB, hz, hlen, hfacts⟩ := hrel
        by_cases hlt : i < 5
        · have hk1000 : k ≤ 1000 := by omega
          have kd := Keep.nobdrew wr
          have hBd := hB.nob kd
          have sf : ∀ W kk, Bs w W ab lb pb A n c xs kk b → W.cell? ⟨pb, 1, none⟩ = some (.slice b.Ae i b.ce) := fun W kk h => by
            have := h.o.cell 1
            simp only [List.getElem?_cons_zero, List.getElem?_cons_succ] at this
            rw [hlen] at this
            exact this
          have s0 := sf _ _ hBd
          have SF := Lib.hid sf
          have HB := Lib.hid (And.intro hBd (And.intro hz (And.intro hlen hfacts)))
          have hnx := next_is hBd.nx hk1000 nn (by omega) (by omega)
          clear sf hB hz hlen hfacts hBd
          go_wp2_with fail
          go_region_law (first
            | (go_simp; go_at_call 43; refine hnx.mono ?_; rintro e w3 ⟨v, rfl, v0, v1, N3, k3⟩; have B3 := HB.out.1.tick N3 k3; have kx := (Keep.refl Nob w3).alloc (.cells #[.int .i64 (v)] 3); have B4 := B3.nob kx; have q1 := SF.out _ _ B3; have q2 := SF.out _ _ B4; have hv1 := B4.en; rw [HB.out.2.2.1] at hv1; have hr1 := reads_all (n := 1) (Blk.new w3 3 [.int .i64 (v)]) rfl)
            | (refine Qu.step_ap (by rfl) _ _ 27 (by rfl) 3 1 8 (.int .i64 0) Tryz.underlying27 infoint_ (by rfl) (by decide) b.Ae i b.ce (ints b.envs) (by rfl) hv1 (some ⟨w3.heap.size, 0, none⟩) 1 1 [.int .i64 (v)] (by rfl) 1 (by rfl) hr1 (by simp [Value.oneCell']) (by unfold maxLen; omega) (by omega) ?_; intro A2 c2 w5 hv2 hk2 ho2; have o2 := B4.o.keep hk2 (offB (fun g hg => B4.en.blk hg) B4.o (by decide)); have z1 := o2.cell 1; have f1 := o2.frozen 1; simp only [List.getElem?_cons_zero, List.getElem?_cons_succ] at z1; rw [HB.out.2.2.1] at z1))
          all_goals
            have F := B4.env HB.out.2.2.2.1 HB.out.2.2.2.2.1 (W2 := w5) (v := v) (A2 := A2) (c2 := c2) (by rw [HB.out.2.2.1]; exact hv2) hk2 (fun g hg => (ho2 g hg).imp id (fun e => by omega))
            rw [HB.out.2.2.1] at F
            have hz5 : Blk (w5.setCell ⟨pb, 1, none⟩ (.slice A2 (i + 1) c2)) rb 31 [.slice none 0 0, .slice none 0 0, .slice none 0 0, .int .i64 0, .slice none 0 0] := by
              have z3 := ((HB.out.2.1.nob (Keep.nobdrew wr)).keep k3 ((HB.out.2.1.nob (Keep.nobdrew wr)).ne_ HB.out.1.nx.a (by decide))).nob kx
              exact (z3.keep hk2 (offB (fun g hg => B4.en.blk hg) z3 (by decide))).far hrp _
            have FI := Lib.hid (And.intro F (And.intro hz5 (And.intro v0 v1)))
            clear F hz5 v0 v1 B3 B4 hv1 hr1 hv2 hk2 ho2 o2 q1 q2 kx k3 N3 hnx s0 kd SF
            go_wp2_with fail
            go_roundw
            case rel => exact ⟨i + 1, k + 1, _, by omega, by omega, by go_num, FI.out.1, FI.out.2.1, by dsimp only; rw [List.length_append, HB.out.2.2.1]; rfl, ⟨HB.out.2.2.2.1, HB.out.2.2.2.2.1, HB.out.2.2.2.2.2.1, HB.out.2.2.2.2.2.2.1, HB.out.2.2.2.2.2.2.2.1, fun x hx => (List.mem_append.1 hx).elim (HB.out.2.2.2.2.2.2.2.2 x) (fun h => by have := List.mem_singleton.1 h; have := FI.out.2.2; omega)⟩⟩
            case measure => simp [intOf]; omega
        · have hi5 := Lib.hid (show i = 5 by omega)
          have hF3 : b.shared = [] ∧ b.lease = lease ∧ b.frames.length = nn ∧ (∀ x ∈ b.frames, 1 ≤ x ∧ x ≤ 4) ∧ b.envs.length = 5 ∧ (∀ x ∈ b.envs, 0 ≤ x ∧ x < nn) ∧ ∀ s ∈ b.sects, s.xs.length = 2 ∧ InR nn s.xs := ⟨hfacts.2.1, hfacts.2.2.1, hfacts.2.2.2.1, hfacts.2.2.2.2.1, hlen.trans hi5.out, hfacts.2.2.2.2.2, fun x hx => by rw [hfacts.1] at hx; cases hx⟩
          have hlen3 : b.sects.length = 0 := by rw [hfacts.1]; rfl
          have hk10 : k ≤ 10 := by have := hi5.out; omega
          clear hfacts hlen hk
          go_wp2_with fail
          go_loopw [9] (fun s9 wx => ∃ (i k : Nat) (b : Bt), i ≤ 2 ∧ k ≤ 10 + 2 * i ∧ s9 = .int .i64 i ∧ Bs w wx ab lb pb A n c xs k b ∧ Blk wx rb 31 [.slice none 0 0, .slice none 0 0, .slice none 0 0, .int .i64 0, .slice none 0 0] ∧ b.sects.length = i ∧ (b.shared = [] ∧ b.lease = lease ∧ b.frames.length = nn ∧ (∀ x ∈ b.frames, 1 ≤ x ∧ x ≤ 4) ∧ b.envs.length = 5 ∧ (∀ x ∈ b.envs, 0 ≤ x ∧ x < nn) ∧ ∀ s ∈ b.sects, s.xs.length = 2 ∧ InR nn s.xs)) (fun t _ => 2 - (intOf t).toNat)
          case atStart => exact ⟨0, k, b, Nat.zero_le _, hk10, rfl, hB, hz, hlen3, hF3⟩
          case round =>
            clear hB hz hlen3 hF3 hk10
            obtain ⟨i, k, b, hi, hk, rfl, hB, hz, hlen, hfacts⟩ := hrel
            by_cases hlt : i < 2
            · have hk1000 : k ≤ 1000 := by omega
              have kd := Keep.nobdrew wr
              have hBd := hB.nob kd
              have sf : ∀ W kk, Bs w W ab lb pb A n c xs kk b → W.cell? ⟨pb, 2, none⟩ = some (.slice b.As i b.cs) := fun W kk h => by
                have := h.o.cell 2
                simp only [List.getElem?_cons_zero, List.getElem?_cons_succ] at this
                rw [hlen] at this
                exact this
              have s0 := sf _ _ hBd
              have SF := Lib.hid sf
              have HB := Lib.hid (And.intro hBd (And.intro hz (And.intro hlen hfacts)))
              have hnx := next_is hBd.nx hk1000 nn (by omega) (by omega)
              clear sf hB hz hlen hfacts hBd
              go_wp2_with fail
              go_region_law (first
                | (go_simp; go_at_call 43; first
                    | (refine (next_is B3.nx (by omega) nn (by omega) (by omega)).mono ?_; rintro e w4 ⟨v2, rfl, v20, v21, N4, k4⟩; have B4 := B3.tick N4 k4; have kx := (Keep.refl Nob w4).alloc (.cells #[.int .i64 v, .int .i64 v2] 3); have B5 := B4.nob kx; have ky := (Keep.refl Nob (w4.alloc (.cells #[.int .i64 v, .int .i64 v2] 3))).alloc (.cells #[.slice (some ⟨w4.heap.size, 0, none⟩) 2 2] 27); have B6 := B5.nob ky; have q3 := SF.out _ _ B4; have q4 := SF.out _ _ B5; have q5 := SF.out _ _ B6; have hv1 := B6.se; rw [HB.out.2.2.1] at hv1; have hbY := Blk.new (w4.alloc (.cells #[.int .i64 v, .int .i64 v2] 3)) 27 [.slice (some ⟨w4.heap.size, 0, none⟩) 2 2]; have hsz : (w4.alloc (.cells #[.int .i64 v, .int .i64 v2] 3)).heap.size = w4.heap.size + 1 := (by simp); rw [hsz] at hbY; have hr1 := reads_all (n := 1) hbY rfl)
                    | (refine hnx.mono ?_; rintro e w3 ⟨v, rfl, v0, v1, N3, k3⟩; have B3 := HB.out.1.tick N3 k3; have q1 := SF.out _ _ B3))
                | (refine Qu.step_ap (by rfl) _ _ 28 (by rfl) 27 1 24 (.slice none 0 0) Tryz.underlying28 infoints_ (by rfl) (by decide) b.As i b.cs (b.sects.map Sl.cell) (by rfl) hv1 (some ⟨w4.heap.size + 1, 0, none⟩) 1 1 [.slice (some ⟨w4.heap.size, 0, none⟩) 2 2] (by rfl) 1 (by rfl) hr1 (by simp [Value.oneCell']) (by unfold maxLen; omega) (by omega) ?_; intro A2 c2 w5 hv2 hk2 ho2; have o2 := B6.o.keep hk2 (offB (fun g hg => B6.se.blk hg) B6.o (by decide)); have z1 := o2.cell 2; have f1 := o2.frozen 2; simp only [List.getElem?_cons_zero, List.getElem?_cons_succ] at z1; rw [HB.out.2.2.1] at z1))
              all_goals
                have hgI : Blk ((w4.alloc (.cells #[.int .i64 v, .int .i64 v2] 3)).alloc (.cells #[.slice (some ⟨w4.heap.size, 0, none⟩) 2 2] 27)) w4.heap.size 3 (ints [v, v2]) := (Blk.new w4 3 [.int .i64 v, .int .i64 v2]).alloc _
                have F := B6.sect (W2 := w5) (g := w4.heap.size) (l := [v, v2]) rfl hgI (by have := B4.nx.a.lt; omega) (fun m => by have := B4.fr.lt _ m; omega) (fun m => by have := B4.en.lt _ m; omega) (A2 := A2) (c2 := c2) (by rw [HB.out.2.2.1]; exact hv2) hk2 (fun g hg => (ho2 g hg).imp id (fun e => by omega))
                rw [HB.out.2.2.1] at F
                have hz5 : Blk (w5.setCell ⟨pb, 2, none⟩ (.slice A2 (i + 1) c2)) rb 31 [.slice none 0 0, .slice none 0 0, .slice none 0 0, .int .i64 0, .slice none 0 0] := by
                  have z3 := (HB.out.2.1.nob (Keep.nobdrew wr)).keep k3 ((HB.out.2.1.nob (Keep.nobdrew wr)).ne_ HB.out.1.nx.a (by decide))
                  have z4 := ((z3.keep k4 (z3.ne_ B3.nx.a (by decide))).nob kx).nob ky
                  exact (z4.keep hk2 (offB (fun g hg => B6.se.blk hg) z4 (by decide))).far hrp _
                have FI := Lib.hid (And.intro F (And.intro hz5 (And.intro (And.intro v0 v1) (And.intro v20 v21))))
                clear F hz5 v0 v1 v20 v21 B3 B4 B5 B6 hv1 hr1 hv2 hk2 ho2 o2 kx ky k3 k4 N3 N4 hnx s0 kd SF hbY hgI
                go_wp2_with fail
                go_roundw
                case rel => exact ⟨i + 1, k + 1 + 1, _, by omega, by omega, by go_num, FI.out.1, FI.out.2.1, (by rw [List.length_append, HB.out.2.2.1]; rfl), HB.out.2.2.2.1, HB.out.2.2.2.2.1, HB.out.2.2.2.2.2.1, HB.out.2.2.2.2.2.2.1, HB.out.2.2.2.2.2.2.2.1, HB.out.2.2.2.2.2.2.2.2.1, fun s hs => (List.mem_append.1 hs).elim (HB.out.2.2.2.2.2.2.2.2.2 s) (fun h => by
                  obtain rfl := List.mem_singleton.1 h
                  refine ⟨rfl, fun y hy => ?_⟩
                  have h1 := FI.out.2.2
                  rcases List.mem_cons.1 hy with rfl | hy
                  · exact h1.1
                  · obtain rfl := List.mem_singleton.1 hy
                    exact h1.2)⟩
                case measure => simp [intOf]; omega
            · have hi2 := Lib.hid (show i = 2 by omega)
              have hF4 : b.lease = lease ∧ b.frames.length = nn ∧ (∀ x ∈ b.frames, 1 ≤ x ∧ x ≤ 4) ∧ b.envs.length = 5 ∧ (∀ x ∈ b.envs, 0 ≤ x ∧ x < nn) ∧ b.sects.length = 2 ∧ (∀ s ∈ b.sects, s.xs.length = 2 ∧ InR nn s.xs) ∧ ∀ s ∈ b.shared, ShG b.frames nn s := ⟨hfacts.2.1, hfacts.2.2.1, hfacts.2.2.2.1, hfacts.2.2.2.2.1, hfacts.2.2.2.2.2.1, hlen.trans hi2.out, hfacts.2.2.2.2.2.2, fun x hx => by rw [hfacts.1] at hx; cases hx⟩
              have hlen4 : b.shared.length = 0 := by rw [hfacts.1]; rfl
              have hk14 : k ≤ 14 := by have := hi2.out; omega
              clear hfacts hlen hk
              go_wp2_with fail
              go_loopw [10] (fun s10 wx => ∃ (i k : Nat) (b : Bt), i ≤ 3 ∧ k ≤ 14 + 6 * i ∧ s10 = .int .i64 i ∧ Bs w wx ab lb pb A n c xs k b ∧ Blk wx rb 31 [.slice none 0 0, .slice none 0 0, .slice none 0 0, .int .i64 0, .slice none 0 0] ∧ b.shared.length = i ∧ (b.lease = lease ∧ b.frames.length = nn ∧ (∀ x ∈ b.frames, 1 ≤ x ∧ x ≤ 4) ∧ b.envs.length = 5 ∧ (∀ x ∈ b.envs, 0 ≤ x ∧ x < nn) ∧ b.sects.length = 2 ∧ (∀ s ∈ b.sects, s.xs.length = 2 ∧ InR nn s.xs) ∧ ∀ s ∈ b.shared, ShG b.frames nn s)) (fun t _ => 3 - (intOf t).toNat)
              case atStart => exact ⟨0, k, b, Nat.zero_le _, hk14, rfl, hB, hz, hlen4, hF4⟩
              case round =>
                clear hB hz hlen4 hF4 hk14
                obtain ⟨i, k, b, hi, hk, rfl, hB, hz, hlen, hfacts⟩ := hrel
                by_cases hlt : i < 3
                · have HF := Lib.hid (And.intro hlen hfacts)
                  have nnb : 1 ≤ (nn : Int) ∧ (nn : Int) ≤ 1000000 := by omega
                  clear hlen hfacts
                  go_wp2_with fail
                  refine (next_is hB.nx (by omega) nn nnb.1 nnb.2).mono ?_; rintro e w3 ⟨v1, rfl, v10, v11, N3, k3⟩
                  have B3 := hB.tick N3 k3
                  have z3 := hz.keep k3 (hz.ne_ hB.nx.a (by decide))
                  clear hB hz N3 k3
                  go_wp2_with fail
                  refine (next_is B3.nx (by omega) nn nnb.1 nnb.2).mono ?_; rintro e w4 ⟨v2, rfl, v20, v21, N4, k4⟩
                  have B4 := B3.tick N4 k4
                  have z4 := z3.keep k4 (z3.ne_ B3.nx.a (by decide))
                  clear B3 z3 N4 k4
                  go_wp2_with fail
                  refine (next_is B4.nx (by omega) nn nnb.1 nnb.2).mono ?_; rintro e w5 ⟨v3, rfl, v30, v31, N5, k5⟩
                  have B5 := B4.tick N5 k5
                  have z5 := z4.keep k5 (z4.ne_ B4.nx.a (by decide))
                  clear B4 z4 N5 k5
                  obtain ⟨j, rfl⟩ := Int.eq_ofNat_of_zero_le v10
                  have hjn : j < b.frames.length := by rw [HF.out.2.2.1]; omega
                  have kx := (Keep.refl Nob w5).alloc (.cells #[.int .i64 v2, .int .i64 v3] 3)
                  have ky := kx.alloc (.cells #[.int .i64 j, .int .i64 0, .int .i64 0, .int .i64 0, .slice (some ⟨w5.heap.size, 0, none⟩) 2 2] 53)
                  have B6 := B5.nob ky
                  have z6 := z5.nob ky
                  have hgI : Blk ((w5.alloc (.cells #[.int .i64 v2, .int .i64 v3] 3)).alloc (.cells #[.int .i64 j, .int .i64 0, .int .i64 0, .int .i64 0, .slice (some ⟨w5.heap.size, 0, none⟩) 2 2] 53)) w5.heap.size 3 (ints [v2, v3]) := (Blk.new w5 3 [.int .i64 v2, .int .i64 v3]).alloc _
                  have hsv : Blk ((w5.alloc (.cells #[.int .i64 v2, .int .i64 v3] 3)).alloc (.cells #[.int .i64 j, .int .i64 0, .int .i64 0, .int .i64 0, .slice (some ⟨w5.heap.size, 0, none⟩) 2 2] 53)) (w5.heap.size + 1) 53 [.int .i64 j, .int .i64 0, .int .i64 0, .int .i64 0, .slice (some ⟨w5.heap.size, 0, none⟩) 2 2] := by
                    have := Blk.new (w5.alloc (.cells #[.int .i64 v2, .int .i64 v3] 3)) 53 [.int .i64 j, .int .i64 0, .int .i64 0, .int .i64 0, .slice (some ⟨w5.heap.size, 0, none⟩) 2 2]
                    simpa using this
                  have hgA : w5.heap.size ≠ ab := by have := B5.nx.a.lt; omega
                  have hgF : ¬ Own b.Af w5.heap.size := fun m => by have := B5.fr.lt _ m; omega
                  have hgE : ¬ Own b.Ae w5.heap.size := fun m => by have := B5.en.lt _ m; omega
                  have hsA : ¬ Own b.Ah (w5.heap.size + 1) := fun m => by have := B5.sh.lt _ m; omega
                  have hlo : w.heap.size ≤ w5.heap.size := B5.nx.keep.size
                  clear B5 z5 kx ky
                  have HV := Lib.hid (And.intro (And.intro v11 (And.intro v20 v21)) (And.intro v30 v31))
                  clear v10 v11 v20 v21 v30 v31
                  obtain ⟨gF, hgFA, cfj⟩ := B6.frame_at hjn
                  obtain ⟨f, hf⟩ : ∃ f, b.frames.getD j 0 = f := ⟨_, rfl⟩
                  rw [hf] at cfj
                  have hf14 : 1 ≤ f ∧ f ≤ 4 := by
                    rw [← hf, List.getD_eq_getElem?_getD, List.getElem?_eq_getElem hjn]
                    exact HF.out.2.2.2.1 _ (List.getElem_mem hjn)
                  have HFJ := Lib.hid (And.intro hf (And.intro hgFA hjn))
                  clear hf hgFA
                  have pcell : ∀ W kk, Bs w W ab lb pb A n c xs kk b → W.cell? ⟨pb, 0, none⟩ = some (.slice (some ⟨gF, 0, none⟩) nn b.cf) ∧ W.cell? ⟨gF, j, none⟩ = some (.int .i64 f) := fun W kk h => by
                    have h0 := h.o.cell 0
                    simp only [List.getElem?_cons_zero] at h0
                    rw [HFJ.out.2.1, HF.out.2.2.1] at h0
                    obtain ⟨g2, e1, e2⟩ := h.frame_at HFJ.out.2.2
                    rw [HFJ.out.2.1] at e1
                    cases e1
                    rw [HFJ.out.1] at e2
                    exact ⟨h0, e2⟩
                  have p0 := (pcell _ _ B6).1
                  have hjnn : (j : Int) < nn := by have := HF.out.2.2.1; omega
                  have PC := Lib.hid pcell
                  have HX := Lib.hid (And.intro hgA (And.intro hgF (And.intro hgE (And.intro hsA hlo))))
                  clear pcell hjn hgA hgF hgE hsA hlo
                  go_wp2_with fail
                  generalize hW6 : (w5.alloc (.cells #[.int .i64 v2, .int .i64 v3] 3)).alloc (.cells #[.int .i64 j, .int .i64 0, .int .i64 0, .int .i64 0, .slice (some ⟨w5.heap.size, 0, none⟩) 2 2] 53) = W6 at *
                  clear hW6
                  have HG := Lib.hid hgI
                  clear hgI
                  generalize hg0 : w5.heap.size = g at *
                  generalize hs0 : g + 1 = sv at *
                  clear hg0
                  have HSV := Lib.hid hs0
                  clear hs0
                  refine (next_is B6.nx (by omega) f hf14.1 (by omega)).mono ?_; rintro e w7 ⟨fm, rfl, fm0, fm1, N7, k7⟩
                  have B7 := B6.tick N7 k7
                  have z7 := z6.keep k7 (z6.ne_ B6.nx.a (by decide))
                  have s7 := hsv.keep k7 (hsv.ne_ B6.nx.a (by decide))
                  have g7 := HG.out.keep k7 HX.out.1
                  clear B6 z6 hsv N7 k7 p0 cfj HG
                  have c71 := s7.cell 1
                  have f71 := s7.frozen 1
                  simp only [List.getElem?_cons_zero, List.getElem?_cons_succ] at c71
                  have k8 : Keep (fun x => x = sv) w7 (w7.setCell ⟨sv, 1, none⟩ (.int .i64 fm)) := (Keep.refl _ _).setCell _ _ (fun _ => rfl)
                  have hsw : w.heap.size ≤ sv := by have := HSV.out; have := HX.out.2.2.2.2; omega
                  have B8 := B7.farS s7 HX.out.2.2.2.1 hsw k8
                  have z8 := z7.keep k8 (z7.ne_ s7 (by decide))
                  have g8 := g7.keep k8 (g7.ne_ s7 (by decide))
                  have s8 := s7.setCell 1 (.int .i64 fm)
                  simp only [List.set_cons_zero, List.set_cons_succ] at s8
                  have HY := Lib.hid (And.intro B8 (And.intro z8 (And.intro g8 s8)))
                  clear B7 z7 g7 s7 k8 B8 z8 g8 s8
                  go_wp2_with fail
                  obtain ⟨B8, z8, g8, s8⟩ := HY.out
                  generalize w7.setCell ⟨sv, 1, none⟩ (.int .i64 fm) = W8 at *
                  clear c71 f71 HY
                  refine (next_is B8.nx (by omega) 30 (by decide) (by decide)).mono ?_; rintro e w9 ⟨lo, rfl, lo0, lo1, N9, k9⟩
                  have B9 := B8.tick N9 k9
                  have z9 := z8.keep k9 (z8.ne_ B8.nx.a (by decide))
                  have s9 := s8.keep k9 (s8.ne_ B8.nx.a (by decide))
                  have g9 := g8.keep k9 HX.out.1
                  clear B8 z8 s8 g8 N9 k9
                  have c92 := s9.cell 2
                  have f92 := s9.frozen 2
                  simp only [List.getElem?_cons_zero, List.getElem?_cons_succ] at c92
                  have kA : Keep (fun x => x = sv) w9 (w9.setCell ⟨sv, 2, none⟩ (.int .i64 lo)) := (Keep.refl _ _).setCell _ _ (fun _ => rfl)
                  have BA := B9.farS s9 HX.out.2.2.2.1 hsw kA
                  have zA := z9.keep kA (z9.ne_ s9 (by decide))
                  have gA := g9.keep kA (g9.ne_ s9 (by decide))
                  have sA := s9.setCell 2 (.int .i64 lo)
                  simp only [List.set_cons_zero, List.set_cons_succ] at sA
                  have HY := Lib.hid (And.intro BA (And.intro zA (And.intro gA sA)))
                  clear B9 z9 g9 s9 kA BA zA gA sA
                  go_wp2_with fail
                  obtain ⟨BA, zA, gA, sA⟩ := HY.out
                  generalize w9.setCell ⟨sv, 2, none⟩ (.int .i64 lo) = WA at *
                  clear c92 f92 HY
                  have SS : ∀ W kk, Bs w W ab lb pb A n c xs kk b → ∀ x, Blk W sv 53 [.int .i64 j, .int .i64 fm, .int .i64 lo, .int .i64 x, .slice (some ⟨g, 0, none⟩) 2 2] → (W.cell? ⟨pb, 0, none⟩ = some (.slice (some ⟨gF, 0, none⟩) nn b.cf) ∧ W.cell? ⟨sv, 0, none⟩ = some (.int .i64 j) ∧ W.cell? ⟨gF, j, none⟩ = some (.int .i64 f) ∧ W.cell? ⟨sv, 1, none⟩ = some (.int .i64 fm) ∧ W.cell? ⟨sv, 2, none⟩ = some (.int .i64 lo)) := fun W kk h x hs =>
                    ⟨(PC.out _ _ h).1, hs.cell 0, (PC.out _ _ h).2, hs.cell 1, hs.cell 2⟩
                  have kd := Keep.nobdrew WA
                  have s0 := SS _ _ (BA.nob kd) _ (sA.nob kd)
                  obtain ⟨m, hm⟩ : ∃ m, 64 * (f - fm) - lo + 1 = m := ⟨_, rfl⟩
                  have hwr : IntKind.i64.wrap (IntKind.i64.wrap (IntKind.i64.wrap (64 * IntKind.i64.wrap (f - fm)) - lo) + 1) = m := by
                    have w1 : IntKind.i64.wrap (f - fm) = f - fm := by simp [IntKind.wrap, IntKind.bits, IntKind.signed]; omega
                    have w2 : IntKind.i64.wrap (64 * (f - fm)) = 64 * (f - fm) := by simp [IntKind.wrap, IntKind.bits, IntKind.signed]; omega
                    have w3 : IntKind.i64.wrap (64 * (f - fm) - lo) = 64 * (f - fm) - lo := by simp [IntKind.wrap, IntKind.bits, IntKind.signed]; omega
                    have w4 : IntKind.i64.wrap (64 * (f - fm) - lo + 1) = 64 * (f - fm) - lo + 1 := by simp [IntKind.wrap, IntKind.bits, IntKind.signed]; omega
                    rw [w1, w2, w3, w4, hm]
                  have HWR := Lib.hid hwr
                  have hnx := next_is (BA.nob kd).nx (by omega) m (by omega) (by omega)
                  have HM := Lib.hid hm
                  have HA := Lib.hid (And.intro BA (And.intro zA (And.intro gA sA)))
                  have HSS := Lib.hid SS
                  clear hwr hm BA zA gA sA SS
                  go_region_held3 (fun w' => w'.cell? ⟨pb, 0, none⟩ = some (.slice (some ⟨gF, 0, none⟩) nn b.cf) ∧ w'.cell? ⟨sv, 0, none⟩ = some (.int .i64 j) ∧ w'.cell? ⟨gF, j, none⟩ = some (.int .i64 f) ∧ w'.cell? ⟨sv, 1, none⟩ = some (.int .i64 fm) ∧ w'.cell? ⟨sv, 2, none⟩ = some (.int .i64 lo))
                    (first | exact s0 | exact HSS.out _ _ BB _ sB | exact HSS.out _ _ BC _ sC)
                    (first | (go_at_call 43; rw [HWR.out]; refine hnx.mono ?_; rintro e wB ⟨N, rfl, N0, N1, NB, kB⟩; have BB := (HA.out.1.nob kd).tick NB kB; have zB := (HA.out.2.1.nob kd).keep kB ((HA.out.2.1.nob kd).ne_ (HA.out.1.nob kd).nx.a (by decide)); have sB := (HA.out.2.2.2.nob kd).keep kB ((HA.out.2.2.2.nob kd).ne_ (HA.out.1.nob kd).nx.a (by decide)); have gB := (HA.out.2.2.1.nob kd).keep kB HX.out.1; have kC : Keep (fun x => x = sv) wB (wB.setCell ⟨sv, 3, none⟩ (.int .i64 N)) := (Keep.refl _ _).setCell _ _ (fun _ => rfl); have BC := BB.farS sB HX.out.2.2.2.1 hsw kC; have sC := sB.setCell 3 (.int .i64 N); have c3 := sB.cell 3; have f3 := sB.frozen 3; simp only [List.getElem?_cons_zero, List.getElem?_cons_succ] at c3; simp only [List.set_cons_zero, List.set_cons_succ] at sC))
                  have zC := zB.keep kC (zB.ne_ sB (by decide))
                  have gC := gB.keep kC (gB.ne_ sB (by decide))
                  clear hnx s0 BB zB sB gB kC NB kB c3 f3 kd HA HSS
                  generalize wB.setCell ⟨sv, 3, none⟩ (.int .i64 N) = WC at *
                  have e0 := sC.cell 0
                  have e1 := sC.cell 1
                  have e2 := sC.cell 2
                  have e3 := sC.cell 3
                  have e4 := sC.cell 4
                  have p4 := BC.o.cell 4
                  simp only [List.getElem?_cons_zero, List.getElem?_cons_succ] at e0 e1 e2 e3 e4 p4
                  rw [HF.out.1] at p4
                  have kx := (Keep.refl Nob WC).alloc (.cells #[.int .i64 j, .int .i64 fm, .int .i64 lo, .int .i64 N, .slice (some ⟨g, 0, none⟩) 2 2] 53)
                  have BD := BC.nob kx
                  have zD := zC.nob kx
                  have gD := gC.nob kx
                  have hv1 := BD.sh
                  rw [HF.out.1] at hv1
                  have hr1 := reads_all (n := 5) (Blk.new WC 53 [.int .i64 j, .int .i64 fm, .int .i64 lo, .int .i64 N, .slice (some ⟨g, 0, none⟩) 2 2]) rfl
                  have HV2 := Lib.hid (And.intro (And.intro fm0 fm1) (And.intro lo0 (And.intro N0 N1)))
                  clear fm0 fm1 lo0 lo1 N0 N1 BC zC gC sC
                  go_wp2_with (at_builtin; go_loud (refine wpList_ap rfl _ _ 29 rfl 53 5 56 (.agg #[.int .i64 0, .int .i64 0, .int .i64 0, .int .i64 0, .slice none 0 0]) Tryz.underlying29 infoshare_ rfl (by decide) b.Ah i b.ch (shares b.shared) rfl hv1 (some ⟨WC.heap.size, 0, none⟩) 1 1 [.int .i64 j, .int .i64 fm, .int .i64 lo, .int .i64 N, .slice (some ⟨g, 0, none⟩) 2 2] rfl 5 rfl hr1 (by simp [Value.oneCell']) (by unfold maxLen; omega) (by omega) ?_; intro A2 c2 wE hv2 hk2 ho2; have o2 := BD.o.keep hk2 (offB (fun x hx => BD.sh.blk hx) BD.o (by decide)); have z1 := o2.cell 4; have f1 := o2.frozen 4; simp only [List.getElem?_cons_zero, List.getElem?_cons_succ] at z1; rw [HF.out.1] at z1))
                  have F := BD.share (s := ⟨j, fm, lo, N, some ⟨g, 0, none⟩, 2, [v2, v3]⟩) (g := g) rfl gD HX.out.1 HX.out.2.1 HX.out.2.2.1 (A2 := A2) (c2 := c2) (W2 := wE) (by rw [HF.out.1]; exact hv2) hk2 (fun x hx => (ho2 x hx).imp id (fun e => by omega))
                  rw [HF.out.1] at F
                  have zE : Blk (wE.setCell ⟨pb, 4, none⟩ (.slice A2 (i + 1) c2)) rb 31 [.slice none 0 0, .slice none 0 0, .slice none 0 0, .int .i64 0, .slice none 0 0] := (zD.keep hk2 (offB (fun x hx => BD.sh.blk hx) zD (by decide))).far hrp _
                  have FI := Lib.hid (And.intro F zE)
                  clear F zE BD zD gD hv1 hr1 hv2 hk2 ho2 o2 kx e0 e1 e2 e3 e4 p4
                  go_wp2_with fail
                  go_roundw
                  case rel => exact ⟨i + 1, k + 1 + 1 + 1 + 1 + 1 + 1, _, by omega, by omega, by go_num, FI.out.1, FI.out.2, (by rw [List.length_append, HF.out.1]; rfl), HF.out.2.1, HF.out.2.2.1, HF.out.2.2.2.1, HF.out.2.2.2.2.1, HF.out.2.2.2.2.2.1, HF.out.2.2.2.2.2.2.1, HF.out.2.2.2.2.2.2.2.1, fun s hs => (List.mem_append.1 hs).elim (HF.out.2.2.2.2.2.2.2.2 s) (fun h => by
                    obtain rfl := List.mem_singleton.1 h
                    have h1 := HV.out
                    have h2 := HV2.out
                    have h3 := HM.out
                    refine ⟨by dsimp only; omega, by dsimp only; omega, rfl, fun y hy => ?_, h2.1.1, ?_, h2.2.1, h2.2.2.1, ?_⟩
                    · rcases List.mem_cons.1 hy with rfl | hy
                      · exact h1.1.2
                      · obtain rfl := List.mem_singleton.1 hy
                        exact h1.2
                    · dsimp only
                      rw [Int.toNat_natCast, HFJ.out.1]
                      exact h2.1.2
                    · dsimp only
                      rw [Int.toNat_natCast, HFJ.out.1]
                      omega)⟩
                  case measure => simp [intOf]; omega
                · have hi3 := Lib.hid (show i = 3 by omega)
                  have c0 := hB.o.cell 0
                  have c1 := hB.o.cell 1
                  have c2 := hB.o.cell 2
                  have c3 := hB.o.cell 3
                  have c4 := hB.o.cell 4
                  have r0 := hz.cell 0
                  have r1 := hz.cell 1
                  have r2 := hz.cell 2
                  have r3 := hz.cell 3
                  have r4 := hz.cell 4
                  have f0 := hz.frozen 0
                  have f1 := hz.frozen 1
                  have f2 := hz.frozen 2
                  have f3 := hz.frozen 3
                  have f4 := hz.frozen 4
                  simp only [List.getElem?_cons_zero, List.getElem?_cons_succ] at c0 c1 c2 c3 c4 r0 r1 r2 r3 r4
                  have hb2 := boot_blk hz (.slice b.Af b.frames.length b.cf) (.slice b.Ae b.envs.length b.ce) (.slice b.As b.sects.length b.cs) (.int .i64 b.lease) (.slice b.Ah b.shared.length b.ch)
                  have kk := boot_keep wr rb (.slice b.Af b.frames.length b.cf) (.slice b.Ae b.envs.length b.ce) (.slice b.As b.sects.length b.cs) (.int .i64 b.lease) (.slice b.Ah b.shared.length b.ch)
                  have hlo : w.heap.size ≤ rb := by have := HL.out.2.1; omega
                  have hB2 := hB.farB hz hrp hlo kk
                  obtain ⟨g1, g2, g3, g4, g5, g6, g7, g8⟩ := hfacts
                  have hok := bs_ok hnn1 (by rw [g1]; exact HLE.out) g2 g3 g4 g5 g6 g7 (hlen.trans hi3.out) g8
                  have FI := Lib.hid (And.intro hB2 (And.intro hok (And.intro g4 (And.intro (hlen.trans hi3.out) (And.intro (fun s hs => (g8 s hs).2.2.1) (And.intro g2 hb2))))))
                  clear hB hz hB2 hok hb2 kk g1 g2 g3 g4 g5 g6 g7 g8 hlen
                  go_wp2
                  (try simp only [Exit.inBlock, Exit.then])
                  refine bodyPost_ret (v := b.val) (results_cell_row rfl _ _ rb 31 #[.slice b.Af b.frames.length b.cf, .slice b.Ae b.envs.length b.ce, .slice b.As b.sects.length b.cs, .int .i64 b.lease, .slice b.Ah b.shared.length b.ch] (0, 0) _ rfl FI.out.2.2.2.2.2.2 Tryz.underlying31 rfl infoBoot) rfl ?_
                  exact ⟨b, _, rfl, FI.out.1.isBt (by have := FI.out.2.2.2.2.2.1; omega), FI.out.2.1, FI.out.2.2.1, FI.out.2.2.2.1, FI.out.2.2.2.2.1, FI.out.1.nx.keep⟩
end Go.Proofs.YtompckcnpidbdaaGreat
