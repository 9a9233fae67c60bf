/- The walk of FileOne. -/
import Derived.Test.YtdlenjooidnofaaFilM
namespace Go.Proofs.Ytdlenjooidnofaa
open Go.RowKit Fi
set_option linter.unusedVariables false
set_option linter.unusedSimpArgs false
theorem told_out {w0 w : World} {P : List Int} {x : Value} (h : Fi.Told w0 w P true x) : ∃ g m, x = .slice (some ⟨g, 0, none⟩) 8 m ∧ Vec w 5 1 (some ⟨g, 0, none⟩) 8 m (bytes (enc P)) ∧ w0.heap.size ≤ g := by
  obtain ⟨A, m, rfl, v, o⟩ := h
  obtain ⟨g, cur, rfl, _, _, _, _⟩ := v.at_ (by decide)
  exact ⟨g, m, rfl, v, o g ⟨_, rfl, rfl⟩⟩
theorem conv_of (W : World) (A : Option Addr) (n : Nat) (l : List UInt8) (hr : Reads W A n (bytes l)) (c : Nat) : (convert 24 9 (.slice A n c)).run Try.prog W = .ok (.string (str l)) W :=
  run_str (P := Try.prog) W 24 9 5 A n c l Try.underlying24 Try.underlying5 Try.underlying9 hr
theorem byte_turns (x : UInt8) (b : Int) (h0 : 0 < b) (h1 : b ≤ 255) : x ≠ x + UInt8.ofNat b.toNat := by
  intro e
  have := congrArg UInt8.toNat e
  rw [UInt8.toNat_add, UInt8.toNat_ofNat'] at this
  have hx := x.toNat_lt
  omega
theorem byte_sum (x : UInt8) (b : Int) (h0 : 0 ≤ b) (h1 : b ≤ 255) : (((x + UInt8.ofNat b.toNat).toNat : Nat) : Int) = ((x.toNat : Int) + b) % 256 := by
  rw [UInt8.toNat_add, UInt8.toNat_ofNat']
  omega
set_option maxHeartbeats 4000000 in
set_option maxRecDepth 100000 in
theorem FileOne_in (w : World) (n1 n2 a b y : Int) (hb0 : 0 ≤ b) (hb1 : b ≤ 255) (hy : (if b = 0 then 1 else b) = y) :
    Calls Try.prog 5 #[.int .i64 n1, .int .i64 n2, .int .i64 a, .int .u8 b] w fun e w' => e = .returned (.bool true) ∧ Below w.heap.size w w' := by
  have H1 := Lib.hid (fun w => made_is n1 w (made n1) rfl)
  have H2 := Lib.hid (fun w => made_is n2 w (made n2) rfl)
  have hl1 := made_len n1
  have ho1 := made_ok n1
  have hl2 := made_len n2
  have ho2 := made_ok n2
  generalize made n1 = P at *
  generalize made n2 = Q at *
  have hE1 := fun w => encode_is P hl1 w true ho1
  have hE2 := fun w => encode_is Q hl2 w true ho2
  simp only [pv] at hE1 hE2
  have E1 := Lib.hid hE1
  have E2 := Lib.hid hE2
  clear hE1 hE2
  obtain ⟨d, hd⟩ : ∃ d, decide (P = Q) = d := ⟨_, rfl⟩
  have heq := fun W => eq_pv P Q hl1 hl2 W
  rw [hd] at heq
  simp only [pv] at heq
  have hs : ((str (enc P)).toList == (str (enc Q)).toList) = d := by rw [str_tl, str_tl, enc_inj hl1 hl2 ho1 ho2, hd]
  have HL1 := Lib.hid hl1
  have HL2 := Lib.hid hl2
  have HS := Lib.hid hs
  have HEQ := Lib.hid heq
  obtain ⟨i, hi, hi2⟩ : ∃ i : Nat, i < 8 ∧ a % 8 = (i : Int) := ⟨(a % 8).toNat, by omega, by omega⟩
  have y0 : 0 < y := by rw [← hy]; split <;> omega
  have y1 : y ≤ 255 := by rw [← hy]; split <;> omega
  have hT := turned ho1 hi (byte_turns ((enc P).getD i 0) y y0 y1)
  have hS := byte_sum ((enc P).getD i 0) y (by omega) y1
  have HT := Lib.hid hT
  have tail : ∀ (w2 : World), Keep Nob w w2 → ∀ (g m : Nat), Vec w2 5 1 (some ⟨g, 0, none⟩) 8 m (bytes (enc P)) → w.heap.size ≤ g → ∃ xx : Int, w2.cell? ⟨g, i, none⟩ = some (.int .u8 xx) ∧ xx = (((enc P).getD i 0).toNat : Int) ∧ w2.frozen? ⟨g, i, none⟩ = false ∧
      (Reads (w2.setCell ⟨g, i, none⟩ (.int .u8 (((((enc P).getD i 0).toNat : Int) + y) % 256))) (some ⟨g, 0, none⟩) 8 (bytes ((enc P).set i ((enc P).getD i 0 + UInt8.ofNat y.toNat)))) ∧ Keep Nob w (w2.setCell ⟨g, i, none⟩ (.int .u8 (((((enc P).getD i 0).toNat : Int) + y) % 256))) := by
    intro w2 k2 g m v2 hg
    have hv := v2.setCell i (.int .u8 (((((enc P).getD i 0).toNat : Int) + y) % 256))
    rw [bytes_set (enc P) i _ _ hS] at hv
    obtain ⟨g', cur, h1, h2, _, _, _⟩ := v2.at_ (by decide)
    cases h1
    exact ⟨_, reads_at (show Reads w2 (some ⟨g, 0, none⟩) 8 (bytes (enc P)) from v2.reads) hi, rfl, h2.frozen i, hv.reads, k2.setCell ⟨g, i, none⟩ _ (fun h => absurd h (by show ¬ g < _; omega))⟩
  have HTL := Lib.hid tail
  have hu := u8_lt ((enc P).getD i 0)
  have HY := Lib.hid hy
  have HI2 := Lib.hid hi2
  clear hl1 hl2 ho1 ho2 hd hs heq hT hS tail hy y0 y1 hi2
  go_enter Try.func5, Try.ntmps5
  go_wp2_with fail
  refine (H1.out _).mono ?_; rintro e w1 ⟨rfl, k1⟩
  go_wp2_with fail
  refine (H2.out _).mono ?_; rintro e w2 ⟨rfl, k2⟩
  have K2 := k1.nobt k2
  clear k1 k2 H1 H2
  unfold pv
  have hb1 : Blk ((w2.alloc (.cells #[.int .i64 0, .int .i64 0, .int .i64 0, .int .i64 0] 23)).alloc (.cells #[.int .i64 0, .int .i64 0, .int .i64 0, .int .i64 0] 23)) w2.heap.size 23 (ints noP) := (Blk.new w2 23 (ints noP)).alloc _
  have hb2 : Blk ((w2.alloc (.cells #[.int .i64 0, .int .i64 0, .int .i64 0, .int .i64 0] 23)).alloc (.cells #[.int .i64 0, .int .i64 0, .int .i64 0, .int .i64 0] 23)) (w2.heap.size + 1) 23 (ints noP) := by
    have := Blk.new (w2.alloc (.cells #[.int .i64 0, .int .i64 0, .int .i64 0, .int .i64 0] 23)) 23 (ints noP)
    rw [show (w2.alloc (.cells #[.int .i64 0, .int .i64 0, .int .i64 0, .int .i64 0] 23)).heap.size = w2.heap.size + 1 from by simp] at this
    exact this
  have K3 := (K2.alloc (.cells #[.int .i64 0, .int .i64 0, .int .i64 0, .int .i64 0] 23)).alloc (.cells #[.int .i64 0, .int .i64 0, .int .i64 0, .int .i64 0] 23)
  have hge : w.heap.size ≤ w2.heap.size := K2.size
  have hne : w2.heap.size ≠ w2.heap.size + 1 := by omega
  have hge2 : w.heap.size ≤ w2.heap.size + 1 := by omega
  go_wp2_with (first | (refine wpList_st rfl (.tmp 9) _ rfl w2.heap.size P noP rfl rfl HL1.out rfl hb1 ?_; intro w3 hp3 hk3 hs3; clear hs3; have hb3 := hb2.keep hk3 (Ne.symm hne)) | (refine wpList_st rfl (.tmp 10) _ rfl (w2.heap.size + 1) Q noP rfl rfl HL2.out rfl hb3 ?_; intro w4 hq4 hk4 hs4; clear hs4; have hp4 := hp3.keep hk4 hne) | (refine wpList_ld rfl (.tmp 9) rfl w2.heap.size P rfl HL1.out hp4 ?_))
  have K4 : Keep Nob w w4 := (K3.trans hk3 (fun b hb e => by have h3 : b = w2.heap.size := e; omega)).trans hk4 (fun b hb e => by have h3 : b = w2.heap.size + 1 := e; omega)
  clear hb1 hb2 hb3 hp3 hk3 hk4 K3 K2
  generalize w2.heap.size + 1 = gq at *
  generalize w2.heap.size = gp at *
  refine (E1.out _).mono ?_; rintro e w5 ⟨x1, rfl, t1, k5⟩
  obtain ⟨g1, m1, rfl, v1, o1⟩ := told_out t1
  have o1' : w.heap.size ≤ g1 := Nat.le_trans K4.size o1
  have hp5 := hp4.nob k5
  have hq5 := hq4.nob k5
  have K5 := K4.nobt k5
  clear hp4 hq4 k5 t1 o1 E1
  go_wp2_with (refine wpList_ld rfl (.tmp 10) rfl gq Q rfl HL2.out hq5 ?_)
  refine (E2.out _).mono ?_; rintro e w6 ⟨x2, rfl, t2, k6⟩
  obtain ⟨g2, m2, rfl, v2, o2⟩ := told_out t2
  have hp6 := (hp5.nob k6).drew
  have hq6 := (hq5.nob k6).drew
  have K6 := (K5.nobt k6).drew
  have hv1 := (v1.nob k6).nob (Keep.nobdrew w6)
  have hv2 := v2.nob (Keep.nobdrew w6)
  have s1 := conv_of w6.drew _ 8 _ (show Reads _ _ 8 _ from hv1.reads) m1
  have s2 := conv_of w6.drew _ 8 _ (show Reads _ _ 8 _ from hv2.reads) m2
  clear hp5 hq5 k6 t2 o2 E2 v1 v2 hv2 K5
  obtain ⟨X, hX⟩ : ∃ X, str (enc P) = X := ⟨_, rfl⟩
  obtain ⟨Y, hY⟩ : ∃ Y, str (enc Q) = Y := ⟨_, rfl⟩
  have hs := HS.out
  have heq := HEQ.out
  rw [hX] at s1 hs
  rw [hY] at s2 hs
  clear hX hY HS HEQ
  have HV1 := Lib.hid hv1
  have HU := Lib.hid hu
  clear hv1 hu
  go_wp2_with fail
  refine wp_region_held_drew (S := (fun w' => Blk w' gp 23 (ints P) ∧ Blk w' gq 23 (ints Q) ∧ (convert 24 9 (.slice (some ⟨g1, 0, none⟩) 8 m1)).run Try.prog w' = .ok (.string X) w' ∧ (convert 24 9 (.slice (some ⟨g2, 0, none⟩) 8 m2)).run Try.prog w' = .ok (.string Y) w')) (by kernel_rfl) ⟨hp6, hq6, s1, s2⟩ (fun hHeld => ?_)
  generalize w6.drew = wd at *
  refine wpAnyH_take (i := 0) (v := ?_) rfl (by kernel_rfl) (by kernel_rfl) (by kernel_rfl) (fun _ _ _ h => h) (Or.inl ⟨by rfl, ?_⟩) (by assumption) ?_
  rotate_left
  · (intro w hSw; (try dsimp only at hSw); obtain ⟨sa, sb, sc, sd⟩ := hSw; go_simp; try with_reducible rfl)
  try simp only [Act.put, List.getElem_toArray, List.getElem_cons_zero, List.getElem_cons_succ, List.setIfInBounds_toArray, List.set_cons_zero, List.set_cons_succ]
  refine wpAnyH_take (i := 1) (v := ?_) rfl (by kernel_rfl) (by kernel_rfl) (by kernel_rfl) (fun _ _ _ h => h) (Or.inl ⟨by rfl, ?_⟩) (by assumption) ?_
  rotate_left
  · (intro w hSw; (try dsimp only at hSw); obtain ⟨sa, sb, sc, sd⟩ := hSw; go_simp; try with_reducible rfl)
  try simp only [Act.put, List.getElem_toArray, List.getElem_cons_zero, List.getElem_cons_succ, List.setIfInBounds_toArray, List.set_cons_zero, List.set_cons_succ]
  refine wpAnyH_take (i := 2) (v := ?_) rfl (by kernel_rfl) (by kernel_rfl) (by kernel_rfl) (fun _ _ _ h => h) (Or.inl ⟨by rfl, ?_⟩) (by assumption) ?_
  rotate_left
  · (intro w hSw; (try dsimp only at hSw); obtain ⟨sa, sb, sc, sd⟩ := hSw; go_simp; try with_reducible rfl)
  try simp only [Act.put, List.getElem_toArray, List.getElem_cons_zero, List.getElem_cons_succ, List.setIfInBounds_toArray, List.set_cons_zero, List.set_cons_succ]
  refine wpAnyH_take (i := 3) (v := ?_) rfl (by kernel_rfl) (by kernel_rfl) (by kernel_rfl) (fun _ _ _ h => h) (Or.inl ⟨by rfl, ?_⟩) (by assumption) ?_
  rotate_left
  · (intro w hSw; (try dsimp only at hSw); obtain ⟨sa, sb, sc, sd⟩ := hSw; go_simp; try with_reducible rfl)
  try simp only [Act.put, List.getElem_toArray, List.getElem_cons_zero, List.getElem_cons_succ, List.setIfInBounds_toArray, List.set_cons_zero, List.set_cons_succ]
  refine wpAnyH_take (i := 4) (v := ?_) rfl (by kernel_rfl) (by kernel_rfl) (by kernel_rfl) (fun _ _ _ h => h) (Or.inl ⟨by rfl, ?_⟩) (by assumption) ?_
  rotate_left
  · (intro w hSw; (try dsimp only at hSw); obtain ⟨sa, sb, sc, sd⟩ := hSw; go_simp; try with_reducible rfl)
  try simp only [Act.put, List.getElem_toArray, List.getElem_cons_zero, List.getElem_cons_succ, List.setIfInBounds_toArray, List.set_cons_zero, List.set_cons_succ]
  refine wpAnyH_take (i := 5) (v := ?_) rfl (by kernel_rfl) (by kernel_rfl) (by kernel_rfl) (fun _ _ _ h => h) (Or.inl ⟨by rfl, ?_⟩) (by assumption) ?_
  rotate_left
  · (intro w hSw; (try dsimp only at hSw); obtain ⟨sa, sb, sc, sd⟩ := hSw; go_simp; try with_reducible rfl)
  try simp only [Act.put, List.getElem_toArray, List.getElem_cons_zero, List.getElem_cons_succ, List.setIfInBounds_toArray, List.set_cons_zero, List.set_cons_succ]
  refine wpAnyH_take (i := 6) (v := ?_) rfl (by kernel_rfl) (by kernel_rfl) (by kernel_rfl) (fun _ _ _ h => h) (Or.inl ⟨by rfl, ?_⟩) (by assumption) ?_
  rotate_left
  · (intro w hSw; (try dsimp only at hSw); obtain ⟨sa, sb, sc, sd⟩ := hSw; go_simp; try with_reducible rfl)
  try simp only [Act.put, List.getElem_toArray, List.getElem_cons_zero, List.getElem_cons_succ, List.setIfInBounds_toArray, List.set_cons_zero, List.set_cons_succ]
  refine wpAnyH_take (i := 7) (v := ?_) rfl (by kernel_rfl) (by kernel_rfl) (by kernel_rfl) (fun _ _ _ h => h) (Or.inl ⟨by rfl, ?_⟩) (by assumption) ?_
  rotate_left
  · (intro w hSw; (try dsimp only at hSw); obtain ⟨sa, sb, sc, sd⟩ := hSw; go_simp; try with_reducible rfl)
  try simp only [Act.put, List.getElem_toArray, List.getElem_cons_zero, List.getElem_cons_succ, List.setIfInBounds_toArray, List.set_cons_zero, List.set_cons_succ]
  refine wpAnyH_take (i := 8) (v := ?_) rfl (by kernel_rfl) (by kernel_rfl) (by kernel_rfl) (fun _ _ _ h => h) (Or.inl ⟨by rfl, ?_⟩) (by assumption) ?_
  rotate_left
  · (intro w hSw; (try dsimp only at hSw); obtain ⟨sa, sb, sc, sd⟩ := hSw; go_simp; try with_reducible rfl)
  try simp only [Act.put, List.getElem_toArray, List.getElem_cons_zero, List.getElem_cons_succ, List.setIfInBounds_toArray, List.set_cons_zero, List.set_cons_succ]
  refine wpAnyH_take (i := 9) (v := ?_) rfl (by kernel_rfl) (by kernel_rfl) (by kernel_rfl) (fun _ _ _ h => h) (Or.inl ⟨by rfl, ?_⟩) (by assumption) ?_
  rotate_left
  · (intro w hSw; (try dsimp only at hSw); obtain ⟨sa, sb, sc, sd⟩ := hSw; go_simp; try with_reducible rfl)
  try simp only [Act.put, List.getElem_toArray, List.getElem_cons_zero, List.getElem_cons_succ, List.setIfInBounds_toArray, List.set_cons_zero, List.set_cons_succ]
  refine wpAnyH_take (i := 10) (v := ?_) rfl (by kernel_rfl) (by kernel_rfl) (by kernel_rfl) (fun _ _ _ h => h) (Or.inl ⟨by rfl, ?_⟩) (by assumption) ?_
  rotate_left
  · (intro w hSw; (try dsimp only at hSw); obtain ⟨sa, sb, sc, sd⟩ := hSw; go_simp; try with_reducible rfl)
  try simp only [Act.put, List.getElem_toArray, List.getElem_cons_zero, List.getElem_cons_succ, List.setIfInBounds_toArray, List.set_cons_zero, List.set_cons_succ]
  refine wpAnyH_take (i := 11) (v := ?_) rfl (by kernel_rfl) (by kernel_rfl) (by kernel_rfl) (fun _ _ _ h => h) (Or.inl ⟨by rfl, ?_⟩) (by assumption) ?_
  rotate_left
  · (intro w hSw; (try dsimp only at hSw); obtain ⟨sa, sb, sc, sd⟩ := hSw; go_simp; try with_reducible rfl)
  try simp only [Act.put, List.getElem_toArray, List.getElem_cons_zero, List.getElem_cons_succ, List.setIfInBounds_toArray, List.set_cons_zero, List.set_cons_succ]
  refine wpAnyH_take (i := 12) (v := ?_) rfl (by kernel_rfl) (by kernel_rfl) (by kernel_rfl) (fun _ _ _ h => h) (Or.inl ⟨by rfl, ?_⟩) (by assumption) ?_
  rotate_left
  · (intro w hSw; (try dsimp only at hSw); obtain ⟨sa, sb, sc, sd⟩ := hSw; go_simp; try with_reducible rfl)
  try simp only [Act.put, List.getElem_toArray, List.getElem_cons_zero, List.getElem_cons_succ, List.setIfInBounds_toArray, List.set_cons_zero, List.set_cons_succ]
  refine wpAnyH_take (i := 13) (v := ?_) rfl (by kernel_rfl) (by kernel_rfl) (by kernel_rfl) (fun _ _ _ h => h) (Or.inl ⟨by rfl, ?_⟩) (by assumption) ?_
  rotate_left
  · (intro w hSw; (try dsimp only at hSw); obtain ⟨sa, sb, sc, sd⟩ := hSw; go_simp; try with_reducible rfl)
  try simp only [Act.put, List.getElem_toArray, List.getElem_cons_zero, List.getElem_cons_succ, List.setIfInBounds_toArray, List.set_cons_zero, List.set_cons_succ]
  refine wpAnyH_take (i := 14) (v := ?_) rfl (by kernel_rfl) (by kernel_rfl) (by kernel_rfl) (fun _ _ _ h => h) (Or.inl ⟨by rfl, ?_⟩) (by assumption) ?_
  rotate_left
  · (intro w hSw; (try dsimp only at hSw); obtain ⟨sa, sb, sc, sd⟩ := hSw; go_simp; try with_reducible rfl)
  try simp only [Act.put, List.getElem_toArray, List.getElem_cons_zero, List.getElem_cons_succ, List.setIfInBounds_toArray, List.set_cons_zero, List.set_cons_succ]
  refine wpAnyH_take (i := 15) (v := ?_) rfl (by kernel_rfl) (by kernel_rfl) (by kernel_rfl) (fun _ _ _ h => h) (Or.inl ⟨by rfl, ?_⟩) (by assumption) ?_
  rotate_left
  · (intro w hSw; (try dsimp only at hSw); obtain ⟨sa, sb, sc, sd⟩ := hSw; go_simp; try with_reducible rfl)
  try simp only [Act.put, List.getElem_toArray, List.getElem_cons_zero, List.getElem_cons_succ, List.setIfInBounds_toArray, List.set_cons_zero, List.set_cons_succ]
  refine wpAnyH_take (i := 16) (v := ?_) rfl (by kernel_rfl) (by kernel_rfl) (by kernel_rfl) (fun _ _ _ h => h) (Or.inl ⟨by rfl, ?_⟩) (by assumption) ?_
  rotate_left
  · (intro w hSw; (try dsimp only at hSw); obtain ⟨sa, sb, sc, sd⟩ := hSw; go_simp; try with_reducible rfl)
  try simp only [Act.put, List.getElem_toArray, List.getElem_cons_zero, List.getElem_cons_succ, List.setIfInBounds_toArray, List.set_cons_zero, List.set_cons_succ]
  refine wpAnyH_take (i := 17) (v := ?_) rfl (by kernel_rfl) (by kernel_rfl) (by kernel_rfl) (fun _ _ _ h => h) (Or.inl ⟨by rfl, ?_⟩) (by assumption) ?_
  rotate_left
  · (intro w hSw; (try dsimp only at hSw); obtain ⟨sa, sb, sc, sd⟩ := hSw; refine exec_load (x := .tmp 9) ?_ ?_ HL1.out sa <;> rfl)
  try simp only [Act.put, List.getElem_toArray, List.getElem_cons_zero, List.getElem_cons_succ, List.setIfInBounds_toArray, List.set_cons_zero, List.set_cons_succ]
  refine wpAnyH_take (i := 18) (v := ?_) rfl (by kernel_rfl) (by kernel_rfl) (by kernel_rfl) (fun _ _ _ h => h) (Or.inl ⟨by rfl, ?_⟩) (by assumption) ?_
  rotate_left
  · (intro w hSw; (try dsimp only at hSw); obtain ⟨sa, sb, sc, sd⟩ := hSw; refine exec_load (x := .tmp 10) ?_ ?_ HL2.out sb <;> rfl)
  try simp only [Act.put, List.getElem_toArray, List.getElem_cons_zero, List.getElem_cons_succ, List.setIfInBounds_toArray, List.set_cons_zero, List.set_cons_succ]
  refine wpAnyH_take (i := 19) (v := ?_) rfl (by kernel_rfl) (by kernel_rfl) (by kernel_rfl) (fun _ _ _ h => h) (Or.inl ⟨by rfl, ?_⟩) (by assumption) ?_
  rotate_left
  · (intro w hSw; (try dsimp only at hSw); obtain ⟨sa, sb, sc, sd⟩ := hSw; go_simp; try with_reducible rfl)
  try simp only [Act.put, List.getElem_toArray, List.getElem_cons_zero, List.getElem_cons_succ, List.setIfInBounds_toArray, List.set_cons_zero, List.set_cons_succ]
  refine wpAnyH_take (i := 20) (v := ?_) rfl (by kernel_rfl) (by kernel_rfl) (by kernel_rfl) (fun _ _ _ h => h) (Or.inl ⟨by rfl, ?_⟩) (by assumption) ?_
  rotate_left
  · (intro w hSw; (try dsimp only at hSw); obtain ⟨sa, sb, sc, sd⟩ := hSw; go_simp; try with_reducible rfl)
  try simp only [Act.put, List.getElem_toArray, List.getElem_cons_zero, List.getElem_cons_succ, List.setIfInBounds_toArray, List.set_cons_zero, List.set_cons_succ]
  refine wpAnyH_take (i := 21) (v := ?_) rfl (by kernel_rfl) (by kernel_rfl) (by kernel_rfl) (fun _ _ _ h => h) (Or.inl ⟨by rfl, ?_⟩) (by assumption) ?_
  rotate_left
  · (intro w hSw; (try dsimp only at hSw); obtain ⟨sa, sb, sc, sd⟩ := hSw; go_simp; try with_reducible rfl)
  try simp only [Act.put, List.getElem_toArray, List.getElem_cons_zero, List.getElem_cons_succ, List.setIfInBounds_toArray, List.set_cons_zero, List.set_cons_succ]
  refine wpAnyH_done (by kernel_rfl) ?_ _
  clear hs heq s1 s2 hp6 hq6
  obtain ⟨xx, cc, hxx, fr, r3, K3⟩ := HTL.out wd K6 g1 m1 HV1.out o1'
  have hu := HU.out
  have hi2 := HI2.out
  rw [← hxx] at r3 K3 hu
  clear hxx HV1 HTL HU HI2
  have hy := HY.out
  clear HY
  by_cases hz : b = 0
  · subst hz
    rw [if_pos rfl] at hy
    subst hy
    go_wp2_with fail
    refine (decode_is _ 8 m1 _ _ r3 (by decide) noP 2 HT.out).mono ?_; rintro e w4 ⟨rfl, k4⟩
    have K4 := K3.nobt k4
    unfold pv
    have ka := (Keep.refl Nob w4).alloc (.cells #[.int .i64 0, .int .i64 0, .int .i64 0, .int .i64 0] 23)
    go_wp2_with (refine wpList_st rfl _ _ rfl _ noP noP rfl rfl rfl rfl (Blk.new w4 23 (ints noP)) ?_; intro w5 hb5 hk5 hs5; clear hs5)
    refine (awake_is _).mono ?_; rintro e w6 ⟨rfl, k6⟩
    have K6 := ((K4.nobt ka).trans hk5 (fun b hb e => by have h3 : b = w4.heap.size := e; have := K4.size; omega)).nobt k6
    go_wp2
    go_ret
    exact ⟨rfl, K6.below (Nat.le_refl _) (fun _ _ f => f)⟩
  · rw [if_neg hz] at hy
    subst hy
    have hz2 : (b == 0) = false := by simpa using hz
    go_wp2_with fail
    refine (decode_is _ 8 m1 _ _ r3 (by decide) noP 2 HT.out).mono ?_; rintro e w4 ⟨rfl, k4⟩
    have K4 := K3.nobt k4
    unfold pv
    have ka := (Keep.refl Nob w4).alloc (.cells #[.int .i64 0, .int .i64 0, .int .i64 0, .int .i64 0] 23)
    go_wp2_with (refine wpList_st rfl _ _ rfl _ noP noP rfl rfl rfl rfl (Blk.new w4 23 (ints noP)) ?_; intro w5 hb5 hk5 hs5; clear hs5)
    refine (awake_is _).mono ?_; rintro e w6 ⟨rfl, k6⟩
    have K6 := ((K4.nobt ka).trans hk5 (fun b hb e => by have h3 : b = w4.heap.size := e; have := K4.size; omega)).nobt k6
    go_wp2
    go_ret
    exact ⟨rfl, K6.below (Nat.le_refl _) (fun _ _ f => f)⟩
theorem FileOne_walk (w : World) (a0 : Int) (w0 : (Lit.int .i64 a0).wf = true) (a1 : Int) (w1 : (Lit.int .i64 a1).wf = true) (a2 : Int) (w2 : (Lit.int .i64 a2).wf = true) (a3 : Int) (w3 : (Lit.int .u8 a3).wf = true) :
    Calls Try.prog 5 #[.int .i64 a0, .int .i64 a1, .int .i64 a2, .int .u8 a3] w fun e w' => e = .returned (.bool true) ∧ Below w.heap.size w w' := by
  have hb := u8_of_wf w3
  have hu := (UInt8.ofNat a3.toNat).toNat_lt
  exact FileOne_in w a0 a1 a2 a3 _ (by omega) (by omega) rfl
end Go.Proofs.Ytdlenjooidnofaa
