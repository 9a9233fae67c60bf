/- Package pred (layer 7): the statements' Tame, and the document's SameIns. -/
import Derived.Test.YtlkknmbdikoldaaPrd2
namespace Go.Proofs.Ytlkknmbdikoldaa
open Go.RowKit
set_option linter.unusedVariables false
set_option linter.unusedSimpArgs false
theorem infoIns : (Try.prog.info? 25).map (fun i => (i.zero, i.size, i.bytes)) = some (some (.agg #[.int .i64 0, .int .i64 0, .int .i64 0]), 3, 24) := by kernel_rfl
theorem and24 (n : Int) : bits .and .i64 n 16777215 = n % 16777216 := i64_mask n 24 (by decide)
/-- What Tame has made so far: i programs' instructions, each of which may stand where it does if n are made in all. -/
def Some (n : Nat) (l : List Prim) : Prop := ∀ (i : Nat) (x : Prim), l[i]? = some x → x.sound ((n : Int) - i - 1) = true
theorem Some.nil (n : Nat) : Some n [] := fun i x h => by simp at h
theorem Some.add {n : Nat} {l : List Prim} (h : Some n l) (x : Prim) (hx : x.sound ((n : Int) - l.length - 1) = true) : Some n (l ++ [x]) := by
  intro i y hy
  rcases Nat.lt_or_ge i l.length with h1 | h1
  · rw [List.getElem?_append_left h1] at hy; exact h i y hy
  · rw [List.getElem?_append_right h1] at hy
    obtain rfl : i = l.length := by
      have := get_lt hy
      simp at this
      omega
    simp at hy
    subst hy
    exact hx
theorem Some.all {n : Nat} : ∀ {l : List Prim} {k : Nat}, (∀ (i : Nat) (x : Prim), l[i]? = some x → x.sound ((n : Int) - (k + i : Nat) - 1) = true) → k + l.length = n → sounds l = true
  | [], _, _, _ => rfl
  | x :: l, k, h, hl => by
    rw [sounds, Bool.and_eq_true]
    rw [List.length_cons] at hl
    refine ⟨?_, Some.all (n := n) (k := k + 1) (fun i y hy => ?_) (by omega)⟩
    · have := h 0 x rfl
      rwa [show (n : Int) - (k + 0 : Nat) - 1 = (l.length : Int) from by omega] at this
    · have := h (i + 1) y (by simpa using hy)
      rwa [show (n : Int) - (k + (i + 1) : Nat) - 1 = (n : Int) - (k + 1 + i : Nat) - 1 from by omega] at this
theorem Some.check {n : Nat} {l : List Prim} (h : Some n l) (hl : l.length = n) (hn : n ≤ 32) : check l = 0 :=
  check_yes (by omega) (Some.all (k := 0) (fun i x hx => by rw [Nat.zero_add]; exact h i x hx) (by omega))
theorem holds_int_at {w : World} {wd : Nat} {A : Option Addr} {n c : Nat} {xs : List Int} (h : Holds w (.sl wd (.int .i64)) xs [.slice A n c]) {k : Nat} (hk : k < n) :
    ∃ b off, A = some ⟨b, off, none⟩ ∧ ∃ x : Int, w.cell? ⟨b, off + k, none⟩ = some (.int .i64 x) := by
  obtain ⟨bb, off, cs', hA0, hcl, hcc, hk', hh⟩ := holds_at h (by decide) hk
  obtain ⟨rfl, _⟩ := hh
  have := hcc 0 _ rfl
  simp only [show (Ty.int IntKind.i64).size = 1 from rfl, Nat.mul_one, Nat.add_zero] at this
  exact ⟨bb, off, hA0, _, this⟩
/-- One instruction in a block of its own. -/
theorem reads_prim (w : World) (x : Prim) (o : Obj) : Reads ((w.alloc o).alloc (.cells #[.int .i64 x.op, .int .i64 x.a, .int .i64 x.b] 25)) (some ⟨w.heap.size + 1, 0, none⟩) 3 (laid [x]) := by
  have hb := Blk.new (w.alloc o) 25 [.int .i64 x.op, .int .i64 x.a, .int .i64 x.b]
  rw [show (w.alloc o).heap.size = w.heap.size + 1 from by simp] at hb
  rw [laid_one]
  exact reads_all hb rfl
set_option maxHeartbeats 4000000 in
theorem tame_is {w : World} {A : Option Addr} {n c : Nat} {xs : List Int} (h : Holds w (.sl 8 (.int .i64)) xs [.slice A n c]) :
    Calls Try.prog 13 #[.slice A n c] w fun e w' => ∃ (B : Option Addr) (m cap : Nat) (l : List Prim), e = .returned (.slice B m cap) ∧ l.length = m ∧ m ≤ 20 ∧ check l = 0 ∧ Vec w' 25 3 B m cap (laid l) ∧ Keep Nob w w' := by
  have HH := Lib.hid h
  clear h
  obtain ⟨k, hk, hk1, hk2⟩ : ∃ k : Nat, min (n : Int) 20 = k ∧ k ≤ n ∧ k ≤ 20 := ⟨min n 20, by omega, by omega, by omega⟩
  go_enter Try.func13, Try.ntmps13
  go_upto_region 2 with fail
  go_cut [4] (fun s4 wx => s4 = .int .i64 k ∧ wx = w)
  case first =>
    by_cases h20 : (n : Int) ≤ 20
    · obtain rfl : n = k := by omega
      go_wp2_with fail
      go_meet
      exact ⟨rfl, rfl⟩
    · obtain rfl : k = 20 := by omega
      go_wp2_with fail
      go_meet
      exact ⟨rfl, rfl⟩
  case rest =>
  obtain ⟨rfl, hw⟩ := hcut
  have hw := hw.symm
  subst hw
  go_wp2_with fail
  go_loopw [3, 5] (fun s3 s5 wx => ∃ (i : Nat) (B : Option Addr) (cap : Nat) (l : List Prim), i ≤ k ∧ s3 = .slice B i cap ∧ s5 = .int .i64 i ∧ l.length = i ∧ Some k l ∧ Vec wx 25 3 B i cap (laid l) ∧ (∀ g, Own B g → w.heap.size ≤ g) ∧ Keep Nob w wx) (fun _ s5 _ => k - (intOf s5).toNat)
  case atStart => exact ⟨0, none, 0, [], Nat.zero_le _, rfl, rfl, rfl, Some.nil k, Vec.nil _ _ _, (fun g h => by obtain ⟨a, h, _⟩ := h; cases h), Keep.refl _ _⟩
  case round =>
    obtain ⟨i, B, cap, l, hi, rfl, rfl, hl, hS, hV, hO, hK⟩ := hrel
    by_cases hlt : i < k
    · obtain ⟨bb, off, rfl, v, hcell⟩ := holds_int_at HH.out (show i < n by omega)
      have hcell2 : wr.cell? ⟨bb, off + i, none⟩ = some (.int .i64 v) := by
        rw [← hcell]
        exact World.cell?_of_block (w := w) (hK.block _ (block_lt_of_cell hcell) (fun f => f))
      obtain ⟨X, hX, hX2⟩ : ∃ X : Nat, bits .and .i64 v 16777215 = X ∧ X < 16777216 := ⟨(v % 16777216).toNat, by rw [and24]; omega, by omega⟩
      clear hcell
      obtain ⟨q, hq, hq7⟩ : ∃ q : Nat, (X : Int).tmod 7 = q ∧ q < 7 := ⟨X % 7, by rw [Int.tmod_eq_emod_of_nonneg (by omega)]; omega, by omega⟩
      have HS := Lib.hid (And.intro hS hl)
      clear hS hl
      have done : ∀ (x : Prim) (B2 : Option Addr) (cap2 : Nat) (w3 : World), x.sound ((k : Int) - i - 1) = true → Vec w3 25 3 B2 (i + 1) cap2 (laid l ++ laid [x]) →
          Keep (Own B) ((wr.alloc (.cells #[.int .i64 x.op, .int .i64 x.a, .int .i64 x.b] 25)).alloc (.cells #[.int .i64 x.op, .int .i64 x.a, .int .i64 x.b] 25)) w3 →
          (∀ g, Own B2 g → Own B g ∨ g = ((wr.alloc (.cells #[.int .i64 x.op, .int .i64 x.a, .int .i64 x.b] 25)).alloc (.cells #[.int .i64 x.op, .int .i64 x.a, .int .i64 x.b] 25)).heap.size) →
          ∃ (i' : Nat) (B' : Option Addr) (cap' : Nat) (l' : List Prim), i' ≤ k ∧ Value.slice B2 (i + 1) cap2 = .slice B' i' cap' ∧ Value.int .i64 ((i : Int) + 1) = .int .i64 i' ∧ l'.length = i' ∧ Some k l' ∧ Vec w3 25 3 B' i' cap' (laid l') ∧ (∀ g, Own B' g → w.heap.size ≤ g) ∧ Keep Nob w w3 := fun x B2 cap2 w3 hs hv hk ho => by
        obtain ⟨hS, hl⟩ := HS.out
        refine ⟨i + 1, B2, cap2, l ++ [x], by omega, rfl, by simp, by simp [hl], hS.add x (by rw [hl]; exact hs), by rw [laid_append]; exact hv, fun g hg => ?_, ((hK.alloc _).alloc _).trans hk (fun b hb ho => absurd (hO b ho) (by omega))⟩
        rcases ho g hg with h1 | rfl
        · exact hO g h1
        · have := ((hK.alloc (.cells #[.int .i64 x.op, .int .i64 x.a, .int .i64 x.b] 25)).alloc (.cells #[.int .i64 x.op, .int .i64 x.a, .int .i64 x.b] 25)).size
          exact this
      have Done := Lib.hid done
      clear done
      have HV := Lib.hid hV
      clear hV
      have HO := Lib.hid hO
      clear hO
      rcases (by omega : q = 0 ∨ q = 1 ∨ q = 2 ∨ q = 3 ∨ q = 4 ∨ q = 5 ∨ q = 6) with rfl | rfl | rfl | rfl | rfl | rfl | rfl
      · go_wp2_with (at_builtin; go_loud (refine wpList_ap rfl _ _ 26 rfl 25 3 24 (.agg #[.int .i64 0, .int .i64 0, .int .i64 0]) Try.underlying26 infoIns rfl (by decide) B i cap _ rfl ((HV.out.nob ((Keep.refl Nob _).alloc _)).nob ((Keep.refl Nob _).alloc _)) (some ⟨wr.heap.size + 1, 0, none⟩) 1 1 _ rfl 3 rfl (reads_prim wr ⟨1, (X : Int) / 16 % 32, 0⟩ _) (laid_cells _) (by unfold maxLen; omega) (by omega) ?_); intro B2 cap2 w3 hV2 hK2 hO2)
        go_roundw
        case rel => exact Done.out ⟨1, (X : Int) / 16 % 32, 0⟩ B2 cap2 w3 ((sound_iff (by omega)).2 (by omega)) hV2 hK2 hO2
        case measure => simp [intOf]; omega
      · go_wp2_with (at_builtin; go_loud (refine wpList_ap rfl _ _ 26 rfl 25 3 24 (.agg #[.int .i64 0, .int .i64 0, .int .i64 0]) Try.underlying26 infoIns rfl (by decide) B i cap _ rfl ((HV.out.nob ((Keep.refl Nob _).alloc _)).nob ((Keep.refl Nob _).alloc _)) (some ⟨wr.heap.size + 1, 0, none⟩) 1 1 _ rfl 3 rfl (reads_prim wr ⟨2, 0, 0⟩ _) (laid_cells _) (by unfold maxLen; omega) (by omega) ?_); intro B2 cap2 w3 hV2 hK2 hO2)
        go_roundw
        case rel => exact Done.out ⟨2, 0, 0⟩ B2 cap2 w3 ((sound_iff (by omega)).2 (by omega)) hV2 hK2 hO2
        case measure => simp [intOf]; omega
      · go_wp2_with (at_builtin; go_loud (refine wpList_ap rfl _ _ 26 rfl 25 3 24 (.agg #[.int .i64 0, .int .i64 0, .int .i64 0]) Try.underlying26 infoIns rfl (by decide) B i cap _ rfl ((HV.out.nob ((Keep.refl Nob _).alloc _)).nob ((Keep.refl Nob _).alloc _)) (some ⟨wr.heap.size + 1, 0, none⟩) 1 1 _ rfl 3 rfl (reads_prim wr ⟨3, (X : Int) / 16 % 256, 0⟩ _) (laid_cells _) (by unfold maxLen; omega) (by omega) ?_); intro B2 cap2 w3 hV2 hK2 hO2)
        go_roundw
        case rel => exact Done.out ⟨3, (X : Int) / 16 % 256, 0⟩ B2 cap2 w3 ((sound_iff (by omega)).2 (by omega)) hV2 hK2 hO2
        case measure => simp [intOf]; omega
      · go_wp2_with (at_builtin; go_loud (refine wpList_ap rfl _ _ 26 rfl 25 3 24 (.agg #[.int .i64 0, .int .i64 0, .int .i64 0]) Try.underlying26 infoIns rfl (by decide) B i cap _ rfl ((HV.out.nob ((Keep.refl Nob _).alloc _)).nob ((Keep.refl Nob _).alloc _)) (some ⟨wr.heap.size + 1, 0, none⟩) 1 1 _ rfl 3 rfl (reads_prim wr ⟨4, (X : Int) / 16 % 256, 0⟩ _) (laid_cells _) (by unfold maxLen; omega) (by omega) ?_); intro B2 cap2 w3 hV2 hK2 hO2)
        go_roundw
        case rel => exact Done.out ⟨4, (X : Int) / 16 % 256, 0⟩ B2 cap2 w3 ((sound_iff (by omega)).2 (by omega)) hV2 hK2 hO2
        case measure => simp [intOf]; omega
      · by_cases hm : (X : Int) / 16 % 4 ≤ (k : Int) - 1 - i
        · go_wp2_with (at_builtin; go_loud (refine wpList_ap rfl _ _ 26 rfl 25 3 24 (.agg #[.int .i64 0, .int .i64 0, .int .i64 0]) Try.underlying26 infoIns rfl (by decide) B i cap _ rfl ((HV.out.nob ((Keep.refl Nob _).alloc _)).nob ((Keep.refl Nob _).alloc _)) (some ⟨wr.heap.size + 1, 0, none⟩) 1 1 _ rfl 3 rfl (reads_prim wr ⟨5, (X : Int) / 16 % 4, 0⟩ _) (laid_cells _) (by unfold maxLen; omega) (by omega) ?_); intro B2 cap2 w3 hV2 hK2 hO2)
          go_roundw
          case rel => exact Done.out ⟨5, (X : Int) / 16 % 4, 0⟩ B2 cap2 w3 ((sound_iff (by omega)).2 (by omega)) hV2 hK2 hO2
          case measure => simp [intOf]; omega
        · go_wp2_with (at_builtin; go_loud (refine wpList_ap rfl _ _ 26 rfl 25 3 24 (.agg #[.int .i64 0, .int .i64 0, .int .i64 0]) Try.underlying26 infoIns rfl (by decide) B i cap _ rfl ((HV.out.nob ((Keep.refl Nob _).alloc _)).nob ((Keep.refl Nob _).alloc _)) (some ⟨wr.heap.size + 1, 0, none⟩) 1 1 _ rfl 3 rfl (reads_prim wr ⟨5, (k : Int) - 1 - i, 0⟩ _) (laid_cells _) (by unfold maxLen; omega) (by omega) ?_); intro B2 cap2 w3 hV2 hK2 hO2)
          go_roundw
          case rel => exact Done.out ⟨5, (k : Int) - 1 - i, 0⟩ B2 cap2 w3 ((sound_iff (by omega)).2 (by omega)) hV2 hK2 hO2
          case measure => simp [intOf]; omega
      · go_wp2_with (at_builtin; go_loud (refine wpList_ap rfl _ _ 26 rfl 25 3 24 (.agg #[.int .i64 0, .int .i64 0, .int .i64 0]) Try.underlying26 infoIns rfl (by decide) B i cap _ rfl ((HV.out.nob ((Keep.refl Nob _).alloc _)).nob ((Keep.refl Nob _).alloc _)) (some ⟨wr.heap.size + 1, 0, none⟩) 1 1 _ rfl 3 rfl (reads_prim wr ⟨6, 0, 0⟩ _) (laid_cells _) (by unfold maxLen; omega) (by omega) ?_); intro B2 cap2 w3 hV2 hK2 hO2)
        go_roundw
        case rel => exact Done.out ⟨6, 0, 0⟩ B2 cap2 w3 ((sound_iff (by omega)).2 (by omega)) hV2 hK2 hO2
        case measure => simp [intOf]; omega
      · go_wp2_with (at_builtin; go_loud (refine wpList_ap rfl _ _ 26 rfl 25 3 24 (.agg #[.int .i64 0, .int .i64 0, .int .i64 0]) Try.underlying26 infoIns rfl (by decide) B i cap _ rfl ((HV.out.nob ((Keep.refl Nob _).alloc _)).nob ((Keep.refl Nob _).alloc _)) (some ⟨wr.heap.size + 1, 0, none⟩) 1 1 _ rfl 3 rfl (reads_prim wr ⟨7, 0, 0⟩ _) (laid_cells _) (by unfold maxLen; omega) (by omega) ?_); intro B2 cap2 w3 hV2 hK2 hO2)
        go_roundw
        case rel => exact Done.out ⟨7, 0, 0⟩ B2 cap2 w3 ((sound_iff (by omega)).2 (by omega)) hV2 hK2 hO2
        case measure => simp [intOf]; omega
    · obtain rfl : i = k := by omega
      go_wp2_with fail
      go_ret
      exact ⟨B, i, cap, l, rfl, hl, hk2, hS.check hl (by omega), hV, hK⟩
end Go.Proofs.Ytlkknmbdikoldaa
