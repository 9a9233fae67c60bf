/- The document's quota is made (commonageref1.NewQuota). -/
import Derived.Test.YtnhbkkcllhgapaaQuoD
namespace Go.Proofs.Ytnhbkkcllhgapaa
open Go.RowKit
set_option linter.unusedVariables false
set_option linter.unusedSimpArgs false
section
variable {w : World}
def NewD (ns : List Nat) (w : World) (e : Ending) (w' : World) : Prop := ∃ p A cap g, e = .returned (.pointer (some ⟨p, 0, none⟩)) ∧ Dq w' p A cap g ns (fun i => List.replicate (ns.getD i 0) false) ∧ (∀ i, i < ns.length → w.heap.size ≤ g i) ∧ Keep Nob w w'
structure PartD (w wx : World) (p : Nat) (ms : List Nat) (A : Option Addr) (cap : Nat) (g : Nat → Nat) (b : Nat → List Bool) : Prop where
  q : Dq wx p A cap g ms b
  new : ∀ i, i < ms.length → b i = List.replicate (ms.getD i 0) false
  lo : ∀ i, i < ms.length → w.heap.size ≤ g i
  loA : ∀ x, Own A x → w.heap.size ≤ x
  lop : w.heap.size ≤ p
  keep : Keep Nob w wx
theorem PartD.start (w : World) : PartD w (w.alloc (.cells #[.slice none 0 0] 53)) w.heap.size [] none 0 (fun _ => 0) (fun _ => []) :=
  ⟨⟨Blk.new w 53 [.slice none 0 0], Vec.nil _ _ _, fun i hi => absurd hi (by simp), fun i hi => absurd hi (by simp), by simp, fun n hn => absurd hn (by simp), fun i j hi => absurd hi (by simp)⟩,
   fun i hi => absurd hi (by simp), fun i hi => absurd hi (by simp), fun x ⟨a, ha, _⟩ => (by cases ha), Nat.le_refl _, (Keep.refl Nob w).alloc _⟩
theorem PartD.next {wx w1 w2 : World} {p : Nat} {ms : List Nat} {A A2 : Option Addr} {cap cap2 : Nat} {g : Nat → Nat} {b : Nat → List Bool} (h : PartD w wx p ms A cap g b) (hf : ms.length < 4) (n x : Nat) (hn : n ≤ 64)
    (k1 : Keep Nob wx w1) (hx : Blk w1 x 4 (bools (List.replicate n false))) (hxw : wx.heap.size ≤ x) (hv : Vec w2 44 1 A2 (ms.length + 1) cap2 ((rowsD g ms).flatten ++ [.slice (some ⟨x, 0, none⟩) n n])) (k2 : Keep (Own A) w1 w2) (ho : ∀ y, Own A2 y → Own A y ∨ y = w1.heap.size) :
    PartD w (w2.setCell ⟨p, 0, none⟩ (.slice A2 (ms.length + 1) cap2)) p (ms ++ [n]) A2 cap2 (gup g ms.length x) (up b ms.length (List.replicate n false)) := by
  have hs := h.keep.size
  have hs1 := k1.size
  refine ⟨h.q.snoc (by decide) (by decide) (by decide) hf n x hn _ (rowsD_snoc g ms n x) k1 hx hxw hv k2, fun i hi => ?_, fun i hi => ?_, fun y hy => ?_, h.lop, ?_⟩
  · rw [List.length_append, List.length_singleton] at hi
    unfold up
    by_cases e : i = ms.length
    · rw [if_pos e, e, getD_last]
    · rw [if_neg e, getD_snoc _ _ _ (by omega)]
      exact h.new i (by omega)
  · rw [List.length_append, List.length_singleton] at hi
    unfold gup
    by_cases e : i = ms.length
    · rw [if_pos e]; omega
    · rw [if_neg e]; exact h.lo i (by omega)
  · rcases ho y hy with h1 | h1
    · exact h.loA y h1
    · omega
  · exact ((h.keep.nobt k1).trans k2 (fun y hy m => by have := h.loA y m; omega)).setCell _ _ (fun hl => by have := h.lop; dsimp only at hl; omega)
set_option maxHeartbeats 8000000 in
theorem dnew_is {A0 : Option Addr} {n0 c0 : Nat} {xs : List Int} (hx : Reads w A0 n0 (ints xs)) (ns : List Nat) (hns : sizes xs = ns) : Calls Try.prog 8 #[.slice A0 n0 c0] w (NewD ns w) := by
  have hlx : xs.length = n0 := by have := hx.1; rwa [ints_len] at this
  have hnl : (sizes xs).length = min 4 n0 := by rw [sizes_len, hlx]
  have P0 := PartD.start w
  have HN := Lib.hid hns
  have HX := Lib.hid hx
  have HL := Lib.hid hlx
  have HNL := Lib.hid hnl
  clear hns hx hlx hnl
  go_enter Try.func8, Try.ntmps8
  go_wp2_with fail
  go_loopw [4] (fun s4 wx => ∃ (k : Nat) (ms : List Nat) (A : Option Addr) (cap : Nat) (g : Nat → Nat) (b : Nat → List Bool), k ≤ 4 ∧ k ≤ n0 ∧ ms.length = k ∧ ms = (sizes xs).take k ∧ s4 = .int .i64 k ∧ PartD w wx w.heap.size ms A cap g b) (fun t _ => 4 - (intOf t).toNat)
  case atStart => exact ⟨0, [], none, 0, _, _, Nat.zero_le _, Nat.zero_le _, rfl, rfl, rfl, P0⟩
  case round =>
    obtain ⟨k, ms, A, cap, g, b, hk4, hkn, hml, hms, rfl, hP⟩ := hrel
    have HML := Lib.hid hml
    have HMS := Lib.hid hms
    clear hml hms P0
    by_cases hlt : k < n0 ∧ k < 4
    · obtain ⟨hl1, hl2⟩ := hlt
      obtain ⟨bb, off, rfl, hcx⟩ := HX.out.lit (by omega)
      have hlx := HL.out
      have hcr := hP.keep.cell_nob (hcx k (.int .i64 (xs.getD k 0)) (by rw [ints_get, List.getD_eq_getElem?_getD, List.getElem?_eq_getElem (by omega)]; rfl))
      have hst := sizes_take (xs := xs) (i := k) (by omega) (by omega)
      clear hcx hlx
      obtain ⟨n, hn, hn64, hcase⟩ := clip (xs.getD k 0)
      rw [hn, ← HMS.out] at hst
      generalize xs.getD k 0 = x at *
      have HST := Lib.hid hst
      clear hst hn
      have hobj := hP.q.obj
      rw [HML.out] at hobj
      have sf : ∀ W, Keep Nob wr W → W.cell? ⟨w.heap.size, 0, none⟩ = some (.slice A k cap) := fun W kk => (hobj.nob kk).cell 0
      have kd := (Keep.refl Nob wr).drew
      have hL : (if 64 < (if x < 0 then 0 else x) then 64 else if x < 0 then 0 else x) = (n : Int) := by
        rcases hcase with ⟨h1, h2⟩ | ⟨h1, h2⟩ | ⟨h1, h2, h3⟩ <;> (repeat' split) <;> omega
      have hmk : ∀ wx : World, (Instr.makeSlice 44 (.int .i64 (if 64 < (if x < 0 then 0 else x) then 64 else if x < 0 then 0 else x)) (.int .i64 (if 64 < (if x < 0 then 0 else x) then 64 else if x < 0 then 0 else x))).run Try.prog wx = .ok (.slice (some ⟨wx.heap.size, 0, none⟩) n n) (wx.alloc (.cells (madeCells #[.bool false] n) 4)) := by
        intro wx
        rw [hL]
        exact run_make_row' (P := Try.prog) 44 4 (.bool false) 1 Try.underlying44 infobool rfl .i64 .i64 n (by omega) (by omega) wx
      clear hL hcase
      have k1 : Keep Nob wr ((wr.drew.alloc (.cells (madeCells #[.bool false] n) 4)).alloc (.cells #[.slice (some ⟨wr.heap.size, 0, none⟩) n n] 44)) := (kd.alloc _).alloc _
      have hv1 := hP.q.row.nob k1
      rw [HML.out] at hv1
      have hr1 : Reads ((wr.drew.alloc (.cells (madeCells #[.bool false] n) 4)).alloc (.cells #[.slice (some ⟨wr.heap.size, 0, none⟩) n n] 44)) (some ⟨wr.heap.size + 1, 0, none⟩) 1 [.slice (some ⟨wr.heap.size, 0, none⟩) n n] := by
        have := reads_all (n := 1) (Blk.new (wr.drew.alloc (.cells (madeCells #[.bool false] n) 4)) 44 [.slice (some ⟨wr.heap.size, 0, none⟩) n n]) rfl
        simpa using this
      have hxb : Blk ((wr.drew.alloc (.cells (madeCells #[.bool false] n) 4)).alloc (.cells #[.slice (some ⟨wr.heap.size, 0, none⟩) n n] 44)) wr.heap.size 4 (bools (List.replicate n false)) := by
        have := (Blk.new wr.drew 4 (madeCells #[.bool false] n).toList).alloc (.cells #[.slice (some ⟨wr.heap.size, 0, none⟩) n n] 44)
        rw [Array.toArray_toList, toList_madeCells_one] at this
        rw [bools_rep]
        exact this
      have hnA : ¬ Own A w.heap.size := fun ho => by obtain ⟨c, hc⟩ := hP.q.row.blk ho; exact hP.q.obj.ne_ hc (by decide) rfl
      have q0 := sf _ kd
      have q1 := sf _ ((Keep.refl Nob wr).alloc (.cells (madeCells #[.bool false] n) 4))
      have q2 := sf _ (((Keep.refl Nob wr).alloc (.cells (madeCells #[.bool false] n) 4)).alloc (.cells #[.slice (some ⟨wr.heap.size, 0, none⟩) n n] 44))
      have r1 : (wr.alloc (.cells (madeCells #[.bool false] n) 4)).cell? ⟨bb, off + k, none⟩ = some (.int .i64 x) := ((Keep.refl Nob wr).alloc _).cell_nob hcr
      have hN : ∀ (A2 : Option Addr) (c2 : Nat) (w2 : World), Vec w2 44 1 A2 (k + 1) c2 ((rowsD g ms).flatten ++ [.slice (some ⟨wr.heap.size, 0, none⟩) n n]) → Keep (Own A) ((wr.drew.alloc (.cells (madeCells #[.bool false] n) 4)).alloc (.cells #[.slice (some ⟨wr.heap.size, 0, none⟩) n n] 44)) w2 →
          (∀ y, Own A2 y → Own A y ∨ y = ((wr.drew.alloc (.cells (madeCells #[.bool false] n) 4)).alloc (.cells #[.slice (some ⟨wr.heap.size, 0, none⟩) n n] 44)).heap.size) →
          PartD w (w2.setCell ⟨w.heap.size, 0, none⟩ (.slice A2 (k + 1) c2)) w.heap.size (ms ++ [n]) A2 c2 (gup g k wr.heap.size) (up b k (List.replicate n false)) := by
        intro A2 c2 w2 hv2 hk2 ho2
        have e := HML.out
        subst e
        exact hP.next hl2 n wr.heap.size hn64 k1 hxb (Nat.le_refl _) hv2 hk2 ho2
      have HH := Lib.hid hN
      have hL2 : (ms ++ [n]).length = k + 1 := by rw [List.length_append, HML.out]; rfl
      have HR := Lib.hid (And.intro hL2 HST.out.symm)
      clear hN hL2 hP hxb
      all_goals
        go_wp2_with fail
        go_region_law
          ((refine step_ap (by rfl) _ _ 51 (by rfl) 44 1 24 (.slice none 0 0) Try.underlying51 infobools (by rfl) (by decide) A k cap (rowsD g ms).flatten (by rfl) hv1 (some ⟨wr.heap.size + 1, 0, none⟩) 1 1 [.slice (some ⟨wr.heap.size, 0, none⟩) n n] (by rfl) 1 (by rfl) hr1 (by simp [Value.oneCell']) (by unfold maxLen; omega) (by omega) ?_; intro A2 c2 w2 hv2 hk2 ho2; have o2 := (hobj.nob k1).keep hk2 hnA; have z1 := o2.cell 0; have f1 := o2.frozen 0))
        all_goals
          have HP := Lib.hid (HH.out A2 c2 w2 hv2 hk2 ho2)
          clear hv2 hk2 ho2 o2
          go_wp2
          go_roundw
          case rel => exact ⟨k + 1, ms ++ [n], A2, c2, _, _, by omega, by omega, HR.out.1, HR.out.2, by go_num, HP.out⟩
          case measure => simp [intOf]; omega
    · have e : ms = ns := by rw [HMS.out, ← HN.out, List.take_of_length_le (by rw [HNL.out]; omega)]
      have hq : Dq wr w.heap.size A cap g ns (fun i => List.replicate (ns.getD i 0) false) := by
        rw [← e]
        exact hP.q.congr (fun i hi => hP.new i hi)
      have hlo : ∀ i, i < ns.length → w.heap.size ≤ g i := by
        rw [← e]
        exact hP.lo
      have hkp := hP.keep
      clear e
      by_cases hl1 : k < n0
      · have hl2 : 4 ≤ k := by omega
        clear hlt
        go_wp2
        go_ret
        exact ⟨_, A, cap, g, rfl, hq, hlo, hkp⟩
      · clear hlt
        go_wp2
        go_ret
        exact ⟨_, A, cap, g, rfl, hq, hlo, hkp⟩
end
end Go.Proofs.Ytnhbkkcllhgapaa
