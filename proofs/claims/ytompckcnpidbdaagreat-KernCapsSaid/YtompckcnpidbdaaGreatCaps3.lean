/- Contracts of package caps: granted, which tells of each Cap what was granted of it. -/
import Derived.Test.YtompckcnpidbdaaGreatGrp
namespace Go.Proofs.YtompckcnpidbdaaGreat
open Go.RowKit Go.MapKept
set_option linter.unusedVariables false
set_option linter.unusedSimpArgs false
theorem infoRef : (Tryz.prog.info? 59).map (fun i => (i.zero, i.size, i.bytes)) = some (some (.agg #[.int .i64 0, .int .i64 0]), 2, 16) := by kernel_rfl
theorem wf64 {x : Int} (h1 : -9223372036854775808 ≤ x) (h2 : x ≤ 9223372036854775807) : (Lit.int .i64 x).wf = true := WalkArith.wf_i64 (by omega)
theorem Inv.wfRef {T : St} {n : Nat} (I : Inv T n) {ρ : Rf} {c : Cp} (h : Has T n ρ c) : (Lit.int .i64 ρ.1).wf = true ∧ (Lit.int .i64 ρ.2).wf = true := by
  have := I.range h
  have := I.n40
  exact ⟨wf64 (by omega) (by omega), wf64 (by omega) (by omega)⟩
theorem Inv.wfRoot {T : St} {n : Nat} (I : Inv T n) {ρ : Rf} {c : Cp} (h : Has T n ρ c) : (Lit.int .i64 c.root.1).wf = true ∧ (Lit.int .i64 c.root.2).wf = true := by
  rcases I.root ρ c h with h1 | ⟨c', h1⟩
  · rw [h1]; exact ⟨by decide, by decide⟩
  · exact I.wfRef h1
set_option maxHeartbeats 4000000 in
theorem granted_is {w : World} {s B n : Nat} {p r : Nat → Nat} {T : St} (h : IsSp w s B n p r T) (I : Inv T n) :
    Calls Tryz.prog 93 #[.pointer (some ⟨s, 0, none⟩)] w fun e w' => ∃ b, e = .returned (.map (some b)) ∧ (∃ m, Grp w.heap.size w' b (all T n) m) ∧ Keep Nob w w' := by
  have hmm := @run_makeMap Tryz.prog
  have k0 := (Keep.refl Nob w).alloc (.map #[] 0)
  have h0 := h.nob k0
  have hc := h0.head
  have hn40 := I.n40
  have hG0 := Grp.new w
  go_enter Tryz.func93, Tryz.ntmps93
  go_wp2
  clear hmm hc h0
  go_loopw [16] (fun s wx => ∃ k : Nat, k ≤ n ∧ s = .int .i64 k ∧ (∃ m, Grp w.heap.size wx w.heap.size (all T k) m) ∧ Keep Nob w wx) (fun s _ => n - (intOf s).toNat)
  case atStart => exact ⟨0, Nat.zero_le _, rfl, ⟨[], hG0⟩, k0⟩
  case round =>
    obtain ⟨k, hk, rfl, hG, hK⟩ := hrel
    have hx := h.nob hK
    by_cases hlt : k < n
    · have hp := hx.ptr hlt
      have hnm := TabC.names_is (hx.tab k hlt)
      rw [List.length_map, ents_names _ k, List.length_map] at hnm
      have hEm := fun x => (ents_mem (L := T k) (e := k) (x := x) (T k).length).1
      have hall : all T (k + 1) = all T k ++ ents (T k) k (T k).length := rfl
      have hEl : (ents (T k) k (T k).length).length ≤ 32 := by have h1 := ents_le (T k) k (T k).length; have h2 := I.len k hlt; omega
      have hXl := all_le I.len k (by omega)
      generalize ents (T k) k (T k).length = E at hnm hEm hall hEl
      go_wp2_with fail
      refine hnm.mono ?_; rintro e w1 ⟨A, cap, rfl, hv, hk1⟩
      have hG1 : ∃ m, Grp w.heap.size w1 w.heap.size (all T k ++ E.take 0) m := by
        obtain ⟨m, hm⟩ := hG
        exact ⟨m, by rw [List.take_zero, List.append_nil]; exact hm.nob hk1⟩
      have hK1 := hK.nobt hk1
      clear hnm hK hx hp hk1 hG
      go_wp2
      go_loopw [24] (fun s wy => ∃ j : Nat, j ≤ E.length ∧ s = .int .i64 j ∧ (∃ m, Grp w.heap.size wy w.heap.size (all T k ++ E.take j) m) ∧ Vec wy 3 1 A E.length cap (ints (E.map (fun x => x.1.2))) ∧ Keep Nob w wy) (fun s _ => E.length - (intOf s).toNat)
      case atStart => exact ⟨0, Nat.zero_le _, rfl, hG1, hv, hK1⟩
      case round =>
        obtain ⟨j, hj, rfl, ⟨m, hG⟩, hv, hK⟩ := hrel
        by_cases hjl : j < E.length
        · obtain ⟨x, hxj⟩ : ∃ x, E[j]? = some x := ⟨_, List.getElem?_eq_getElem hjl⟩
          have htake : E.take (j + 1) = E.take j ++ [x] := by rw [List.take_add_one, hxj]; rfl
          obtain ⟨i, q, _, hq, ho, hxe⟩ := hEm x (List.mem_of_getElem? hxj)
          have hcell : ∃ g, A = some ⟨g, 0, none⟩ ∧ wr.cell? ⟨g, j, none⟩ = some (.int .i64 ((i : Int) + 256 * (q.gen : Int))) := by
            obtain ⟨g, cur, hA, hb, _, _, ht⟩ := hv.at_ (by omega)
            refine ⟨g, hA, ?_⟩
            rw [hb.cell]
            have e1 : (cur.take (E.length * 1))[j]? = (ints (E.map (fun x => x.1.2)))[j]? := by rw [ht]
            rw [List.getElem?_take, if_pos (by omega)] at e1
            rw [e1, ints_get, List.getElem?_map, hxj, hxe]
            rfl
          obtain ⟨g, rfl, hcell⟩ := hcell
          have hHas : Has T n x.1 x.2 := by
            refine ⟨k, i, q, by rw [hxe], hlt, hq, ho, by rw [hxe]⟩
          obtain ⟨hw1, hw2⟩ := I.wfRoot hHas
          rw [hxe] at hw1 hw2
          have hx := h.nob hK
          have hXl2 : (grp (all T k ++ E.take j) q.c.root).length ≤ 1280 := by
            have := grp_len (all T k ++ E.take j) q.c.root
            rw [List.length_append, List.length_take] at this
            omega
          go_wp2_with fail
          refine (TabC.get_yes q.c.obj q.c.rights q.c.lo q.c.n q.c.root.1 q.c.root.2 (hx.tab k hlt) (hx.cells hq) ho rfl rfl).mono ?_; rintro e W ⟨rfl, hkW⟩
          have hbl : Blk ((W.alloc (.cells #[.int .i64 q.c.obj, .int .i64 q.c.rights, .int .i64 q.c.lo, .int .i64 q.c.n, .int .i64 q.c.root.1, .int .i64 q.c.root.2] 61)).alloc (.cells #[.int .i64 k, .int .i64 ((i : Int) + 256 * (q.gen : Int))] 59)) (W.heap.size + 1) 59 [.int .i64 k, .int .i64 ((i : Int) + 256 * (q.gen : Int))] := by
            have := Blk.new (W.alloc (.cells #[.int .i64 q.c.obj, .int .i64 q.c.rights, .int .i64 q.c.lo, .int .i64 q.c.n, .int .i64 q.c.root.1, .int .i64 q.c.root.2] 61)) 59 [.int .i64 k, .int .i64 ((i : Int) + 256 * (q.gen : Int))]
            simpa using this
          have hkV : Keep Nob wr ((W.alloc (.cells #[.int .i64 q.c.obj, .int .i64 q.c.rights, .int .i64 q.c.lo, .int .i64 q.c.n, .int .i64 q.c.root.1, .int .i64 q.c.root.2] 61)).alloc (.cells #[.int .i64 k, .int .i64 ((i : Int) + 256 * (q.gen : Int))] 59)) := (hkW.alloc _).alloc _
          have hGV := hG.nob hkV
          have hlo : w.heap.size ≤ W.heap.size := Nat.le_trans hK.size hkW.size
          have hVs := hkV.size
          have hww := hK.size
          have Hbl := Lib.hid hbl
          clear hkW hG hx hbl
          go_wp2_with (first
            | (refine wpList_grpEntry rfl _ _ rfl rfl hGV q.c.root rfl hw1 hw2 ?_; intro A0 n0 c0 st m1 m2 w2 hn0' hv0 hH hAb hk2 _; have hnb : n0 ≤ 1280 := (by omega); have hn0 := Lib.hid hn0'; clear hn0')
            | (at_builtin; go_loud (refine wpList_ap rfl _ _ 135 rfl 59 2 16 (.agg #[.int .i64 0, .int .i64 0]) Tryz.underlying135 infoRef rfl (by decide) A0 n0 c0 _ rfl hv0 (some ⟨W.heap.size + 1, 0, none⟩) 1 1 [.int .i64 k, .int .i64 ((i : Int) + 256 * (q.gen : Int))] rfl 2 rfl (reads_all (Hbl.out.keep hk2 (by omega)) rfl) (by simp [Value.oneCell']) (by unfold maxLen; omega) (by omega) ?_); intro A1 c1 w3 hv1 hk3 ho1)
            | (refine wpList_grpStore rfl _ _ _ rfl rfl hH hk3 hAb rfl rfl (z := x) (by rw [hxe]) (Nat.le_trans hww (Nat.le_trans hVs hk2.size)) (by rw [grp_add, if_pos (by rw [hxe]), refs_append, hxe]; exact hv1) (by rw [grp_add, if_pos (by rw [hxe]), List.length_append, hn0.out]; rfl) ho1 ?_; intro w4 hG4 hk4 _))
          have hnA := hGV.is.ne_own (hv.nob hkV)
          have hv4 := (((hv.nob hkV).keep hk2 (fun g ho e => hnA (e ▸ ho))).farV hv0 (by decide) hk3).keep hk4 (fun g ho e => hnA (e ▸ ho))
          have hK4 := (((hK.nobt hkV).trans hk2 (fun b hb e => by omega)).trans hk3 (fun b hb ho => by have := hH.baseA b ho; omega)).trans hk4 (fun b hb e => by omega)
          rw [List.append_assoc, ← htake] at hG4
          go_roundw
          case rel => exact ⟨j + 1, by omega, by go_num, hG4, hv4, hK4⟩
          case measure => simp [intOf]; omega
        · obtain rfl : j = E.length := by omega
          rw [List.take_of_length_le (Nat.le_refl _), ← hall] at hG
          go_wp2
          go_roundw
          case rel => exact ⟨k + 1, by omega, by go_num, ⟨m, hG⟩, hK⟩
          case measure => simp [intOf]; omega
    · obtain rfl : k = n := by omega
      go_wp2
      go_ret
      exact ⟨_, rfl, hG, hK⟩
end Go.Proofs.YtompckcnpidbdaaGreat
