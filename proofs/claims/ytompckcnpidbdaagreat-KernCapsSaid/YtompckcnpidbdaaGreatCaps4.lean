/- Contracts of package caps: find, which finds all under one Cap. -/
import Derived.Test.YtompckcnpidbdaaGreatCaps3
namespace Go.Proofs.YtompckcnpidbdaaGreat
open Go.RowKit Go.MapKept
set_option linter.unusedVariables false
set_option linter.unusedSimpArgs false
/-- A set of Refs as entries. -/
def setM (F : List Rf) : List (Value × Value) := F.map fun ρ => (rval ρ, Value.agg #[])
theorem setM_add (F : List Rf) (ρ : Rf) : setM (F ++ [ρ]) = setM F ++ [(rval ρ, .agg #[])] := by simp [setM]
theorem setM_no {F : List Rf} {ρ : Rf} (h : ρ ∉ F) : ∀ p ∈ setM F, p.1 ≠ rval ρ := by
  intro p hp e
  obtain ⟨σ, hs, rfl⟩ := List.mem_map.1 hp
  exact h (rval_inj e ▸ hs)
def msize (w : World) (b : Nat) : Nat := match w.heap[b]? with
  | some (.map es _) => es.size
  | _ => 0
theorem MapIs.msize {P : Program} {k : TypeId} {w : World} {b : Nat} {m : List (Value × Value)} (h : MapIs P k w b m) : msize w b = m.length := by
  obtain ⟨es, clock, hb, _, _, rfl⟩ := h
  simp [YtompckcnpidbdaaGreat.msize, hb]
def lenOf : Value → Nat
  | .slice _ n _ => n
  | _ => 0
theorem Grp.above {lo b : Nat} {w w' : World} {X : List (Rf × Cp)} {m : List (Value × Value)} (h : Grp lo w b X m) (k : Keep (From w.heap.size) w w') : Grp lo w' b X m := by
  refine h.keep k (fun hm => by have := h.is.lt; have : w.heap.size ≤ b := hm; omega) (fun p hp g hg hm => ?_)
  obtain ⟨κ, A, len, cap, rfl, hv, _⟩ := h.elem p hp
  have := hv.lt g (own_is.1 hg)
  have : w.heap.size ≤ g := hm
  omega
theorem Vec.above {w w' : World} {e sz n cap : Nat} {A : Option Addr} {xs : List Value} (h : Vec w e sz A n cap xs) (k : Keep (From w.heap.size) w w') : Vec w' e sz A n cap xs :=
  h.keep k (fun g hg hm => by have := h.lt g hg; have : w.heap.size ≤ g := hm; omega)
/-- The first elements of a row of the call's own. -/
theorem Vec.cut {w : World} {n cap k : Nat} {A : Option Addr} {l l' : List Rf} (h : Vec w 59 2 A n cap (refs (l ++ l'))) (hk : k = l.length) : Vec w 59 2 A k cap (refs l) := by
  have hl := h.len
  rw [refs_len, List.length_append] at hl
  refine ⟨by rw [refs_len, hk], ?_⟩
  rcases h.2 with ⟨he, h0⟩ | ⟨g, cap', cur, he, hb, hg, h1, h2, h3, h4⟩
  · simp only [Value.slice.injEq] at he
    obtain ⟨rfl, h5, rfl⟩ := he
    have : k = 0 := by omega
    subst this
    exact .inl ⟨rfl, rfl⟩
  · simp only [Value.slice.injEq, true_and] at he
    obtain ⟨rfl, rfl⟩ := he
    refine .inr ⟨g, cap, cur, rfl, hb, hg, by omega, h2, h3, ?_⟩
    have e1 : (cur.toList.take (n * 2)).take (k * 2) = refs l := by
      rw [h4, refs_append, List.take_append_of_le_length (by rw [refs_len]; omega), List.take_of_length_le (by rw [refs_len]; omega)]
    rw [List.take_take, Nat.min_eq_left (by omega)] at e1
    exact e1
theorem wpList_grpLook {w : World} {ops : Array Oper} {rest : List Oper} {o : Oper} {a : Act} {Q : Exit → Act → World → Prop} (hg : o.guard = none) (x i : Operand) (ho : o.op = .lookup 157 x i false)
    {lo b : Nat} {X : List (Rf × Cp)} {m : List (Value × Value)} (hx : a.eval x = .map (some b)) (h : Grp lo w b X m) (κ : Rf) (hi : a.eval i = rval κ) (hw1 : (Lit.int .i64 κ.1).wf = true) (hw2 : (Lit.int .i64 κ.2).wf = true)
    (hK : ∀ A n cap, At m (rval κ) (.slice none 0 0) (.slice A n cap) → n = (grp X κ).length → wpList Tryz.prog ops Q rest (a.put o.dst (.slice A n cap)) w) : wpList Tryz.prog ops Q (o :: rest) a w := by
  obtain ⟨l, hkey⟩ := ref_key hw1 hw2
  refine wpList_mapLook hg 157 x i ho 59 135 refLaw Tryz.underlying157 (slZero w) hx h.is (rval κ) hi hkey ?_
  intro v hv
  obtain ⟨A, n, cap, rfl, _, h2, _⟩ := h.at_ hv
  exact hK A n cap hv h2
set_option maxRecDepth 100000 in
set_option maxHeartbeats 4000000 in
theorem find_is {w : World} {s B n : Nat} {p r : Nat → Nat} {T : St} (h : IsSp w s B n p r T) (I : Inv T n) (top : Rf) (ht : ∃ c, Has T n top c) :
    Calls Tryz.prog 85 #[.pointer (some ⟨s, 0, none⟩), .agg #[.int .i64 top.1, .int .i64 top.2]] w fun e w' => ∃ b F, e = .returned (.map (some b)) ∧ MapIs Tryz.prog 59 w' b (setM F) ∧ F.Nodup ∧ (∀ ρ, ρ ∈ F ↔ Desc T n top ρ) ∧ Keep Nob w w' := by
  have hmm := @run_makeMap Tryz.prog
  have k0 := (Keep.refl Nob w).alloc (.cells #[.int .i64 top.1, .int .i64 top.2] 59)
  have b0 : Blk (w.alloc (.cells #[.int .i64 top.1, .int .i64 top.2] 59)) w.heap.size 59 [.int .i64 top.1, .int .i64 top.2] := Blk.new w 59 [.int .i64 top.1, .int .i64 top.2]
  have h0 := h.nob k0
  have hn40 := I.n40
  have hN := all_le I.len n (Nat.le_refl _)
  go_enter Tryz.func85, Tryz.ntmps85
  go_wp2_with fail
  refine (granted_is h0 I).mono ?_; rintro e w1 ⟨bg, rfl, ⟨m, hG⟩, hk1⟩
  have b1 := b0.nob hk1
  have c0 := b1.cell 0
  have c1 := b1.cell 1
  simp only [List.getElem?_cons_zero, List.getElem?_cons_succ] at c0 c1
  have kk := k0.nobt hk1
  have hlt1 := b1.lt
  clear k0 b0 h0 hk1
  have hF0 : MapIs Tryz.prog 59 ((w1.alloc (.map #[] 0)).alloc (.cells #[.int .i64 top.1, .int .i64 top.2] 59)) w1.heap.size (setM []) := (MapIs.new w1).nob ((Keep.refl _ _).alloc _)
  have hW0 : Vec ((w1.alloc (.map #[] 0)).alloc (.cells #[.int .i64 top.1, .int .i64 top.2] 59)) 59 2 (some ⟨w1.heap.size + 1, 0, none⟩) 1 1 (refs [top]) := by
    have := Blk.new (w1.alloc (.map #[] 0)) 59 [.int .i64 top.1, .int .i64 top.2]
    have h2 : Blk ((w1.alloc (.map #[] 0)).alloc (.cells #[.int .i64 top.1, .int .i64 top.2] 59)) (w1.heap.size + 1) 59 [.int .i64 top.1, .int .i64 top.2] := by simpa using this
    exact Vec.of_blk h2 rfl (by unfold maxLen; omega)
  have hK0 : Keep (From w1.heap.size) w1 ((w1.alloc (.map #[] 0)).alloc (.cells #[.int .i64 top.1, .int .i64 top.2] 59)) := ((Keep.refl _ _).alloc _).alloc _
  go_wp2
  clear hmm c0 c1 b1
  go_loopw [7] (fun s7 wx => ∃ A W cap F, s7 = .slice A W.length cap ∧ Vec wx 59 2 A W.length cap (refs W) ∧ MapIs Tryz.prog 59 wx w1.heap.size (setM F) ∧ Work T n top W F ∧ Keep (From w1.heap.size) w1 wx ∧ (∀ g, Own A g → w1.heap.size ≤ g)) (fun s7 wx => 2 * ((all T n).length - msize wx w1.heap.size) + lenOf s7)
  case atStart => exact ⟨some ⟨w1.heap.size + 1, 0, none⟩, [top], 1, [], rfl, hW0, hF0, Work.start T n top, hK0, fun g ⟨a, ha, hb⟩ => by cases ha; simp at hb; omega⟩
  case round =>
    obtain ⟨A, W, cap, F, rfl, hW, hF, hwk, hK, hA⟩ := hrel
    by_cases hnil : W = []
    · subst hnil
      go_wp2
      go_ret
      exact ⟨_, F, rfl, hF, hwk.fnd, hwk.end_, kk.trans hK (fun b hb m => by have : w1.heap.size ≤ b := m; omega)⟩
    · obtain ⟨W', of, rfl⟩ : ∃ W' of, W = W' ++ [of] := ⟨W.dropLast, W.getLast hnil, (List.dropLast_concat_getLast hnil).symm⟩
      have hwl : (W' ++ [of]).length = W'.length + 1 := by simp
      rw [hwl] at hW
      have hof : (W' ++ [of])[W'.length]? = some of := by simp
      obtain ⟨g, rfl, c0, c1⟩ := hW.rf hof
      rw [hwl]
      have hwn := hwk.next I ht
      have hap := fun {σ} => hwk.apart I ht (σ := σ)
      have hkn := grp_nodup (all_nodup n I.len256) of
      have hkm := fun ρ => (kids_mem (T := T) (n := n) (κ := of) (ρ := ρ)).1
      have hofHas : ∃ c, Has T n of c := by
        rcases hwk.sub of (by simp) with e | e
        · rw [e]; exact ht
        · exact (hwk.desc of e).has
      obtain ⟨cof, hcof⟩ := hofHas
      obtain ⟨hw1, hw2⟩ := I.wfRef hcof
      obtain ⟨kl, hkey⟩ := ref_key hw1 hw2
      have hcutV := hW.cut (k := W'.length) rfl
      have hcapW : W'.length + 1 ≤ cap := by
        obtain ⟨_, _, _, _, hc, _⟩ := hW.at_ (by omega)
        exact hc
      have hle := hwn.le
      have hm0 : msize wr w1.heap.size = F.length := by rw [hF.msize]; simp [setM]
      have hKl : (kids T n of).length ≤ 1280 := by
        have := grp_len (all T n) of
        show (grp (all T n) of).length ≤ 1280
        omega
      have hWl := Nat.le_trans (nodup_le hwk.wnd (b := top :: F) (fun x hx => by rcases hwk.sub x hx with e | e <;> simp [e])) (Nat.succ_le_succ hwk.le)
      rw [hwl] at hWl
      have Hm := Lib.hid hm0
      have Hw := Lib.hid hwk
      have Hwn := Lib.hid hwn
      clear hwl hof hm0 hwk hwn
      go_wp2_with (first | (at_lookup; refine wpList_grpLook rfl _ _ rfl rfl ((hG.above hK).nob ((Keep.refl _ _).alloc _)) of rfl hw1 hw2 ?_; intro AK nK cK hat hnK'; have hnb : nK ≤ 1280 := (by rw [hnK']; exact hKl); have hnK := Lib.hid hnK'; clear hnK'))
      have hvK1 : Vec w1 59 2 AK nK cK (refs (kids T n of)) := by
        obtain ⟨A', n', c', e, hv, _⟩ := hG.at_ hat
        simp only [Value.slice.injEq] at e
        obtain ⟨rfl, rfl, rfl⟩ := e
        exact hv
      have hW2 := hcutV.nob ((Keep.refl Nob wr).alloc (.cells #[.int .i64 of.1, .int .i64 of.2] 59))
      have hF2 := hF.nob ((Keep.refl Nob wr).alloc (.cells #[.int .i64 of.1, .int .i64 of.2] 59))
      have hK2 := hK.alloc (.cells #[.int .i64 of.1, .int .i64 of.2] 59)
      clear hat c0 c1 hcutV hW hF hK hkey
      go_wp2
      go_loopw [7, 34] (fun s7 s34 wy => ∃ (j : Nat) (A1 : Option Addr) (cap1 : Nat), j ≤ nK ∧ s34 = .int .i64 j ∧ s7 = .slice A1 (W'.length + j) cap1 ∧ Vec wy 59 2 A1 (W'.length + j) cap1 (refs (W' ++ (kids T n of).take j)) ∧
        MapIs Tryz.prog 59 wy w1.heap.size (setM (F ++ (kids T n of).take j)) ∧ Keep (From w1.heap.size) w1 wy ∧ (∀ g, Own A1 g → w1.heap.size ≤ g)) (fun _ s34 _ => nK - (intOf s34).toNat)
      case atStart => exact ⟨0, _, _, Nat.zero_le _, rfl, rfl, by rw [List.take_zero, List.append_nil]; exact hW2, by rw [List.take_zero, List.append_nil]; exact hF2, hK2, hA⟩
      case round =>
        obtain ⟨j, A1, cap1, hj, rfl, rfl, hW3, hF3, hK3, hA3⟩ := hrel
        by_cases hjl : j < nK
        · have hvK3 := hvK1.above hK3
          have hjk : j < (kids T n of).length := by rw [← hnK.out]; exact hjl
          obtain ⟨ρ, hρ⟩ : ∃ ρ, (kids T n of)[j]? = some ρ := ⟨_, List.getElem?_eq_getElem hjk⟩
          have htake : (kids T n of).take (j + 1) = (kids T n of).take j ++ [ρ] := by rw [List.take_add_one, hρ]; rfl
          have hρm := List.mem_of_getElem? hρ
          obtain ⟨cρ, hcρ, _⟩ := hkm ρ hρm
          obtain ⟨hr1, hr2⟩ := I.wfRef hcρ
          obtain ⟨kl, hkey⟩ := ref_key hr1 hr2
          have hno : ρ ∉ F ++ (kids T n of).take j := by
            rw [List.mem_append, not_or]
            refine ⟨(hap hρm).1, fun hm => ?_⟩
            obtain ⟨i, hi1, hi2⟩ := List.mem_take_iff_getElem.1 hm
            have h1 : (kids T n of)[i] = (kids T n of)[j] := by rw [hi2]; exact (List.getElem?_eq_some_iff.1 hρ).2.symm
            have := (List.getElem_inj hkn).1 h1
            omega
          obtain ⟨gK, rfl, e0, e1⟩ := hvK3.rf hρ
          have hbn := Blk.new wr 59 [.int .i64 ρ.1, .int .i64 ρ.2]
          have hlt := hF3.lt
          have hWb : W'.length ≤ 1280 := by omega
          have hneW := hF3.ne_own hW3
          have Hbn := Lib.hid hbn
          clear hbn
          go_wp2_with (first
            | (at_mapUpdate; refine wpList_mapAdd rfl 152 _ _ _ rfl 59 159 refLaw Tryz.underlying152 rfl (hF3.nob ((Keep.refl _ _).alloc _)) (rval ρ) (.agg #[]) rfl rfl hkey (setM_no hno) ?_; intro w2 hF4 hk2 hs2; have hbN : Blk (w2.alloc (.cells #[.int .i64 ρ.1, .int .i64 ρ.2] 59)) (wr.heap.size + 1) 59 [.int .i64 ρ.1, .int .i64 ρ.2] := (by have h5 := Blk.new w2 59 [.int .i64 ρ.1, .int .i64 ρ.2]; rw [hs2] at h5; simpa using h5); have HbN := Lib.hid hbN; clear hbN; have hb2 := Hbn.out.keep hk2 (by omega); have d0 := hb2.cell 0; have d1 := hb2.cell 1; simp only [List.getElem?_cons_zero, List.getElem?_cons_succ] at d0 d1; clear hb2)
            | (at_builtin; go_loud (refine wpList_ap rfl _ _ 135 rfl 59 2 16 (.agg #[.int .i64 0, .int .i64 0]) Tryz.underlying135 infoRef rfl (by decide) A1 (W'.length + j) cap1 _ rfl (((hW3.nob ((Keep.refl Nob wr).alloc _)).keep hk2 (fun g ho e => hneW (e ▸ ho))).nob ((Keep.refl Nob w2).alloc _)) (some ⟨wr.heap.size + 1, 0, none⟩) 1 1 [.int .i64 ρ.1, .int .i64 ρ.2] rfl 2 rfl (reads_all HbN.out rfl) (by simp [Value.oneCell']) (by unfold maxLen; omega) (by omega) ?_); intro A2 c2 w3 hv2 hk3 ho2))
          have hs2' : wr.heap.size ≤ w2.heap.size := Nat.le_trans (Nat.le_succ _) (by have := hk2.size; simpa using this)
          have hlt2 := hF4.lt
          have hne4 := hF4.ne_own ((hW3.nob ((Keep.refl Nob wr).alloc (.cells #[.int .i64 ρ.1, .int .i64 ρ.2] 59))).keep hk2 (fun g ho e => hneW (e ▸ ho)))
          have hF5 := (hF4.nob ((Keep.refl Nob w2).alloc (.cells #[.int .i64 ρ.1, .int .i64 ρ.2] 59))).keep hk3 hne4
          have hK5 := (((hK3.alloc (.cells #[.int .i64 ρ.1, .int .i64 ρ.2] 59)).trans hk2 (fun b hb e => by have h9 : w1.heap.size ≤ b := (by omega); exact h9)).alloc (.cells #[.int .i64 ρ.1, .int .i64 ρ.2] 59)).trans hk3 (fun b hb ho => hA3 b ho)
          have hl1 := hK3.size
          rw [← setM_add, List.append_assoc, ← htake] at hF5
          have hv3 : Vec w3 59 2 A2 (W'.length + (j + 1)) c2 (refs (W' ++ (kids T n of).take (j + 1))) := by
            rw [htake, ← List.append_assoc, refs_append]
            exact hv2
          go_roundw
          case rel => exact ⟨j + 1, A2, c2, by omega, by go_num, rfl, hv3, hF5, hK5, fun g hg => by
            rcases ho2 g hg with h1 | h1
            · exact hA3 g h1
            · rw [h1]; simp; omega⟩
          case measure => simp [intOf]; omega
        · obtain rfl : j = nK := by omega
          rw [List.take_of_length_le (by rw [← hnK.out]; exact Nat.le_refl _)] at hW3 hF3
          go_wp2
          go_roundw
          case rel => exact ⟨A1, W' ++ kids T n of, cap1, F ++ kids T n of, by rw [List.length_append, ← hnK.out], by rw [List.length_append, ← hnK.out]; exact hW3, hF3, Hwn.out, hK3, hA3⟩
          case measure =>
            rw [hF3.msize, Hm.out]
            simp [lenOf, setM]
            have h1 := hle
            have h2 : j = (kids T n of).length := hnK.out
            simp at h1
            omega
end Go.Proofs.YtompckcnpidbdaaGreat
