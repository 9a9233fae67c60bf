/- Texts Aud8, Aud8P, Aud8F, Aud8R, AudA, AudB, AudC, AudD, packed. -/
import Derived.Deep.RegionHeld3
import Derived.Test.YtngchjejmnfanaaGreatPk0
import Derived.Test.YtngchjejmnfanaaGreatPk2
import Derived.Test.YtngchjejmnfanaaGreatPk3
import Derived.Test.YtngchjejmnfanaaGreatPk5
import Derived.Test.YtngchjejmnfanaaGreatPk6
import Derived.Test.YtngchjejmnfanaaGreatPk8
import Derived.Test.YtngchjejmnfanaaGreatPk12
import Derived.Test.YtngchjejmnfanaaGreatPk15
import Derived.Test.YtngchjejmnfanaaGreatPk18
import Derived.Test.YtngchjejmnfanaaGreatPk19
import Derived.Test.YtngchjejmnfanaaGreatPk1
import Derived.Test.YtngchjejmnfanaaGreatPk7
import Derived.Test.YtngchjejmnfanaaGreatPk11
import Derived.Test.YtngchjejmnfanaaGreatPk21
import Derived.Test.YtngchjejmnfanaaGreatPk22
import Derived.Test.YtngchjejmnfanaaGreatPk14
import Derived.Test.YtngchjejmnfanaaGreatPk13
import Derived.Test.YtngchjejmnfanaaGreatPk16
import Derived.Test.YtngchjejmnfanaaGreatPk17
import Derived.Test.YtngchjejmnfanaaGreatPk24
import Derived.Test.YtngchjejmnfanaaGreatPk23
import Derived.Test.YtngchjejmnfanaaGreatPk20
import Derived.Test.YtngchjejmnfanaaGreatPk9
import Derived.Test.YtngchjejmnfanaaGreatPk25
import Derived.Test.YtngchjejmnfanaaGreatPk10
namespace Go.Proofs.YtngchjejmnfanaaGreat.Au
open Go.RowKit Co
set_option linter.unusedVariables false
set_option linter.unusedSimpArgs false
theorem sp16 {α : Type} {l : List α} (h : l.length = 16) : ∃ a0 a1 a2 a3 a4 a5 a6 a7 a8 a9 a10 a11 a12 a13 a14 a15, l = [a0, a1, a2, a3, a4, a5, a6, a7, a8, a9, a10, a11, a12, a13, a14, a15] := by
  match l, h with
  | [a0, a1, a2, a3, a4, a5, a6, a7, a8, a9, a10, a11, a12, a13, a14, a15], _ => exact ⟨_, _, _, _, _, _, _, _, _, _, _, _, _, _, _, _, rfl⟩
theorem sp4 {α : Type} {l : List α} (h : l.length = 4) : ∃ a0 a1 a2 a3, l = [a0, a1, a2, a3] := by
  match l, h with
  | [a0, a1, a2, a3], _ => exact ⟨_, _, _, _, rfl⟩
theorem sp32 {α : Type} {l : List α} (h : l.length = 32) : ∃ a0 a1 a2 a3 a4 a5 a6 a7 a8 a9 a10 a11 a12 a13 a14 a15 a16 a17 a18 a19 a20 a21 a22 a23 a24 a25 a26 a27 a28 a29 a30 a31, l = [a0, a1, a2, a3, a4, a5, a6, a7, a8, a9, a10, a11, a12, a13, a14, a15, a16, a17, a18, a19, a20, a21, a22, a23, a24, a25, a26, a27, a28, a29, a30, a31] := by
  match l, h with
  | [a0, a1, a2, a3, a4, a5, a6, a7, a8, a9, a10, a11, a12, a13, a14, a15, a16, a17, a18, a19, a20, a21, a22, a23, a24, a25, a26, a27, a28, a29, a30, a31], _ => exact ⟨_, _, _, _, _, _, _, _, _, _, _, _, _, _, _, _, _, _, _, _, _, _, _, _, _, _, _, _, _, _, _, _, rfl⟩
set_option maxRecDepth 100000 in
theorem bu_rP (k : Int) (l : List Int) (h : l.length = 16) (W : World) : (Instr.build 262 #[(0, .int .i64 k), (1, .agg (ints l).toArray)]).run Tryz.prog W = .ok (.agg (.int .i64 k :: ints l).toArray) W := by
  obtain ⟨a0, a1, a2, a3, a4, a5, a6, a7, a8, a9, a10, a11, a12, a13, a14, a15, rfl⟩ := sp16 h
  exact run_build W _ _ _ (by kernel_rfl)
set_option maxRecDepth 100000 in
theorem bu_rF (k : Int) (l : List Int) (h : l.length = 4) (W : World) : (Instr.build 264 #[(0, .int .i64 k), (1, .agg (ints l).toArray)]).run Tryz.prog W = .ok (.agg (.int .i64 k :: ints l).toArray) W := by
  obtain ⟨a0, a1, a2, a3, rfl⟩ := sp4 h
  exact run_build W _ _ _ (by kernel_rfl)
set_option maxRecDepth 100000 in
theorem bu_rR (k : Int) (p : Ri.Pp) (h : p.d.length = 32) (W : World) : (Instr.build 266 #[(0, .int .i64 k), (1, .agg (Ri.pc p).toArray)]).run Tryz.prog W = .ok (.agg (.int .i64 k :: Ri.pc p).toArray) W := by
  obtain ⟨h0, c0, r0, s0, d⟩ := p
  obtain ⟨a0, a1, a2, a3, a4, a5, a6, a7, a8, a9, a10, a11, a12, a13, a14, a15, a16, a17, a18, a19, a20, a21, a22, a23, a24, a25, a26, a27, a28, a29, a30, a31, rfl⟩ := sp32 h
  exact run_build W _ _ _ (by kernel_rfl)
set_option maxRecDepth 100000 in
theorem bs_rP (cs : List Value) (h : cs.length = 17) (W : World) : (Instr.buildSlice 152 1 #[(0, .agg cs.toArray)]).run Tryz.prog W = .ok (.slice (some ⟨W.heap.size, 0, none⟩) 1 1) (W.alloc (.cells cs.toArray 262)) := by
  match cs, h with
  | a0 :: a1 :: a2 :: a3 :: a4 :: a5 :: a6 :: a7 :: a8 :: a9 :: a10 :: a11 :: a12 :: a13 :: a14 :: a15 :: a16 :: [], _ => go_simp
theorem infF_rP : (Tryz.prog.info? 262).map (fun i => (i.zero, i.size, i.bytes)) = some (some (.agg (rcI (0, Cd.noP)).toArray), 17, 136) := by kernel_rfl
set_option maxRecDepth 100000 in
theorem bs_rF (cs : List Value) (h : cs.length = 5) (W : World) : (Instr.buildSlice 154 1 #[(0, .agg cs.toArray)]).run Tryz.prog W = .ok (.slice (some ⟨W.heap.size, 0, none⟩) 1 1) (W.alloc (.cells cs.toArray 264)) := by
  match cs, h with
  | a0 :: a1 :: a2 :: a3 :: a4 :: [], _ => go_simp
theorem infF_rF : (Tryz.prog.info? 264).map (fun i => (i.zero, i.size, i.bytes)) = some (some (.agg (rcI (0, Fi.noP)).toArray), 5, 40) := by kernel_rfl
set_option maxRecDepth 100000 in
theorem bs_rR (cs : List Value) (h : cs.length = 37) (W : World) : (Instr.buildSlice 156 1 #[(0, .agg cs.toArray)]).run Tryz.prog W = .ok (.slice (some ⟨W.heap.size, 0, none⟩) 1 1) (W.alloc (.cells cs.toArray 266)) := by
  match cs, h with
  | a0 :: a1 :: a2 :: a3 :: a4 :: a5 :: a6 :: a7 :: a8 :: a9 :: a10 :: a11 :: a12 :: a13 :: a14 :: a15 :: a16 :: a17 :: a18 :: a19 :: a20 :: a21 :: a22 :: a23 :: a24 :: a25 :: a26 :: a27 :: a28 :: a29 :: a30 :: a31 :: a32 :: a33 :: a34 :: a35 :: a36 :: [], _ => go_simp
theorem infF_rR : (Tryz.prog.info? 266).map (fun i => (i.zero, i.size, i.bytes)) = some (some (.agg (rcR (0, Ri.noP)).toArray), 37, 72) := by kernel_rfl
section
variable {ops : Array Oper} {rest : List Oper} {o : Oper} {a : Act} {Q : Exit → Act → World → Prop} {w : World}
theorem wpList_bd2 (hgd : o.guard = none) (t : TypeId) (x y : Operand) (ho : o.op = .build t #[(0, x), (1, y)]) (u v R : Value) (hx : a.eval x = u) (hy : a.eval y = v) (hrun : (Instr.build t #[(0, u), (1, v)]).run Tryz.prog w = .ok R w)
    (h : wpList Tryz.prog ops Q rest (a.put o.dst R) w) : wpList Tryz.prog ops Q (o :: rest) a w := by
  refine wpList_plain hgd fun K hK => ?_
  unfold Oper.wp
  simp [execOp, ho, hx, hy, hrun, Result.andThen]
  exact hK _ _ h
theorem wpList_bs1 (hgd : o.guard = none) (t e : TypeId) (x : Operand) (ho : o.op = .buildSlice t 1 #[(0, x)]) (cs : List Value) (hx : a.eval x = .agg cs.toArray) (hrun : (Instr.buildSlice t 1 #[(0, .agg cs.toArray)]).run Tryz.prog w = .ok (.slice (some ⟨w.heap.size, 0, none⟩) 1 1) (w.alloc (.cells cs.toArray e)))
    (h : ∀ w', Blk w' w.heap.size e cs → Keep Nob w w' → w'.heap.size = w.heap.size + 1 → wpList Tryz.prog ops Q rest (a.put o.dst (.slice (some ⟨w.heap.size, 0, none⟩) 1 1)) w') : wpList Tryz.prog ops Q (o :: rest) a w := by
  refine wpList_plain hgd fun K hK => ?_
  have hh := h _ (Blk.new w e cs) ((Keep.refl Nob w).alloc _) (by simp)
  unfold Oper.wp
  simp [execOp, ho, hx, hrun, Result.andThen]
  exact hK _ _ hh
end
theorem cm_same {C : Cm} {l : List Rf} (h : C.bad = l) : { C with bad := l } = C := by subst h; rfl
theorem Ct.offV {w w' : World} {K K' : Kn} {C C' : Cm} {src : Src} (h : Kc w K C src) (t : Ct w K K' C C' src w') {e sz n cap : Nat} {A : Option Addr} {xs : List Value} (hv : Vec w e sz A n cap xs) (he : ¬ MyT e) : Vec w' e sz A n cap xs :=
  hv.keep t.keep (fun g hg m => by
    obtain ⟨cs, hc⟩ := hv.blk hg
    obtain ⟨l, hl, _⟩ := h.c.map
    rcases m with m | m
    · exact h.k.mine_ne hc he (.inl m)
    · exact hl.ne_blk hc m.symm)
/-- A row of another type is written. -/
theorem kc_row {w w' : World} {K : Kn} {C : Cm} {src : Src} (h : Kc w K C src) {e sz n cap : Nat} {A : Option Addr} {xs : List Value} (hv : Vec w e sz A n cap xs) (he : ¬ MyT e) (hf : ¬ Fix e) (hp : ∀ x, Own A x → C.p ≠ x) (hn : ¬ (0 < C.brs.length)) (k : Keep (Own A) w w') : Kc w' K C src := by
  obtain ⟨l, hl, _⟩ := h.c.map
  refine ⟨h.k.keep k (fun x m => ?_) (fun x hx m => ?_), h.c.keep k (fun m => hp _ m rfl) (fun h0 => absurd h0 hn) (fun m => ?_), h.l, h.ap⟩
  · obtain ⟨cs, hc⟩ := hv.blk m
    exact ⟨_, _, hc, hf⟩
  · obtain ⟨cs, hc⟩ := hv.blk m
    exact h.k.mine_ne hc he hx
  · obtain ⟨cs, hc⟩ := hv.blk m
    exact hl.ne_blk hc rfl
theorem rows_snoc {α : Type} (f : α → List Value) (l : List α) (x : α) : rows f (l ++ [x]) = rows f l ++ f x := by simp [rows]
theorem wfk {k : Nat} (h : k ≤ 40) : Cd.Wf (k : Int) := by unfold Cd.Wf; omega
end Go.Proofs.YtngchjejmnfanaaGreat.Au
namespace Go.Proofs.YtngchjejmnfanaaGreat.Au
open Go.RowKit Co
set_option linter.unusedVariables false
set_option linter.unusedSimpArgs false
section
variable {w : World} {K : Kn} {C : Cm} {b : List UInt8}
set_option maxRecDepth 100000 in
set_option maxHeartbeats 4000000 in
theorem readP_is (h : Kc w K C src1) (hx : K.xs = xsOf b) (hbr : C.brs = []) (hbad : C.bad = []) (hl : b.length = 492) (hg : AllGood b) :
    Calls Tryz.prog 77 #[.int .i64 8, .func (.func 36) #[.pointer (some ⟨C.p, 0, none⟩)] #[]] w fun e w' => ∃ A cap, e = .returned (.slice A (there (pAt b) 8).length cap) ∧ Vec w' 262 17 A (there (pAt b) 8).length cap (rows rcI (there (pAt b) 8)) ∧ (∀ x, Own A x → w.heap.size ≤ x) ∧ Ct w K K C C src1 w' := by
  have hnb : C.brs.length = 0 := by rw [hbr]; rfl
  have hget : ∀ W k, Kc W K C src1 → k < 8 → Calls Tryz.prog 36 #[.pointer (some ⟨C.p, 0, none⟩), .int .i64 (k : Nat)] W fun e w' => e = .returned (.tuple #[.agg (ints (pAt b k).1).toArray, .int .i64 (pAt b k).2]) ∧ Ct W K K C C src1 w' := fun W k hW hk => by
    have := proc_is hW (k : Int) (wfk (by omega)) (pAt b k).1 (pAt b k).2 [] (by rw [hx, hnb, hbad]; exact rdP hl hg hk)
    rw [cm_same hbad] at this
    exact this
  have hlen : ∀ k, (pAt b k).1.length = 16 := fun k => Cd.dcd_len _
  have hp := h.c.lt.1
  have hT0 := Ct.still h (Keep.refl Nob w)
  have HG := Lib.hid hget
  have HP := Lib.hid (show C.p < w.heap.size ∧ ¬ (0 < C.brs.length) from ⟨hp, by omega⟩)
  have HLn := Lib.hid hlen
  generalize pAt b = gt at *
  have HT0 := Lib.hid hT0
  clear hget h hp hnb hlen hx hbr hbad hl hg hT0
  go_enter Tryz.func77, Tryz.ntmps77
  go_wp2_with fail
  go_loopw [5, 10] (fun s5 s10 wx => ∃ (k : Nat) (A : Option Addr) (cap : Nat), k ≤ 8 ∧ s10 = .int .i64 k ∧ s5 = .slice A (there gt k).length cap ∧ Vec wx 262 17 A (there gt k).length cap (rows rcI (there gt k)) ∧ Hid ((∀ x, Own A x → w.heap.size ≤ x) ∧ Ct w K K C C src1 wx)) (fun _ s10 _ => 8 - (intOf s10).toNat)
  case atStart => exact ⟨0, none, 0, Nat.zero_le _, rfl, rfl, Vec.nil _ _ _, Lib.hid ⟨fun x ⟨a, e, _⟩ => (by cases e), HT0.out⟩⟩
  case round =>
    obtain ⟨k, A, cap, hk, rfl, rfl, hV, HT⟩ := hrel
    by_cases hlt : (k : Int) < 8
    · have hcall := HG.out wr k HT.out.2.is (by omega)
      have hle := there_len gt k
      have hz := HLn.out k
      have HZ := Lib.hid hz
      obtain ⟨d, hd⟩ : ∃ d, (gt k).2 = d := ⟨_, rfl⟩
      rw [hd] at hcall
      have HD := Lib.hid hd
      obtain ⟨v, hv⟩ : ∃ v, (gt k).1 = v := ⟨_, rfl⟩
      rw [hv] at hcall HZ
      have HVv := Lib.hid hv
      have HV0 := Lib.hid hV
      clear hV hd hz hv
      go_wp2_with fail
      refine hcall.mono ?_; rintro e w1 ⟨rfl, t1⟩
      have hV1 := Ct.offV HT.out.2.is t1 HV0.out (by decide)
      have T1 := Lib.hid (show Ct w K K C C src1 w1 from HT.out.2.trans t1 (fun _ m => .inl m) rfl (fun _ m _ => m))
      have HV1 := Lib.hid hV1
      clear hcall t1 hV1 HV0
      go_upto_region 6 with (first
        | (refine flatP.wpList_al rfl rfl ?_; intro w2 hb2 hk2 hs2; clear hs2)
        | (refine flatP.wpList_st rfl rfl rfl rfl (cellsI HZ.out) (cellsI rfl) hb2 ?_; intro w3 hb3 hk3 hs3; clear hs3))
      have T3 := Lib.hid ((T1.out.nob hk2).post hb2 (by decide) (by decide) T1.out.keep.size HP.out.1 (fun h0 => absurd h0 HP.out.2) hk3)
      have HV3 := Lib.hid ((HV1.out.nob hk2).keep hk3 (fun x hx e => by
        have := HV1.out.lt x hx
        omega))
      have HB3 := Lib.hid hb3
      clear hb2 hk2 hk3 hb3
      by_cases hd1 : d = 1
      · have hth : there gt (k + 1) = there gt k ++ [(k, v)] := by
          show (if (gt k).2 = 1 then there gt k ++ [(k, (gt k).1)] else there gt k) = _
          rw [HD.out, if_pos hd1, HVv.out]
        have HTh := Lib.hid hth
        have hvx := HV3.out
        have hln : (there gt k ++ [(k, v)]).length = (there gt k).length + 1 := by rw [List.length_append]; rfl
        have HLn2 := Lib.hid hln
        clear hth hln
        obtain ⟨cs, hcs⟩ : ∃ cs, Value.int .i64 ((k : Nat) : Int) :: ints v = cs := ⟨_, rfl⟩
        have hc1 := cellsRI (n := 16) (x := (k, v)) HZ.out
        rw [show rcI (k, v) = cs from hcs] at hc1
        have hbu := fun W => bu_rP (k : Int) v HZ.out W
        rw [hcs] at hbu
        have hbs := fun W => bs_rP cs hc1.len W
        have HC1 := Lib.hid hc1
        have HCS := Lib.hid hcs
        clear hc1 hcs
        have HBU := Lib.hid hbu
        have HBS := Lib.hid hbs
        clear hbu hbs hvx
        go_wp2_with (refine flatP.wpList_ld rfl rfl rfl (cellsI HZ.out) HB3.out ?_; refine wpList_bd2 rfl _ _ _ rfl _ _ _ rfl rfl (HBU.out w3) ?_; refine wpList_bs1 rfl _ 262 _ rfl cs rfl (HBS.out w3) ?_; intro w4 hb4 hk4 hs4; refine wpList_ap rfl _ _ 152 rfl 262 17 136 _ Tryz.underlying152 infF_rP rfl (by decide) A (there gt k).length cap _ rfl (HV3.out.nob hk4) (some ⟨w3.heap.size, 0, none⟩) 1 1 cs rfl 17 rfl (reads_all (n := 17) hb4 HC1.out.len) HC1.out.one (by unfold maxLen; omega) (by omega) ?_; intro A2 c2 w5 hv5 hk5 ho5)
        rw [← HCS.out] at hv5
        have T5 := Lib.hid (show Ct w K K C C src1 w5 by
          have t4 := T3.out.nob hk4
          have hown : ∀ x, Own A x → w.heap.size ≤ x := HT.out.1
          refine ⟨?_, t4.keep.trans hk5 (fun x hx m => absurd (hown x m) (by omega)), t4.mine⟩
          exact kc_row t4.is (HV3.out.nob hk4) (by decide) (by decide) (fun x m e => by have := hown x m; have := HP.out.1; omega) HP.out.2 hk5)
        have HF := Lib.hid (show ∀ x, Own A2 x → w.heap.size ≤ x from fun x m => by
          rcases ho5 x m with m | m
          · exact HT.out.1 x m
          · have := T3.out.keep.size
            have := hk4.size
            omega)
        clear hb4 hk4 hs4 hk5 ho5
        go_roundw
        case rel => exact ⟨k + 1, A2, c2, by omega, by go_num, by rw [HTh.out, HLn2.out], by rw [HTh.out, HLn2.out, rows_snoc]; exact hv5, Lib.hid ⟨HF.out, T5.out⟩⟩
        case measure => simp [intOf]; omega
      · have hth : there gt (k + 1) = there gt k := by
          show (if (gt k).2 = 1 then there gt k ++ [(k, (gt k).1)] else there gt k) = _
          rw [HD.out, if_neg hd1]
        have HTh := Lib.hid hth
        clear hth
        go_wp2_with fail
        go_roundw
        case rel => exact ⟨k + 1, A, cap, by omega, by go_num, by rw [HTh.out], by rw [HTh.out]; exact HV3.out, Lib.hid ⟨HT.out.1, T3.out⟩⟩
        case measure => simp [intOf]; omega
    · obtain rfl : k = 8 := by omega
      have HF := Lib.hid (And.intro hV HT.out)
      clear hV HT
      go_wp2
      go_ret
      exact ⟨A, cap, rfl, HF.out.1, HF.out.2⟩
end
end Go.Proofs.YtngchjejmnfanaaGreat.Au
namespace Go.Proofs.YtngchjejmnfanaaGreat.Au
open Go.RowKit Co
set_option linter.unusedVariables false
set_option linter.unusedSimpArgs false
section
variable {w : World} {K : Kn} {C : Cm} {b : List UInt8}
set_option maxRecDepth 100000 in
set_option maxHeartbeats 4000000 in
theorem readF_is (h : Kc w K C src1) (hx : K.xs = xsOf b) (hbr : C.brs = []) (hbad : C.bad = []) (hl : b.length = 492) (hg : AllGood b) :
    Calls Tryz.prog 78 #[.int .i64 12, .func (.func 48) #[.pointer (some ⟨C.p, 0, none⟩)] #[]] w fun e w' => ∃ A cap, e = .returned (.slice A (there (fAt b) 12).length cap) ∧ Vec w' 264 5 A (there (fAt b) 12).length cap (rows rcI (there (fAt b) 12)) ∧ (∀ x, Own A x → w.heap.size ≤ x) ∧ Ct w K K C C src1 w' := by
  have hnb : C.brs.length = 0 := by rw [hbr]; rfl
  have hget : ∀ W k, Kc W K C src1 → k < 12 → Calls Tryz.prog 48 #[.pointer (some ⟨C.p, 0, none⟩), .int .i64 (k : Nat)] W fun e w' => e = .returned (.tuple #[.agg (ints (fAt b k).1).toArray, .int .i64 (fAt b k).2]) ∧ Ct W K K C C src1 w' := fun W k hW hk => by
    have := file_is hW (k : Int) (wfk (by omega)) (fAt b k).1 (fAt b k).2 [] (by rw [hx, hnb, hbad]; exact rdF hl hg hk)
    rw [cm_same hbad] at this
    exact this
  have hlen : ∀ k, (fAt b k).1.length = 4 := fun k => Fi.dcd_len _
  have hp := h.c.lt.1
  have hT0 := Ct.still h (Keep.refl Nob w)
  have HG := Lib.hid hget
  have HP := Lib.hid (show C.p < w.heap.size ∧ ¬ (0 < C.brs.length) from ⟨hp, by omega⟩)
  have HLn := Lib.hid hlen
  generalize fAt b = gt at *
  have HT0 := Lib.hid hT0
  clear hget h hp hnb hlen hx hbr hbad hl hg hT0
  go_enter Tryz.func78, Tryz.ntmps78
  go_wp2_with fail
  go_loopw [5, 10] (fun s5 s10 wx => ∃ (k : Nat) (A : Option Addr) (cap : Nat), k ≤ 12 ∧ s10 = .int .i64 k ∧ s5 = .slice A (there gt k).length cap ∧ Vec wx 264 5 A (there gt k).length cap (rows rcI (there gt k)) ∧ Hid ((∀ x, Own A x → w.heap.size ≤ x) ∧ Ct w K K C C src1 wx)) (fun _ s10 _ => 12 - (intOf s10).toNat)
  case atStart => exact ⟨0, none, 0, Nat.zero_le _, rfl, rfl, Vec.nil _ _ _, Lib.hid ⟨fun x ⟨a, e, _⟩ => (by cases e), HT0.out⟩⟩
  case round =>
    obtain ⟨k, A, cap, hk, rfl, rfl, hV, HT⟩ := hrel
    by_cases hlt : (k : Int) < 12
    · have hcall := HG.out wr k HT.out.2.is (by omega)
      have hle := there_len gt k
      have hz := HLn.out k
      have HZ := Lib.hid hz
      obtain ⟨d, hd⟩ : ∃ d, (gt k).2 = d := ⟨_, rfl⟩
      rw [hd] at hcall
      have HD := Lib.hid hd
      obtain ⟨v, hv⟩ : ∃ v, (gt k).1 = v := ⟨_, rfl⟩
      rw [hv] at hcall HZ
      have HVv := Lib.hid hv
      have HV0 := Lib.hid hV
      clear hV hd hz hv
      go_wp2_with fail
      refine hcall.mono ?_; rintro e w1 ⟨rfl, t1⟩
      have hV1 := Ct.offV HT.out.2.is t1 HV0.out (by decide)
      have T1 := Lib.hid (show Ct w K K C C src1 w1 from HT.out.2.trans t1 (fun _ m => .inl m) rfl (fun _ m _ => m))
      have HV1 := Lib.hid hV1
      clear hcall t1 hV1 HV0
      go_upto_region 6 with (first
        | (refine flatF.wpList_al rfl rfl ?_; intro w2 hb2 hk2 hs2; clear hs2)
        | (refine flatF.wpList_st rfl rfl rfl rfl (cellsI HZ.out) (cellsI rfl) hb2 ?_; intro w3 hb3 hk3 hs3; clear hs3))
      have T3 := Lib.hid ((T1.out.nob hk2).post hb2 (by decide) (by decide) T1.out.keep.size HP.out.1 (fun h0 => absurd h0 HP.out.2) hk3)
      have HV3 := Lib.hid ((HV1.out.nob hk2).keep hk3 (fun x hx e => by
        have := HV1.out.lt x hx
        omega))
      have HB3 := Lib.hid hb3
      clear hb2 hk2 hk3 hb3
      by_cases hd1 : d = 1
      · have hth : there gt (k + 1) = there gt k ++ [(k, v)] := by
          show (if (gt k).2 = 1 then there gt k ++ [(k, (gt k).1)] else there gt k) = _
          rw [HD.out, if_pos hd1, HVv.out]
        have HTh := Lib.hid hth
        have hvx := HV3.out
        have hln : (there gt k ++ [(k, v)]).length = (there gt k).length + 1 := by rw [List.length_append]; rfl
        have HLn2 := Lib.hid hln
        clear hth hln
        obtain ⟨cs, hcs⟩ : ∃ cs, Value.int .i64 ((k : Nat) : Int) :: ints v = cs := ⟨_, rfl⟩
        have hc1 := cellsRI (n := 4) (x := (k, v)) HZ.out
        rw [show rcI (k, v) = cs from hcs] at hc1
        have hbu := fun W => bu_rF (k : Int) v HZ.out W
        rw [hcs] at hbu
        have hbs := fun W => bs_rF cs hc1.len W
        have HC1 := Lib.hid hc1
        have HCS := Lib.hid hcs
        clear hc1 hcs
        have HBU := Lib.hid hbu
        have HBS := Lib.hid hbs
        clear hbu hbs hvx
        go_wp2_with (refine flatF.wpList_ld rfl rfl rfl (cellsI HZ.out) HB3.out ?_; refine wpList_bd2 rfl _ _ _ rfl _ _ _ rfl rfl (HBU.out w3) ?_; refine wpList_bs1 rfl _ 264 _ rfl cs rfl (HBS.out w3) ?_; intro w4 hb4 hk4 hs4; refine wpList_ap rfl _ _ 154 rfl 264 5 40 _ Tryz.underlying154 infF_rF rfl (by decide) A (there gt k).length cap _ rfl (HV3.out.nob hk4) (some ⟨w3.heap.size, 0, none⟩) 1 1 cs rfl 5 rfl (reads_all (n := 5) hb4 HC1.out.len) HC1.out.one (by unfold maxLen; omega) (by omega) ?_; intro A2 c2 w5 hv5 hk5 ho5)
        rw [← HCS.out] at hv5
        have T5 := Lib.hid (show Ct w K K C C src1 w5 by
          have t4 := T3.out.nob hk4
          have hown : ∀ x, Own A x → w.heap.size ≤ x := HT.out.1
          refine ⟨?_, t4.keep.trans hk5 (fun x hx m => absurd (hown x m) (by omega)), t4.mine⟩
          exact kc_row t4.is (HV3.out.nob hk4) (by decide) (by decide) (fun x m e => by have := hown x m; have := HP.out.1; omega) HP.out.2 hk5)
        have HF := Lib.hid (show ∀ x, Own A2 x → w.heap.size ≤ x from fun x m => by
          rcases ho5 x m with m | m
          · exact HT.out.1 x m
          · have := T3.out.keep.size
            have := hk4.size
            omega)
        clear hb4 hk4 hs4 hk5 ho5
        go_roundw
        case rel => exact ⟨k + 1, A2, c2, by omega, by go_num, by rw [HTh.out, HLn2.out], by rw [HTh.out, HLn2.out, rows_snoc]; exact hv5, Lib.hid ⟨HF.out, T5.out⟩⟩
        case measure => simp [intOf]; omega
      · have hth : there gt (k + 1) = there gt k := by
          show (if (gt k).2 = 1 then there gt k ++ [(k, (gt k).1)] else there gt k) = _
          rw [HD.out, if_neg hd1]
        have HTh := Lib.hid hth
        clear hth
        go_wp2_with fail
        go_roundw
        case rel => exact ⟨k + 1, A, cap, by omega, by go_num, by rw [HTh.out], by rw [HTh.out]; exact HV3.out, Lib.hid ⟨HT.out.1, T3.out⟩⟩
        case measure => simp [intOf]; omega
    · obtain rfl : k = 12 := by omega
      have HF := Lib.hid (And.intro hV HT.out)
      clear hV HT
      go_wp2
      go_ret
      exact ⟨A, cap, rfl, HF.out.1, HF.out.2⟩
end
end Go.Proofs.YtngchjejmnfanaaGreat.Au
namespace Go.Proofs.YtngchjejmnfanaaGreat.Au
open Go.RowKit Co
set_option linter.unusedVariables false
set_option linter.unusedSimpArgs false
section
variable {w : World} {K : Kn} {C : Cm} {b : List UInt8}
set_option maxRecDepth 100000 in
set_option maxHeartbeats 4000000 in
theorem readR_is (h : Kc w K C src1) (hx : K.xs = xsOf b) (hbr : C.brs = []) (hbad : C.bad = []) (hl : b.length = 492) (hg : AllGood b) :
    Calls Tryz.prog 79 #[.int .i64 4, .func (.func 54) #[.pointer (some ⟨C.p, 0, none⟩)] #[]] w fun e w' => ∃ A cap, e = .returned (.slice A (there (rAt b) 4).length cap) ∧ Vec w' 266 37 A (there (rAt b) 4).length cap (rows rcR (there (rAt b) 4)) ∧ (∀ x, Own A x → w.heap.size ≤ x) ∧ Ct w K K C C src1 w' := by
  have hnb : C.brs.length = 0 := by rw [hbr]; rfl
  have hget : ∀ W k, Kc W K C src1 → k < 4 → Calls Tryz.prog 54 #[.pointer (some ⟨C.p, 0, none⟩), .int .i64 (k : Nat)] W fun e w' => e = .returned (.tuple #[.agg (Ri.pc (rAt b k).1).toArray, .int .i64 (rAt b k).2]) ∧ Ct W K K C C src1 w' := fun W k hW hk => by
    have := pipe_is hW (k : Int) (wfk (by omega)) (rAt b k).1 (rAt b k).2 [] (by rw [hx, hnb, hbad]; exact rdR hl hg hk)
    rw [cm_same hbad] at this
    exact this
  have hlen : ∀ k, (rAt b k).1.d.length = 32 := fun k => Ri.dcd_len _
  have hp := h.c.lt.1
  have hT0 := Ct.still h (Keep.refl Nob w)
  have HG := Lib.hid hget
  have HP := Lib.hid (show C.p < w.heap.size ∧ ¬ (0 < C.brs.length) from ⟨hp, by omega⟩)
  have HLn := Lib.hid hlen
  generalize rAt b = gt at *
  have HT0 := Lib.hid hT0
  clear hget h hp hnb hlen hx hbr hbad hl hg hT0
  go_enter Tryz.func79, Tryz.ntmps79
  go_wp2_with fail
  go_loopw [5, 10] (fun s5 s10 wx => ∃ (k : Nat) (A : Option Addr) (cap : Nat), k ≤ 4 ∧ s10 = .int .i64 k ∧ s5 = .slice A (there gt k).length cap ∧ Vec wx 266 37 A (there gt k).length cap (rows rcR (there gt k)) ∧ Hid ((∀ x, Own A x → w.heap.size ≤ x) ∧ Ct w K K C C src1 wx)) (fun _ s10 _ => 4 - (intOf s10).toNat)
  case atStart => exact ⟨0, none, 0, Nat.zero_le _, rfl, rfl, Vec.nil _ _ _, Lib.hid ⟨fun x ⟨a, e, _⟩ => (by cases e), HT0.out⟩⟩
  case round =>
    obtain ⟨k, A, cap, hk, rfl, rfl, hV, HT⟩ := hrel
    by_cases hlt : (k : Int) < 4
    · have hcall := HG.out wr k HT.out.2.is (by omega)
      have hle := there_len gt k
      have hz := HLn.out k
      have HZ := Lib.hid hz
      obtain ⟨d, hd⟩ : ∃ d, (gt k).2 = d := ⟨_, rfl⟩
      rw [hd] at hcall
      have HD := Lib.hid hd
      obtain ⟨v, hv⟩ : ∃ v, (gt k).1 = v := ⟨_, rfl⟩
      rw [hv] at hcall HZ
      have HVv := Lib.hid hv
      have HV0 := Lib.hid hV
      clear hV hd hz hv
      go_wp2_with fail
      refine hcall.mono ?_; rintro e w1 ⟨rfl, t1⟩
      have hV1 := Ct.offV HT.out.2.is t1 HV0.out (by decide)
      have T1 := Lib.hid (show Ct w K K C C src1 w1 from HT.out.2.trans t1 (fun _ m => .inl m) rfl (fun _ m _ => m))
      have HV1 := Lib.hid hV1
      clear hcall t1 hV1 HV0
      go_upto_region 6 with (first
        | (refine flatR.wpList_al rfl rfl ?_; intro w2 hb2 hk2 hs2; clear hs2)
        | (refine flatR.wpList_st rfl rfl rfl rfl (cellsR HZ.out) (cellsR rfl) hb2 ?_; intro w3 hb3 hk3 hs3; clear hs3))
      have T3 := Lib.hid ((T1.out.nob hk2).post hb2 (by decide) (by decide) T1.out.keep.size HP.out.1 (fun h0 => absurd h0 HP.out.2) hk3)
      have HV3 := Lib.hid ((HV1.out.nob hk2).keep hk3 (fun x hx e => by
        have := HV1.out.lt x hx
        omega))
      have HB3 := Lib.hid hb3
      clear hb2 hk2 hk3 hb3
      by_cases hd1 : d = 1
      · have hth : there gt (k + 1) = there gt k ++ [(k, v)] := by
          show (if (gt k).2 = 1 then there gt k ++ [(k, (gt k).1)] else there gt k) = _
          rw [HD.out, if_pos hd1, HVv.out]
        have HTh := Lib.hid hth
        have hvx := HV3.out
        have hln : (there gt k ++ [(k, v)]).length = (there gt k).length + 1 := by rw [List.length_append]; rfl
        have HLn2 := Lib.hid hln
        clear hth hln
        obtain ⟨cs, hcs⟩ : ∃ cs, Value.int .i64 ((k : Nat) : Int) :: Ri.pc v = cs := ⟨_, rfl⟩
        have hc1 := cellsRR (x := (k, v)) HZ.out
        rw [show rcR (k, v) = cs from hcs] at hc1
        have hbu := fun W => bu_rR (k : Int) v HZ.out W
        rw [hcs] at hbu
        have hbs := fun W => bs_rR cs hc1.len W
        have HC1 := Lib.hid hc1
        have HCS := Lib.hid hcs
        clear hc1 hcs
        have HBU := Lib.hid hbu
        have HBS := Lib.hid hbs
        clear hbu hbs hvx
        go_wp2_with (refine flatR.wpList_ld rfl rfl rfl (cellsR HZ.out) HB3.out ?_; refine wpList_bd2 rfl _ _ _ rfl _ _ _ rfl rfl (HBU.out w3) ?_; refine wpList_bs1 rfl _ 266 _ rfl cs rfl (HBS.out w3) ?_; intro w4 hb4 hk4 hs4; refine wpList_ap rfl _ _ 156 rfl 266 37 72 _ Tryz.underlying156 infF_rR rfl (by decide) A (there gt k).length cap _ rfl (HV3.out.nob hk4) (some ⟨w3.heap.size, 0, none⟩) 1 1 cs rfl 37 rfl (reads_all (n := 37) hb4 HC1.out.len) HC1.out.one (by unfold maxLen; omega) (by omega) ?_; intro A2 c2 w5 hv5 hk5 ho5)
        rw [← HCS.out] at hv5
        have T5 := Lib.hid (show Ct w K K C C src1 w5 by
          have t4 := T3.out.nob hk4
          have hown : ∀ x, Own A x → w.heap.size ≤ x := HT.out.1
          refine ⟨?_, t4.keep.trans hk5 (fun x hx m => absurd (hown x m) (by omega)), t4.mine⟩
          exact kc_row t4.is (HV3.out.nob hk4) (by decide) (by decide) (fun x m e => by have := hown x m; have := HP.out.1; omega) HP.out.2 hk5)
        have HF := Lib.hid (show ∀ x, Own A2 x → w.heap.size ≤ x from fun x m => by
          rcases ho5 x m with m | m
          · exact HT.out.1 x m
          · have := T3.out.keep.size
            have := hk4.size
            omega)
        clear hb4 hk4 hs4 hk5 ho5
        go_roundw
        case rel => exact ⟨k + 1, A2, c2, by omega, by go_num, by rw [HTh.out, HLn2.out], by rw [HTh.out, HLn2.out, rows_snoc]; exact hv5, Lib.hid ⟨HF.out, T5.out⟩⟩
        case measure => simp [intOf]; omega
      · have hth : there gt (k + 1) = there gt k := by
          show (if (gt k).2 = 1 then there gt k ++ [(k, (gt k).1)] else there gt k) = _
          rw [HD.out, if_neg hd1]
        have HTh := Lib.hid hth
        clear hth
        go_wp2_with fail
        go_roundw
        case rel => exact ⟨k + 1, A, cap, by omega, by go_num, by rw [HTh.out], by rw [HTh.out]; exact HV3.out, Lib.hid ⟨HT.out.1, T3.out⟩⟩
        case measure => simp [intOf]; omega
    · obtain rfl : k = 4 := by omega
      have HF := Lib.hid (And.intro hV HT.out)
      clear hV HT
      go_wp2
      go_ret
      exact ⟨A, cap, rfl, HF.out.1, HF.out.2⟩
end
end Go.Proofs.YtngchjejmnfanaaGreat.Au
namespace Go.Proofs.YtngchjejmnfanaaGreat.Au
open Go.RowKit Co
set_option linter.unusedVariables false
set_option linter.unusedSimpArgs false
def sParent : ByteArray := ⟨#[112, 97, 114, 101, 110, 116]⟩
def sFd : ByteArray := ⟨#[102, 100]⟩
def sRefs : ByteArray := ⟨#[114, 101, 102, 115]⟩
def sPipe : ByteArray := ⟨#[112, 105, 112, 101]⟩
def sEnds : ByteArray := ⟨#[101, 110, 100, 115]⟩
def sBad : ByteArray := ⟨#[98, 97, 100]⟩
def told (l : List (ByteArray × Bool)) : List ByteArray := (l.filter (·.2)).map (·.1)
def strs (l : List ByteArray) : List Value := l.map Value.string
def PP (b : List UInt8) : List (Nat × List Int) := there (pAt b) 8
def FF (b : List UInt8) : List (Nat × List Int) := there (fAt b) 12
def RR (b : List UInt8) : List (Nat × Ri.Pp) := there (rAt b) 4
/-- The five questions, each with its word. -/
def five (v0 v1 v2 v3 v4 : Bool) : List (ByteArray × Bool) := [(sParent, v0), (sFd, v1), (sRefs, v2), (sPipe, v3), (sEnds, v4)]
def asked (b : List UInt8) : List (ByteArray × Bool) := five ((PP b).any (lpB (PP b))) ((PP b).any (lfB (FF b))) ((FF b).any (wrB (PP b))) ((FF b).any (lqB (RR b))) ((RR b).any (weB (FF b)))
def faultsOf (b : List UInt8) : List ByteArray := if b.length = 492 ∧ bads b = [] then told (asked b) else [sBad]
theorem told_take {l : List (ByteArray × Bool)} {k : Nat} {s : ByteArray} {v : Bool} (h : l[k]? = some (s, v)) : told (l.take (k + 1)) = told (l.take k) ++ (if v then [s] else []) := by
  unfold told
  rw [List.take_add_one, h, List.filter_append, List.map_append]
  cases v <;> rfl
theorem told_le {l : List (ByteArray × Bool)} (k : Nat) : (told (l.take k)).length ≤ k := by
  unfold told
  rw [List.length_map]
  exact Nat.le_trans (List.length_filter_le _ _) (by rw [List.length_take]; omega)
theorem small_P {v : List Int} (hl : v.length = 16) (h : Cd.okd v = true) : ∀ x ∈ v, 0 ≤ x ∧ x ≤ 65535 := by
  have B := Cd.okd_bounds h
  obtain ⟨a0, a1, a2, a3, a4, a5, a6, a7, f0, f1, f2, f3, f4, f5, f6, f7, rfl⟩ := Cd.split16 hl
  have b0 := B.s
  have b1 := B.pa
  have b2 := B.g
  have b3 := B.c
  have b4 := B.pe
  have b5 := B.m
  have b6 := B.i
  have b7 := B.ca
  have bf := B.f
  simp only [List.getD_cons_zero, List.getD_cons_succ] at b0 b1 b2 b3 b4 b5 b6 b7
  intro x hx
  by_cases hd : x ∈ [a0, a1, a2, a3, a4, a5, a6, a7, f0, f1, f2, f3, f4, f5, f6, f7].drop 8
  · have := bf x hd; omega
  · simp only [List.drop_succ_cons, List.drop_zero] at hd
    simp only [List.mem_cons, List.not_mem_nil, or_false] at hx hd
    omega
theorem small_F {v : List Int} (hl : v.length = 4) (h : Fi.okd v = true) : ∀ x ∈ v, 0 ≤ x ∧ x ≤ 65535 := by
  have B := Fi.okd_bounds h
  obtain ⟨a0, a1, a2, a3, rfl⟩ := Fi.split4 hl
  have b0 := B.k
  have b1 := B.pi
  have b2 := B.r
  have b3 := B.f
  simp only [List.getD_cons_zero, List.getD_cons_succ] at b0 b1 b2 b3
  intro x hx
  simp only [List.mem_cons, List.not_mem_nil, or_false] at hx
  omega
theorem PP_ok {b : List UInt8} : ∀ x ∈ PP b, x.1 < 8 ∧ x.2.length = 16 ∧ ∀ v ∈ x.2, 0 ≤ v ∧ v ≤ 65535 := fun x hx => by
  obtain ⟨h1, h2, h3⟩ := there_mem.1 hx
  have hd : Cd.dcd ((b.drop (24 * x.1)).take 24) = (x.2, 1) := Prod.ext h3 h2
  obtain ⟨g1, g2, _⟩ := Cd.dcd_good hd
  exact ⟨h1, g1, small_P g1 g2⟩
theorem FF_ok {b : List UInt8} : ∀ x ∈ FF b, x.1 < 12 ∧ x.2.length = 4 ∧ ∀ v ∈ x.2, 0 ≤ v ∧ v ≤ 65535 := fun x hx => by
  obtain ⟨h1, h2, h3⟩ := there_mem.1 hx
  have hd : Fi.dcd ((b.drop (192 + 8 * x.1)).take 8) = (x.2, 1) := Prod.ext h3 h2
  obtain ⟨g1, g2, _⟩ := Fi.dcd_good hd
  exact ⟨h1, g1, small_F g1 g2⟩
theorem ri_good {l : List UInt8} {v : Ri.Pp} (h : Ri.dcd l = (v, 1)) : Ri.okd v = true := by
  unfold Ri.dcd at h
  repeat' split at h
  all_goals first | (simp only [Prod.mk.injEq] at h; exact absurd h.2 (by decide)) | skip
  rename_i hg
  simp only [Prod.mk.injEq, and_true] at h
  subst h
  unfold Ri.gd at hg
  rw [Bool.and_eq_true] at hg
  exact hg.1
theorem RR_ok {b : List UInt8} : ∀ x ∈ RR b, x.1 < 4 ∧ x.2.d.length = 32 ∧ 0 ≤ x.2.r ∧ x.2.r ≤ 65535 ∧ 0 ≤ x.2.s ∧ x.2.s ≤ 65535 := fun x hx => by
  obtain ⟨h1, h2, h3⟩ := there_mem.1 hx
  have hd : Ri.dcd ((b.drop (288 + 40 * x.1)).take 40) = (x.2, 1) := Prod.ext h3 h2
  have hl := Ri.dcd_len ((b.drop (288 + 40 * x.1)).take 40)
  rw [hd] at hl
  have B := Ri.okd_bounds (ri_good hd)
  have := B.r
  have := B.s
  exact ⟨h1, hl, by omega, by omega, by omega, by omega⟩
theorem ses_of {w : World} {b : List UInt8} {Ap Af Ar : Option Addr} {cp cf cr : Nat} (h1 : Vec w 262 17 Ap (PP b).length cp (rows rcI (PP b))) (h2 : Vec w 264 5 Af (FF b).length cf (rows rcI (FF b))) (h3 : Vec w 266 37 Ar (RR b).length cr (rows rcR (RR b))) : IsSes w ⟨Ap, cp, PP b, Af, cf, FF b, Ar, cr, RR b⟩ :=
  ⟨h1.reads, h2.reads, h3.reads, there_len _ _, there_len _ _, there_len _ _, PP_ok, FF_ok, RR_ok⟩
theorem al_ft (W : World) : (Instr.alloc 160 true (.tuple #[])).run Tryz.prog W = .ok (.pointer (some ⟨W.heap.size, 0, none⟩)) (W.alloc (.cells #[.string ⟨#[]⟩, .bool false] 160)) := by
  go_simp
  try rfl
theorem info_ft : (Tryz.prog.info? 160).map (·.size) = some 2 := by kernel_rfl
theorem flat_ft : Flat 160 2 [.string ⟨#[]⟩, .bool false] := ⟨⟨_, Tryz.underlying160, rfl⟩, info_ft, al_ft, rfl⟩
theorem info_str : (Tryz.prog.info? 9).map (fun i => (i.zero, i.size, i.bytes)) = some (some (.string ⟨#[]⟩), 1, 16) := by kernel_rfl
def fcells (l : List (ByteArray × Bool)) : List Value := (l.map fun x => [Value.string x.1, Value.bool x.2]).flatten
theorem fcells_get {l : List (ByteArray × Bool)} {k j : Nat} {x : ByteArray × Bool} (h : l[k]? = some x) (hj : j < 2) : (fcells l)[k * 2 + j]? = [Value.string x.1, Value.bool x.2][j]? := by
  have := flatten_get (l.map fun x => [Value.string x.1, Value.bool x.2]) (fun c hc => by obtain ⟨x, _, rfl⟩ := List.mem_map.1 hc; rfl) k j hj
  rw [List.getElem?_map, h] at this
  exact this
end Go.Proofs.YtngchjejmnfanaaGreat.Au
namespace Go.Proofs.YtngchjejmnfanaaGreat.Au
open Go.RowKit Co
set_option linter.unusedVariables false
set_option linter.unusedSimpArgs false
set_option maxRecDepth 100000 in
set_option maxHeartbeats 8000000 in
theorem faults_is {w : World} (A : Option Addr) (n c : Nat) (b : List UInt8) (hb : Reads w A n (bytes b)) :
    Calls Tryz.prog 22 #[.slice A n c] w fun e w' => ∃ B cap, e = .returned (.slice B (faultsOf b).length cap) ∧ Reads w' B (faultsOf b).length (strs (faultsOf b)) ∧ Keep (From w.heap.size) w w' := by
  have hl : b.length = n := by have := hb.1; simpa [bytes] using this
  by_cases h : n = 492
  · subst h
    have hlk := looked_is A c b hb hl
    by_cases hg : bads b = []
    · have e : faultsOf b = told (asked b) := if_pos ⟨hl, hg⟩
      rw [e]
      obtain ⟨v0, hv0⟩ : ∃ v, (PP b).any (lpB (PP b)) = v := ⟨_, rfl⟩
      obtain ⟨v1, hv1⟩ : ∃ v, (PP b).any (lfB (FF b)) = v := ⟨_, rfl⟩
      obtain ⟨v2, hv2⟩ : ∃ v, (FF b).any (wrB (PP b)) = v := ⟨_, rfl⟩
      obtain ⟨v3, hv3⟩ : ∃ v, (FF b).any (lqB (RR b)) = v := ⟨_, rfl⟩
      obtain ⟨v4, hv4⟩ : ∃ v, (RR b).any (weB (FF b)) = v := ⟨_, rfl⟩
      have hask : asked b = five v0 v1 v2 v3 v4 := by unfold asked; rw [hv0, hv1, hv2, hv3, hv4]
      rw [hask]
      have HVs := Lib.hid (And.intro hv0 (And.intro hv1 (And.intro hv2 (And.intro hv3 hv4))))
      clear hv0 hv1 hv2 hv3 hv4 hask
      have G := good_of hg
      rw [hg] at hlk
      have HG := Lib.hid G
      have HL := Lib.hid hl
      clear hb e G hg hl
      go_enter Tryz.func22, Tryz.ntmps22
      go_wp2_with fail
      refine hlk.mono ?_; rintro e w1 ⟨K, C, B, cap, rfl, O, hv⟩
      have HO := Lib.hid O
      have hr1 := readP_is O.op.kc O.xs O.brs O.bad HL.out HG.out
      rw [show there (pAt b) 8 = PP b from rfl] at hr1
      clear hlk hv O
      go_wp2_with fail
      refine hr1.mono ?_; rintro e w2 ⟨Ap, cp, rfl, hv1, hf1, t1⟩
      have O2 := Lib.hid (HO.out.op.ct t1 rfl)
      have hr2 := readF_is O2.out.kc HO.out.xs HO.out.brs HO.out.bad HL.out HG.out
      rw [show there (fAt b) 12 = FF b from rfl] at hr2
      have HV1 := Lib.hid hv1
      clear hr1 t1 hv1 hf1
      go_wp2_with fail
      refine hr2.mono ?_; rintro e w3 ⟨Af, cf, rfl, hv2, hf2, t2⟩
      have HV2 := Lib.hid (And.intro (Ct.offV O2.out.kc t2 HV1.out (by decide)) hv2)
      have O3 := Lib.hid (O2.out.ct t2 rfl)
      have hr3 := readR_is O3.out.kc HO.out.xs HO.out.brs HO.out.bad HL.out HG.out
      rw [show there (rAt b) 4 = RR b from rfl] at hr3
      clear hr2 t2 hv2 hf2
      go_wp2_with fail
      refine hr3.mono ?_; rintro e w4 ⟨Ar, cr, rfl, hv3, hf3, t3⟩
      have HS := Lib.hid (ses_of (b := b) (Ct.offV O3.out.kc t3 HV2.out.1 (by decide)) (Ct.offV O3.out.kc t3 HV2.out.2 (by decide)) hv3)
      have K4 := Lib.hid (O3.out.ct t3 rfl).keep
      clear hr3 t3 hv3 hf3
      -- the questions
      have hq0 := fun W (k : Keep Nob w4 W) => hLP_is (HS.out.nob k)
      have hq1 := fun W (k : Keep Nob w4 W) => hLF_is (HS.out.nob k)
      have hq2 := fun W (k : Keep Nob w4 W) => hWR_is (HS.out.nob k)
      have hq3 := fun W (k : Keep Nob w4 W) => hLQ_is (HS.out.nob k)
      have hq4 := fun W (k : Keep Nob w4 W) => hWE_is (HS.out.nob k)
      unfold Ses.val at hq0 hq1 hq2 hq3 hq4
      dsimp only at hq0 hq1 hq2 hq3 hq4
      rw [HVs.out.1] at hq0
      rw [HVs.out.2.1] at hq1
      rw [HVs.out.2.2.1] at hq2
      rw [HVs.out.2.2.2.1] at hq3
      rw [HVs.out.2.2.2.2] at hq4
      have Q0 := Lib.hid hq0
      have Q1 := Lib.hid hq1
      have Q2 := Lib.hid hq2
      have Q3 := Lib.hid hq3
      have Q4 := Lib.hid hq4
      generalize (PP b).length = lp at *
      generalize (FF b).length = lf at *
      generalize (RR b).length = lr at *
      clear hq0 hq1 hq2 hq3 hq4 HVs HV1 HV2 HG HL HO O2 O3 HS
      go_upto_region 6 with fail
      generalize hw5 : w4.alloc (.cells #[.slice Ap lp cp, .slice Af lf cf, .slice Ar lr cr] 159) = w5 at *
      have k5 : Keep Nob w4 w5 := by rw [← hw5]; exact (Keep.refl Nob w4).alloc _
      have b5 : Blk w5 w4.heap.size 159 [.slice Ap lp cp, .slice Af lf cf, .slice Ar lr cr] := by rw [← hw5]; exact Blk.new w4 159 _
      have K5 := Lib.hid k5
      have SF := Lib.hid (show ∀ W, Keep Nob w5 W → W.cell? ⟨w4.heap.size, 0, none⟩ = some (.slice Ap lp cp) ∧ W.cell? ⟨w4.heap.size, 1, none⟩ = some (.slice Af lf cf) ∧ W.cell? ⟨w4.heap.size, 2, none⟩ = some (.slice Ar lr cr) from fun W k => ⟨(b5.nob k).cell 0, (b5.nob k).cell 1, (b5.nob k).cell 2⟩)
      have s0 := SF.out _ (Keep.nobdrew w5)
      have hc0 := Q0.out _ (k5.nobt (Keep.nobdrew w5))
      clear hw5 k5 b5
      go_region_held3 (fun w' => w'.cell? ⟨w4.heap.size, 0, none⟩ = some (.slice Ap lp cp) ∧ w'.cell? ⟨w4.heap.size, 1, none⟩ = some (.slice Af lf cf) ∧ w'.cell? ⟨w4.heap.size, 2, none⟩ = some (.slice Ar lr cr))
        (first | exact s5 | exact s4 | exact s3 | exact s2 | exact s1 | exact s0 | exact SF.out _ (K10.out.alloc _))
        (first
          | (go_at_call 80; with_reducible_and_instances apply Calls.mono hc0; rintro e x0 ⟨rfl, y0⟩; have K6 := Lib.hid ((Keep.nobdrew w5).nobt y0); have s1 := SF.out _ K6.out; have hc1 := Q1.out _ (K5.out.nobt K6.out))
          | (go_at_call 81; with_reducible_and_instances apply Calls.mono hc1; rintro e x1 ⟨rfl, y1⟩; have K7 := Lib.hid (K6.out.nobt y1); have s2 := SF.out _ K7.out; have hc2 := Q2.out _ (K5.out.nobt K7.out))
          | (go_at_call 82; with_reducible_and_instances apply Calls.mono hc2; rintro e x2 ⟨rfl, y2⟩; have K8 := Lib.hid (K7.out.nobt y2); have s3 := SF.out _ K8.out; have hc3 := Q3.out _ (K5.out.nobt K8.out))
          | (go_at_call 83; with_reducible_and_instances apply Calls.mono hc3; rintro e x3 ⟨rfl, y3⟩; have K9 := Lib.hid (K8.out.nobt y3); have s4 := SF.out _ K9.out; have hc4 := Q4.out _ (K5.out.nobt K9.out))
          | (go_at_call 84; with_reducible_and_instances apply Calls.mono hc4; rintro e x4 ⟨rfl, y4⟩; have K10 := Lib.hid (K9.out.nobt y4); have s5 := SF.out _ K10.out))
      have bA : Blk (x4.alloc (.cells #[.string { data := #[112, 97, 114, 101, 110, 116] }, .bool v0, .string { data := #[102, 100] }, .bool v1, .string { data := #[114, 101, 102, 115] }, .bool v2, .string { data := #[112, 105, 112, 101] }, .bool v3, .string { data := #[101, 110, 100, 115] }, .bool v4] 160)) x4.heap.size 160 (fcells (five v0 v1 v2 v3 v4)) := Blk.new x4 160 _
      have kA : Keep (From w.heap.size) w (x4.alloc (.cells #[.string { data := #[112, 97, 114, 101, 110, 116] }, .bool v0, .string { data := #[102, 100] }, .bool v1, .string { data := #[114, 101, 102, 115] }, .bool v2, .string { data := #[112, 105, 112, 101] }, .bool v3, .string { data := #[101, 110, 100, 115] }, .bool v4] 160)) := K4.out.nob ((K5.out.nobt K10.out).alloc _)
      have HA := Lib.hid (And.intro bA kA)
      have HFl := Lib.hid (show (five v0 v1 v2 v3 v4).length = 5 from rfl)
      clear s0 s1 s2 s3 s4 s5 hc0 hc1 hc2 hc3 hc4 y0 y1 y2 y3 y4 bA kA K4 K5 K6 K7 K8 K9 K10 Q0 Q1 Q2 Q3 Q4 SF
      generalize x4.alloc (.cells #[.string { data := #[112, 97, 114, 101, 110, 116] }, .bool v0, .string { data := #[102, 100] }, .bool v1, .string { data := #[114, 101, 102, 115] }, .bool v2, .string { data := #[112, 105, 112, 101] }, .bool v3, .string { data := #[101, 110, 100, 115] }, .bool v4] 160) = wA at *
      generalize x4.heap.size = g at *
      generalize hfl : five v0 v1 v2 v3 v4 = fl at *
      have HFL := Lib.hid hfl
      clear hfl
      go_wp2_with fail
      go_loopw [6, 45] (fun s6 s45 wx => ∃ (k : Nat) (D : Option Addr) (cd : Nat), k ≤ 5 ∧ s45 = .int .i64 k ∧ s6 = .slice D (told (fl.take k)).length cd ∧ Vec wx 9 1 D (told (fl.take k)).length cd (strs (told (fl.take k))) ∧ Hid ((∀ x, Own D x → w.heap.size ≤ x ∧ x ≠ g) ∧ Keep (From w.heap.size) w wx ∧ Blk wx g 160 (fcells fl))) (fun _ s45 _ => 5 - (intOf s45).toNat)
      case atStart => exact ⟨0, none, 0, Nat.zero_le _, rfl, rfl, Vec.nil _ _ _, Lib.hid ⟨fun x ⟨a, e, _⟩ => (by cases e), HA.out.2, HA.out.1⟩⟩
      case round =>
        obtain ⟨k, D, cd, hk, rfl, rfl, hV, HB⟩ := hrel
        by_cases hlt : (k : Int) < 5
        · obtain ⟨⟨s, v⟩, hx⟩ : ∃ x, fl[k]? = some x := ⟨_, List.getElem?_eq_getElem (by rw [HFl.out]; omega)⟩
          have hle := told_le (l := fl) k
          have htk := told_take hx
          have HM := Lib.hid (show wr.rangeAt g (k * 2) [.string s, .bool v] from fun j u hu => by
            have hj : j < 2 := (List.getElem?_eq_some_iff.1 hu).1
            exact (HB.out.2.2.cell (k * 2 + j)).trans ((fcells_get hx hj).trans hu))
          have HTk := Lib.hid htk
          have HV := Lib.hid hV
          have HFt := Lib.hid (show Cells 2 [.string s, .bool v] from ⟨rfl, fun u hu => by simp at hu; rcases hu with rfl | rfl <;> rfl⟩)
          have HF0 := Lib.hid (show Cells 2 [.string ⟨#[]⟩, .bool false] from ⟨rfl, fun u hu => by simp at hu; rcases hu with rfl | rfl <;> rfl⟩)
          have HIf := Lib.hid info_ft
          clear htk hx hV
          go_upto_region 9 with (first
            | (refine wpList_load_mid rfl 160 _ rfl g (k * 2) rfl [.string s, .bool v] _ HM.out Tryz.underlying160 rfl HIf.out ?_)
            | (refine flat_ft.wpList_al rfl rfl ?_; intro w2 hb2 hk2 hs2; clear hs2)
            | (refine flat_ft.wpList_st rfl rfl rfl rfl HFt.out HF0.out hb2 ?_; intro w3 hb3 hk3 hs3; clear hs3))
          have z0 : w3.cell? ⟨wr.heap.size, 0, none⟩ = some (.string s) := hb3.cell 0
          have z1 : w3.cell? ⟨wr.heap.size, 1, none⟩ = some (.bool v) := hb3.cell 1
          have H3 := Lib.hid (show Vec w3 9 1 D (told (fl.take k)).length cd (strs (told (fl.take k))) ∧ Keep (From w.heap.size) w w3 ∧ Blk w3 g 160 (fcells fl) from
            ⟨(HV.out.nob hk2).keep hk3 (fun x hx e => by have := HV.out.lt x hx; omega), (HB.out.2.1.nob hk2).at_ hk3 HB.out.2.1.size, (HB.out.2.2.nob hk2).keep hk3 (fun e => by have := HB.out.2.2.lt; omega)⟩)
          clear hb2 hk2 hb3 hk3
          cases v with
          | true =>
            have hvx := H3.out.1.nob ((Keep.refl Nob w3).alloc (.cells #[.string s] 9))
            have hr4 := reads_all (n := 1) (Blk.new w3 9 [.string s]) rfl
            go_wp2_with (at_builtin; go_loud (refine wpList_ap rfl _ _ 76 rfl 9 1 16 _ Tryz.underlying76 info_str rfl (by decide) D (told (fl.take k)).length cd _ rfl hvx (some ⟨w3.heap.size, 0, none⟩) 1 1 [.string s] rfl 1 rfl hr4 (fun u hu => by simp at hu; subst hu; rfl) (by unfold maxLen; omega) (by omega) ?_); intro A2 c2 w5 hv5 hk5 ho5)
            have e1 : told (fl.take (k + 1)) = told (fl.take k) ++ [s] := HTk.out
            have e2 : (told (fl.take (k + 1))).length = (told (fl.take k)).length + 1 := by rw [e1, List.length_append]; rfl
            have H5 := Lib.hid (show Vec w5 9 1 A2 (told (fl.take (k + 1))).length c2 (strs (told (fl.take (k + 1)))) ∧ (∀ x, Own A2 x → w.heap.size ≤ x ∧ x ≠ g) ∧ Keep (From w.heap.size) w w5 ∧ Blk w5 g 160 (fcells fl) by
              have ka := (Keep.refl Nob w3).alloc (.cells #[.string s] 9)
              refine ⟨by rw [e2, e1]; simpa [strs] using hv5, fun x hx => ?_, (H3.out.2.1.nob ka).from_ hk5 (fun x m => (HB.out.1 x m).1), (H3.out.2.2.nob ka).keep hk5 (fun m => (HB.out.1 g m).2 rfl)⟩
              rcases ho5 x hx with m | m
              · exact HB.out.1 x m
              · have h1 := H3.out.2.1.size
                have h2 := H3.out.2.2.lt
                have h3 : (w3.alloc (.cells #[.string s] 9)).heap.size = w3.heap.size + 1 := by simp
                exact ⟨by omega, by omega⟩)
            have E2 := Lib.hid e2
            clear hvx hr4 hv5 hk5 ho5 e1 e2 z0 z1
            go_roundw
            case rel => exact ⟨k + 1, A2, c2, by omega, by go_num, by rw [E2.out], H5.out.1, Lib.hid H5.out.2⟩
            case measure => simp [intOf]; omega
          | false =>
            have e1 : told (fl.take (k + 1)) = told (fl.take k) := by
              have := HTk.out
              simpa using this
            have E1 := Lib.hid e1
            clear e1
            go_wp2_with fail
            go_roundw
            case rel => exact ⟨k + 1, D, cd, by omega, by go_num, by rw [E1.out], by rw [E1.out]; exact H3.out.1, Lib.hid ⟨HB.out.1, H3.out.2⟩⟩
            case measure => simp [intOf]; omega
        · have hk5 : k = 5 := by omega
          have e : fl.take k = fl := List.take_of_length_le (by rw [HFl.out, hk5]; exact Nat.le_refl _)
          rw [e] at hV ⊢
          have F := Lib.hid (And.intro (show Reads wr D (told fl).length (strs (told fl)) by have := hV.reads; rwa [Nat.mul_one] at this) HB.out.2.1)
          clear hV HB e hk5
          obtain rfl := HFL.out
          go_wp2
          go_ret
          exact ⟨D, ⟨cd, rfl⟩, F.out⟩
    · have e : faultsOf b = [sBad] := if_neg (fun h => hg h.2)
      rw [e]
      have hpos : (0 : Int) < ((bads b).length : Int) := by
        have : (bads b).length ≠ 0 := fun e => hg (List.eq_nil_of_length_eq_zero e)
        omega
      generalize bads b = bl at *
      clear hb e hg hl
      go_enter Tryz.func22, Tryz.ntmps22
      go_wp2_with fail
      refine hlk.mono ?_; rintro e w1 ⟨K, C, B, cap, rfl, O, hv⟩
      have bb := Blk.new w1 9 [.string sBad]
      have F := Lib.hid (show Reads (w1.alloc (.cells #[.string sBad] 9)) (some ⟨w1.heap.size, 0, none⟩) 1 (strs [sBad]) ∧ Keep (From w.heap.size) w (w1.alloc (.cells #[.string sBad] 9)) from ⟨reads_all bb rfl, O.op.keep.nob ((Keep.refl Nob w1).alloc _)⟩)
      clear bb hlk O hv
      go_wp2
      go_ret
      exact ⟨_, 1, rfl, F.out⟩
  · have e : faultsOf b = [sBad] := if_neg (fun h2 => h (by omega))
    have hlk := looked_no (w := w) A n c h
    rw [e]
    clear hb e
    go_enter Tryz.func22, Tryz.ntmps22
    go_wp2_with fail
    refine hlk.mono ?_; rintro e w1 ⟨rfl, hB, k⟩
    have bb := Blk.new w1 9 [.string sBad]
    have F := Lib.hid (show Reads (w1.alloc (.cells #[.string sBad] 9)) (some ⟨w1.heap.size, 0, none⟩) 1 (strs [sBad]) ∧ Keep (From w.heap.size) w (w1.alloc (.cells #[.string sBad] 9)) from ⟨reads_all bb rfl, (k.mono (fun _ _ f => f.elim) : Keep (From w.heap.size) w w1).nob ((Keep.refl Nob w1).alloc _)⟩)
    clear bb hlk hB k
    go_wp2
    go_ret
    exact ⟨_, 1, rfl, F.out⟩
theorem sound_is {w : World} (A : Option Addr) (n c : Nat) (b : List UInt8) (hb : Reads w A n (bytes b)) (v : Bool) (hv : decide (faultsOf b = []) = v) :
    Calls Tryz.prog 21 #[.slice A n c] w fun e w' => e = .returned (.bool v) ∧ Keep (From w.heap.size) w w' := by
  have hf := faults_is A n c b hb
  have e : decide ((faultsOf b).length = 0) = v := by rw [← hv]; simp [List.length_eq_zero_iff]
  generalize faultsOf b = l at *
  subst e
  clear hb hv
  go_enter Tryz.func21, Tryz.ntmps21
  go_wp2_with fail
  refine hf.mono ?_; rintro e w1 ⟨B, cap, rfl, _, k⟩
  clear hf
  go_wp2
  go_ret
  exact ⟨by cases l with | nil => rfl | cons x l => first | (simp; done) | (simp; omega), k⟩
end Go.Proofs.YtngchjejmnfanaaGreat.Au
namespace Go.Proofs.YtngchjejmnfanaaGreat.Au
open Go.RowKit Co
set_option linter.unusedVariables false
set_option linter.unusedSimpArgs false
theorem blank_bads : bads Pn.blankB = [] := by decide +kernel
theorem blank_abad : abad Pn.blankB = [] := by
  unfold abad
  rw [if_pos Pn.blank_len, blank_bads]
theorem nil_abad : abad [] = [(0, 0)] := rfl
theorem blank_asked : told (asked Pn.blankB) = [] := by decide +kernel
theorem blank_faults : faultsOf Pn.blankB = [] := by
  unfold faultsOf
  rw [if_pos ⟨Pn.blank_len, blank_bads⟩, blank_asked]
theorem nil_faults : faultsOf [] = [sBad] := rfl
theorem from_next {w w1 W : World} (k1 : Keep (From w.heap.size) w w1) (k : Keep (From w1.heap.size) w1 W) : Keep (From w.heap.size) w W :=
  k1.trans k (fun x _ m => Nat.le_trans k1.size m)
theorem from_blk {w1 W : World} {g : Nat} {t : TypeId} {cs : List Value} (hb : Blk w1 g t cs) (k : Keep (From w1.heap.size) w1 W) : Blk W g t cs :=
  hb.keep k (fun m => by have := hb.lt; have m : w1.heap.size ≤ g := m; omega)
set_option maxRecDepth 100000 in
set_option maxHeartbeats 4000000 in
theorem awake_is (w : World) : Calls Tryz.prog 23 #[] w fun e w' => e = .returned (.bool true) ∧ Keep (From w.heap.size) w w' := by
  have hblk := blank_is w
  have hrb := fun W => Pn.rblank_is W
  have hso := fun W g (hb : Blk W g 5 (bytes Pn.blankB)) => sound_is (w := W) (some ⟨g, 0, none⟩) 492 492 Pn.blankB (reads_all hb (by simp [bytes, Pn.blank_len])) true (by rw [blank_faults]; rfl)
  have hba := fun W g (hb : Blk W g 5 (bytes Pn.blankB)) => abad_is (w := W) (some ⟨g, 0, none⟩) 492 492 Pn.blankB (reads_all hb (by simp [bytes, Pn.blank_len]))
  have hbn := fun W => abad_is (w := W) none 0 0 [] (Reads.nil_ _ _)
  have hsn := fun W => sound_is (w := W) none 0 0 [] (Reads.nil_ _ _) false (by rw [nil_faults]; rfl)
  rw [blank_abad] at hba
  rw [nil_abad] at hbn
  have hcv := fun W g (hb : Blk W g 5 (bytes Pn.blankB)) => run_str (P := Tryz.prog) W 36 9 5 (some ⟨g, 0, none⟩) 492 492 Pn.blankB Tryz.underlying36 Tryz.underlying5 Tryz.underlying9 (reads_all hb (by simp [bytes, Pn.blank_len]))
  simp only [List.length_nil, List.length_cons, Nat.zero_add] at hba hbn
  have HSo := Lib.hid hso
  have HBa := Lib.hid hba
  have HBn := Lib.hid hbn
  have HSn := Lib.hid hsn
  have HCv := Lib.hid hcv
  have HRb := Lib.hid hrb
  generalize Pn.blankB = bb at *
  clear hso hba hbn hsn hcv hrb
  go_enter Tryz.func23, Tryz.ntmps23
  go_wp2_with fail
  refine hblk.mono ?_; rintro e w1 ⟨g, rfl, hb, hg, k1⟩
  have HB := Lib.hid hb
  have K1 := Lib.hid k1
  have KD := Lib.hid (Keep.nobdrew w1)
  have s0 := HCv.out _ g (HB.out.nob KD.out)
  have hc0 := HRb.out w1.drew
  clear hblk hb hg k1
  go_wp2_with fail
  go_region_held3 (fun w' => (convert 36 9 (.slice (some ⟨g, 0, none⟩) 492 492)).run Tryz.prog w' = .ok (.string (str bb)) w')
    (first | exact s5 | exact s4 | exact s3 | exact s2 | exact s1 | exact s0)
    (first
      | (go_at_call 32; with_reducible_and_instances apply Calls.mono hc0; rintro e x0 ⟨rfl, y0⟩; have K2 := Lib.hid (show Keep (From w.heap.size) w x0 from (K1.out.nob KD.out).nob y0); have B2 := Lib.hid ((HB.out.nob KD.out).nob y0); have s1 := HCv.out _ g B2.out; have hc1 := HSo.out _ g B2.out)
      | (go_at_call 21; with_reducible_and_instances apply Calls.mono hc1; rintro e x1 ⟨rfl, y1⟩; have K3 := Lib.hid (from_next K2.out y1); have B3 := Lib.hid (from_blk B2.out y1); have s2 := HCv.out _ g B3.out; have hc2 := HBa.out _ g B3.out)
      | (go_at_call 27; with_reducible_and_instances apply Calls.mono hc2; rintro e x2 ⟨A2, c2, rfl, _, y2⟩; have K4 := Lib.hid (from_next K3.out y2); have B4 := Lib.hid (from_blk B3.out y2); have s3 := HCv.out _ g B4.out; have hc3 := HBn.out x2)
      | (go_at_call 27; with_reducible_and_instances apply Calls.mono hc3; rintro e x3 ⟨A3, c3, rfl, _, y3⟩; have K5 := Lib.hid (from_next K4.out y3); have B5 := Lib.hid (from_blk B4.out y3); have s4 := HCv.out _ g B5.out; have hc4 := HSn.out x3)
      | (go_at_call 21; with_reducible_and_instances apply Calls.mono hc4; rintro e x4 ⟨rfl, y4⟩; have K6 := Lib.hid (from_next K5.out y4); have B6 := Lib.hid (from_blk B5.out y4); have s5 := HCv.out _ g B6.out))
  clear s0 s1 s2 s3 s4 s5 hc0 hc1 hc2 hc3 hc4
  go_wp2
  go_ret
  exact ⟨rfl, K6.out⟩
end Go.Proofs.YtngchjejmnfanaaGreat.Au
namespace Go.Proofs.YtngchjejmnfanaaGreat.Au
open Go.RowKit Co
set_option linter.unusedVariables false
set_option linter.unusedSimpArgs false
theorem set_far {b : List UInt8} {k o n : Nat} {y : UInt8} (h : k < o ∨ o + n ≤ k) : ((b.set k y).drop o).take n = (b.drop o).take n := by
  apply List.ext_getElem?
  intro i
  rw [List.getElem?_take, List.getElem?_take]
  by_cases hi : i < n
  · rw [if_pos hi, if_pos hi, List.getElem?_drop, List.getElem?_drop, List.getElem?_set_ne (by omega)]
  · rw [if_neg hi, if_neg hi]
theorem set_near {b : List UInt8} {k o n : Nat} {y : UInt8} (h0 : o ≤ k) (h1 : k < o + n) : ((b.set k y).drop o).take n = ((b.drop o).take n).set (k - o) y := by
  apply List.ext_getElem?
  intro i
  rw [List.getElem?_take, List.getElem?_set, List.getElem?_take]
  by_cases hi : i < n
  · rw [if_pos hi, if_pos hi, List.getElem?_drop, List.getElem?_drop, List.getElem?_set]
    by_cases e : k = o + i
    · subst e
      have e2 : o + i - o = i := by omega
      simp only [e2, if_true, List.length_take, List.length_drop]
      by_cases hl : o + i < b.length
      · rw [if_pos hl, if_pos (by omega)]
      · rw [if_neg hl, if_neg (by omega)]
    · rw [if_neg e, if_neg (by omega)]
  · rw [if_neg hi, if_neg hi, if_neg (by omega)]
theorem none_bad {b : List UInt8} (h : bads b = []) {r : Rf} (hr : r ∈ allRecs 0) : isBad b r = false := by
  cases hx : isBad b r with
  | false => rfl
  | true =>
    have : r ∈ bads b := List.mem_filter.2 ⟨hr, hx⟩
    rw [h] at this
    cases this
theorem one_proc : (allRecs 0).filter (fun r => decide (r = (1, 0))) = [(1, 0)] := by decide +kernel
theorem one_file : (allRecs 0).filter (fun r => decide (r = (2, 4))) = [(2, 4)] := by decide +kernel
/-- A byte of the first process is turned. -/
theorem turn_proc {b : List UInt8} (h : bads b = []) {k : Nat} (hk : k < 24) {y : UInt8} (ht : (pAt (b.set k y) 0).2 = 2) : bads (b.set k y) = [(1, 0)] := by
  rw [← one_proc]
  unfold bads
  refine List.filter_congr (fun r hr => ?_)
  have h0 := none_bad h hr
  rcases mem_all0 hr with ⟨i, hi, rfl⟩ | ⟨i, hi, rfl⟩ | ⟨i, hi, rfl⟩ | rfl | rfl
  · by_cases e : i = 0
    · subst e
      simp [isBad, ht]
    · have e2 : pAt (b.set k y) i = pAt b i := by unfold pAt; rw [set_far (by omega)]
      simp only [isBad, if_true, Int.toNat_natCast] at h0 ⊢
      rw [e2, h0]
      simp [e]
  · have e2 : fAt (b.set k y) i = fAt b i := by unfold fAt; rw [set_far (by omega)]
    simp only [isBad, show ¬ ((2 : Int) = 1) by decide, if_false, if_true, Int.toNat_natCast] at h0 ⊢
    rw [e2, h0]
    simp
  · have e2 : rAt (b.set k y) i = rAt b i := by unfold rAt; rw [set_far (by omega)]
    simp only [isBad, show ¬ ((3 : Int) = 1) by decide, show ¬ ((3 : Int) = 2) by decide, if_false, if_true, Int.toNat_natCast] at h0 ⊢
    rw [e2, h0]
    simp
  · have e2 : tAt (b.set k y) = tAt b := by unfold tAt; rw [set_far (by omega)]
    simp only [isBad, show ¬ ((4 : Int) = 1) by decide, show ¬ ((4 : Int) = 2) by decide, show ¬ ((4 : Int) = 3) by decide, if_false, if_true] at h0 ⊢
    rw [e2, h0]
    simp
  · have e2 : gAt (b.set k y) = gAt b := by unfold gAt; rw [set_far (by omega)]
    simp only [isBad, show ¬ ((5 : Int) = 1) by decide, show ¬ ((5 : Int) = 2) by decide, show ¬ ((5 : Int) = 3) by decide, show ¬ ((5 : Int) = 4) by decide, if_false, if_true] at h0 ⊢
    rw [e2, h0]
    simp
/-- A byte of the fifth file is turned. -/
theorem turn_file {b : List UInt8} (h : bads b = []) {k : Nat} (hk : 224 ≤ k) (hk2 : k < 232) {y : UInt8} (ht : (fAt (b.set k y) 4).2 = 2) : bads (b.set k y) = [(2, 4)] := by
  rw [← one_file]
  unfold bads
  refine List.filter_congr (fun r hr => ?_)
  have h0 := none_bad h hr
  rcases mem_all0 hr with ⟨i, hi, rfl⟩ | ⟨i, hi, rfl⟩ | ⟨i, hi, rfl⟩ | rfl | rfl
  · have e2 : pAt (b.set k y) i = pAt b i := by unfold pAt; rw [set_far (by omega)]
    simp only [isBad, if_true, Int.toNat_natCast] at h0 ⊢
    rw [e2, h0]
    simp
  · by_cases e : i = 4
    · subst e
      simp [isBad, ht]
    · have e2 : fAt (b.set k y) i = fAt b i := by unfold fAt; rw [set_far (by omega)]
      simp only [isBad, show ¬ ((2 : Int) = 1) by decide, if_false, if_true, Int.toNat_natCast] at h0 ⊢
      rw [e2, h0]
      simp
      omega
  · have e2 : rAt (b.set k y) i = rAt b i := by unfold rAt; rw [set_far (by omega)]
    simp only [isBad, show ¬ ((3 : Int) = 1) by decide, show ¬ ((3 : Int) = 2) by decide, if_false, if_true, Int.toNat_natCast] at h0 ⊢
    rw [e2, h0]
    simp
  · have e2 : tAt (b.set k y) = tAt b := by unfold tAt; rw [set_far (by omega)]
    simp only [isBad, show ¬ ((4 : Int) = 1) by decide, show ¬ ((4 : Int) = 2) by decide, show ¬ ((4 : Int) = 3) by decide, if_false, if_true] at h0 ⊢
    rw [e2, h0]
    simp
  · have e2 : gAt (b.set k y) = gAt b := by unfold gAt; rw [set_far (by omega)]
    simp only [isBad, show ¬ ((5 : Int) = 1) by decide, show ¬ ((5 : Int) = 2) by decide, show ¬ ((5 : Int) = 3) by decide, show ¬ ((5 : Int) = 4) by decide, if_false, if_true] at h0 ⊢
    rw [e2, h0]
    simp
/-- The process and the file of AuditOne, and the commons with them. -/
def P1 (g : Nat) : List Int := [1, 0, g, 0, 0, 0, 0, 0, 0, 0, 0, 5, 0, 0, 0, 0]
def F1 : List Int := [3, 0, 1, 0]
def B1 (g : Nat) : List UInt8 := splice (splice Pn.blankB 0 (Cd.enc (P1 g))) 224 (Fi.enc F1)
theorem P1_ok (g : Nat) (h : g < 8) : Cd.okd (P1 g) = true := by
  have : ∀ g : Fin 8, Cd.okd (P1 g) = true := by decide +kernel
  exact this ⟨g, h⟩
theorem F1_ok : Fi.okd F1 = true := by decide
theorem B1_len (g : Nat) : (B1 g).length = 492 := by
  unfold B1
  have h1 : (splice Pn.blankB 0 (Cd.enc (P1 g))).length = 492 := by rw [splice_len _ _ _ (by rw [Pn.blank_len, Cd.enc_len rfl]; decide), Pn.blank_len]
  rw [splice_len _ _ _ (by rw [h1, Fi.enc_len]; decide), h1]
theorem B1_bads (g : Nat) (h : g < 8) : bads (B1 g) = [] := by
  have : ∀ g : Fin 8, bads (B1 g) = [] := by decide +kernel
  exact this ⟨g, h⟩
theorem B1_sound (g : Nat) (h : g < 8) : faultsOf (B1 g) = [] := by
  have : ∀ g : Fin 8, told (asked (B1 g)) = [] := by decide +kernel
  unfold faultsOf
  rw [if_pos ⟨B1_len g, B1_bads g h⟩]
  exact this ⟨g, h⟩
theorem B1_proc (g : Nat) (h : g < 8) : ((B1 g).drop 0).take 24 = Cd.enc (P1 g) := by
  have : ∀ g : Fin 8, ((B1 g).drop 0).take 24 = Cd.enc (P1 g) := by decide +kernel
  exact this ⟨g, h⟩
theorem B1_file (g : Nat) (h : g < 8) : ((B1 g).drop 224).take 8 = Fi.enc F1 := by
  have : ∀ g : Fin 8, ((B1 g).drop 224).take 8 = Fi.enc F1 := by decide +kernel
  exact this ⟨g, h⟩
theorem at_take {b : List UInt8} {o n k : Nat} (h : o + k < b.length) (hk : k < n) : ((b.drop o).take n).getD k 0 = b.getD (o + k) 0 := by
  rw [List.getD_eq_getElem?_getD, List.getD_eq_getElem?_getD, List.getElem?_take, if_pos hk, List.getElem?_drop]
theorem set_faults {b : List UInt8} {r : Rf} (h : bads b = [r]) : faultsOf b = [sBad] := by
  unfold faultsOf
  rw [if_neg (fun e => by rw [h] at e; cases e.2)]
/-- What comes of a byte's turning. -/
theorem turned1 (g : Nat) (hg : g < 8) (k : Nat) (hk : k < 24) (y : UInt8) (hy : (B1 g).getD k 0 ≠ y) : abad ((B1 g).set k y) = [(1, 0)] ∧ faultsOf ((B1 g).set k y) = [sBad] := by
  have ht : (pAt ((B1 g).set k y) 0).2 = 2 := by
    unfold pAt
    rw [show 24 * 0 = 0 from rfl, set_near (Nat.zero_le _) (by omega), B1_proc g hg, Nat.sub_zero, Cd.turned rfl (P1_ok g hg) hk]
    rw [← B1_proc g hg, at_take (by rw [B1_len]; omega) hk, Nat.zero_add]
    exact hy
  have hb := turn_proc (B1_bads g hg) hk ht
  exact ⟨by unfold abad; rw [if_pos (by rw [List.length_set, B1_len]), hb], set_faults hb⟩
theorem turned2 (g : Nat) (hg : g < 8) (k : Nat) (hk : 224 ≤ k) (hk2 : k < 232) (y : UInt8) (hy : (B1 g).getD k 0 ≠ y) : abad ((B1 g).set k y) = [(2, 4)] ∧ faultsOf ((B1 g).set k y) = [sBad] := by
  have ht : (fAt ((B1 g).set k y) 4).2 = 2 := by
    unfold fAt
    rw [show 192 + 8 * 4 = 224 from rfl, set_near hk (by omega), B1_file g hg, Fi.turned F1_ok (by omega)]
    rw [← B1_file g hg, at_take (by rw [B1_len]; omega) (by omega), show 224 + (k - 224) = k by omega]
    exact hy
  have hb := turn_file (B1_bads g hg) hk hk2 ht
  exact ⟨by unfold abad; rw [if_pos (by rw [List.length_set, B1_len]), hb], set_faults hb⟩
end Go.Proofs.YtngchjejmnfanaaGreat.Au
