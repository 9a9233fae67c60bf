/- Texts Aud8, Aud8P, Aud8F, Aud8R, AudA, AudB, AudC, AudI, AudK, AudL, packed. -/
import Derived.Deep.RegionHeld3
import Derived.Deep.MidRow
import Derived.Laws.CopyRow
import Derived.Test.YtngchjejmnfanaaGreatPu0
import Derived.Test.YtngchjejmnfanaaGreatPu2
import Derived.Test.YtngchjejmnfanaaGreatPu3
import Derived.Test.YtngchjejmnfanaaGreatPu4
import Derived.Test.YtngchjejmnfanaaGreatPu5
import Derived.Test.YtngchjejmnfanaaGreatPu8
import Derived.Test.YtngchjejmnfanaaGreatPu13
import Derived.Test.YtngchjejmnfanaaGreatPu16
import Derived.Test.YtngchjejmnfanaaGreatPu19
import Derived.Test.YtngchjejmnfanaaGreatPu20
import Derived.Test.YtngchjejmnfanaaGreatPu1
import Derived.Test.YtngchjejmnfanaaGreatPu7
import Derived.Test.YtngchjejmnfanaaGreatPu12
import Derived.Test.YtngchjejmnfanaaGreatPu22
import Derived.Test.YtngchjejmnfanaaGreatPu23
import Derived.Test.YtngchjejmnfanaaGreatPu15
import Derived.Test.YtngchjejmnfanaaGreatPu14
import Derived.Test.YtngchjejmnfanaaGreatPu17
import Derived.Test.YtngchjejmnfanaaGreatPu18
import Derived.Test.YtngchjejmnfanaaGreatPu25
import Derived.Test.YtngchjejmnfanaaGreatPu24
import Derived.Test.YtngchjejmnfanaaGreatPu21
import Derived.Test.YtngchjejmnfanaaGreatPu9
import Derived.Test.YtngchjejmnfanaaGreatPu26
import Derived.Test.YtngchjejmnfanaaGreatPu10
namespace Go.Proofs.YtngchjejmnfanaaGreat.Au
open Go.RowKit Co
set_option linter.unusedVariables false
set_option linter.unusedSimpArgs false
theorem sp16 {α : Type} {l : List α} (h : l.length = 16) : ∃ a0 a1 a2 a3 a4 a5 a6 a7 a8 a9 a10 a11 a12 a13 a14 a15, l = [a0, a1, a2, a3, a4, a5, a6, a7, a8, a9, a10, a11, a12, a13, a14, a15] := by
  match l, h with
  | [a0, a1, a2, a3, a4, a5, a6, a7, a8, a9, a10, a11, a12, a13, a14, a15], _ => exact ⟨_, _, _, _, _, _, _, _, _, _, _, _, _, _, _, _, rfl⟩
theorem sp4 {α : Type} {l : List α} (h : l.length = 4) : ∃ a0 a1 a2 a3, l = [a0, a1, a2, a3] := by
  match l, h with
  | [a0, a1, a2, a3], _ => exact ⟨_, _, _, _, rfl⟩
theorem sp32 {α : Type} {l : List α} (h : l.length = 32) : ∃ a0 a1 a2 a3 a4 a5 a6 a7 a8 a9 a10 a11 a12 a13 a14 a15 a16 a17 a18 a19 a20 a21 a22 a23 a24 a25 a26 a27 a28 a29 a30 a31, l = [a0, a1, a2, a3, a4, a5, a6, a7, a8, a9, a10, a11, a12, a13, a14, a15, a16, a17, a18, a19, a20, a21, a22, a23, a24, a25, a26, a27, a28, a29, a30, a31] := by
  match l, h with
  | [a0, a1, a2, a3, a4, a5, a6, a7, a8, a9, a10, a11, a12, a13, a14, a15, a16, a17, a18, a19, a20, a21, a22, a23, a24, a25, a26, a27, a28, a29, a30, a31], _ => exact ⟨_, _, _, _, _, _, _, _, _, _, _, _, _, _, _, _, _, _, _, _, _, _, _, _, _, _, _, _, _, _, _, _, rfl⟩
set_option maxRecDepth 100000 in
theorem bu_rP (k : Int) (l : List Int) (h : l.length = 16) (W : World) : (Instr.build 262 #[(0, .int .i64 k), (1, .agg (ints l).toArray)]).run Tryz.prog W = .ok (.agg (.int .i64 k :: ints l).toArray) W := by
  obtain ⟨a0, a1, a2, a3, a4, a5, a6, a7, a8, a9, a10, a11, a12, a13, a14, a15, rfl⟩ := sp16 h
  exact run_build W _ _ _ (by kernel_rfl)
set_option maxRecDepth 100000 in
theorem bu_rF (k : Int) (l : List Int) (h : l.length = 4) (W : World) : (Instr.build 264 #[(0, .int .i64 k), (1, .agg (ints l).toArray)]).run Tryz.prog W = .ok (.agg (.int .i64 k :: ints l).toArray) W := by
  obtain ⟨a0, a1, a2, a3, rfl⟩ := sp4 h
  exact run_build W _ _ _ (by kernel_rfl)
set_option maxRecDepth 100000 in
theorem bu_rR (k : Int) (p : Ri.Pp) (h : p.d.length = 32) (W : World) : (Instr.build 266 #[(0, .int .i64 k), (1, .agg (Ri.pc p).toArray)]).run Tryz.prog W = .ok (.agg (.int .i64 k :: Ri.pc p).toArray) W := by
  obtain ⟨h0, c0, r0, s0, d⟩ := p
  obtain ⟨a0, a1, a2, a3, a4, a5, a6, a7, a8, a9, a10, a11, a12, a13, a14, a15, a16, a17, a18, a19, a20, a21, a22, a23, a24, a25, a26, a27, a28, a29, a30, a31, rfl⟩ := sp32 h
  exact run_build W _ _ _ (by kernel_rfl)
set_option maxRecDepth 100000 in
theorem bs_rP (cs : List Value) (h : cs.length = 17) (W : World) : (Instr.buildSlice 152 1 #[(0, .agg cs.toArray)]).run Tryz.prog W = .ok (.slice (some ⟨W.heap.size, 0, none⟩) 1 1) (W.alloc (.cells cs.toArray 262)) := by
  match cs, h with
  | a0 :: a1 :: a2 :: a3 :: a4 :: a5 :: a6 :: a7 :: a8 :: a9 :: a10 :: a11 :: a12 :: a13 :: a14 :: a15 :: a16 :: [], _ => go_simp
theorem infF_rP : (Tryz.prog.info? 262).map (fun i => (i.zero, i.size, i.bytes)) = some (some (.agg (rcI (0, Cd.noP)).toArray), 17, 136) := by kernel_rfl
set_option maxRecDepth 100000 in
theorem bs_rF (cs : List Value) (h : cs.length = 5) (W : World) : (Instr.buildSlice 154 1 #[(0, .agg cs.toArray)]).run Tryz.prog W = .ok (.slice (some ⟨W.heap.size, 0, none⟩) 1 1) (W.alloc (.cells cs.toArray 264)) := by
  match cs, h with
  | a0 :: a1 :: a2 :: a3 :: a4 :: [], _ => go_simp
theorem infF_rF : (Tryz.prog.info? 264).map (fun i => (i.zero, i.size, i.bytes)) = some (some (.agg (rcI (0, Fi.noP)).toArray), 5, 40) := by kernel_rfl
set_option maxRecDepth 100000 in
theorem bs_rR (cs : List Value) (h : cs.length = 37) (W : World) : (Instr.buildSlice 156 1 #[(0, .agg cs.toArray)]).run Tryz.prog W = .ok (.slice (some ⟨W.heap.size, 0, none⟩) 1 1) (W.alloc (.cells cs.toArray 266)) := by
  match cs, h with
  | a0 :: a1 :: a2 :: a3 :: a4 :: a5 :: a6 :: a7 :: a8 :: a9 :: a10 :: a11 :: a12 :: a13 :: a14 :: a15 :: a16 :: a17 :: a18 :: a19 :: a20 :: a21 :: a22 :: a23 :: a24 :: a25 :: a26 :: a27 :: a28 :: a29 :: a30 :: a31 :: a32 :: a33 :: a34 :: a35 :: a36 :: [], _ => go_simp
theorem infF_rR : (Tryz.prog.info? 266).map (fun i => (i.zero, i.size, i.bytes)) = some (some (.agg (rcR (0, Ri.noP)).toArray), 37, 72) := by kernel_rfl
section
variable {ops : Array Oper} {rest : List Oper} {o : Oper} {a : Act} {Q : Exit → Act → World → Prop} {w : World}
theorem wpList_bd2 (hgd : o.guard = none) (t : TypeId) (x y : Operand) (ho : o.op = .build t #[(0, x), (1, y)]) (u v R : Value) (hx : a.eval x = u) (hy : a.eval y = v) (hrun : (Instr.build t #[(0, u), (1, v)]).run Tryz.prog w = .ok R w)
    (h : wpList Tryz.prog ops Q rest (a.put o.dst R) w) : wpList Tryz.prog ops Q (o :: rest) a w := by
  refine wpList_plain hgd fun K hK => ?_
  unfold Oper.wp
  simp [execOp, ho, hx, hy, hrun, Result.andThen]
  exact hK _ _ h
theorem wpList_bs1 (hgd : o.guard = none) (t e : TypeId) (x : Operand) (ho : o.op = .buildSlice t 1 #[(0, x)]) (cs : List Value) (hx : a.eval x = .agg cs.toArray) (hrun : (Instr.buildSlice t 1 #[(0, .agg cs.toArray)]).run Tryz.prog w = .ok (.slice (some ⟨w.heap.size, 0, none⟩) 1 1) (w.alloc (.cells cs.toArray e)))
    (h : ∀ w', Blk w' w.heap.size e cs → Keep Nob w w' → w'.heap.size = w.heap.size + 1 → wpList Tryz.prog ops Q rest (a.put o.dst (.slice (some ⟨w.heap.size, 0, none⟩) 1 1)) w') : wpList Tryz.prog ops Q (o :: rest) a w := by
  refine wpList_plain hgd fun K hK => ?_
  have hh := h _ (Blk.new w e cs) ((Keep.refl Nob w).alloc _) (by simp)
  unfold Oper.wp
  simp [execOp, ho, hx, hrun, Result.andThen]
  exact hK _ _ hh
end
theorem cm_same {C : Cm} {l : List Rf} (h : C.bad = l) : { C with bad := l } = C := by subst h; rfl
theorem Ct.offV {w w' : World} {K K' : Kn} {C C' : Cm} {src : Src} (h : Kc w K C src) (t : Ct w K K' C C' src w') {e sz n cap : Nat} {A : Option Addr} {xs : List Value} (hv : Vec w e sz A n cap xs) (he : ¬ MyT e) : Vec w' e sz A n cap xs :=
  hv.keep t.keep (fun g hg m => by
    obtain ⟨cs, hc⟩ := hv.blk hg
    obtain ⟨l, hl, _⟩ := h.c.map
    rcases m with m | m
    · exact h.k.mine_ne hc he (.inl m)
    · exact hl.ne_blk hc m.symm)
/-- A row of another type is written. -/
theorem kc_row {w w' : World} {K : Kn} {C : Cm} {src : Src} (h : Kc w K C src) {e sz n cap : Nat} {A : Option Addr} {xs : List Value} (hv : Vec w e sz A n cap xs) (he : ¬ MyT e) (hf : ¬ Fix e) (hp : ∀ x, Own A x → C.p ≠ x) (hn : ¬ (0 < C.brs.length)) (k : Keep (Own A) w w') : Kc w' K C src := by
  obtain ⟨l, hl, _⟩ := h.c.map
  refine ⟨h.k.keep k (fun x m => ?_) (fun x hx m => ?_), h.c.keep k (fun m => hp _ m rfl) (fun h0 => absurd h0 hn) (fun m => ?_), h.l, h.ap⟩
  · obtain ⟨cs, hc⟩ := hv.blk m
    exact ⟨_, _, hc, hf⟩
  · obtain ⟨cs, hc⟩ := hv.blk m
    exact h.k.mine_ne hc he hx
  · obtain ⟨cs, hc⟩ := hv.blk m
    exact hl.ne_blk hc rfl
theorem rows_snoc {α : Type} (f : α → List Value) (l : List α) (x : α) : rows f (l ++ [x]) = rows f l ++ f x := by simp [rows]
theorem wfk {k : Nat} (h : k ≤ 40) : Cd.Wf (k : Int) := by unfold Cd.Wf; omega
end Go.Proofs.YtngchjejmnfanaaGreat.Au
namespace Go.Proofs.YtngchjejmnfanaaGreat.Au
open Go.RowKit Co
set_option linter.unusedVariables false
set_option linter.unusedSimpArgs false
section
variable {w : World} {K : Kn} {C : Cm} {b : List UInt8}
set_option maxRecDepth 100000 in
set_option maxHeartbeats 4000000 in
theorem readP_is (h : Kc w K C src1) (hx : K.xs = xsOf b) (hbr : C.brs = []) (hbad : C.bad = []) (hl : b.length = 492) (hg : AllGood b) :
    Calls Tryz.prog 77 #[.int .i64 8, .func (.func 36) #[.pointer (some ⟨C.p, 0, none⟩)] #[]] w fun e w' => ∃ A cap, e = .returned (.slice A (there (pAt b) 8).length cap) ∧ Vec w' 262 17 A (there (pAt b) 8).length cap (rows rcI (there (pAt b) 8)) ∧ (∀ x, Own A x → w.heap.size ≤ x) ∧ Ct w K K C C src1 w' := by
  have hnb : C.brs.length = 0 := by rw [hbr]; rfl
  have hget : ∀ W k, Kc W K C src1 → k < 8 → Calls Tryz.prog 36 #[.pointer (some ⟨C.p, 0, none⟩), .int .i64 (k : Nat)] W fun e w' => e = .returned (.tuple #[.agg (ints (pAt b k).1).toArray, .int .i64 (pAt b k).2]) ∧ Ct W K K C C src1 w' := fun W k hW hk => by
    have := proc_is hW (k : Int) (wfk (by omega)) (pAt b k).1 (pAt b k).2 [] (by rw [hx, hnb, hbad]; exact rdP hl hg hk)
    rw [cm_same hbad] at this
    exact this
  have hlen : ∀ k, (pAt b k).1.length = 16 := fun k => Cd.dcd_len _
  have hp := h.c.lt.1
  have hT0 := Ct.still h (Keep.refl Nob w)
  have HG := Lib.hid hget
  have HP := Lib.hid (show C.p < w.heap.size ∧ ¬ (0 < C.brs.length) from ⟨hp, by omega⟩)
  have HLn := Lib.hid hlen
  generalize pAt b = gt at *
  have HT0 := Lib.hid hT0
  clear hget h hp hnb hlen hx hbr hbad hl hg hT0
  go_enter Tryz.func77, Tryz.ntmps77
  go_wp2_with fail
  go_loopw [5, 10] (fun s5 s10 wx => ∃ (k : Nat) (A : Option Addr) (cap : Nat), k ≤ 8 ∧ s10 = .int .i64 k ∧ s5 = .slice A (there gt k).length cap ∧ Vec wx 262 17 A (there gt k).length cap (rows rcI (there gt k)) ∧ Hid ((∀ x, Own A x → w.heap.size ≤ x) ∧ Ct w K K C C src1 wx)) (fun _ s10 _ => 8 - (intOf s10).toNat)
  case atStart => exact ⟨0, none, 0, Nat.zero_le _, rfl, rfl, Vec.nil _ _ _, Lib.hid ⟨fun x ⟨a, e, _⟩ => (by cases e), HT0.out⟩⟩
  case round =>
    obtain ⟨k, A, cap, hk, rfl, rfl, hV, HT⟩ := hrel
    by_cases hlt : (k : Int) < 8
    · have hcall := HG.out wr k HT.out.2.is (by omega)
      have hle := there_len gt k
      have hz := HLn.out k
      have HZ := Lib.hid hz
      obtain ⟨d, hd⟩ : ∃ d, (gt k).2 = d := ⟨_, rfl⟩
      rw [hd] at hcall
      have HD := Lib.hid hd
      obtain ⟨v, hv⟩ : ∃ v, (gt k).1 = v := ⟨_, rfl⟩
      rw [hv] at hcall HZ
      have HVv := Lib.hid hv
      have HV0 := Lib.hid hV
      clear hV hd hz hv
      go_wp2_with fail
      refine hcall.mono ?_; rintro e w1 ⟨rfl, t1⟩
      have hV1 := Ct.offV HT.out.2.is t1 HV0.out (by decide)
      have T1 := Lib.hid (show Ct w K K C C src1 w1 from HT.out.2.trans t1 (fun _ m => .inl m) rfl (fun _ m _ => m))
      have HV1 := Lib.hid hV1
      clear hcall t1 hV1 HV0
      go_upto_region 6 with (first
        | (refine flatP.wpList_al rfl rfl ?_; intro w2 hb2 hk2 hs2; clear hs2)
        | (refine flatP.wpList_st rfl rfl rfl rfl (cellsI HZ.out) (cellsI rfl) hb2 ?_; intro w3 hb3 hk3 hs3; clear hs3))
      have T3 := Lib.hid ((T1.out.nob hk2).post hb2 (by decide) (by decide) T1.out.keep.size HP.out.1 (fun h0 => absurd h0 HP.out.2) hk3)
      have HV3 := Lib.hid ((HV1.out.nob hk2).keep hk3 (fun x hx e => by
        have := HV1.out.lt x hx
        omega))
      have HB3 := Lib.hid hb3
      clear hb2 hk2 hk3 hb3
      by_cases hd1 : d = 1
      · have hth : there gt (k + 1) = there gt k ++ [(k, v)] := by
          show (if (gt k).2 = 1 then there gt k ++ [(k, (gt k).1)] else there gt k) = _
          rw [HD.out, if_pos hd1, HVv.out]
        have HTh := Lib.hid hth
        have hvx := HV3.out
        have hln : (there gt k ++ [(k, v)]).length = (there gt k).length + 1 := by rw [List.length_append]; rfl
        have HLn2 := Lib.hid hln
        clear hth hln
        obtain ⟨cs, hcs⟩ : ∃ cs, Value.int .i64 ((k : Nat) : Int) :: ints v = cs := ⟨_, rfl⟩
        have hc1 := cellsRI (n := 16) (x := (k, v)) HZ.out
        rw [show rcI (k, v) = cs from hcs] at hc1
        have hbu := fun W => bu_rP (k : Int) v HZ.out W
        rw [hcs] at hbu
        have hbs := fun W => bs_rP cs hc1.len W
        have HC1 := Lib.hid hc1
        have HCS := Lib.hid hcs
        clear hc1 hcs
        have HBU := Lib.hid hbu
        have HBS := Lib.hid hbs
        clear hbu hbs hvx
        go_wp2_with (refine flatP.wpList_ld rfl rfl rfl (cellsI HZ.out) HB3.out ?_; refine wpList_bd2 rfl _ _ _ rfl _ _ _ rfl rfl (HBU.out w3) ?_; refine wpList_bs1 rfl _ 262 _ rfl cs rfl (HBS.out w3) ?_; intro w4 hb4 hk4 hs4; refine wpList_ap rfl _ _ 152 rfl 262 17 136 _ Tryz.underlying152 infF_rP rfl (by decide) A (there gt k).length cap _ rfl (HV3.out.nob hk4) (some ⟨w3.heap.size, 0, none⟩) 1 1 cs rfl 17 rfl (reads_all (n := 17) hb4 HC1.out.len) HC1.out.one (by unfold maxLen; omega) (by omega) ?_; intro A2 c2 w5 hv5 hk5 ho5)
        rw [← HCS.out] at hv5
        have T5 := Lib.hid (show Ct w K K C C src1 w5 by
          have t4 := T3.out.nob hk4
          have hown : ∀ x, Own A x → w.heap.size ≤ x := HT.out.1
          refine ⟨?_, t4.keep.trans hk5 (fun x hx m => absurd (hown x m) (by omega)), t4.mine⟩
          exact kc_row t4.is (HV3.out.nob hk4) (by decide) (by decide) (fun x m e => by have := hown x m; have := HP.out.1; omega) HP.out.2 hk5)
        have HF := Lib.hid (show ∀ x, Own A2 x → w.heap.size ≤ x from fun x m => by
          rcases ho5 x m with m | m
          · exact HT.out.1 x m
          · have := T3.out.keep.size
            have := hk4.size
            omega)
        clear hb4 hk4 hs4 hk5 ho5
        go_roundw
        case rel => exact ⟨k + 1, A2, c2, by omega, by go_num, by rw [HTh.out, HLn2.out], by rw [HTh.out, HLn2.out, rows_snoc]; exact hv5, Lib.hid ⟨HF.out, T5.out⟩⟩
        case measure => simp [intOf]; omega
      · have hth : there gt (k + 1) = there gt k := by
          show (if (gt k).2 = 1 then there gt k ++ [(k, (gt k).1)] else there gt k) = _
          rw [HD.out, if_neg hd1]
        have HTh := Lib.hid hth
        clear hth
        go_wp2_with fail
        go_roundw
        case rel => exact ⟨k + 1, A, cap, by omega, by go_num, by rw [HTh.out], by rw [HTh.out]; exact HV3.out, Lib.hid ⟨HT.out.1, T3.out⟩⟩
        case measure => simp [intOf]; omega
    · obtain rfl : k = 8 := by omega
      have HF := Lib.hid (And.intro hV HT.out)
      clear hV HT
      go_wp2
      go_ret
      exact ⟨A, cap, rfl, HF.out.1, HF.out.2⟩
end
end Go.Proofs.YtngchjejmnfanaaGreat.Au
namespace Go.Proofs.YtngchjejmnfanaaGreat.Au
open Go.RowKit Co
set_option linter.unusedVariables false
set_option linter.unusedSimpArgs false
section
variable {w : World} {K : Kn} {C : Cm} {b : List UInt8}
set_option maxRecDepth 100000 in
set_option maxHeartbeats 4000000 in
theorem readF_is (h : Kc w K C src1) (hx : K.xs = xsOf b) (hbr : C.brs = []) (hbad : C.bad = []) (hl : b.length = 492) (hg : AllGood b) :
    Calls Tryz.prog 78 #[.int .i64 12, .func (.func 48) #[.pointer (some ⟨C.p, 0, none⟩)] #[]] w fun e w' => ∃ A cap, e = .returned (.slice A (there (fAt b) 12).length cap) ∧ Vec w' 264 5 A (there (fAt b) 12).length cap (rows rcI (there (fAt b) 12)) ∧ (∀ x, Own A x → w.heap.size ≤ x) ∧ Ct w K K C C src1 w' := by
  have hnb : C.brs.length = 0 := by rw [hbr]; rfl
  have hget : ∀ W k, Kc W K C src1 → k < 12 → Calls Tryz.prog 48 #[.pointer (some ⟨C.p, 0, none⟩), .int .i64 (k : Nat)] W fun e w' => e = .returned (.tuple #[.agg (ints (fAt b k).1).toArray, .int .i64 (fAt b k).2]) ∧ Ct W K K C C src1 w' := fun W k hW hk => by
    have := file_is hW (k : Int) (wfk (by omega)) (fAt b k).1 (fAt b k).2 [] (by rw [hx, hnb, hbad]; exact rdF hl hg hk)
    rw [cm_same hbad] at this
    exact this
  have hlen : ∀ k, (fAt b k).1.length = 4 := fun k => Fi.dcd_len _
  have hp := h.c.lt.1
  have hT0 := Ct.still h (Keep.refl Nob w)
  have HG := Lib.hid hget
  have HP := Lib.hid (show C.p < w.heap.size ∧ ¬ (0 < C.brs.length) from ⟨hp, by omega⟩)
  have HLn := Lib.hid hlen
  generalize fAt b = gt at *
  have HT0 := Lib.hid hT0
  clear hget h hp hnb hlen hx hbr hbad hl hg hT0
  go_enter Tryz.func78, Tryz.ntmps78
  go_wp2_with fail
  go_loopw [5, 10] (fun s5 s10 wx => ∃ (k : Nat) (A : Option Addr) (cap : Nat), k ≤ 12 ∧ s10 = .int .i64 k ∧ s5 = .slice A (there gt k).length cap ∧ Vec wx 264 5 A (there gt k).length cap (rows rcI (there gt k)) ∧ Hid ((∀ x, Own A x → w.heap.size ≤ x) ∧ Ct w K K C C src1 wx)) (fun _ s10 _ => 12 - (intOf s10).toNat)
  case atStart => exact ⟨0, none, 0, Nat.zero_le _, rfl, rfl, Vec.nil _ _ _, Lib.hid ⟨fun x ⟨a, e, _⟩ => (by cases e), HT0.out⟩⟩
  case round =>
    obtain ⟨k, A, cap, hk, rfl, rfl, hV, HT⟩ := hrel
    by_cases hlt : (k : Int) < 12
    · have hcall := HG.out wr k HT.out.2.is (by omega)
      have hle := there_len gt k
      have hz := HLn.out k
      have HZ := Lib.hid hz
      obtain ⟨d, hd⟩ : ∃ d, (gt k).2 = d := ⟨_, rfl⟩
      rw [hd] at hcall
      have HD := Lib.hid hd
      obtain ⟨v, hv⟩ : ∃ v, (gt k).1 = v := ⟨_, rfl⟩
      rw [hv] at hcall HZ
      have HVv := Lib.hid hv
      have HV0 := Lib.hid hV
      clear hV hd hz hv
      go_wp2_with fail
      refine hcall.mono ?_; rintro e w1 ⟨rfl, t1⟩
      have hV1 := Ct.offV HT.out.2.is t1 HV0.out (by decide)
      have T1 := Lib.hid (show Ct w K K C C src1 w1 from HT.out.2.trans t1 (fun _ m => .inl m) rfl (fun _ m _ => m))
      have HV1 := Lib.hid hV1
      clear hcall t1 hV1 HV0
      go_upto_region 6 with (first
        | (refine flatF.wpList_al rfl rfl ?_; intro w2 hb2 hk2 hs2; clear hs2)
        | (refine flatF.wpList_st rfl rfl rfl rfl (cellsI HZ.out) (cellsI rfl) hb2 ?_; intro w3 hb3 hk3 hs3; clear hs3))
      have T3 := Lib.hid ((T1.out.nob hk2).post hb2 (by decide) (by decide) T1.out.keep.size HP.out.1 (fun h0 => absurd h0 HP.out.2) hk3)
      have HV3 := Lib.hid ((HV1.out.nob hk2).keep hk3 (fun x hx e => by
        have := HV1.out.lt x hx
        omega))
      have HB3 := Lib.hid hb3
      clear hb2 hk2 hk3 hb3
      by_cases hd1 : d = 1
      · have hth : there gt (k + 1) = there gt k ++ [(k, v)] := by
          show (if (gt k).2 = 1 then there gt k ++ [(k, (gt k).1)] else there gt k) = _
          rw [HD.out, if_pos hd1, HVv.out]
        have HTh := Lib.hid hth
        have hvx := HV3.out
        have hln : (there gt k ++ [(k, v)]).length = (there gt k).length + 1 := by rw [List.length_append]; rfl
        have HLn2 := Lib.hid hln
        clear hth hln
        obtain ⟨cs, hcs⟩ : ∃ cs, Value.int .i64 ((k : Nat) : Int) :: ints v = cs := ⟨_, rfl⟩
        have hc1 := cellsRI (n := 4) (x := (k, v)) HZ.out
        rw [show rcI (k, v) = cs from hcs] at hc1
        have hbu := fun W => bu_rF (k : Int) v HZ.out W
        rw [hcs] at hbu
        have hbs := fun W => bs_rF cs hc1.len W
        have HC1 := Lib.hid hc1
        have HCS := Lib.hid hcs
        clear hc1 hcs
        have HBU := Lib.hid hbu
        have HBS := Lib.hid hbs
        clear hbu hbs hvx
        go_wp2_with (refine flatF.wpList_ld rfl rfl rfl (cellsI HZ.out) HB3.out ?_; refine wpList_bd2 rfl _ _ _ rfl _ _ _ rfl rfl (HBU.out w3) ?_; refine wpList_bs1 rfl _ 264 _ rfl cs rfl (HBS.out w3) ?_; intro w4 hb4 hk4 hs4; refine wpList_ap rfl _ _ 154 rfl 264 5 40 _ Tryz.underlying154 infF_rF rfl (by decide) A (there gt k).length cap _ rfl (HV3.out.nob hk4) (some ⟨w3.heap.size, 0, none⟩) 1 1 cs rfl 5 rfl (reads_all (n := 5) hb4 HC1.out.len) HC1.out.one (by unfold maxLen; omega) (by omega) ?_; intro A2 c2 w5 hv5 hk5 ho5)
        rw [← HCS.out] at hv5
        have T5 := Lib.hid (show Ct w K K C C src1 w5 by
          have t4 := T3.out.nob hk4
          have hown : ∀ x, Own A x → w.heap.size ≤ x := HT.out.1
          refine ⟨?_, t4.keep.trans hk5 (fun x hx m => absurd (hown x m) (by omega)), t4.mine⟩
          exact kc_row t4.is (HV3.out.nob hk4) (by decide) (by decide) (fun x m e => by have := hown x m; have := HP.out.1; omega) HP.out.2 hk5)
        have HF := Lib.hid (show ∀ x, Own A2 x → w.heap.size ≤ x from fun x m => by
          rcases ho5 x m with m | m
          · exact HT.out.1 x m
          · have := T3.out.keep.size
            have := hk4.size
            omega)
        clear hb4 hk4 hs4 hk5 ho5
        go_roundw
        case rel => exact ⟨k + 1, A2, c2, by omega, by go_num, by rw [HTh.out, HLn2.out], by rw [HTh.out, HLn2.out, rows_snoc]; exact hv5, Lib.hid ⟨HF.out, T5.out⟩⟩
        case measure => simp [intOf]; omega
      · have hth : there gt (k + 1) = there gt k := by
          show (if (gt k).2 = 1 then there gt k ++ [(k, (gt k).1)] else there gt k) = _
          rw [HD.out, if_neg hd1]
        have HTh := Lib.hid hth
        clear hth
        go_wp2_with fail
        go_roundw
        case rel => exact ⟨k + 1, A, cap, by omega, by go_num, by rw [HTh.out], by rw [HTh.out]; exact HV3.out, Lib.hid ⟨HT.out.1, T3.out⟩⟩
        case measure => simp [intOf]; omega
    · obtain rfl : k = 12 := by omega
      have HF := Lib.hid (And.intro hV HT.out)
      clear hV HT
      go_wp2
      go_ret
      exact ⟨A, cap, rfl, HF.out.1, HF.out.2⟩
end
end Go.Proofs.YtngchjejmnfanaaGreat.Au
namespace Go.Proofs.YtngchjejmnfanaaGreat.Au
open Go.RowKit Co
set_option linter.unusedVariables false
set_option linter.unusedSimpArgs false
section
variable {w : World} {K : Kn} {C : Cm} {b : List UInt8}
set_option maxRecDepth 100000 in
set_option maxHeartbeats 4000000 in
theorem readR_is (h : Kc w K C src1) (hx : K.xs = xsOf b) (hbr : C.brs = []) (hbad : C.bad = []) (hl : b.length = 492) (hg : AllGood b) :
    Calls Tryz.prog 79 #[.int .i64 4, .func (.func 54) #[.pointer (some ⟨C.p, 0, none⟩)] #[]] w fun e w' => ∃ A cap, e = .returned (.slice A (there (rAt b) 4).length cap) ∧ Vec w' 266 37 A (there (rAt b) 4).length cap (rows rcR (there (rAt b) 4)) ∧ (∀ x, Own A x → w.heap.size ≤ x) ∧ Ct w K K C C src1 w' := by
  have hnb : C.brs.length = 0 := by rw [hbr]; rfl
  have hget : ∀ W k, Kc W K C src1 → k < 4 → Calls Tryz.prog 54 #[.pointer (some ⟨C.p, 0, none⟩), .int .i64 (k : Nat)] W fun e w' => e = .returned (.tuple #[.agg (Ri.pc (rAt b k).1).toArray, .int .i64 (rAt b k).2]) ∧ Ct W K K C C src1 w' := fun W k hW hk => by
    have := pipe_is hW (k : Int) (wfk (by omega)) (rAt b k).1 (rAt b k).2 [] (by rw [hx, hnb, hbad]; exact rdR hl hg hk)
    rw [cm_same hbad] at this
    exact this
  have hlen : ∀ k, (rAt b k).1.d.length = 32 := fun k => Ri.dcd_len _
  have hp := h.c.lt.1
  have hT0 := Ct.still h (Keep.refl Nob w)
  have HG := Lib.hid hget
  have HP := Lib.hid (show C.p < w.heap.size ∧ ¬ (0 < C.brs.length) from ⟨hp, by omega⟩)
  have HLn := Lib.hid hlen
  generalize rAt b = gt at *
  have HT0 := Lib.hid hT0
  clear hget h hp hnb hlen hx hbr hbad hl hg hT0
  go_enter Tryz.func79, Tryz.ntmps79
  go_wp2_with fail
  go_loopw [5, 10] (fun s5 s10 wx => ∃ (k : Nat) (A : Option Addr) (cap : Nat), k ≤ 4 ∧ s10 = .int .i64 k ∧ s5 = .slice A (there gt k).length cap ∧ Vec wx 266 37 A (there gt k).length cap (rows rcR (there gt k)) ∧ Hid ((∀ x, Own A x → w.heap.size ≤ x) ∧ Ct w K K C C src1 wx)) (fun _ s10 _ => 4 - (intOf s10).toNat)
  case atStart => exact ⟨0, none, 0, Nat.zero_le _, rfl, rfl, Vec.nil _ _ _, Lib.hid ⟨fun x ⟨a, e, _⟩ => (by cases e), HT0.out⟩⟩
  case round =>
    obtain ⟨k, A, cap, hk, rfl, rfl, hV, HT⟩ := hrel
    by_cases hlt : (k : Int) < 4
    · have hcall := HG.out wr k HT.out.2.is (by omega)
      have hle := there_len gt k
      have hz := HLn.out k
      have HZ := Lib.hid hz
      obtain ⟨d, hd⟩ : ∃ d, (gt k).2 = d := ⟨_, rfl⟩
      rw [hd] at hcall
      have HD := Lib.hid hd
      obtain ⟨v, hv⟩ : ∃ v, (gt k).1 = v := ⟨_, rfl⟩
      rw [hv] at hcall HZ
      have HVv := Lib.hid hv
      have HV0 := Lib.hid hV
      clear hV hd hz hv
      go_wp2_with fail
      refine hcall.mono ?_; rintro e w1 ⟨rfl, t1⟩
      have hV1 := Ct.offV HT.out.2.is t1 HV0.out (by decide)
      have T1 := Lib.hid (show Ct w K K C C src1 w1 from HT.out.2.trans t1 (fun _ m => .inl m) rfl (fun _ m _ => m))
      have HV1 := Lib.hid hV1
      clear hcall t1 hV1 HV0
      go_upto_region 6 with (first
        | (refine flatR.wpList_al rfl rfl ?_; intro w2 hb2 hk2 hs2; clear hs2)
        | (refine flatR.wpList_st rfl rfl rfl rfl (cellsR HZ.out) (cellsR rfl) hb2 ?_; intro w3 hb3 hk3 hs3; clear hs3))
      have T3 := Lib.hid ((T1.out.nob hk2).post hb2 (by decide) (by decide) T1.out.keep.size HP.out.1 (fun h0 => absurd h0 HP.out.2) hk3)
      have HV3 := Lib.hid ((HV1.out.nob hk2).keep hk3 (fun x hx e => by
        have := HV1.out.lt x hx
        omega))
      have HB3 := Lib.hid hb3
      clear hb2 hk2 hk3 hb3
      by_cases hd1 : d = 1
      · have hth : there gt (k + 1) = there gt k ++ [(k, v)] := by
          show (if (gt k).2 = 1 then there gt k ++ [(k, (gt k).1)] else there gt k) = _
          rw [HD.out, if_pos hd1, HVv.out]
        have HTh := Lib.hid hth
        have hvx := HV3.out
        have hln : (there gt k ++ [(k, v)]).length = (there gt k).length + 1 := by rw [List.length_append]; rfl
        have HLn2 := Lib.hid hln
        clear hth hln
        obtain ⟨cs, hcs⟩ : ∃ cs, Value.int .i64 ((k : Nat) : Int) :: Ri.pc v = cs := ⟨_, rfl⟩
        have hc1 := cellsRR (x := (k, v)) HZ.out
        rw [show rcR (k, v) = cs from hcs] at hc1
        have hbu := fun W => bu_rR (k : Int) v HZ.out W
        rw [hcs] at hbu
        have hbs := fun W => bs_rR cs hc1.len W
        have HC1 := Lib.hid hc1
        have HCS := Lib.hid hcs
        clear hc1 hcs
        have HBU := Lib.hid hbu
        have HBS := Lib.hid hbs
        clear hbu hbs hvx
        go_wp2_with (refine flatR.wpList_ld rfl rfl rfl (cellsR HZ.out) HB3.out ?_; refine wpList_bd2 rfl _ _ _ rfl _ _ _ rfl rfl (HBU.out w3) ?_; refine wpList_bs1 rfl _ 266 _ rfl cs rfl (HBS.out w3) ?_; intro w4 hb4 hk4 hs4; refine wpList_ap rfl _ _ 156 rfl 266 37 72 _ Tryz.underlying156 infF_rR rfl (by decide) A (there gt k).length cap _ rfl (HV3.out.nob hk4) (some ⟨w3.heap.size, 0, none⟩) 1 1 cs rfl 37 rfl (reads_all (n := 37) hb4 HC1.out.len) HC1.out.one (by unfold maxLen; omega) (by omega) ?_; intro A2 c2 w5 hv5 hk5 ho5)
        rw [← HCS.out] at hv5
        have T5 := Lib.hid (show Ct w K K C C src1 w5 by
          have t4 := T3.out.nob hk4
          have hown : ∀ x, Own A x → w.heap.size ≤ x := HT.out.1
          refine ⟨?_, t4.keep.trans hk5 (fun x hx m => absurd (hown x m) (by omega)), t4.mine⟩
          exact kc_row t4.is (HV3.out.nob hk4) (by decide) (by decide) (fun x m e => by have := hown x m; have := HP.out.1; omega) HP.out.2 hk5)
        have HF := Lib.hid (show ∀ x, Own A2 x → w.heap.size ≤ x from fun x m => by
          rcases ho5 x m with m | m
          · exact HT.out.1 x m
          · have := T3.out.keep.size
            have := hk4.size
            omega)
        clear hb4 hk4 hs4 hk5 ho5
        go_roundw
        case rel => exact ⟨k + 1, A2, c2, by omega, by go_num, by rw [HTh.out, HLn2.out], by rw [HTh.out, HLn2.out, rows_snoc]; exact hv5, Lib.hid ⟨HF.out, T5.out⟩⟩
        case measure => simp [intOf]; omega
      · have hth : there gt (k + 1) = there gt k := by
          show (if (gt k).2 = 1 then there gt k ++ [(k, (gt k).1)] else there gt k) = _
          rw [HD.out, if_neg hd1]
        have HTh := Lib.hid hth
        clear hth
        go_wp2_with fail
        go_roundw
        case rel => exact ⟨k + 1, A, cap, by omega, by go_num, by rw [HTh.out], by rw [HTh.out]; exact HV3.out, Lib.hid ⟨HT.out.1, T3.out⟩⟩
        case measure => simp [intOf]; omega
    · obtain rfl : k = 4 := by omega
      have HF := Lib.hid (And.intro hV HT.out)
      clear hV HT
      go_wp2
      go_ret
      exact ⟨A, cap, rfl, HF.out.1, HF.out.2⟩
end
end Go.Proofs.YtngchjejmnfanaaGreat.Au
namespace Go.Proofs.YtngchjejmnfanaaGreat.Au
open Go.RowKit Co
set_option linter.unusedVariables false
set_option linter.unusedSimpArgs false
def sParent : ByteArray := ⟨#[112, 97, 114, 101, 110, 116]⟩
def sFd : ByteArray := ⟨#[102, 100]⟩
def sRefs : ByteArray := ⟨#[114, 101, 102, 115]⟩
def sPipe : ByteArray := ⟨#[112, 105, 112, 101]⟩
def sEnds : ByteArray := ⟨#[101, 110, 100, 115]⟩
def sBad : ByteArray := ⟨#[98, 97, 100]⟩
def told (l : List (ByteArray × Bool)) : List ByteArray := (l.filter (·.2)).map (·.1)
def strs (l : List ByteArray) : List Value := l.map Value.string
def PP (b : List UInt8) : List (Nat × List Int) := there (pAt b) 8
def FF (b : List UInt8) : List (Nat × List Int) := there (fAt b) 12
def RR (b : List UInt8) : List (Nat × Ri.Pp) := there (rAt b) 4
/-- The five questions, each with its word. -/
def five (v0 v1 v2 v3 v4 : Bool) : List (ByteArray × Bool) := [(sParent, v0), (sFd, v1), (sRefs, v2), (sPipe, v3), (sEnds, v4)]
def asked (b : List UInt8) : List (ByteArray × Bool) := five ((PP b).any (lpB (PP b))) ((PP b).any (lfB (FF b))) ((FF b).any (wrB (PP b))) ((FF b).any (lqB (RR b))) ((RR b).any (weB (FF b)))
def faultsOf (b : List UInt8) : List ByteArray := if b.length = 492 ∧ bads b = [] then told (asked b) else [sBad]
theorem told_take {l : List (ByteArray × Bool)} {k : Nat} {s : ByteArray} {v : Bool} (h : l[k]? = some (s, v)) : told (l.take (k + 1)) = told (l.take k) ++ (if v then [s] else []) := by
  unfold told
  rw [List.take_add_one, h, List.filter_append, List.map_append]
  cases v <;> rfl
theorem told_le {l : List (ByteArray × Bool)} (k : Nat) : (told (l.take k)).length ≤ k := by
  unfold told
  rw [List.length_map]
  exact Nat.le_trans (List.length_filter_le _ _) (by rw [List.length_take]; omega)
theorem small_P {v : List Int} (hl : v.length = 16) (h : Cd.okd v = true) : ∀ x ∈ v, 0 ≤ x ∧ x ≤ 65535 := by
  have B := Cd.okd_bounds h
  obtain ⟨a0, a1, a2, a3, a4, a5, a6, a7, f0, f1, f2, f3, f4, f5, f6, f7, rfl⟩ := Cd.split16 hl
  have b0 := B.s
  have b1 := B.pa
  have b2 := B.g
  have b3 := B.c
  have b4 := B.pe
  have b5 := B.m
  have b6 := B.i
  have b7 := B.ca
  have bf := B.f
  simp only [List.getD_cons_zero, List.getD_cons_succ] at b0 b1 b2 b3 b4 b5 b6 b7
  intro x hx
  by_cases hd : x ∈ [a0, a1, a2, a3, a4, a5, a6, a7, f0, f1, f2, f3, f4, f5, f6, f7].drop 8
  · have := bf x hd; omega
  · simp only [List.drop_succ_cons, List.drop_zero] at hd
    simp only [List.mem_cons, List.not_mem_nil, or_false] at hx hd
    omega
theorem small_F {v : List Int} (hl : v.length = 4) (h : Fi.okd v = true) : ∀ x ∈ v, 0 ≤ x ∧ x ≤ 65535 := by
  have B := Fi.okd_bounds h
  obtain ⟨a0, a1, a2, a3, rfl⟩ := Fi.split4 hl
  have b0 := B.k
  have b1 := B.pi
  have b2 := B.r
  have b3 := B.f
  simp only [List.getD_cons_zero, List.getD_cons_succ] at b0 b1 b2 b3
  intro x hx
  simp only [List.mem_cons, List.not_mem_nil, or_false] at hx
  omega
theorem PP_ok {b : List UInt8} : ∀ x ∈ PP b, x.1 < 8 ∧ x.2.length = 16 ∧ ∀ v ∈ x.2, 0 ≤ v ∧ v ≤ 65535 := fun x hx => by
  obtain ⟨h1, h2, h3⟩ := there_mem.1 hx
  have hd : Cd.dcd ((b.drop (24 * x.1)).take 24) = (x.2, 1) := Prod.ext h3 h2
  obtain ⟨g1, g2, _⟩ := Cd.dcd_good hd
  exact ⟨h1, g1, small_P g1 g2⟩
theorem FF_ok {b : List UInt8} : ∀ x ∈ FF b, x.1 < 12 ∧ x.2.length = 4 ∧ ∀ v ∈ x.2, 0 ≤ v ∧ v ≤ 65535 := fun x hx => by
  obtain ⟨h1, h2, h3⟩ := there_mem.1 hx
  have hd : Fi.dcd ((b.drop (192 + 8 * x.1)).take 8) = (x.2, 1) := Prod.ext h3 h2
  obtain ⟨g1, g2, _⟩ := Fi.dcd_good hd
  exact ⟨h1, g1, small_F g1 g2⟩
theorem ri_good {l : List UInt8} {v : Ri.Pp} (h : Ri.dcd l = (v, 1)) : Ri.okd v = true := by
  unfold Ri.dcd at h
  repeat' split at h
  all_goals first | (simp only [Prod.mk.injEq] at h; exact absurd h.2 (by decide)) | skip
  rename_i hg
  simp only [Prod.mk.injEq, and_true] at h
  subst h
  unfold Ri.gd at hg
  rw [Bool.and_eq_true] at hg
  exact hg.1
theorem RR_ok {b : List UInt8} : ∀ x ∈ RR b, x.1 < 4 ∧ x.2.d.length = 32 ∧ 0 ≤ x.2.r ∧ x.2.r ≤ 65535 ∧ 0 ≤ x.2.s ∧ x.2.s ≤ 65535 := fun x hx => by
  obtain ⟨h1, h2, h3⟩ := there_mem.1 hx
  have hd : Ri.dcd ((b.drop (288 + 40 * x.1)).take 40) = (x.2, 1) := Prod.ext h3 h2
  have hl := Ri.dcd_len ((b.drop (288 + 40 * x.1)).take 40)
  rw [hd] at hl
  have B := Ri.okd_bounds (ri_good hd)
  have := B.r
  have := B.s
  exact ⟨h1, hl, by omega, by omega, by omega, by omega⟩
theorem ses_of {w : World} {b : List UInt8} {Ap Af Ar : Option Addr} {cp cf cr : Nat} (h1 : Vec w 262 17 Ap (PP b).length cp (rows rcI (PP b))) (h2 : Vec w 264 5 Af (FF b).length cf (rows rcI (FF b))) (h3 : Vec w 266 37 Ar (RR b).length cr (rows rcR (RR b))) : IsSes w ⟨Ap, cp, PP b, Af, cf, FF b, Ar, cr, RR b⟩ :=
  ⟨h1.reads, h2.reads, h3.reads, there_len _ _, there_len _ _, there_len _ _, PP_ok, FF_ok, RR_ok⟩
theorem al_ft (W : World) : (Instr.alloc 160 true (.tuple #[])).run Tryz.prog W = .ok (.pointer (some ⟨W.heap.size, 0, none⟩)) (W.alloc (.cells #[.string ⟨#[]⟩, .bool false] 160)) := by
  go_simp
  try rfl
theorem info_ft : (Tryz.prog.info? 160).map (·.size) = some 2 := by kernel_rfl
theorem flat_ft : Flat 160 2 [.string ⟨#[]⟩, .bool false] := ⟨⟨_, Tryz.underlying160, rfl⟩, info_ft, al_ft, rfl⟩
theorem info_str : (Tryz.prog.info? 9).map (fun i => (i.zero, i.size, i.bytes)) = some (some (.string ⟨#[]⟩), 1, 16) := by kernel_rfl
def fcells (l : List (ByteArray × Bool)) : List Value := (l.map fun x => [Value.string x.1, Value.bool x.2]).flatten
theorem fcells_get {l : List (ByteArray × Bool)} {k j : Nat} {x : ByteArray × Bool} (h : l[k]? = some x) (hj : j < 2) : (fcells l)[k * 2 + j]? = [Value.string x.1, Value.bool x.2][j]? := by
  have := flatten_get (l.map fun x => [Value.string x.1, Value.bool x.2]) (fun c hc => by obtain ⟨x, _, rfl⟩ := List.mem_map.1 hc; rfl) k j hj
  rw [List.getElem?_map, h] at this
  exact this
end Go.Proofs.YtngchjejmnfanaaGreat.Au
namespace Go.Proofs.YtngchjejmnfanaaGreat.Au
open Go.RowKit Co
set_option linter.unusedVariables false
set_option linter.unusedSimpArgs false
set_option maxRecDepth 100000 in
set_option maxHeartbeats 8000000 in
theorem faults_is {w : World} (A : Option Addr) (n c : Nat) (b : List UInt8) (hb : Reads w A n (bytes b)) :
    Calls Tryz.prog 22 #[.slice A n c] w fun e w' => ∃ B cap, e = .returned (.slice B (faultsOf b).length cap) ∧ Reads w' B (faultsOf b).length (strs (faultsOf b)) ∧ Keep (From w.heap.size) w w' := by
  have hl : b.length = n := by have := hb.1; simpa [bytes] using this
  by_cases h : n = 492
  · subst h
    have hlk := looked_is A c b hb hl
    by_cases hg : bads b = []
    · have e : faultsOf b = told (asked b) := if_pos ⟨hl, hg⟩
      rw [e]
      obtain ⟨v0, hv0⟩ : ∃ v, (PP b).any (lpB (PP b)) = v := ⟨_, rfl⟩
      obtain ⟨v1, hv1⟩ : ∃ v, (PP b).any (lfB (FF b)) = v := ⟨_, rfl⟩
      obtain ⟨v2, hv2⟩ : ∃ v, (FF b).any (wrB (PP b)) = v := ⟨_, rfl⟩
      obtain ⟨v3, hv3⟩ : ∃ v, (FF b).any (lqB (RR b)) = v := ⟨_, rfl⟩
      obtain ⟨v4, hv4⟩ : ∃ v, (RR b).any (weB (FF b)) = v := ⟨_, rfl⟩
      have hask : asked b = five v0 v1 v2 v3 v4 := by unfold asked; rw [hv0, hv1, hv2, hv3, hv4]
      rw [hask]
      have HVs := Lib.hid (And.intro hv0 (And.intro hv1 (And.intro hv2 (And.intro hv3 hv4))))
      clear hv0 hv1 hv2 hv3 hv4 hask
      have G := good_of hg
      rw [hg] at hlk
      have HG := Lib.hid G
      have HL := Lib.hid hl
      clear hb e G hg hl
      go_enter Tryz.func22, Tryz.ntmps22
      go_wp2_with fail
      refine hlk.mono ?_; rintro e w1 ⟨K, C, B, cap, rfl, O, hv⟩
      have HO := Lib.hid O
      have hr1 := readP_is O.op.kc O.xs O.brs O.bad HL.out HG.out
      rw [show there (pAt b) 8 = PP b from rfl] at hr1
      clear hlk hv O
      go_wp2_with fail
      refine hr1.mono ?_; rintro e w2 ⟨Ap, cp, rfl, hv1, hf1, t1⟩
      have O2 := Lib.hid (HO.out.op.ct t1 rfl)
      have hr2 := readF_is O2.out.kc HO.out.xs HO.out.brs HO.out.bad HL.out HG.out
      rw [show there (fAt b) 12 = FF b from rfl] at hr2
      have HV1 := Lib.hid hv1
      clear hr1 t1 hv1 hf1
      go_wp2_with fail
      refine hr2.mono ?_; rintro e w3 ⟨Af, cf, rfl, hv2, hf2, t2⟩
      have HV2 := Lib.hid (And.intro (Ct.offV O2.out.kc t2 HV1.out (by decide)) hv2)
      have O3 := Lib.hid (O2.out.ct t2 rfl)
      have hr3 := readR_is O3.out.kc HO.out.xs HO.out.brs HO.out.bad HL.out HG.out
      rw [show there (rAt b) 4 = RR b from rfl] at hr3
      clear hr2 t2 hv2 hf2
      go_wp2_with fail
      refine hr3.mono ?_; rintro e w4 ⟨Ar, cr, rfl, hv3, hf3, t3⟩
      have HS := Lib.hid (ses_of (b := b) (Ct.offV O3.out.kc t3 HV2.out.1 (by decide)) (Ct.offV O3.out.kc t3 HV2.out.2 (by decide)) hv3)
      have K4 := Lib.hid (O3.out.ct t3 rfl).keep
      clear hr3 t3 hv3 hf3
      -- the questions
      have hq0 := fun W (k : Keep Nob w4 W) => hLP_is (HS.out.nob k)
      have hq1 := fun W (k : Keep Nob w4 W) => hLF_is (HS.out.nob k)
      have hq2 := fun W (k : Keep Nob w4 W) => hWR_is (HS.out.nob k)
      have hq3 := fun W (k : Keep Nob w4 W) => hLQ_is (HS.out.nob k)
      have hq4 := fun W (k : Keep Nob w4 W) => hWE_is (HS.out.nob k)
      unfold Ses.val at hq0 hq1 hq2 hq3 hq4
      dsimp only at hq0 hq1 hq2 hq3 hq4
      rw [HVs.out.1] at hq0
      rw [HVs.out.2.1] at hq1
      rw [HVs.out.2.2.1] at hq2
      rw [HVs.out.2.2.2.1] at hq3
      rw [HVs.out.2.2.2.2] at hq4
      have Q0 := Lib.hid hq0
      have Q1 := Lib.hid hq1
      have Q2 := Lib.hid hq2
      have Q3 := Lib.hid hq3
      have Q4 := Lib.hid hq4
      generalize (PP b).length = lp at *
      generalize (FF b).length = lf at *
      generalize (RR b).length = lr at *
      clear hq0 hq1 hq2 hq3 hq4 HVs HV1 HV2 HG HL HO O2 O3 HS
      go_upto_region 6 with fail
      generalize hw5 : w4.alloc (.cells #[.slice Ap lp cp, .slice Af lf cf, .slice Ar lr cr] 159) = w5 at *
      have k5 : Keep Nob w4 w5 := by rw [← hw5]; exact (Keep.refl Nob w4).alloc _
      have b5 : Blk w5 w4.heap.size 159 [.slice Ap lp cp, .slice Af lf cf, .slice Ar lr cr] := by rw [← hw5]; exact Blk.new w4 159 _
      have K5 := Lib.hid k5
      have SF := Lib.hid (show ∀ W, Keep Nob w5 W → W.cell? ⟨w4.heap.size, 0, none⟩ = some (.slice Ap lp cp) ∧ W.cell? ⟨w4.heap.size, 1, none⟩ = some (.slice Af lf cf) ∧ W.cell? ⟨w4.heap.size, 2, none⟩ = some (.slice Ar lr cr) from fun W k => ⟨(b5.nob k).cell 0, (b5.nob k).cell 1, (b5.nob k).cell 2⟩)
      have s0 := SF.out _ (Keep.nobdrew w5)
      have hc0 := Q0.out _ (k5.nobt (Keep.nobdrew w5))
      clear hw5 k5 b5
      go_region_held3 (fun w' => w'.cell? ⟨w4.heap.size, 0, none⟩ = some (.slice Ap lp cp) ∧ w'.cell? ⟨w4.heap.size, 1, none⟩ = some (.slice Af lf cf) ∧ w'.cell? ⟨w4.heap.size, 2, none⟩ = some (.slice Ar lr cr))
        (first | exact s5 | exact s4 | exact s3 | exact s2 | exact s1 | exact s0 | exact SF.out _ (K10.out.alloc _))
        (first
          | (go_at_call 80; with_reducible_and_instances apply Calls.mono hc0; rintro e x0 ⟨rfl, y0⟩; have K6 := Lib.hid ((Keep.nobdrew w5).nobt y0); have s1 := SF.out _ K6.out; have hc1 := Q1.out _ (K5.out.nobt K6.out))
          | (go_at_call 81; with_reducible_and_instances apply Calls.mono hc1; rintro e x1 ⟨rfl, y1⟩; have K7 := Lib.hid (K6.out.nobt y1); have s2 := SF.out _ K7.out; have hc2 := Q2.out _ (K5.out.nobt K7.out))
          | (go_at_call 82; with_reducible_and_instances apply Calls.mono hc2; rintro e x2 ⟨rfl, y2⟩; have K8 := Lib.hid (K7.out.nobt y2); have s3 := SF.out _ K8.out; have hc3 := Q3.out _ (K5.out.nobt K8.out))
          | (go_at_call 83; with_reducible_and_instances apply Calls.mono hc3; rintro e x3 ⟨rfl, y3⟩; have K9 := Lib.hid (K8.out.nobt y3); have s4 := SF.out _ K9.out; have hc4 := Q4.out _ (K5.out.nobt K9.out))
          | (go_at_call 84; with_reducible_and_instances apply Calls.mono hc4; rintro e x4 ⟨rfl, y4⟩; have K10 := Lib.hid (K9.out.nobt y4); have s5 := SF.out _ K10.out))
      have bA : Blk (x4.alloc (.cells #[.string { data := #[112, 97, 114, 101, 110, 116] }, .bool v0, .string { data := #[102, 100] }, .bool v1, .string { data := #[114, 101, 102, 115] }, .bool v2, .string { data := #[112, 105, 112, 101] }, .bool v3, .string { data := #[101, 110, 100, 115] }, .bool v4] 160)) x4.heap.size 160 (fcells (five v0 v1 v2 v3 v4)) := Blk.new x4 160 _
      have kA : Keep (From w.heap.size) w (x4.alloc (.cells #[.string { data := #[112, 97, 114, 101, 110, 116] }, .bool v0, .string { data := #[102, 100] }, .bool v1, .string { data := #[114, 101, 102, 115] }, .bool v2, .string { data := #[112, 105, 112, 101] }, .bool v3, .string { data := #[101, 110, 100, 115] }, .bool v4] 160)) := K4.out.nob ((K5.out.nobt K10.out).alloc _)
      have HA := Lib.hid (And.intro bA kA)
      have HFl := Lib.hid (show (five v0 v1 v2 v3 v4).length = 5 from rfl)
      clear s0 s1 s2 s3 s4 s5 hc0 hc1 hc2 hc3 hc4 y0 y1 y2 y3 y4 bA kA K4 K5 K6 K7 K8 K9 K10 Q0 Q1 Q2 Q3 Q4 SF
      generalize x4.alloc (.cells #[.string { data := #[112, 97, 114, 101, 110, 116] }, .bool v0, .string { data := #[102, 100] }, .bool v1, .string { data := #[114, 101, 102, 115] }, .bool v2, .string { data := #[112, 105, 112, 101] }, .bool v3, .string { data := #[101, 110, 100, 115] }, .bool v4] 160) = wA at *
      generalize x4.heap.size = g at *
      generalize hfl : five v0 v1 v2 v3 v4 = fl at *
      have HFL := Lib.hid hfl
      clear hfl
      go_wp2_with fail
      go_loopw [6, 45] (fun s6 s45 wx => ∃ (k : Nat) (D : Option Addr) (cd : Nat), k ≤ 5 ∧ s45 = .int .i64 k ∧ s6 = .slice D (told (fl.take k)).length cd ∧ Vec wx 9 1 D (told (fl.take k)).length cd (strs (told (fl.take k))) ∧ Hid ((∀ x, Own D x → w.heap.size ≤ x ∧ x ≠ g) ∧ Keep (From w.heap.size) w wx ∧ Blk wx g 160 (fcells fl))) (fun _ s45 _ => 5 - (intOf s45).toNat)
      case atStart => exact ⟨0, none, 0, Nat.zero_le _, rfl, rfl, Vec.nil _ _ _, Lib.hid ⟨fun x ⟨a, e, _⟩ => (by cases e), HA.out.2, HA.out.1⟩⟩
      case round =>
        obtain ⟨k, D, cd, hk, rfl, rfl, hV, HB⟩ := hrel
        by_cases hlt : (k : Int) < 5
        · obtain ⟨⟨s, v⟩, hx⟩ : ∃ x, fl[k]? = some x := ⟨_, List.getElem?_eq_getElem (by rw [HFl.out]; omega)⟩
          have hle := told_le (l := fl) k
          have htk := told_take hx
          have HM := Lib.hid (show wr.rangeAt g (k * 2) [.string s, .bool v] from fun j u hu => by
            have hj : j < 2 := (List.getElem?_eq_some_iff.1 hu).1
            exact (HB.out.2.2.cell (k * 2 + j)).trans ((fcells_get hx hj).trans hu))
          have HTk := Lib.hid htk
          have HV := Lib.hid hV
          have HFt := Lib.hid (show Cells 2 [.string s, .bool v] from ⟨rfl, fun u hu => by simp at hu; rcases hu with rfl | rfl <;> rfl⟩)
          have HF0 := Lib.hid (show Cells 2 [.string ⟨#[]⟩, .bool false] from ⟨rfl, fun u hu => by simp at hu; rcases hu with rfl | rfl <;> rfl⟩)
          have HIf := Lib.hid info_ft
          clear htk hx hV
          go_upto_region 9 with (first
            | (refine wpList_load_mid rfl 160 _ rfl g (k * 2) rfl [.string s, .bool v] _ HM.out Tryz.underlying160 rfl HIf.out ?_)
            | (refine flat_ft.wpList_al rfl rfl ?_; intro w2 hb2 hk2 hs2; clear hs2)
            | (refine flat_ft.wpList_st rfl rfl rfl rfl HFt.out HF0.out hb2 ?_; intro w3 hb3 hk3 hs3; clear hs3))
          have z0 : w3.cell? ⟨wr.heap.size, 0, none⟩ = some (.string s) := hb3.cell 0
          have z1 : w3.cell? ⟨wr.heap.size, 1, none⟩ = some (.bool v) := hb3.cell 1
          have H3 := Lib.hid (show Vec w3 9 1 D (told (fl.take k)).length cd (strs (told (fl.take k))) ∧ Keep (From w.heap.size) w w3 ∧ Blk w3 g 160 (fcells fl) from
            ⟨(HV.out.nob hk2).keep hk3 (fun x hx e => by have := HV.out.lt x hx; omega), (HB.out.2.1.nob hk2).at_ hk3 HB.out.2.1.size, (HB.out.2.2.nob hk2).keep hk3 (fun e => by have := HB.out.2.2.lt; omega)⟩)
          clear hb2 hk2 hb3 hk3
          cases v with
          | true =>
            have hvx := H3.out.1.nob ((Keep.refl Nob w3).alloc (.cells #[.string s] 9))
            have hr4 := reads_all (n := 1) (Blk.new w3 9 [.string s]) rfl
            go_wp2_with (at_builtin; go_loud (refine wpList_ap rfl _ _ 76 rfl 9 1 16 _ Tryz.underlying76 info_str rfl (by decide) D (told (fl.take k)).length cd _ rfl hvx (some ⟨w3.heap.size, 0, none⟩) 1 1 [.string s] rfl 1 rfl hr4 (fun u hu => by simp at hu; subst hu; rfl) (by unfold maxLen; omega) (by omega) ?_); intro A2 c2 w5 hv5 hk5 ho5)
            have e1 : told (fl.take (k + 1)) = told (fl.take k) ++ [s] := HTk.out
            have e2 : (told (fl.take (k + 1))).length = (told (fl.take k)).length + 1 := by rw [e1, List.length_append]; rfl
            have H5 := Lib.hid (show Vec w5 9 1 A2 (told (fl.take (k + 1))).length c2 (strs (told (fl.take (k + 1)))) ∧ (∀ x, Own A2 x → w.heap.size ≤ x ∧ x ≠ g) ∧ Keep (From w.heap.size) w w5 ∧ Blk w5 g 160 (fcells fl) by
              have ka := (Keep.refl Nob w3).alloc (.cells #[.string s] 9)
              refine ⟨by rw [e2, e1]; simpa [strs] using hv5, fun x hx => ?_, (H3.out.2.1.nob ka).from_ hk5 (fun x m => (HB.out.1 x m).1), (H3.out.2.2.nob ka).keep hk5 (fun m => (HB.out.1 g m).2 rfl)⟩
              rcases ho5 x hx with m | m
              · exact HB.out.1 x m
              · have h1 := H3.out.2.1.size
                have h2 := H3.out.2.2.lt
                have h3 : (w3.alloc (.cells #[.string s] 9)).heap.size = w3.heap.size + 1 := by simp
                exact ⟨by omega, by omega⟩)
            have E2 := Lib.hid e2
            clear hvx hr4 hv5 hk5 ho5 e1 e2 z0 z1
            go_roundw
            case rel => exact ⟨k + 1, A2, c2, by omega, by go_num, by rw [E2.out], H5.out.1, Lib.hid H5.out.2⟩
            case measure => simp [intOf]; omega
          | false =>
            have e1 : told (fl.take (k + 1)) = told (fl.take k) := by
              have := HTk.out
              simpa using this
            have E1 := Lib.hid e1
            clear e1
            go_wp2_with fail
            go_roundw
            case rel => exact ⟨k + 1, D, cd, by omega, by go_num, by rw [E1.out], by rw [E1.out]; exact H3.out.1, Lib.hid ⟨HB.out.1, H3.out.2⟩⟩
            case measure => simp [intOf]; omega
        · have hk5 : k = 5 := by omega
          have e : fl.take k = fl := List.take_of_length_le (by rw [HFl.out, hk5]; exact Nat.le_refl _)
          rw [e] at hV ⊢
          have F := Lib.hid (And.intro (show Reads wr D (told fl).length (strs (told fl)) by have := hV.reads; rwa [Nat.mul_one] at this) HB.out.2.1)
          clear hV HB e hk5
          obtain rfl := HFL.out
          go_wp2
          go_ret
          exact ⟨D, ⟨cd, rfl⟩, F.out⟩
    · have e : faultsOf b = [sBad] := if_neg (fun h => hg h.2)
      rw [e]
      have hpos : (0 : Int) < ((bads b).length : Int) := by
        have : (bads b).length ≠ 0 := fun e => hg (List.eq_nil_of_length_eq_zero e)
        omega
      generalize bads b = bl at *
      clear hb e hg hl
      go_enter Tryz.func22, Tryz.ntmps22
      go_wp2_with fail
      refine hlk.mono ?_; rintro e w1 ⟨K, C, B, cap, rfl, O, hv⟩
      have bb := Blk.new w1 9 [.string sBad]
      have F := Lib.hid (show Reads (w1.alloc (.cells #[.string sBad] 9)) (some ⟨w1.heap.size, 0, none⟩) 1 (strs [sBad]) ∧ Keep (From w.heap.size) w (w1.alloc (.cells #[.string sBad] 9)) from ⟨reads_all bb rfl, O.op.keep.nob ((Keep.refl Nob w1).alloc _)⟩)
      clear bb hlk O hv
      go_wp2
      go_ret
      exact ⟨_, 1, rfl, F.out⟩
  · have e : faultsOf b = [sBad] := if_neg (fun h2 => h (by omega))
    have hlk := looked_no (w := w) A n c h
    rw [e]
    clear hb e
    go_enter Tryz.func22, Tryz.ntmps22
    go_wp2_with fail
    refine hlk.mono ?_; rintro e w1 ⟨rfl, hB, k⟩
    have bb := Blk.new w1 9 [.string sBad]
    have F := Lib.hid (show Reads (w1.alloc (.cells #[.string sBad] 9)) (some ⟨w1.heap.size, 0, none⟩) 1 (strs [sBad]) ∧ Keep (From w.heap.size) w (w1.alloc (.cells #[.string sBad] 9)) from ⟨reads_all bb rfl, (k.mono (fun _ _ f => f.elim) : Keep (From w.heap.size) w w1).nob ((Keep.refl Nob w1).alloc _)⟩)
    clear bb hlk hB k
    go_wp2
    go_ret
    exact ⟨_, 1, rfl, F.out⟩
theorem sound_is {w : World} (A : Option Addr) (n c : Nat) (b : List UInt8) (hb : Reads w A n (bytes b)) (v : Bool) (hv : decide (faultsOf b = []) = v) :
    Calls Tryz.prog 21 #[.slice A n c] w fun e w' => e = .returned (.bool v) ∧ Keep (From w.heap.size) w w' := by
  have hf := faults_is A n c b hb
  have e : decide ((faultsOf b).length = 0) = v := by rw [← hv]; simp [List.length_eq_zero_iff]
  generalize faultsOf b = l at *
  subst e
  clear hb hv
  go_enter Tryz.func21, Tryz.ntmps21
  go_wp2_with fail
  refine hf.mono ?_; rintro e w1 ⟨B, cap, rfl, _, k⟩
  clear hf
  go_wp2
  go_ret
  exact ⟨by cases l with | nil => rfl | cons x l => first | (simp; done) | (simp; omega), k⟩
end Go.Proofs.YtngchjejmnfanaaGreat.Au
namespace Go.Proofs.YtngchjejmnfanaaGreat.Au
open Go.RowKit Co
set_option linter.unusedVariables false
set_option linter.unusedSimpArgs false
theorem blank_bads : bads Pn.blankB = [] := by decide +kernel
theorem blank_abad : abad Pn.blankB = [] := by
  unfold abad
  rw [if_pos Pn.blank_len, blank_bads]
theorem nil_abad : abad [] = [(0, 0)] := rfl
theorem blank_asked : told (asked Pn.blankB) = [] := by decide +kernel
theorem blank_faults : faultsOf Pn.blankB = [] := by
  unfold faultsOf
  rw [if_pos ⟨Pn.blank_len, blank_bads⟩, blank_asked]
theorem nil_faults : faultsOf [] = [sBad] := rfl
theorem from_next {w w1 W : World} (k1 : Keep (From w.heap.size) w w1) (k : Keep (From w1.heap.size) w1 W) : Keep (From w.heap.size) w W :=
  k1.trans k (fun x _ m => Nat.le_trans k1.size m)
theorem from_blk {w1 W : World} {g : Nat} {t : TypeId} {cs : List Value} (hb : Blk w1 g t cs) (k : Keep (From w1.heap.size) w1 W) : Blk W g t cs :=
  hb.keep k (fun m => by have := hb.lt; have m : w1.heap.size ≤ g := m; omega)
set_option maxRecDepth 100000 in
set_option maxHeartbeats 4000000 in
theorem awake_is (w : World) : Calls Tryz.prog 23 #[] w fun e w' => e = .returned (.bool true) ∧ Keep (From w.heap.size) w w' := by
  have hblk := blank_is w
  have hrb := fun W => Pn.rblank_is W
  have hso := fun W g (hb : Blk W g 5 (bytes Pn.blankB)) => sound_is (w := W) (some ⟨g, 0, none⟩) 492 492 Pn.blankB (reads_all hb (by simp [bytes, Pn.blank_len])) true (by rw [blank_faults]; rfl)
  have hba := fun W g (hb : Blk W g 5 (bytes Pn.blankB)) => abad_is (w := W) (some ⟨g, 0, none⟩) 492 492 Pn.blankB (reads_all hb (by simp [bytes, Pn.blank_len]))
  have hbn := fun W => abad_is (w := W) none 0 0 [] (Reads.nil_ _ _)
  have hsn := fun W => sound_is (w := W) none 0 0 [] (Reads.nil_ _ _) false (by rw [nil_faults]; rfl)
  rw [blank_abad] at hba
  rw [nil_abad] at hbn
  have hcv := fun W g (hb : Blk W g 5 (bytes Pn.blankB)) => run_str (P := Tryz.prog) W 36 9 5 (some ⟨g, 0, none⟩) 492 492 Pn.blankB Tryz.underlying36 Tryz.underlying5 Tryz.underlying9 (reads_all hb (by simp [bytes, Pn.blank_len]))
  simp only [List.length_nil, List.length_cons, Nat.zero_add] at hba hbn
  have HSo := Lib.hid hso
  have HBa := Lib.hid hba
  have HBn := Lib.hid hbn
  have HSn := Lib.hid hsn
  have HCv := Lib.hid hcv
  have HRb := Lib.hid hrb
  generalize Pn.blankB = bb at *
  clear hso hba hbn hsn hcv hrb
  go_enter Tryz.func23, Tryz.ntmps23
  go_wp2_with fail
  refine hblk.mono ?_; rintro e w1 ⟨g, rfl, hb, hg, k1⟩
  have HB := Lib.hid hb
  have K1 := Lib.hid k1
  have KD := Lib.hid (Keep.nobdrew w1)
  have s0 := HCv.out _ g (HB.out.nob KD.out)
  have hc0 := HRb.out w1.drew
  clear hblk hb hg k1
  go_wp2_with fail
  go_region_held3 (fun w' => (convert 36 9 (.slice (some ⟨g, 0, none⟩) 492 492)).run Tryz.prog w' = .ok (.string (str bb)) w')
    (first | exact s5 | exact s4 | exact s3 | exact s2 | exact s1 | exact s0)
    (first
      | (go_at_call 32; with_reducible_and_instances apply Calls.mono hc0; rintro e x0 ⟨rfl, y0⟩; have K2 := Lib.hid (show Keep (From w.heap.size) w x0 from (K1.out.nob KD.out).nob y0); have B2 := Lib.hid ((HB.out.nob KD.out).nob y0); have s1 := HCv.out _ g B2.out; have hc1 := HSo.out _ g B2.out)
      | (go_at_call 21; with_reducible_and_instances apply Calls.mono hc1; rintro e x1 ⟨rfl, y1⟩; have K3 := Lib.hid (from_next K2.out y1); have B3 := Lib.hid (from_blk B2.out y1); have s2 := HCv.out _ g B3.out; have hc2 := HBa.out _ g B3.out)
      | (go_at_call 27; with_reducible_and_instances apply Calls.mono hc2; rintro e x2 ⟨A2, c2, rfl, _, y2⟩; have K4 := Lib.hid (from_next K3.out y2); have B4 := Lib.hid (from_blk B3.out y2); have s3 := HCv.out _ g B4.out; have hc3 := HBn.out x2)
      | (go_at_call 27; with_reducible_and_instances apply Calls.mono hc3; rintro e x3 ⟨A3, c3, rfl, _, y3⟩; have K5 := Lib.hid (from_next K4.out y3); have B5 := Lib.hid (from_blk B4.out y3); have s4 := HCv.out _ g B5.out; have hc4 := HSn.out x3)
      | (go_at_call 21; with_reducible_and_instances apply Calls.mono hc4; rintro e x4 ⟨rfl, y4⟩; have K6 := Lib.hid (from_next K5.out y4); have B6 := Lib.hid (from_blk B5.out y4); have s5 := HCv.out _ g B6.out))
  clear s0 s1 s2 s3 s4 s5 hc0 hc1 hc2 hc3 hc4
  go_wp2
  go_ret
  exact ⟨rfl, K6.out⟩
end Go.Proofs.YtngchjejmnfanaaGreat.Au
namespace Go.Proofs.YtngchjejmnfanaaGreat.Au
open Go.RowKit Co
set_option linter.unusedVariables false
set_option linter.unusedSimpArgs false
/-- A row of n parts. -/
def rowsOf (n : Nat) (f : Nat → List Value) : List Value := (mk n f).flatten
theorem rowsOf_get {n W : Nat} {f : Nat → List Value} (hW : ∀ i, (f i).length = W) {i j : Nat} (hi : i < n) (hj : j < W) : (rowsOf n f)[i * W + j]? = (f i)[j]? := by
  have := flatten_get (mk n f) (fun c hc => by
    obtain ⟨x, _, rfl⟩ := List.mem_map.1 hc
    exact hW x) i j hj
  rw [mk_get hi] at this
  exact this
theorem rowsOf_len {n W : Nat} {f : Nat → List Value} (hW : ∀ i, (f i).length = W) : (rowsOf n f).length = n * W := by
  unfold rowsOf
  rw [List.length_flatten]
  have : (mk n f).map List.length = List.replicate n W := by
    apply List.ext_getElem?
    intro i
    rw [List.getElem?_map, List.getElem?_replicate]
    by_cases h : i < n
    · rw [mk_get h, if_pos h]; simp [hW]
    · rw [if_neg h, List.getElem?_eq_none (by simp [mk]; omega)]; rfl
  rw [this]
  simp
theorem rowsOf_set {n W : Nat} {f g : Nat → List Value} (hf : ∀ i, (f i).length = W) (hg : ∀ i, (g i).length = W) {k : Nat} (hk : k < n) (hs : ∀ i, i ≠ k → f i = g i) : splice (rowsOf n f) (k * W) (g k) = rowsOf n g := by
  have hl := rowsOf_len (n := n) hf
  have hkW : k * W + W ≤ n * W := by
    have := Nat.mul_le_mul_right W (show k + 1 ≤ n by omega)
    rwa [Nat.add_mul, Nat.one_mul] at this
  apply List.ext_getElem?
  intro i
  rw [splice_get _ _ _ (by rw [hl, hg]; exact hkW)]
  rcases Nat.eq_zero_or_pos W with h0 | h0
  · subst h0
    have e1 : (rowsOf n g).length = 0 := by rw [rowsOf_len hg]; rfl
    have e2 : (rowsOf n f).length = 0 := by rw [hl]; rfl
    rw [List.getElem?_eq_none (show (rowsOf n g).length ≤ i by omega)]
    split
    · rw [hg] at *; omega
    · exact List.getElem?_eq_none (by omega)
  · obtain ⟨q, r, hr, rfl⟩ : ∃ q r, r < W ∧ i = q * W + r := ⟨i / W, i % W, Nat.mod_lt _ h0, by rw [Nat.mul_comm]; exact (Nat.div_add_mod i W).symm⟩
    by_cases hq : q < n
    · rw [rowsOf_get hg hq hr]
      by_cases e : q = k
      · subst e
        rw [if_pos ⟨by omega, by rw [hg]; omega⟩, show q * W + r - q * W = r by omega]
      · rw [if_neg (fun h => by
          rw [hg] at h
          rcases Nat.lt_or_gt_of_ne e with h2 | h2
          · have := Nat.mul_le_mul_right W (show q + 1 ≤ k by omega)
            rw [Nat.add_mul] at this
            omega
          · have := Nat.mul_le_mul_right W (show k + 1 ≤ q by omega)
            rw [Nat.add_mul] at this
            omega), rowsOf_get hf hq hr, hs q e]
    · have h1 : n * W ≤ q * W + r := by
        have := Nat.mul_le_mul_right W (show n ≤ q by omega)
        omega
      rw [if_neg (fun h => by rw [hg] at h; omega), List.getElem?_eq_none (by rw [hl]; exact h1), List.getElem?_eq_none (by rw [rowsOf_len hg]; exact h1)]
/-- What an array holds when k of its records are set. -/
def setTo {α : Type} (z : α) (g : Nat → α) (k i : Nat) : α := if i < k then g i else z
theorem setTo_zero {α : Type} (z : α) (g : Nat → α) : setTo z g 0 = fun _ => z := by funext i; unfold setTo; rw [if_neg (by omega)]
theorem setTo_at {α : Type} (z : α) (g : Nat → α) (k : Nat) : setTo z g (k + 1) k = g k := if_pos (by omega)
theorem setTo_ne {α : Type} (z : α) (g : Nat → α) {k i : Nat} (h : i ≠ k) : setTo z g k i = setTo z g (k + 1) i := by
  unfold setTo
  by_cases h1 : i < k
  · rw [if_pos h1, if_pos (by omega)]
  · rw [if_neg h1, if_neg (by omega)]
theorem setTo_all {α : Type} (z : α) (g : Nat → α) (n : Nat) (f : α → List Value) : rowsOf n (fun i => f (setTo z g n i)) = rowsOf n (fun i => f (g i)) := by
  unfold rowsOf mk
  congr 1
  refine List.map_congr_left (fun i hi => ?_)
  unfold setTo
  rw [if_pos (List.mem_range.1 hi)]
def vP (b : List UInt8) (i : Nat) : List Int := (pAt b i).1
def vF (b : List UInt8) (i : Nat) : List Int := (fAt b i).1
def vR (b : List UInt8) (i : Nat) : Ri.Pp := (rAt b i).1
theorem vP_len (b : List UInt8) (i : Nat) : (vP b i).length = 16 := Cd.dcd_len _
theorem vF_len (b : List UInt8) (i : Nat) : (vF b i).length = 4 := Fi.dcd_len _
theorem vR_len (b : List UInt8) (i : Nat) : (vR b i).d.length = 32 := Ri.dcd_len _
def cP (b : List UInt8) (k : Nat) : List Value := rowsOf 8 (fun i => ints (setTo Cd.noP (vP b) k i))
def cF (b : List UInt8) (k : Nat) : List Value := rowsOf 12 (fun i => ints (setTo Fi.noP (vF b) k i))
def cR (b : List UInt8) (k : Nat) : List Value := rowsOf 4 (fun i => Ri.pc (setTo Ri.noP (vR b) k i))
theorem wP (b : List UInt8) (k i : Nat) : (ints (setTo Cd.noP (vP b) k i)).length = 16 := by
  rw [ints_len]; unfold setTo; split
  · exact vP_len b i
  · rfl
theorem wF (b : List UInt8) (k i : Nat) : (ints (setTo Fi.noP (vF b) k i)).length = 4 := by
  rw [ints_len]; unfold setTo; split
  · exact vF_len b i
  · rfl
theorem wR (b : List UInt8) (k i : Nat) : (Ri.pc (setTo Ri.noP (vR b) k i)).length = 36 := by
  unfold setTo; split
  · exact Ri.pc_len (vR_len b i)
  · exact Ri.pc_len rfl
theorem cP_len (b : List UInt8) (k : Nat) : (cP b k).length = 128 := rowsOf_len (wP b k)
theorem cF_len (b : List UInt8) (k : Nat) : (cF b k).length = 48 := rowsOf_len (wF b k)
theorem cR_len (b : List UInt8) (k : Nat) : (cR b k).length = 144 := rowsOf_len (wR b k)
theorem cP_next (b : List UInt8) {k : Nat} (h : k < 8) : splice (cP b k) (k * 16) (ints (vP b k)) = cP b (k + 1) := by
  have := rowsOf_set (g := fun i => ints (setTo Cd.noP (vP b) (k + 1) i)) (wP b k) (wP b (k + 1)) h (fun i hi => by rw [setTo_ne _ _ hi])
  rwa [setTo_at] at this
theorem cF_next (b : List UInt8) {k : Nat} (h : k < 12) : splice (cF b k) (k * 4) (ints (vF b k)) = cF b (k + 1) := by
  have := rowsOf_set (g := fun i => ints (setTo Fi.noP (vF b) (k + 1) i)) (wF b k) (wF b (k + 1)) h (fun i hi => by rw [setTo_ne _ _ hi])
  rwa [setTo_at] at this
theorem cR_next (b : List UInt8) {k : Nat} (h : k < 4) : splice (cR b k) (k * 36) (Ri.pc (vR b k)) = cR b (k + 1) := by
  have := rowsOf_set (g := fun i => Ri.pc (setTo Ri.noP (vR b) (k + 1) i)) (wR b k) (wR b (k + 1)) h (fun i hi => by rw [setTo_ne _ _ hi])
  rwa [setTo_at] at this
theorem one_rows {n : Nat} {f : Nat → List Value} (h : ∀ i, ∀ v ∈ f i, v.oneCell' = true) : ∀ v ∈ rowsOf n f, v.oneCell' = true := fun v hv => by
  obtain ⟨l, hl, hv⟩ := List.mem_flatten.1 hv
  obtain ⟨i, _, rfl⟩ := List.mem_map.1 hl
  exact h i v hv
theorem cellsP (b : List UInt8) (k : Nat) : Cells 128 (cP b k) := ⟨cP_len b k, one_rows (fun i => ints_one _)⟩
theorem cellsF (b : List UInt8) (k : Nat) : Cells 48 (cF b k) := ⟨cF_len b k, one_rows (fun i => ints_one _)⟩
theorem cellsRr (b : List UInt8) (k : Nat) : Cells 144 (cR b k) := ⟨cR_len b k, one_rows (fun i => Ri.pc_one _)⟩
theorem str_cut (l : List UInt8) (a c : Nat) (ha : a ≤ c) (hc : c ≤ l.length) (W : World) : (Instr.slice 9 (.string (str l)) (some (.int .i64 (a : Int))) (some (.int .i64 (c : Int))) none).run Tryz.prog W = .ok (.string (str ((l.drop a).take (c - a)))) W := by
  rw [run_slice_string W 9 (str l) .i64 .i64 (a : Int) (c : Int) Tryz.underlying9 (by omega) (by omega) (by rw [str_size]; omega), Cd.str_ext, Int.toNat_natCast, Int.toNat_natCast, List.drop_take]
/-- A part of a block is stored. -/
theorem _root_.Go.Proofs.YtngchjejmnfanaaGreat.Co.Flat.store_mid {t e : TypeId} {n : Nat} {z q old : List Value} (F : Flat t n z) (hq : Cells n q) {w : World} {g off : Nat} (hb : Blk w g e old) (hl : off + n ≤ old.length) : (storeVar t ⟨g, off, none⟩ (.agg q.toArray)).run Tryz.prog w = .ok () (w.setRow g (splice old off q).toArray) := by
  have hst := run_storeCells_at (P := Tryz.prog) g off e q 0 old.toArray w hb (by simp [hq.len]; omega) hq.one
  have hi := F.i
  cases hx : Tryz.prog.info? t with
  | none => simp [hx] at hi
  | some i =>
    have hs : i.size = n := by simpa [hx] using hi
    simp only [Nat.add_zero] at hst
    simp [storeVar, sizeOf, typeInfo, hx, Value.cells, hq.len, hs, hst, splice, Sem.run_bind, Result.andThen]
theorem _root_.Go.Proofs.YtngchjejmnfanaaGreat.Co.Flat.wpList_stm {ops : Array Oper} {rest : List Oper} {o : Oper} {a : Act} {Q : Exit → Act → World → Prop} {w : World} {t e : TypeId} {n : Nat} {z q old : List Value} {g off : Nat} {x y : Operand} (F : Flat t n z) (hgd : o.guard = none) (ho : o.op = .store t x y) (hx : a.eval x = .pointer (some ⟨g, off, none⟩)) (hy : a.eval y = .agg q.toArray) (hq : Cells n q) (hb : Blk w g e old) (hl : off + n ≤ old.length)
    (h : ∀ w', Blk w' g e (splice old off q) → Keep (· = g) w w' → w'.heap.size = w.heap.size → wpList Tryz.prog ops Q rest (a.put o.dst undef) w') : wpList Tryz.prog ops Q (o :: rest) a w := by
  refine wpList_plain hgd fun K hK => ?_
  have hrun := F.store_mid hq hb hl
  have hh := h (w.setRow g (splice old off q).toArray) (hb.setRow _) ((Keep.refl _ w).setRow g _ (fun _ => rfl)) (by simp)
  unfold Oper.wp
  simp [execOp, ho, hx, hy, Instr.storeAt, Instr.sureAddr, hrun, Result.andThen]
  exact hK _ _ hh
theorem _root_.Go.Proofs.YtngchjejmnfanaaGreat.Co.Flat.wp_st {o : Oper} {a : Act} {K : Act → World → Prop} {Q : Exit → Act → World → Prop} {w : World} {t : TypeId} {n : Nat} {z q old : List Value} {g : Nat} {x y : Operand} (F : Flat t n z) (ho : o.op = .store t x y) (hx : a.eval x = .pointer (some ⟨g, 0, none⟩)) (hy : a.eval y = .agg q.toArray) (hq : Cells n q) (hd : Cells n old) (hb : Blk w g t old)
    (h : ∀ w', Blk w' g t q → Keep (· = g) w w' → K (a.put o.dst undef) w') : Oper.wp Tryz.prog o a w K Q :=
  F.wp_store ho hx hy hq hd hb (h _ (hb.setRow _) ((Keep.refl _ w).setRow g _ (fun _ => rfl)))
theorem results_c3 {fn : Func} {p1 p2 p3 u : Tmp} {t1 t2 t3 : TypeId} (h : fn.results = #[.cell p1 t1, .cell p2 t2, .cell p3 t3, .tmp u]) (tmps : Array Value) (P : Program) (w : World) {a1 a2 a3 : Addr} {v1 v2 v3 : Value} (h1 : tmps.getD p1 undef = .pointer (some a1)) (h2 : tmps.getD p2 undef = .pointer (some a2)) (h3 : tmps.getD p3 undef = .pointer (some a3))
    (l1 : (loadVar t1 a1).run P w = .ok v1 w) (l2 : (loadVar t2 a2).run P w = .ok v2 w) (l3 : (loadVar t3 a3).run P w = .ok v3 w) : (results fn tmps).run P w = .ok (.tuple #[v1, v2, v3, tmps.getD u undef]) w := by
  have e : (results fn tmps).run P w = ((asAddr (tmps.getD p1 undef)).run P w).andThen fun a w => ((loadVar t1 a).run P w).andThen fun v1 w => ((asAddr (tmps.getD p2 undef)).run P w).andThen fun a w => ((loadVar t2 a).run P w).andThen fun v2 w => ((asAddr (tmps.getD p3 undef)).run P w).andThen fun a w => ((loadVar t3 a).run P w).andThen fun v3 w => .ok (.tuple #[v1, v2, v3, tmps.getD u undef]) w := by
    simp only [results, h]
    simp [Sem.run_bind, Result.andThen]
  rw [e, h1, h2, h3]
  simp [asAddr, l1, l2, l3, Result.andThen]
theorem inA8 : (Tryz.prog.info? 85).map (·.size) = some 128 := by kernel_rfl
theorem inA12 : (Tryz.prog.info? 86).map (·.size) = some 48 := by kernel_rfl
theorem inA4 : (Tryz.prog.info? 87).map (·.size) = some 144 := by kernel_rfl
theorem alA8 (W : World) : (Instr.alloc 85 true (.tuple #[])).run Tryz.prog W = .ok (.pointer (some ⟨W.heap.size, 0, none⟩)) (W.alloc (.cells (List.replicate 128 (Value.int .i64 0)).toArray 85)) := by
  go_simp
  try rfl
theorem alA12 (W : World) : (Instr.alloc 86 true (.tuple #[])).run Tryz.prog W = .ok (.pointer (some ⟨W.heap.size, 0, none⟩)) (W.alloc (.cells (List.replicate 48 (Value.int .i64 0)).toArray 86)) := by
  go_simp
  try rfl
theorem alA4 (W : World) : (Instr.alloc 87 true (.tuple #[])).run Tryz.prog W = .ok (.pointer (some ⟨W.heap.size, 0, none⟩)) (W.alloc (.cells (rowsOf 4 (fun _ => Ri.pc Ri.noP)).toArray 87)) := by
  go_simp
  try rfl
theorem flatA8 : Flat 85 128 (List.replicate 128 (Value.int .i64 0)) := ⟨⟨_, Tryz.underlying85, rfl⟩, inA8, alA8, List.length_replicate⟩
theorem flatA12 : Flat 86 48 (List.replicate 48 (Value.int .i64 0)) := ⟨⟨_, Tryz.underlying86, rfl⟩, inA12, alA12, List.length_replicate⟩
theorem flatA4 : Flat 87 144 (rowsOf 4 (fun _ => Ri.pc Ri.noP)) := ⟨⟨_, Tryz.underlying87, rfl⟩, inA4, alA4, rowsOf_len (fun _ => Ri.pc_len rfl)⟩
theorem cP_zero (b : List UInt8) : cP b 0 = List.replicate 128 (Value.int .i64 0) := by unfold cP; rw [setTo_zero]; rfl
theorem cF_zero (b : List UInt8) : cF b 0 = List.replicate 48 (Value.int .i64 0) := by unfold cF; rw [setTo_zero]; rfl
theorem cR_zero (b : List UInt8) : cR b 0 = rowsOf 4 (fun _ => Ri.pc Ri.noP) := by unfold cR; rw [setTo_zero]
/-- Which of the first records of a kind are bad. -/
def blk (b : List UInt8) (kind : Int) (k : Nat) : List Rf := (mk k (fun i => (kind, (i : Int)))).filter (isBad b)
theorem blk_next (b : List UInt8) (kind : Int) (k : Nat) : blk b kind (k + 1) = blk b kind k ++ (if isBad b (kind, (k : Int)) then [(kind, (k : Int))] else []) := by
  unfold blk
  rw [← mk_succ, List.filter_append]
  congr 1
  by_cases h : isBad b (kind, (k : Int)) = true
  · rw [if_pos h, List.filter_cons_of_pos h]; rfl
  · rw [if_neg h, List.filter_cons_of_neg h]; rfl
theorem blk_le (b : List UInt8) (kind : Int) (k : Nat) : (blk b kind k).length ≤ k := Nat.le_trans (List.length_filter_le _ _) (by simp [mk])
/-- What is bad of the kinds before, and of the first records of a kind. -/
def ap (pre : List Rf) (b : List UInt8) (kind : Int) (k : Nat) : List Rf := pre ++ blk b kind k
theorem ap_zero (pre : List Rf) (b : List UInt8) (kind : Int) : ap pre b kind 0 = pre := List.append_nil _
theorem ap_next (pre : List Rf) (b : List UInt8) (kind : Int) (k : Nat) : ap pre b kind (k + 1) = ap pre b kind k ++ (if isBad b (kind, (k : Int)) then [(kind, (k : Int))] else []) := by
  unfold ap
  rw [blk_next, List.append_assoc]
theorem ap_le (pre : List Rf) (b : List UInt8) (kind : Int) (k : Nat) : (ap pre b kind k).length ≤ pre.length + k := by
  unfold ap
  rw [List.length_append]
  have := blk_le b kind k
  omega
theorem bads_blk (b : List UInt8) : bads b = blk b 1 8 ++ blk b 2 12 ++ blk b 3 4 ++ (if isBad b (4, 0) then [(4, 0)] else []) ++ (if isBad b (5, 0) then [(5, 0)] else []) := by
  unfold bads allRecs blk
  rw [List.filter_append, List.filter_append, List.filter_append, Nat.add_zero]
  simp only [List.append_assoc]
  congr 3
  by_cases h4 : isBad b (4, 0) = true <;> by_cases h5 : isBad b (5, 0) = true <;> simp [List.filter, h4, h5]
theorem last4 {b : List UInt8} (hl : b.length = 492) : (b.drop 488).take 4 = b.drop 488 ∧ (b.drop 488).length = 4 ∧ (b.drop 488).getD 0 0 = b.getD 488 0 := by
  have h4 : (b.drop 488).length = 4 := by rw [List.length_drop, hl]
  refine ⟨List.take_of_length_le (by omega), h4, ?_⟩
  rw [List.getD_eq_getElem?_getD, List.getD_eq_getElem?_getD, List.getElem?_drop]
theorem front_hi {b : List UInt8} (hl : b.length = 492) (h : 7 < (b.getD 488 0).toNat) : (gAt b).2 = 2 := by
  obtain ⟨h1, h2, h3⟩ := last4 hl
  unfold gAt fdec
  rw [h1, if_pos h2, h3, if_neg (by omega)]
theorem front_ok {b : List UInt8} (hl : b.length = 492) (h : (b.getD 488 0).toNat ≤ 7) (e : b.drop 488 = frontB ((b.getD 488 0).toNat : Int)) : (gAt b).2 = 1 := by
  obtain ⟨h1, h2, h3⟩ := last4 hl
  unfold gAt fdec
  rw [h1, if_pos h2, h3, if_pos h, if_pos e.symm]
theorem front_no {b : List UInt8} (hl : b.length = 492) (h : (b.getD 488 0).toNat ≤ 7) (e : b.drop 488 ≠ frontB ((b.getD 488 0).toNat : Int)) : (gAt b).2 = 2 := by
  obtain ⟨h1, h2, h3⟩ := last4 hl
  unfold gAt fdec
  rw [h1, if_pos h2, h3, if_pos h, if_neg (fun e2 => e e2.symm)]
theorem bad1 (b : List UInt8) (k : Nat) : isBad b (1, (k : Int)) = ((pAt b k).2 == 2) := by simp [isBad]
theorem bad2 (b : List UInt8) (k : Nat) : isBad b (2, (k : Int)) = ((fAt b k).2 == 2) := by simp [isBad]
theorem bad3 (b : List UInt8) (k : Nat) : isBad b (3, (k : Int)) = ((rAt b k).2 == 2) := by simp [isBad]
theorem bad4 (b : List UInt8) : isBad b (4, 0) = ((tAt b).2 == 2) := by simp [isBad]
theorem bad5 (b : List UInt8) : isBad b (5, 0) = ((gAt b).2 == 2) := by simp [isBad]
end Go.Proofs.YtngchjejmnfanaaGreat.Au
namespace Go.Proofs.YtngchjejmnfanaaGreat.Au
open Go.RowKit Co
set_option linter.unusedVariables false
set_option linter.unusedSimpArgs false
theorem dcdP_three (l : List UInt8) : Cd.dcd l = (Cd.noP, 0) ∨ ((Cd.dcd l).2 = 1 ∧ Cd.okd (Cd.dcd l).1 = true) ∨ (Cd.dcd l).2 = 2 := by
  unfold Cd.dcd
  split
  · split
    · exact .inl rfl
    · split
      · rename_i hg
        unfold Cd.gd at hg
        rw [Bool.and_eq_true] at hg
        exact .inr (.inl ⟨rfl, hg.1⟩)
      · exact .inr (.inr rfl)
  · exact .inr (.inr rfl)
theorem dcdF_three (l : List UInt8) : Fi.dcd l = (Fi.noP, 0) ∨ ((Fi.dcd l).2 = 1 ∧ Fi.okd (Fi.dcd l).1 = true) ∨ (Fi.dcd l).2 = 2 := by
  unfold Fi.dcd
  split
  · split
    · exact .inl rfl
    · split
      · rename_i hg
        unfold Fi.gd at hg
        rw [Bool.and_eq_true] at hg
        exact .inr (.inl ⟨rfl, hg.1⟩)
      · exact .inr (.inr rfl)
  · exact .inr (.inr rfl)
theorem dcdR_three (l : List UInt8) : Ri.dcd l = (Ri.noP, 0) ∨ ((Ri.dcd l).2 = 1 ∧ Ri.okd (Ri.dcd l).1 = true) ∨ (Ri.dcd l).2 = 2 := by
  unfold Ri.dcd
  split
  · split
    · exact .inl rfl
    · split
      · rename_i hg
        unfold Ri.gd at hg
        rw [Bool.and_eq_true] at hg
        exact .inr (.inl ⟨rfl, hg.1⟩)
      · exact .inr (.inr rfl)
  · exact .inr (.inr rfl)
section
variable {b : List UInt8}
theorem p_yes {i : Nat} (h : (pAt b i).2 = 1) : Cd.okd (vP b i) = true := by
  rcases dcdP_three ((b.drop (24 * i)).take 24) with e | e | e
  · have : (pAt b i).2 = 0 := by unfold pAt; rw [e]
    omega
  · exact e.2
  · have : (pAt b i).2 = 2 := e
    omega
theorem p_no (hg : AllGood b) {i : Nat} (hi : i < 8) (h : (pAt b i).2 ≠ 1) : vP b i = Cd.noP := by
  rcases dcdP_three ((b.drop (24 * i)).take 24) with e | e | e
  · unfold vP pAt; rw [e]
  · exact absurd e.1 h
  · exact absurd e (hg.p i hi)
theorem p_st (hg : AllGood b) {i : Nat} (hi : i < 8) : (vP b i).getD 0 0 = 0 ↔ (pAt b i).2 ≠ 1 := by
  constructor
  · intro e h
    have := (Cd.okd_bounds (p_yes h)).s
    omega
  · intro h
    rw [p_no hg hi h]; rfl
theorem f_yes {i : Nat} (h : (fAt b i).2 = 1) : Fi.okd (vF b i) = true := by
  rcases dcdF_three ((b.drop (192 + 8 * i)).take 8) with e | e | e
  · have : (fAt b i).2 = 0 := by unfold fAt; rw [e]
    omega
  · exact e.2
  · have : (fAt b i).2 = 2 := e
    omega
theorem f_no (hg : AllGood b) {i : Nat} (hi : i < 12) (h : (fAt b i).2 ≠ 1) : vF b i = Fi.noP := by
  rcases dcdF_three ((b.drop (192 + 8 * i)).take 8) with e | e | e
  · unfold vF fAt; rw [e]
  · exact absurd e.1 h
  · exact absurd e (hg.f i hi)
theorem f_st (hg : AllGood b) {i : Nat} (hi : i < 12) : (vF b i).getD 0 0 = 0 ↔ (fAt b i).2 ≠ 1 := by
  constructor
  · intro e h
    have := (Fi.okd_bounds (f_yes h)).k
    omega
  · intro h
    rw [f_no hg hi h]; rfl
theorem r_two (hg : AllGood b) {i : Nat} (hi : i < 4) : (rAt b i).2 = 0 ∨ (rAt b i).2 = 1 := by
  rcases dcdR_three ((b.drop (288 + 40 * i)).take 40) with e | e | e
  · left; unfold rAt; rw [e]
  · exact .inr e.1
  · exact absurd e (hg.r i hi)
theorem r_st (hg : AllGood b) {i : Nat} (hi : i < 4) : (rAt b i).2 = 0 ↔ (rAt b i).2 ≠ 1 := by
  rcases r_two hg hi with e | e <;> rw [e] <;> decide
theorem any_there {α : Type} (g : Nat → α × Int) {n k : Nat} (hk : k < n) : ((there g n).any fun y => (y.1 : Int) == (k : Int)) = decide ((g k).2 = 1) := by
  by_cases h : (g k).2 = 1
  · rw [decide_eq_true h, List.any_eq_true]
    exact ⟨(k, (g k).1), there_mem.2 ⟨hk, h, rfl⟩, by simp⟩
  · rw [decide_eq_false h, List.any_eq_false]
    intro x hx e
    have hx' : x.1 = k := by have := beq_iff_eq.1 e; omega
    exact h (hx' ▸ (there_mem.1 hx).2.1)
theorem there_next {α : Type} (g : Nat → α × Int) {k : Nat} (h : (g k).2 = 1) : there g (k + 1) = there g k ++ [(k, (g k).1)] := if_pos h
theorem there_skip {α : Type} (g : Nat → α × Int) {k : Nat} (h : (g k).2 ≠ 1) : there g (k + 1) = there g k := if_neg h
/-- A process' Parent. -/
theorem lp_none {i : Nat} {v : List Int} (h : v.getD 1 0 = 0) : lpB (PP b) (i, v) = false := by
  unfold lpB
  dsimp only
  rw [h, Bool.or_eq_false_iff, Bool.and_eq_false_iff]
  exact ⟨by rw [beq_eq_false_iff_ne]; omega, .inl (by decide)⟩
theorem lp_self {i : Nat} {v : List Int} (h : v.getD 1 0 = (i : Int) + 1) : lpB (PP b) (i, v) = true := by
  unfold lpB
  dsimp only
  rw [h, Bool.or_eq_true]
  exact .inl (by rw [beq_iff_eq]; omega)
theorem lp_other (hg : AllGood b) {i q : Nat} {v : List Int} (h : v.getD 1 0 = (q : Int) + 1) (hq : q < 8) (hn : q ≠ i) : lpB (PP b) (i, v) = decide ((vP b q).getD 0 0 = 0) := by
  unfold lpB
  dsimp only
  rw [h, show (q : Int) + 1 - 1 = (q : Int) by omega, beq_eq_false_iff_ne.2 (show (q : Int) ≠ (i : Int) by omega), decide_eq_true (show (0 : Int) ≤ (q : Int) by omega), Bool.false_or, Bool.true_and]
  show (!((there (pAt b) 8).any fun y => (y.1 : Int) == (q : Int))) = _
  rw [any_there (pAt b) hq]
  by_cases e : (pAt b q).2 = 1
  · rw [decide_eq_true e, decide_eq_false (fun h => ((p_st hg hq).1 h) e)]; rfl
  · rw [decide_eq_false e, decide_eq_true ((p_st hg hq).2 e)]; rfl
/-- An Fd. -/
theorem lf_none : lf1B (FF b) 0 = false := by unfold lf1B; rfl
theorem lf_some (hg : AllGood b) {fd : Int} {q : Nat} (h : fd = (q : Int) + 1) (hq : q < 12) : lf1B (FF b) fd = decide ((vF b q).getD 0 0 = 0) := by
  unfold lf1B
  rw [h, show (q : Int) + 1 - 1 = (q : Int) by omega, decide_eq_true (show (0 : Int) < (q : Int) + 1 by omega), Bool.true_and]
  show (!((there (fAt b) 12).any fun y => (y.1 : Int) == (q : Int))) = _
  rw [any_there (fAt b) hq]
  by_cases e : (fAt b q).2 = 1
  · rw [decide_eq_true e, decide_eq_false (fun h => ((f_st hg hq).1 h) e)]; rfl
  · rw [decide_eq_false e, decide_eq_true ((f_st hg hq).2 e)]; rfl
/-- Processes, and the first Fds of one more. -/
def part (P : List (Nat × List Int)) (i : Nat) (v : List Int) (j : Nat) : List (Nat × List Int) := P ++ [(i, v.take (8 + j))]
theorem cnt_app (P Q : List (Nat × List Int)) (r : Int) : cntP (P ++ Q) r = cntP P r + cntP Q r := by simp [cntP, List.sum_append]
theorem part_zero_cnt (P : List (Nat × List Int)) (i : Nat) (v : List Int) (r : Int) : cntP (part P i v 0) r = cntP P r := by
  unfold part
  rw [cnt_app]
  simp [cntP]
theorem part_zero_any (P : List (Nat × List Int)) (i : Nat) (v : List Int) (F : List (Nat × List Int)) : (part P i v 0).any (lfB F) = P.any (lfB F) := by
  unfold part
  simp [List.any_append, lfB]
theorem part_all (P : List (Nat × List Int)) (i : Nat) {v : List Int} (hv : v.length = 16) : part P i v 8 = P ++ [(i, v)] := by
  unfold part
  rw [List.take_of_length_le (by omega)]
theorem drop_take_next {v : List Int} (hv : v.length = 16) {j : Nat} (hj : j < 8) : (v.take (8 + (j + 1))).drop 8 = (v.take (8 + j)).drop 8 ++ [v.getD (8 + j) 0] := by
  rw [show 8 + (j + 1) = 8 + j + 1 by omega, List.take_add_one, List.drop_append_of_le_length (by rw [List.length_take]; omega), List.getD_eq_getElem?_getD, List.getElem?_eq_getElem (by omega)]
  rfl
theorem part_next_cnt (P : List (Nat × List Int)) (i : Nat) {v : List Int} (hv : v.length = 16) {j : Nat} (hj : j < 8) (r : Int) : cntP (part P i v (j + 1)) r = cntP (part P i v j) r + (if v.getD (8 + j) 0 = r + 1 then 1 else 0) := by
  unfold part
  rw [cnt_app, cnt_app]
  unfold cntP
  simp only [List.map_cons, List.map_nil, List.sum_cons, List.sum_nil, drop_take_next hv hj, List.filter_append, List.length_append]
  by_cases h : v.getD (8 + j) 0 = r + 1
  · rw [if_pos h, List.filter_cons_of_pos (by simp only [beq_iff_eq]; exact h)]
    simp only [List.filter_nil, List.length_cons, List.length_nil]
    omega
  · rw [if_neg h, List.filter_cons_of_neg (by simp only [beq_iff_eq]; exact h)]
    simp only [List.filter_nil, List.length_nil]
    omega
theorem part_next_any (P : List (Nat × List Int)) (i : Nat) {v : List Int} (hv : v.length = 16) {j : Nat} (hj : j < 8) (F : List (Nat × List Int)) : (part P i v (j + 1)).any (lfB F) = ((part P i v j).any (lfB F) || lf1B F (v.getD (8 + j) 0)) := by
  unfold part
  rw [List.any_append, List.any_append]
  simp only [List.any_cons, List.any_nil, Bool.or_false, lfB, drop_take_next hv hj, List.any_append]
  rw [Bool.or_assoc]
def refsC (P : List (Nat × List Int)) : List Value := ints (mk 12 fun r => (cntP P (r : Int) : Int))
theorem refsC_len (P : List (Nat × List Int)) : (refsC P).length = 12 := by unfold refsC; rw [ints_len]; simp [mk]
theorem refsC_get (P : List (Nat × List Int)) {q : Nat} (hq : q < 12) : (refsC P)[q]? = some (.int .i64 (cntP P (q : Int) : Int)) := by
  unfold refsC
  rw [ints_get, mk_get hq]; rfl
theorem refsC_congr {P P' : List (Nat × List Int)} (h : ∀ r : Nat, r < 12 → cntP P' (r : Int) = cntP P (r : Int)) : refsC P' = refsC P := by
  apply List.ext_getElem?
  intro r
  by_cases hr : r < 12
  · rw [refsC_get _ hr, refsC_get _ hr, h r hr]
  · rw [List.getElem?_eq_none (by rw [refsC_len]; omega), List.getElem?_eq_none (by rw [refsC_len]; omega)]
theorem refsC_set {P P' : List (Nat × List Int)} {q : Nat} (hq : q < 12) (h : ∀ r : Nat, r < 12 → cntP P' (r : Int) = cntP P (r : Int) + (if r = q then 1 else 0)) : (refsC P).set q (.int .i64 ((cntP P (q : Int) : Int) + 1)) = refsC P' := by
  apply List.ext_getElem?
  intro r
  rw [List.getElem?_set]
  by_cases e : q = r
  · subst e
    rw [if_pos rfl, if_pos (by rw [refsC_len]; exact hq), refsC_get _ hq, h q hq, if_pos rfl]
    simp
  · rw [if_neg e]
    by_cases hr : r < 12
    · rw [refsC_get _ hr, refsC_get _ hr, h r hr, if_neg (fun x => e x.symm), Nat.add_zero]
    · rw [List.getElem?_eq_none (by rw [refsC_len]; omega), List.getElem?_eq_none (by rw [refsC_len]; omega)]
theorem cnt_le {P : List (Nat × List Int)} (h : ∀ y ∈ P, y.2.length ≤ 16) (r : Int) : cntP P r ≤ 8 * P.length := by
  unfold cntP
  induction P with
  | nil => simp
  | cons x P ih =>
    rw [List.map_cons, List.sum_cons, List.length_cons]
    have h1 := ih (fun y hy => h y (List.mem_cons_of_mem _ hy))
    have h2 := List.length_filter_le (· == r + 1) (x.2.drop 8)
    have h3 := h x (List.mem_cons_self ..)
    rw [List.length_drop] at h2
    omega
theorem part_len_le {i : Nat} {k : Nat} (hk : k ≤ 8) {v : List Int} (hv : v.length = 16) (j : Nat) (r : Int) : cntP (part (there (pAt b) k) i v j) r ≤ 72 := by
  have h := cnt_le (P := part (there (pAt b) k) i v j) (fun y hy => by
    unfold part at hy
    rcases List.mem_append.1 hy with h | h
    · have := (there_mem.1 h).2.2
      rw [← this]
      have := vP_len b y.1
      unfold vP at this
      omega
    · rw [List.mem_singleton.1 h]
      show (v.take (8 + j)).length ≤ 16
      rw [List.length_take]; omega) r
  have h2 : (part (there (pAt b) k) i v j).length ≤ 9 := by
    unfold part
    rw [List.length_append]
    have := there_len (pAt b) k
    simp
    omega
  omega
/-- A file. -/
theorem lq_no {i : Nat} {v : List Int} (h : v.getD 0 0 = 3 ∨ 3 < v.getD 1 0) : lqB (RR b) (i, v) = false := by
  unfold lqB
  dsimp only
  rw [Bool.and_eq_false_iff, Bool.and_eq_false_iff]
  rcases h with h | h
  · left; left; rw [h]; rfl
  · left; right; rw [decide_eq_false_iff_not]; omega
theorem lq_yes (hg : AllGood b) {i q : Nat} {v : List Int} (h3 : v.getD 0 0 ≠ 3) (h : v.getD 1 0 = (q : Int)) (hq : q < 4) : lqB (RR b) (i, v) = decide ((rAt b q).2 = 0) := by
  unfold lqB
  dsimp only
  rw [h, bne_iff_ne.2 h3, decide_eq_true (show (q : Int) < 4 by omega), Bool.true_and, Bool.true_and]
  show (!((there (rAt b) 4).any fun y => (y.1 : Int) == (q : Int))) = _
  rw [any_there (rAt b) hq]
  by_cases e : (rAt b q).2 = 1
  · rw [decide_eq_true e, decide_eq_false (fun h => ((r_st hg hq).1 h) e)]; rfl
  · rw [decide_eq_false e, decide_eq_true ((r_st hg hq).2 e)]; rfl
def endsC (F : List (Nat × List Int)) : List Value := ints (mk 8 fun x => (cntF F ((x / 2 : Nat) : Int) ((x % 2 : Nat) + 1 : Int) : Int))
theorem endsC_len (F : List (Nat × List Int)) : (endsC F).length = 8 := by unfold endsC; rw [ints_len]; simp [mk]
theorem endsC_get (F : List (Nat × List Int)) {q k x : Nat} (hx : x = q * 2 + k) (hq : q < 4) (hk : k < 2) : (endsC F)[x]? = some (.int .i64 (cntF F (q : Int) ((k : Int) + 1) : Int)) := by
  unfold endsC
  subst hx
  rw [ints_get, mk_get (by omega), show (q * 2 + k) / 2 = q by omega, show (q * 2 + k) % 2 = k by omega]; rfl
theorem cntF_next (F : List (Nat × List Int)) (i : Nat) (v : List Int) (p k : Int) : cntF (F ++ [(i, v)]) p k = cntF F p k + (if v.getD 1 0 = p ∧ v.getD 0 0 = k then 1 else 0) := by
  unfold cntF
  rw [List.filter_append, List.length_append]
  congr 1
  by_cases h : v.getD 1 0 = p ∧ v.getD 0 0 = k
  · rw [if_pos h, List.filter_cons_of_pos (by simp only [Bool.and_eq_true, beq_iff_eq]; exact h)]; rfl
  · rw [if_neg h, List.filter_cons_of_neg (by simp only [Bool.and_eq_true, beq_iff_eq]; exact h)]; rfl
theorem cntF_le (F : List (Nat × List Int)) (p k : Int) : cntF F p k ≤ F.length := List.length_filter_le _ _
theorem endsC_same (F : List (Nat × List Int)) (i : Nat) {v : List Int} (h : v.getD 0 0 = 3 ∨ 3 < v.getD 1 0) : endsC (F ++ [(i, v)]) = endsC F := by
  apply List.ext_getElem?
  intro x
  by_cases hx : x < 8
  · rw [endsC_get _ (q := x / 2) (k := x % 2) (by omega) (by omega) (by omega), endsC_get _ (q := x / 2) (k := x % 2) (by omega) (by omega) (by omega), cntF_next, if_neg (by omega), Nat.add_zero]
  · rw [List.getElem?_eq_none (by rw [endsC_len]; omega), List.getElem?_eq_none (by rw [endsC_len]; omega)]
theorem endsC_set (F : List (Nat × List Int)) (i : Nat) {v : List Int} {q k x : Nat} (hx : x = q * 2 + k) (hq : q < 4) (hk : k < 2) (h1 : v.getD 1 0 = (q : Int)) (h0 : v.getD 0 0 = (k : Int) + 1) : (endsC F).set x (.int .i64 ((cntF F (q : Int) ((k : Int) + 1) : Int) + 1)) = endsC (F ++ [(i, v)]) := by
  apply List.ext_getElem?
  intro y
  rw [List.getElem?_set]
  by_cases e : x = y
  · subst e
    rw [if_pos rfl, if_pos (by rw [endsC_len]; omega), endsC_get _ hx hq hk, cntF_next, if_pos ⟨h1, h0⟩]
    simp
  · rw [if_neg e]
    by_cases hy : y < 8
    · rw [endsC_get _ (q := y / 2) (k := y % 2) (by omega) (by omega) (by omega), endsC_get _ (q := y / 2) (k := y % 2) (by omega) (by omega) (by omega), cntF_next, if_neg (by omega), Nat.add_zero]
    · rw [List.getElem?_eq_none (by rw [endsC_len]; omega), List.getElem?_eq_none (by rw [endsC_len]; omega)]
/-- A pipe's ends: as the document's answer asks for them. -/
theorem we_as (F : List (Nat × List Int)) (i : Nat) (v : Ri.Pp) : weB F (i, v) = (v.r != (cntF F (i : Int) 1 : Int) || v.s != (cntF F (i : Int) 2 : Int) || (v.r == 0 && v.s == 0)) := by
  unfold weB
  dsimp only
  by_cases h1 : v.r = (cntF F (i : Int) 1 : Int)
  · by_cases h2 : v.s = (cntF F (i : Int) 2 : Int)
    · rw [h1, h2]
      congr 1
      by_cases h3 : (cntF F (i : Int) 1 : Int) + (cntF F (i : Int) 2 : Int) = 0
      · rw [beq_iff_eq.2 h3, beq_iff_eq.2 (show (cntF F (i : Int) 1 : Int) = 0 by omega), beq_iff_eq.2 (show (cntF F (i : Int) 2 : Int) = 0 by omega)]; rfl
      · rw [beq_eq_false_iff_ne.2 h3]
        symm
        rw [Bool.and_eq_false_iff, beq_eq_false_iff_ne, beq_eq_false_iff_ne]
        omega
    · rw [bne_iff_ne.2 h2, Bool.or_true, Bool.true_or, Bool.true_or]
  · rw [bne_iff_ne.2 h1, Bool.true_or, Bool.true_or, Bool.true_or]
end
end Go.Proofs.YtngchjejmnfanaaGreat.Au
namespace Go.Proofs.YtngchjejmnfanaaGreat.Au
open Go.RowKit Co
set_option linter.unusedVariables false
set_option linter.unusedSimpArgs false
set_option maxRecDepth 100000 in
theorem free_is {w : World} {b : List UInt8} (hl : b.length = 492) {i : Nat} (hi : i < 4) (v : Bool) (hv : decide ((rAt b i).2 = 0) = v) :
    Calls Tryz.prog 85 #[.string (str b), .int .i64 i] w fun e w' => e = .returned (.bool v) ∧ Keep Nob w w' := by
  have hcut := fun W => str_cut b (288 + 40 * i) (288 + 40 * i + 40) (by omega) (by rw [hl]; omega) W
  rw [show ((288 + 40 * i : Nat) : Int) = 288 + 40 * (i : Int) by omega, show ((288 + 40 * i + 40 : Nat) : Int) = 328 + 40 * (i : Int) by omega, show 288 + 40 * i + 40 - (288 + 40 * i) = 40 by omega] at hcut
  obtain ⟨d, hd⟩ : ∃ d, (rAt b i).2 = d := ⟨_, rfl⟩
  have hcall := Ri.pipeof_is ((b.drop (288 + 40 * i)).take 40) (by simp; omega) w (vR b i) d (by rw [← hd]; rfl)
  unfold Ri.pv at hcall
  have hvl := vR_len b i
  rw [hd] at hv
  obtain ⟨p, hp⟩ : ∃ p, vR b i = p := ⟨_, rfl⟩
  rw [hp] at hcall hvl
  have HVl := Lib.hid hvl
  have HV := Lib.hid hv
  have hd9 : d = 0 ∨ ¬ (d = 0) := by omega
  generalize str ((b.drop (288 + 40 * i)).take 40) = sq at *
  generalize str b = sb at *
  clear hl hd hp hvl hv
  go_enter Tryz.func85, Tryz.ntmps85
  go_wp2_with fail
  refine hcall.mono ?_; rintro e w1 ⟨rfl, k1⟩
  clear hcall hcut
  go_upto_region 1 with (first
    | (refine flatR.wpList_al rfl rfl ?_; intro x1 hx1 kx1 sx1)
    | (refine flatR.wpList_st rfl rfl rfl rfl (cellsR HVl.out) (cellsR (rfl : Ri.noP.d.length = 32)) hx1 ?_; intro x2 hx2 kx2 sx2))
  have K := Lib.hid (show Keep Nob w x2 from (k1.nobt kx1).trans kx2 (fun x hx e => by have := k1.size; have := kx1.size; omega))
  clear k1 kx1 sx1 hx1 hx2 kx2 sx2
  rcases hd9 with e0 | e0
  · subst e0
    go_wp2
    go_ret
    exact ⟨by rw [← HV.out]; rfl, K.out⟩
  · have e1 : (d == 0) = false := by rw [beq_eq_false_iff_ne]; exact e0
    go_wp2
    go_ret
    exact ⟨by rw [← HV.out, decide_eq_false e0]; exact congrArg (fun x => Ending.returned (Value.bool x)) e1, K.out⟩
def bools (l : List Bool) : List Value := l.map Value.bool
/-- The memory of Faults: the arrays, which faults are there, how often each file is named. -/
structure Fw (w0 w : World) (g3 g4 g5 g7 g8 : Nat) (b : List UInt8) (on : List Bool) (rf : List Value) : Prop where
  p : Blk w g3 85 (cP b 8)
  f : Blk w g4 86 (cF b 12)
  r : Blk w g5 87 (cR b 4)
  on : Blk w g7 164 (bools on)
  rf : Blk w g8 165 rf
  lo : w0.heap.size ≤ g7 ∧ w0.heap.size ≤ g8
  keep : Keep (From w0.heap.size) w0 w
section
variable {w0 w w' : World} {g3 g4 g5 g7 g8 : Nat} {b : List UInt8} {on : List Bool} {rf : List Value}
theorem Fw.nob (h : Fw w0 w g3 g4 g5 g7 g8 b on rf) (k : Keep Nob w w') : Fw w0 w' g3 g4 g5 g7 g8 b on rf := ⟨h.p.nob k, h.f.nob k, h.r.nob k, h.on.nob k, h.rf.nob k, h.lo, h.keep.nob k⟩
theorem Fw.at_ (h : Fw w0 w g3 g4 g5 g7 g8 b on rf) {g : Nat} {on' : List Bool} {rf' : List Value} (k : Keep (· = g) w w') (hg : w0.heap.size ≤ g) (n3 : g3 ≠ g) (n4 : g4 ≠ g) (n5 : g5 ≠ g) (h7 : Blk w' g7 164 (bools on')) (h8 : Blk w' g8 165 rf') : Fw w0 w' g3 g4 g5 g7 g8 b on' rf' :=
  ⟨h.p.keep k n3, h.f.keep k n4, h.r.keep k n5, h7, h8, h.lo, h.keep.at_ k hg⟩
/-- One question is answered. -/
theorem Fw.on_ (h : Fw w0 w g3 g4 g5 g7 g8 b on rf) (k : Nat) (x : Bool) {on' : List Bool} (e : on.set k x = on') : Fw w0 (w.setCell ⟨g7, k, none⟩ (.bool x)) g3 g4 g5 g7 g8 b on' rf :=
  h.at_ ((Keep.refl _ w).setCell _ _ (fun _ => rfl)) h.lo.1 (h.p.ne_ h.on (by decide)) (h.f.ne_ h.on (by decide)) (h.r.ne_ h.on (by decide)) (by
    have := h.on.setCell k (.bool x)
    rw [show (bools on).set k (.bool x) = bools on' by rw [← e]; simp [bools, List.map_set]] at this
    exact this) (h.rf.far (h.rf.ne_ h.on (by decide)) _)
/-- One file is named once more. -/
theorem Fw.rf_ (h : Fw w0 w g3 g4 g5 g7 g8 b on rf) (k : Nat) (x : Value) {rf' : List Value} (e : rf.set k x = rf') : Fw w0 (w.setCell ⟨g8, k, none⟩ x) g3 g4 g5 g7 g8 b on rf' :=
  h.at_ ((Keep.refl _ w).setCell _ _ (fun _ => rfl)) h.lo.2 (h.p.ne_ h.rf (by decide)) (h.f.ne_ h.rf (by decide)) (h.r.ne_ h.rf (by decide)) (h.on.far (h.on.ne_ h.rf (by decide)) _) (by
    have := h.rf.setCell k x
    rw [e] at this
    exact this)
theorem Fw.onc (h : Fw w0 w g3 g4 g5 g7 g8 b on rf) {k : Nat} {x : Bool} (e : on[k]? = some x) : w.cell? ⟨g7, k, none⟩ = some (.bool x) := (h.on.cell k).trans (by simp [bools, e])
/-- A cell of a process, of a file, of a pipe. -/
theorem Fw.pc (h : Fw w0 w g3 g4 g5 g7 g8 b on rf) {i j : Nat} (hi : i < 8) (hj : j < 16) : w.cell? ⟨g3, i * 16 + j, none⟩ = some (.int .i64 ((vP b i).getD j 0)) := by
  rw [h.p.cell]
  unfold cP
  rw [setTo_all, rowsOf_get (fun i => by rw [ints_len]; exact vP_len b i) hi hj, ints_get, List.getD_eq_getElem?_getD, List.getElem?_eq_getElem (by rw [vP_len]; exact hj)]
  rfl
theorem Fw.fc (h : Fw w0 w g3 g4 g5 g7 g8 b on rf) {i j : Nat} (hi : i < 12) (hj : j < 4) : w.cell? ⟨g4, i * 4 + j, none⟩ = some (.int .i64 ((vF b i).getD j 0)) := by
  rw [h.f.cell]
  unfold cF
  rw [setTo_all, rowsOf_get (fun i => by rw [ints_len]; exact vF_len b i) hi hj, ints_get, List.getD_eq_getElem?_getD, List.getElem?_eq_getElem (by rw [vF_len]; exact hj)]
  rfl
theorem Fw.rc (h : Fw w0 w g3 g4 g5 g7 g8 b on rf) {i : Nat} (hi : i < 4) : w.cell? ⟨g5, i * 36 + 2, none⟩ = some (.int .i64 (vR b i).r) ∧ w.cell? ⟨g5, i * 36 + 3, none⟩ = some (.int .i64 (vR b i).s) := by
  constructor
  · rw [h.r.cell]
    unfold cR
    rw [setTo_all, rowsOf_get (fun i => Ri.pc_len (vR_len b i)) hi (by decide)]
    rfl
  · rw [h.r.cell]
    unfold cR
    rw [setTo_all, rowsOf_get (fun i => Ri.pc_len (vR_len b i)) hi (by decide)]
    rfl
/-- The same, and the pipes' ends. -/
structure Fx (w0 w : World) (g3 g4 g5 g7 g8 g13 : Nat) (b : List UInt8) (on : List Bool) (rf ef : List Value) : Prop where
  fw : Fw w0 w g3 g4 g5 g7 g8 b on rf
  e : Blk w g13 167 ef
  lo : w0.heap.size ≤ g13
variable {g13 : Nat} {ef : List Value}
theorem Fx.nob (h : Fx w0 w g3 g4 g5 g7 g8 g13 b on rf ef) (k : Keep Nob w w') : Fx w0 w' g3 g4 g5 g7 g8 g13 b on rf ef := ⟨h.fw.nob k, h.e.nob k, h.lo⟩
theorem Fx.on_ (h : Fx w0 w g3 g4 g5 g7 g8 g13 b on rf ef) (k : Nat) (x : Bool) {on' : List Bool} (e : on.set k x = on') : Fx w0 (w.setCell ⟨g7, k, none⟩ (.bool x)) g3 g4 g5 g7 g8 g13 b on' rf ef :=
  ⟨h.fw.on_ k x e, h.e.far (h.e.ne_ h.fw.on (by decide)) _, h.lo⟩
theorem Fx.e_ (h : Fx w0 w g3 g4 g5 g7 g8 g13 b on rf ef) (k : Nat) (x : Value) {ef' : List Value} (e : ef.set k x = ef') : Fx w0 (w.setCell ⟨g13, k, none⟩ x) g3 g4 g5 g7 g8 g13 b on rf ef' := by
  refine ⟨h.fw.at_ ((Keep.refl _ w).setCell _ _ (fun _ => rfl)) h.lo (h.fw.p.ne_ h.e (by decide)) (h.fw.f.ne_ h.e (by decide)) (h.fw.r.ne_ h.e (by decide)) (h.fw.on.far (h.fw.on.ne_ h.e (by decide)) _) (h.fw.rf.far (h.fw.rf.ne_ h.e (by decide)) _), ?_, h.lo⟩
  have := h.e.setCell k x
  rw [e] at this
  exact this
end
end Go.Proofs.YtngchjejmnfanaaGreat.Au
