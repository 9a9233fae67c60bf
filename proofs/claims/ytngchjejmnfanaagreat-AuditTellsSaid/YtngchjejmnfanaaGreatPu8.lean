/- Texts SltS, SltT, Flats, Slt4, packed. -/
import Derived.Deep.RegionHeld3
import Derived.Deep.CutBlock
import Derived.BigRegion
import Derived.Test.YtngchjejmnfanaaGreatPu0
import Derived.Test.YtngchjejmnfanaaGreatPu3
import Derived.Test.YtngchjejmnfanaaGreatPu4
import Derived.Test.YtngchjejmnfanaaGreatPu5
import Derived.Test.YtngchjejmnfanaaGreatPu2
namespace Go.Proofs.YtngchjejmnfanaaGreat.Cd
open Go.RowKit
set_option linter.unusedVariables false
set_option linter.unusedSimpArgs false
theorem wrap_byt_ (n : Int) : IntKind.u8.wrap n = ((byt n).toNat : Int) := by
  rw [byt, byte_back, IntKind.wrap_u8']
theorem cells4 {w : World} {g : Nat} {t : TypeId} {a0 a1 a2 a3 a4 a5 a6 a7 f0 f1 f2 f3 f4 f5 f6 f7 : Int} (hb : Blk w g t (ints [a0, a1, a2, a3, a4, a5, a6, a7, f0, f1, f2, f3, f4, f5, f6, f7])) :
    w.cell? ⟨g, 4, none⟩ = some (.int .i64 a4) ∧ w.cell? ⟨g, 5, none⟩ = some (.int .i64 a5) ∧ w.cell? ⟨g, 6, none⟩ = some (.int .i64 a6) ∧ w.cell? ⟨g, 7, none⟩ = some (.int .i64 a7) := by
  refine ⟨?_, ?_, ?_, ?_⟩ <;> rw [hb.cell] <;> rfl
def head (p : List Int) : List UInt8 := [byt (p.getD 0 0), byt (p.getD 1 0), byt (p.getD 2 0), byt (p.getD 3 0)] ++ two (p.getD 4 0) ++ two (p.getD 5 0) ++ two (p.getD 6 0) ++ two (p.getD 7 0)
set_option maxHeartbeats 4000000 in
set_option maxRecDepth 100000 in
theorem procbytes_is (p : List Int) (hl : p.length = 16) (ok : okd p = true) (w : World) :
    Calls Tryz.prog 18 #[pv p] w fun e w' => e = .returned (.string (str (enc p))) ∧ Keep Nob w w' := by
  have B := okd_bounds ok
  have T4 := fun w => rtwo_is (p.getD 4 0) w B.pe.1 B.pe.2
  have T5 := fun w => rtwo_is (p.getD 5 0) w B.m.1 B.m.2
  have T6 := fun w => rtwo_is (p.getD 6 0) w B.i.1 B.i.2
  have T7 := fun w => rtwo_is (p.getD 7 0) w B.ca.1 B.ca.2
  have hpe : pre p = head p ++ (p.drop 8).map byt ++ [167] := rfl
  have hen : enc p = pre p ++ [sumb (pre p), 0, 0] := rfl
  have hhl : (head p).length = 12 := rfl
  clear B ok
  obtain ⟨a0, a1, a2, a3, a4, a5, a6, a7, f0, f1, f2, f3, f4, f5, f6, f7, rfl⟩ := split16 hl
  simp only [List.getD_cons_succ, List.getD_cons_zero, List.drop_succ_cons, List.drop_zero] at T4 T5 T6 T7 hpe
  have s4 := fun W => str_add ([byt a0, byt a1, byt a2, byt a3]) (two a4) (by simp [two]) W
  have s5 := fun W => str_add ([byt a0, byt a1, byt a2, byt a3] ++ two a4) (two a5) (by simp [two]) W
  have s6 := fun W => str_add ([byt a0, byt a1, byt a2, byt a3] ++ two a4 ++ two a5) (two a6) (by simp [two]) W
  have s7 := fun W => str_add ([byt a0, byt a1, byt a2, byt a3] ++ two a4 ++ two a5 ++ two a6) (two a7) (by simp [two]) W
  rw [show [byt a0, byt a1, byt a2, byt a3] ++ two a4 ++ two a5 ++ two a6 ++ two a7 = head [a0, a1, a2, a3, a4, a5, a6, a7, f0, f1, f2, f3, f4, f5, f6, f7] from rfl] at s7
  obtain ⟨y0, hy0⟩ : ∃ y, IntKind.u8.wrap a0 = y := ⟨_, rfl⟩
  obtain ⟨y1, hy1⟩ : ∃ y, IntKind.u8.wrap a1 = y := ⟨_, rfl⟩
  obtain ⟨y2, hy2⟩ : ∃ y, IntKind.u8.wrap a2 = y := ⟨_, rfl⟩
  obtain ⟨y3, hy3⟩ : ∃ y, IntKind.u8.wrap a3 = y := ⟨_, rfl⟩
  have hcv := fun (W : World) c => conv_new W [byt a0, byt a1, byt a2, byt a3] [.int .u8 y0, .int .u8 y1, .int .u8 y2, .int .u8 y3] 4 c (by subst hy0 hy1 hy2 hy3; simp only [wrap_byt_]; rfl) rfl
  generalize hS3 : str ([byt a0, byt a1, byt a2, byt a3]) = S3 at *
  generalize hS4 : str ([byt a0, byt a1, byt a2, byt a3] ++ two a4) = S4 at *
  generalize hS5 : str ([byt a0, byt a1, byt a2, byt a3] ++ two a4 ++ two a5) = S5 at *
  generalize hS6 : str ([byt a0, byt a1, byt a2, byt a3] ++ two a4 ++ two a5 ++ two a6) = S6 at *
  generalize hH : head [a0, a1, a2, a3, a4, a5, a6, a7, f0, f1, f2, f3, f4, f5, f6, f7] = H at *
  generalize hE : enc [a0, a1, a2, a3, a4, a5, a6, a7, f0, f1, f2, f3, f4, f5, f6, f7] = E at *
  generalize hQ : pre [a0, a1, a2, a3, a4, a5, a6, a7, f0, f1, f2, f3, f4, f5, f6, f7] = Q0 at *
  generalize str (two a4) = t4 at *
  generalize str (two a5) = t5 at *
  generalize str (two a6) = t6 at *
  generalize str (two a7) = t7 at *
  clear hS3 hS4 hS5 hS6 hH hE hQ hl
  have HT4 := Lib.hid T4
  have HT5 := Lib.hid T5
  have HT6 := Lib.hid T6
  have HT7 := Lib.hid T7
  have HPE := Lib.hid hpe
  have HEN := Lib.hid hen
  have HHL := Lib.hid hhl
  clear T4 T5 T6 T7 hpe hen hhl
  have HCV := Lib.hid hcv
  clear hcv
  simp only [pv, ints, List.map_cons, List.map_nil]
  go_enter Tryz.func18, Tryz.ntmps18
  go_wp2_with (refine wpList_box rfl 39 _ rfl _ rfl ?_; intro w1 hb hk hs; clear hs; have hb : Blk w1 w.heap.size 39 (ints [a0, a1, a2, a3, a4, a5, a6, a7, f0, f1, f2, f3, f4, f5, f6, f7]) := hb; have hcv := HCV.out w1; obtain ⟨c0, c1, c2, c3, c4, c5, c6, c7, c8, c9, c10, c11, c12, c13, c14, c15⟩ := cells16 hb)
  have hb2 := hb.alloc (.cells #[.int .u8 y0, .int .u8 y1, .int .u8 y2, .int .u8 y3] 5)
  have hk2 := hk.alloc (.cells #[.int .u8 y0, .int .u8 y1, .int .u8 y2, .int .u8 y3] 5)
  clear hb hk hcv HCV c0 c1 c2 c3 c4 c5 c6 c7 c8 c9 c10 c11 c12 c13 c14 c15
  generalize w1.alloc (.cells #[.int .u8 y0, .int .u8 y1, .int .u8 y2, .int .u8 y3] 5) = w2 at *
  have hbd := hb2.drew
  have hkd := hk2.drew
  clear hb2 hk2
  go_region_held3 (fun w' => w'.cell? ⟨w.heap.size, 4, none⟩ = some (.int .i64 a4) ∧ w'.cell? ⟨w.heap.size, 5, none⟩ = some (.int .i64 a5) ∧ w'.cell? ⟨w.heap.size, 6, none⟩ = some (.int .i64 a6) ∧ w'.cell? ⟨w.heap.size, 7, none⟩ = some (.int .i64 a7))
    (first | with_reducible_and_instances exact cells4 hbd | with_reducible_and_instances exact cells4 hb4 | with_reducible_and_instances exact cells4 hb5 | with_reducible_and_instances exact cells4 hb6 | with_reducible_and_instances exact cells4 hb7)
    (first | (go_at_call 74; with_reducible_and_instances apply Calls.mono (HT4.out _); rintro e w4 ⟨rfl, k4⟩; have hb4 := hbd.nob k4; have hk4 := hkd.nobt k4) | (go_at_call 74; with_reducible_and_instances apply Calls.mono (HT5.out _); rintro e w5 ⟨rfl, k5⟩; have hb5 := hb4.nob k5; have hk5 := hk4.nobt k5) | (go_at_call 74; with_reducible_and_instances apply Calls.mono (HT6.out _); rintro e w6 ⟨rfl, k6⟩; have hb6 := hb5.nob k6; have hk6 := hk5.nobt k6) | (go_at_call 74; with_reducible_and_instances apply Calls.mono (HT7.out _); rintro e w7 ⟨rfl, k7⟩; have hb7 := hb6.nob k7; have hk7 := hk6.nobt k7))
  clear s4 s5 s6 s7 HT4 HT5 HT6 HT7 hy0 hy1 hy2 hy3
  have hcF : ∀ (W : World) g (hb : Blk W g 39 (ints [a0, a1, a2, a3, a4, a5, a6, a7, f0, f1, f2, f3, f4, f5, f6, f7])) k, k < 8 → W.cell? ⟨g, 8 + k, none⟩ = some (.int .i64 (([f0, f1, f2, f3, f4, f5, f6, f7] : List Int).getD k 0)) := fun W g hb k hk => by
    rw [hb.cell, show ints [a0, a1, a2, a3, a4, a5, a6, a7, f0, f1, f2, f3, f4, f5, f6, f7] = ints [a0, a1, a2, a3, a4, a5, a6, a7] ++ ints [f0, f1, f2, f3, f4, f5, f6, f7] from rfl, List.getElem?_append_right (by simp), ints_len]
    show (ints [f0, f1, f2, f3, f4, f5, f6, f7])[8 + k - 8]? = _
    rw [Nat.add_sub_cancel_left, ints_get, List.getD_eq_getElem?_getD, List.getElem?_eq_getElem hk]; rfl
  have HCF := Lib.hid hcF
  have htk : ∀ k, k < 8 → ([f0, f1, f2, f3, f4, f5, f6, f7] : List Int).take (k + 1) = [f0, f1, f2, f3, f4, f5, f6, f7].take k ++ [([f0, f1, f2, f3, f4, f5, f6, f7] : List Int).getD k 0] := fun k hk => by
    rw [List.take_succ_eq_append_getElem hk, List.getD_eq_getElem?_getD, List.getElem?_eq_getElem hk]; rfl
  have HTK := Lib.hid htk
  clear hcF htk
  go_wp2_with fail
  go_loopw [4, 3] (fun s4 s3 wx => ∃ k : Nat, k ≤ 8 ∧ s4 = .int .i64 k ∧ s3 = .string (str (H ++ (([f0, f1, f2, f3, f4, f5, f6, f7] : List Int).take k).map byt)) ∧ Blk wx w.heap.size 39 (ints [a0, a1, a2, a3, a4, a5, a6, a7, f0, f1, f2, f3, f4, f5, f6, f7]) ∧ Keep Nob w wx) (fun s4 _ _ => 8 - (intOf s4).toNat)
  case atStart => exact ⟨0, Nat.zero_le _, rfl, by simp, hb7, hk7⟩
  case round =>
    obtain ⟨k, hk, rfl, rfl, hb8, hk8⟩ := hrel
    clear hb7 hk7
    by_cases hlt : k < 8
    · have ck := HCF.out _ _ hb8 k hlt
      have ht := HTK.out k hlt
      have hlen : (H ++ (([f0, f1, f2, f3, f4, f5, f6, f7] : List Int).take k).map byt).length + 1 ≤ 100000 := by rw [List.length_append, HHL.out]; simp; omega
      generalize ([f0, f1, f2, f3, f4, f5, f6, f7] : List Int).getD k 0 = u at *
      have sa := fun W => str_add (H ++ (([f0, f1, f2, f3, f4, f5, f6, f7] : List Int).take k).map byt) [byt u] hlen W
      rw [show H ++ (([f0, f1, f2, f3, f4, f5, f6, f7] : List Int).take k).map byt ++ [byt u] = H ++ (([f0, f1, f2, f3, f4, f5, f6, f7] : List Int).take (k + 1)).map byt from by rw [ht]; simp] at sa
      clear ht hlen
      generalize str (H ++ (([f0, f1, f2, f3, f4, f5, f6, f7] : List Int).take k).map byt) = S at *
      obtain ⟨S', hS'⟩ : ∃ S', str (H ++ (([f0, f1, f2, f3, f4, f5, f6, f7] : List Int).take (k + 1)).map byt) = S' := ⟨_, rfl⟩
      rw [hS'] at sa
      have HS' := Lib.hid hS'
      clear hS'
      obtain ⟨y, hy⟩ : ∃ y, IntKind.u8.wrap u = y := ⟨_, rfl⟩
      have cv := fun c => conv_new wr [byt u] [.int .u8 y] 1 c (by rw [← hy, wrap_byt_]; rfl) rfl
      have hb9 := hb8.alloc (.cells #[.int .u8 y] 5)
      have hk9 := hk8.alloc (.cells #[.int .u8 y] 5)
      clear hb8 hk8
      generalize str [byt u] = z at *
      go_wp2_with fail
      go_round
      case rel => exact ⟨k + 1, by omega, by go_num, by rw [HS'.out], hb9, hk9⟩
      case measure => simp [intOf]; omega
    · obtain rfl : k = 8 := by omega
      clear HCF HTK hlt hk hb8
      have hlen : (H ++ [f0, f1, f2, f3, f4, f5, f6, f7].map byt).length = 20 := by rw [List.length_append, HHL.out]; rfl
      have hql : Q0.length = 21 := by rw [HPE.out, List.length_append, hlen]; rfl
      have sa := fun W => str_add (H ++ [f0, f1, f2, f3, f4, f5, f6, f7].map byt) [167] (by rw [hlen]; decide) W
      rw [← HPE.out, show str [167] = { data := #[167] } from rfl] at sa
      have hw8 : H ++ (([f0, f1, f2, f3, f4, f5, f6, f7] : List Int).take 8).map byt = H ++ [f0, f1, f2, f3, f4, f5, f6, f7].map byt := rfl
      rw [hw8]
      clear hw8 hlen
      generalize str (H ++ [f0, f1, f2, f3, f4, f5, f6, f7].map byt) = S at *
      have sb := fun W => str_add Q0 [sumb Q0, 0, 0] (by rw [hql]; show 21 + 3 ≤ 100000; decide) W
      rw [← HEN.out] at sb
      have hq : (((sumb Q0).toNat : Nat) : Int) = ((tot Q0 % 256 : Nat) : Int) := by
        rw [sumb, UInt8.toNat_ofNat', Nat.mod_mod]
      have HR := Lib.hid (fun W => rsum_is (l := Q0) (w := W) (by omega) ((tot Q0 % 256 : Nat) : Int) rfl)
      clear hql HPE HEN
      generalize ((tot Q0 % 256 : Nat) : Int) = q at *
      have cv := fun c => conv_new wr [sumb Q0, 0, 0] [.int .u8 q, .int .u8 0, .int .u8 0] 3 c (by rw [← hq]; rfl) rfl
      clear hq
      have hk9 := hk8.alloc (.cells #[.int .u8 q, .int .u8 0, .int .u8 0] 5)
      clear hk8
      generalize str [sumb Q0, 0, 0] = z at *
      generalize str Q0 = S0 at *
      go_wp2_with fail
      refine (HR.out _).mono ?_; rintro e w9 ⟨rfl, rfl⟩
      go_wp2
      go_ret
      exact ⟨rfl, hk9⟩
end Go.Proofs.YtngchjejmnfanaaGreat.Cd
namespace Go.Proofs.YtngchjejmnfanaaGreat.Cd
open Go.RowKit
set_option linter.unusedVariables false
set_option linter.unusedSimpArgs false
theorem index_str (s : ByteArray) (i : Int) (k : Nat) (hi : i = k) (hk : k < s.size) (x : UInt8) (hx : s[k] = x) (W : World) : (Instr.index 9 (.string s) (.int .i64 i)).run Tryz.prog W = .ok (.int .u8 (x.toNat : Int)) W := by
  subst hi
  have h0 : (0 : Int) ≤ (k : Int) := by omega
  have hk2 : s[k]? = some x := by rw [getElem?_pos s k hk, hx]
  simp [Instr.index, asIntOf, run_underlying Tryz.underlying9, hk2, Sem.run_bind, Result.andThen]
def tpt (l : List UInt8) (k : Nat) : List Int := ((rd l).drop 4).take k ++ List.replicate (4 - k) 0
theorem tpt_len (l : List UInt8) {k : Nat} (hk : k ≤ 4) : (tpt l k).length = 4 := by
  rcases (show k = 0 ∨ k = 1 ∨ k = 2 ∨ k = 3 ∨ k = 4 from by omega) with rfl | rfl | rfl | rfl | rfl <;> simp [tpt, rd] <;> omega
theorem tpt_set (l : List UInt8) {k : Nat} (hk : k < 4) : (tpt l k).set k ((rd l).getD (4 + k) 0) = tpt l (k + 1) := by
  rcases (show k = 0 ∨ k = 1 ∨ k = 2 ∨ k = 3 from by omega) with rfl | rfl | rfl | rfl <;> rfl
theorem ints_getD_ {l : List Int} {k : Nat} (h : k < l.length) : (ints l)[k]? = some (.int .i64 (l.getD k 0)) := by
  rw [ints_get, List.getD_eq_getElem?_getD, List.getElem?_eq_getElem h]; rfl
section
variable {ρ : Operand → Value} {o : Oper} {x y : Operand} {w : World} {g : Nat} {q old : List Int}
theorem exec_store_ (ho : o.op = .store 39 x y) (hx : ρ x = .pointer (some ⟨g, 0, none⟩)) (hy : ρ y = .agg (ints q).toArray) (hq : q.length = 16) (hd : old.length = 16) (hb : Blk w g 39 (ints old)) :
    (execOp ρ o).run Tryz.prog w = .ok .skip (w.setRow g (ints q).toArray) := by
  have := run_storeVar_row (P := Tryz.prog) w g 39 39 (ints old).toArray (ints q).toArray hb (by rw [infoP_]; simp [hq]) (by simp [hq, hd]) (by rw [Array.all_eq_true_iff_forall_mem]; intro v hv; exact ints_one q v (by simpa using hv))
  simp [execOp, ho, hx, hy, Instr.storeAt, Instr.sureAddr, this, Result.andThen]
theorem wp_store_ {a : Act} {K : Act → World → Prop} {Q : Exit → Act → World → Prop} (ho : o.op = .store 39 x y) (hx : a.eval x = .pointer (some ⟨g, 0, none⟩)) (hy : a.eval y = .agg (ints q).toArray) (hq : q.length = 16) (hd : old.length = 16) (hb : Blk w g 39 (ints old))
    (h : K (a.put o.dst undef) (w.setRow g (ints q).toArray)) : Oper.wp Tryz.prog o a w K Q := by
  unfold Oper.wp
  rw [exec_store_ ho hx hy hq hd hb]
  exact h
end
section
variable {ops : Array Oper} {rest : List Oper} {o : Oper} {a : Act} {Q : Exit → Act → World → Prop} {w : World}
/-- A whole process is stored, loaded. -/
theorem wpList_st (hgd : o.guard = none) (x y : Operand) (ho : o.op = .store 39 x y) (g : Nat) (q old : List Int) (hx : a.eval x = .pointer (some ⟨g, 0, none⟩)) (hy : a.eval y = .agg (ints q).toArray) (hq : q.length = 16) (hd : old.length = 16) (hb : Blk w g 39 (ints old))
    (h : ∀ w', Blk w' g 39 (ints q) → Keep (· = g) w w' → w'.heap.size = w.heap.size → wpList Tryz.prog ops Q rest (a.put o.dst undef) w') : wpList Tryz.prog ops Q (o :: rest) a w := by
  refine wpList_plain hgd fun K hK => ?_
  have hrun := run_storeVar_row (P := Tryz.prog) w g 39 39 (ints old).toArray (ints q).toArray hb (by rw [infoP_]; simp [hq]) (by simp [hq, hd]) (by rw [Array.all_eq_true_iff_forall_mem]; intro v hv; exact ints_one q v (by simpa using hv))
  have hh := h (w.setRow g (ints q).toArray) (hb.setRow _) ((Keep.refl _ w).setRow g _ (fun _ => rfl)) (by simp)
  unfold Oper.wp
  simp [execOp, ho, hx, hy, Instr.storeAt, Instr.sureAddr, hrun, Result.andThen]
  exact hK _ _ hh
theorem wpList_ld (hgd : o.guard = none) (x : Operand) (ho : o.op = .load 39 x) (g : Nat) (q : List Int) (hx : a.eval x = .pointer (some ⟨g, 0, none⟩)) (hq : q.length = 16) (hb : Blk w g 39 (ints q))
    (h : wpList Tryz.prog ops Q rest (a.put o.dst (.agg (ints q).toArray)) w) : wpList Tryz.prog ops Q (o :: rest) a w := by
  refine wpList_plain hgd fun K hK => ?_
  have hrun := run_loadVar_row (P := Tryz.prog) w g 39 39 (ints q).toArray (0, 0) _ hb Tryz.underlying39 rfl (by rw [infoP_]; simp [hq])
  unfold Oper.wp
  simp [execOp, ho, hx, Instr.loadAt, Instr.sureAddr, hrun, Result.andThen]
  exact hK _ _ h
end
set_option maxHeartbeats 4000000 in
set_option maxRecDepth 100000 in
theorem procof_is (l : List UInt8) (hl : l.length ≤ 1000) (w : World) (R : List Int) (d : Int) (hd : dcd l = (R, d)) :
    Calls Tryz.prog 86 #[.string (str l)] w fun e w' => e = .returned (.tuple #[pv R, .int .i64 d]) ∧ Keep Nob w w' := by
  have hsz := str_size l
  have hz0 : Blk (w.alloc (.cells #[.int .i64 0, .int .i64 0, .int .i64 0, .int .i64 0, .int .i64 0, .int .i64 0, .int .i64 0, .int .i64 0, .int .i64 0, .int .i64 0, .int .i64 0, .int .i64 0, .int .i64 0, .int .i64 0, .int .i64 0, .int .i64 0] 39)) w.heap.size 39 (ints noP) := Blk.new w _ _
  have kz : Keep Nob w (w.alloc (.cells #[.int .i64 0, .int .i64 0, .int .i64 0, .int .i64 0, .int .i64 0, .int .i64 0, .int .i64 0, .int .i64 0, .int .i64 0, .int .i64 0, .int .i64 0, .int .i64 0, .int .i64 0, .int .i64 0, .int .i64 0, .int .i64 0] 39)) := (Keep.refl Nob w).alloc _
  have HB := Lib.hid (fun w v h => rblank_is (w := w) (l := l) (by omega) v h)
  have hat : ∀ k (hk : k < (str l).size), (str l)[k] = l.getD k 0 := fun k hk => str_at l k hk
  have HAT := Lib.hid hat
  have HD := Lib.hid hd
  have hl24 : l.length = 24 ∨ l.length ≠ 24 := by omega
  rcases hl24 with h24 | h24
  rotate_left
  · have hne : (((str l).size : Int) != 24) = true := by rw [hsz]; simpa using (show ((l.length : Nat) : Int) ≠ 24 from by omega)
    have hsl : (str l).size ≤ 1000 := by rw [hsz]; exact hl
    have hd2 : (noP, (2 : Int)) = (R, d) := by rw [← HD.out, dcd, if_neg h24]
    cases hd2
    clear HB HAT hd HD hat hsz hl h24
    generalize str l = s at *
    go_enter Tryz.func86, Tryz.ntmps86
    go_wp2_with (refine wpList_st rfl _ _ rfl _ noP noP rfl rfl rfl rfl hz0 ?_; intro w2 hr2 hk2 hs2; clear hs2)
    (try simp only [Exit.inBlock, Exit.then])
    refine bodyPost_ret (v := .tuple #[pv noP, .int .i64 2]) (results_pair rfl _ _ w.heap.size noP rfl rfl hr2 _ rfl) rfl ?_
    exact ⟨rfl, kz.trans hk2 (fun b hb e => by have h3 : b = w.heap.size := e; omega)⟩
  cases hn : allNought l with
  | true =>
    have hd2 : (noP, (0 : Int)) = (R, d) := by rw [← HD.out, dcd, if_pos h24, hn, if_pos rfl]
    cases hd2
    have HB2 := Lib.hid (fun w => HB.out w true hn)
    have hsz2 : (str l).size = 24 := by rw [hsz, h24]
    clear HB HAT hd HD hat hsz hl hn
    generalize str l = s at *
    go_enter Tryz.func86, Tryz.ntmps86
    go_wp2_with fail
    refine (HB2.out _).mono ?_; rintro e w1 ⟨rfl, rfl⟩
    go_wp2_with (refine wpList_st rfl _ _ rfl _ noP noP rfl rfl rfl rfl hz0 ?_; intro w2 hr2 hk2 hs2; clear hs2)
    (try simp only [Exit.inBlock, Exit.then])
    refine bodyPost_ret (v := .tuple #[pv noP, .int .i64 0]) (results_pair rfl _ _ w.heap.size noP rfl rfl hr2 _ rfl) rfl ?_
    exact ⟨rfl, kz.trans hk2 (fun b hb e => by have h3 : b = w.heap.size := e; omega)⟩
  | false =>
  have HB2 := Lib.hid (fun w => HB.out w false hn)
  have hsz2 : (str l).size = 24 := by rw [hsz, h24]
  have hd2 : (if gd l then (rd l, (1 : Int)) else (noP, 2)) = (R, d) := by rw [← HD.out]; unfold dcd; rw [if_pos h24, hn]; rfl
  have HD2 := Lib.hid hd2
  have H24 := Lib.hid h24
  clear HB hd HD hat hsz hl hn hd2
  generalize hs : str l = s at *
  have HS := Lib.hid hs
  clear hs
  go_enter Tryz.func86, Tryz.ntmps86
  go_wp2_with fail
  refine (HB2.out _).mono ?_; rintro e w1 ⟨rfl, rfl⟩
  have kz2 := kz.alloc (.cells #[.int .i64 0, .int .i64 0, .int .i64 0, .int .i64 0] 278)
  go_wp2_with fail
  have hr2 : Blk ((w.alloc (.cells #[.int .i64 0, .int .i64 0, .int .i64 0, .int .i64 0, .int .i64 0, .int .i64 0, .int .i64 0, .int .i64 0, .int .i64 0, .int .i64 0, .int .i64 0, .int .i64 0, .int .i64 0, .int .i64 0, .int .i64 0, .int .i64 0] 39)).alloc (.cells #[.int .i64 0, .int .i64 0, .int .i64 0, .int .i64 0] 278)) w.heap.size 39 (ints noP) := hz0.alloc _
  have ht2 : Blk ((w.alloc (.cells #[.int .i64 0, .int .i64 0, .int .i64 0, .int .i64 0, .int .i64 0, .int .i64 0, .int .i64 0, .int .i64 0, .int .i64 0, .int .i64 0, .int .i64 0, .int .i64 0, .int .i64 0, .int .i64 0, .int .i64 0, .int .i64 0] 39)).alloc (.cells #[.int .i64 0, .int .i64 0, .int .i64 0, .int .i64 0] 278)) (w.heap.size + 1) 278 (ints (tpt l 0)) := by
    have := Blk.new (w.alloc (.cells #[.int .i64 0, .int .i64 0, .int .i64 0, .int .i64 0, .int .i64 0, .int .i64 0, .int .i64 0, .int .i64 0, .int .i64 0, .int .i64 0, .int .i64 0, .int .i64 0, .int .i64 0, .int .i64 0, .int .i64 0, .int .i64 0] 39)) 278 (ints [0, 0, 0, 0])
    rw [show (w.alloc (.cells #[.int .i64 0, .int .i64 0, .int .i64 0, .int .i64 0, .int .i64 0, .int .i64 0, .int .i64 0, .int .i64 0, .int .i64 0, .int .i64 0, .int .i64 0, .int .i64 0, .int .i64 0, .int .i64 0, .int .i64 0, .int .i64 0] 39)).heap.size = w.heap.size + 1 from by simp] at this
    exact this
  have hgr : w.heap.size ≠ w.heap.size + 1 := by omega
  have hgn : w.heap.size ≤ w.heap.size + 1 := by omega
  generalize ((w.alloc (.cells #[.int .i64 0, .int .i64 0, .int .i64 0, .int .i64 0, .int .i64 0, .int .i64 0, .int .i64 0, .int .i64 0, .int .i64 0, .int .i64 0, .int .i64 0, .int .i64 0, .int .i64 0, .int .i64 0, .int .i64 0, .int .i64 0] 39)).alloc (.cells #[.int .i64 0, .int .i64 0, .int .i64 0, .int .i64 0] 278)) = w2 at *
  generalize w.heap.size + 1 = gt at *
  clear hz0 kz
  go_loopw [5] (fun s5 wx => ∃ k : Nat, k ≤ 4 ∧ s5 = .int .i64 k ∧ Blk wx gt 278 (ints (tpt l k)) ∧ Blk wx w.heap.size 39 (ints noP) ∧ Keep Nob w wx) (fun s5 _ => 4 - (intOf s5).toNat)
  case atStart => exact ⟨0, Nat.zero_le _, rfl, ht2, hr2, kz2⟩
  case round =>
    obtain ⟨k, hk, rfl, ht3, hr3, hk3⟩ := hrel
    clear ht2 hr2 kz2
    by_cases hlt : k < 4
    · have x1 := index_str s (4 + 2 * (k : Int)) (4 + 2 * k) (by omega) (by omega) _ (HAT.out (4 + 2 * k) (by omega))
      have x2 := index_str s (5 + 2 * (k : Int)) (5 + 2 * k) (by omega) (by omega) _ (HAT.out (5 + 2 * k) (by omega))
      have hor := or_two (l.getD (4 + 2 * k) 0) (l.getD (5 + 2 * k) 0)
      have hset := tpt_set l hlt
      rw [rd_two k hlt, num, show 4 + 2 * k + 1 = 5 + 2 * k from by omega] at hset
      have u1 := u8_lt (l.getD (4 + 2 * k) 0)
      have u2 := u8_lt (l.getD (5 + 2 * k) 0)
      generalize l.getD (4 + 2 * k) 0 = b1 at *
      generalize l.getD (5 + 2 * k) 0 = b2 at *
      obtain ⟨v, hv⟩ : ∃ v, ((b1.toNat : Int) * 256 + (b2.toNat : Int)) = v := ⟨_, rfl⟩
      rw [hv] at hor hset
      clear hv
      have fr := ht3.frozen k
      have cc : ∃ x, _ = some x := ⟨_, (ht3.cell k).trans (ints_getD_ (by rw [tpt_len l (by omega)]; exact hlt))⟩
      obtain ⟨x, cc⟩ := cc
      have ht4 : Blk ((wr.setCell ⟨gt, k, none⟩ (.int .i64 v)).drew) gt 278 (ints (tpt l (k + 1))) := by
        have := (ht3.setCell k (.int .i64 v)).drew
        rw [ints_set, hset] at this
        exact this
      have hr4 := (hr3.far (p := ⟨gt, k, none⟩) hgr (.int .i64 v)).drew
      have hk4 : Keep Nob w ((wr.setCell ⟨gt, k, none⟩ (.int .i64 v)).drew) := (hk3.setCell ⟨gt, k, none⟩ _ (fun h => absurd h (by show ¬ gt < _; omega))).drew
      clear ht3 hr3 hk3 hset
      go_wp2_with fail
      go_region
      go_wp2_with fail
      go_round
      case rel => exact ⟨k + 1, by omega, by go_num, ht4, hr4, hk4⟩
      case measure => simp [intOf]; omega
    · obtain rfl : k = 4 := by omega
      clear hlt hk
      have hgl := ht3.lt
      have e4 : ints (tpt l 4) = [.int .i64 (num l 4), .int .i64 (num l 6), .int .i64 (num l 8), .int .i64 (num l 10)] := rfl
      rw [e4] at ht3
      clear e4
      have y0 := index_str s 0 0 rfl (by omega) _ (HAT.out 0 (by omega))
      have y1 := index_str s 1 1 rfl (by omega) _ (HAT.out 1 (by omega))
      have y2 := index_str s 2 2 rfl (by omega) _ (HAT.out 2 (by omega))
      have y3 := index_str s 3 3 rfl (by omega) _ (HAT.out 3 (by omega))
      have hR8 : rpt l 8 = [((l.getD 0 0).toNat : Int), ((l.getD 1 0).toNat : Int), ((l.getD 2 0).toNat : Int), ((l.getD 3 0).toNat : Int), num l 4, num l 6, num l 8, num l 10, 0, 0, 0, 0, 0, 0, 0, 0] := rfl
      have u0 := u8_lt (l.getD 0 0)
      have u1 := u8_lt (l.getD 1 0)
      have u2 := u8_lt (l.getD 2 0)
      have u3 := u8_lt (l.getD 3 0)
      have i0 : IntKind.i64.wrap ((l.getD 0 0).toNat : Int) = ((l.getD 0 0).toNat : Int) := wrap_small_i64 _ (by omega) (by omega)
      have i1 : IntKind.i64.wrap ((l.getD 1 0).toNat : Int) = ((l.getD 1 0).toNat : Int) := wrap_small_i64 _ (by omega) (by omega)
      have i2 : IntKind.i64.wrap ((l.getD 2 0).toNat : Int) = ((l.getD 2 0).toNat : Int) := wrap_small_i64 _ (by omega) (by omega)
      have i3 : IntKind.i64.wrap ((l.getD 3 0).toNat : Int) = ((l.getD 3 0).toNat : Int) := wrap_small_i64 _ (by omega) (by omega)
      generalize ((l.getD 0 0).toNat : Int) = x0 at *
      generalize ((l.getD 1 0).toNat : Int) = x1 at *
      generalize ((l.getD 2 0).toNat : Int) = x2 at *
      generalize ((l.getD 3 0).toNat : Int) = x3 at *
      generalize num l 4 = n4 at *
      generalize num l 6 = n5 at *
      generalize num l 8 = n6 at *
      generalize num l 10 = n7 at *
      have t0 : wr.cell? ⟨gt, 0, none⟩ = some (.int .i64 n4) := ht3.cell 0
      have t1 : wr.cell? ⟨gt, 1, none⟩ = some (.int .i64 n5) := ht3.cell 1
      have t2 : wr.cell? ⟨gt, 2, none⟩ = some (.int .i64 n6) := ht3.cell 2
      have t3 : wr.cell? ⟨gt, 3, none⟩ = some (.int .i64 n7) := ht3.cell 3
      clear u0 u1 u2 u3
      have hge : w.heap.size ≤ wr.heap.size := hk3.size
      have hgr2 : w.heap.size ≠ wr.heap.size := by have := hr3.lt; omega
      have hsa : wr.drew.cell? ⟨gt, 0, none⟩ = some (.int .i64 n4) ∧ wr.drew.cell? ⟨gt, 1, none⟩ = some (.int .i64 n5) ∧ wr.drew.cell? ⟨gt, 2, none⟩ = some (.int .i64 n6) ∧ wr.drew.cell? ⟨gt, 3, none⟩ = some (.int .i64 n7) := by
        have h := ht3.drew
        exact ⟨h.cell 0, h.cell 1, h.cell 2, h.cell 3⟩
      have hsb : ((wr.alloc (.cells #[.int .i64 0, .int .i64 0, .int .i64 0, .int .i64 0, .int .i64 0, .int .i64 0, .int .i64 0, .int .i64 0, .int .i64 0, .int .i64 0, .int .i64 0, .int .i64 0, .int .i64 0, .int .i64 0, .int .i64 0, .int .i64 0] 39)).drew).cell? ⟨gt, 0, none⟩ = some (.int .i64 n4) ∧ ((wr.alloc (.cells #[.int .i64 0, .int .i64 0, .int .i64 0, .int .i64 0, .int .i64 0, .int .i64 0, .int .i64 0, .int .i64 0, .int .i64 0, .int .i64 0, .int .i64 0, .int .i64 0, .int .i64 0, .int .i64 0, .int .i64 0, .int .i64 0] 39)).drew).cell? ⟨gt, 1, none⟩ = some (.int .i64 n5) ∧ ((wr.alloc (.cells #[.int .i64 0, .int .i64 0, .int .i64 0, .int .i64 0, .int .i64 0, .int .i64 0, .int .i64 0, .int .i64 0, .int .i64 0, .int .i64 0, .int .i64 0, .int .i64 0, .int .i64 0, .int .i64 0, .int .i64 0, .int .i64 0] 39)).drew).cell? ⟨gt, 2, none⟩ = some (.int .i64 n6) ∧ ((wr.alloc (.cells #[.int .i64 0, .int .i64 0, .int .i64 0, .int .i64 0, .int .i64 0, .int .i64 0, .int .i64 0, .int .i64 0, .int .i64 0, .int .i64 0, .int .i64 0, .int .i64 0, .int .i64 0, .int .i64 0, .int .i64 0, .int .i64 0] 39)).drew).cell? ⟨gt, 3, none⟩ = some (.int .i64 n7) := by
        have h := (ht3.alloc (.cells #[.int .i64 0, .int .i64 0, .int .i64 0, .int .i64 0, .int .i64 0, .int .i64 0, .int .i64 0, .int .i64 0, .int .i64 0, .int .i64 0, .int .i64 0, .int .i64 0, .int .i64 0, .int .i64 0, .int .i64 0, .int .i64 0] 39)).drew
        exact ⟨h.cell 0, h.cell 1, h.cell 2, h.cell 3⟩
      have hn5 : Blk ((wr.alloc (.cells #[.int .i64 0, .int .i64 0, .int .i64 0, .int .i64 0, .int .i64 0, .int .i64 0, .int .i64 0, .int .i64 0, .int .i64 0, .int .i64 0, .int .i64 0, .int .i64 0, .int .i64 0, .int .i64 0, .int .i64 0, .int .i64 0] 39)).drew) wr.heap.size 39 (ints noP) := (Blk.new wr 39 (ints noP)).drew
      have hsc : (((wr.alloc (.cells #[.int .i64 0, .int .i64 0, .int .i64 0, .int .i64 0, .int .i64 0, .int .i64 0, .int .i64 0, .int .i64 0, .int .i64 0, .int .i64 0, .int .i64 0, .int .i64 0, .int .i64 0, .int .i64 0, .int .i64 0, .int .i64 0] 39)).drew).setRow wr.heap.size (ints (rpt l 8)).toArray).cell? ⟨gt, 0, none⟩ = some (.int .i64 n4) ∧ (((wr.alloc (.cells #[.int .i64 0, .int .i64 0, .int .i64 0, .int .i64 0, .int .i64 0, .int .i64 0, .int .i64 0, .int .i64 0, .int .i64 0, .int .i64 0, .int .i64 0, .int .i64 0, .int .i64 0, .int .i64 0, .int .i64 0, .int .i64 0] 39)).drew).setRow wr.heap.size (ints (rpt l 8)).toArray).cell? ⟨gt, 1, none⟩ = some (.int .i64 n5) ∧ (((wr.alloc (.cells #[.int .i64 0, .int .i64 0, .int .i64 0, .int .i64 0, .int .i64 0, .int .i64 0, .int .i64 0, .int .i64 0, .int .i64 0, .int .i64 0, .int .i64 0, .int .i64 0, .int .i64 0, .int .i64 0, .int .i64 0, .int .i64 0] 39)).drew).setRow wr.heap.size (ints (rpt l 8)).toArray).cell? ⟨gt, 2, none⟩ = some (.int .i64 n6) ∧ (((wr.alloc (.cells #[.int .i64 0, .int .i64 0, .int .i64 0, .int .i64 0, .int .i64 0, .int .i64 0, .int .i64 0, .int .i64 0, .int .i64 0, .int .i64 0, .int .i64 0, .int .i64 0, .int .i64 0, .int .i64 0, .int .i64 0, .int .i64 0] 39)).drew).setRow wr.heap.size (ints (rpt l 8)).toArray).cell? ⟨gt, 3, none⟩ = some (.int .i64 n7) := by
        have h := (ht3.alloc (.cells #[.int .i64 0, .int .i64 0, .int .i64 0, .int .i64 0, .int .i64 0, .int .i64 0, .int .i64 0, .int .i64 0, .int .i64 0, .int .i64 0, .int .i64 0, .int .i64 0, .int .i64 0, .int .i64 0, .int .i64 0, .int .i64 0] 39)).drew.setRow_far (b := wr.heap.size) (by omega) (ints (rpt l 8)).toArray
        exact ⟨h.cell 0, h.cell 1, h.cell 2, h.cell 3⟩
      have hp5 : Blk (((wr.alloc (.cells #[.int .i64 0, .int .i64 0, .int .i64 0, .int .i64 0, .int .i64 0, .int .i64 0, .int .i64 0, .int .i64 0, .int .i64 0, .int .i64 0, .int .i64 0, .int .i64 0, .int .i64 0, .int .i64 0, .int .i64 0, .int .i64 0] 39)).drew).setRow wr.heap.size (ints (rpt l 8)).toArray) wr.heap.size 39 (ints (rpt l 8)) := hn5.setRow _
      have hr5 : Blk (((wr.alloc (.cells #[.int .i64 0, .int .i64 0, .int .i64 0, .int .i64 0, .int .i64 0, .int .i64 0, .int .i64 0, .int .i64 0, .int .i64 0, .int .i64 0, .int .i64 0, .int .i64 0, .int .i64 0, .int .i64 0, .int .i64 0, .int .i64 0] 39)).drew).setRow wr.heap.size (ints (rpt l 8)).toArray) w.heap.size 39 (ints noP) := (hr3.alloc (.cells #[.int .i64 0, .int .i64 0, .int .i64 0, .int .i64 0, .int .i64 0, .int .i64 0, .int .i64 0, .int .i64 0, .int .i64 0, .int .i64 0, .int .i64 0, .int .i64 0, .int .i64 0, .int .i64 0, .int .i64 0, .int .i64 0] 39)).drew.setRow_far (b := wr.heap.size) hgr2 _
      have hk5 : Keep Nob w (((wr.alloc (.cells #[.int .i64 0, .int .i64 0, .int .i64 0, .int .i64 0, .int .i64 0, .int .i64 0, .int .i64 0, .int .i64 0, .int .i64 0, .int .i64 0, .int .i64 0, .int .i64 0, .int .i64 0, .int .i64 0, .int .i64 0, .int .i64 0] 39)).drew).setRow wr.heap.size (ints (rpt l 8)).toArray) := (hk3.alloc (.cells #[.int .i64 0, .int .i64 0, .int .i64 0, .int .i64 0, .int .i64 0, .int .i64 0, .int .i64 0, .int .i64 0, .int .i64 0, .int .i64 0, .int .i64 0, .int .i64 0, .int .i64 0, .int .i64 0, .int .i64 0, .int .i64 0] 39)).drew.setRow wr.heap.size _ (fun h => absurd h (by omega))
      have HSA := Lib.hid hsa
      have HSB := Lib.hid hsb
      have HSC := Lib.hid hsc
      clear hsa hsb hsc t0 t1 t2 t3
      go_wp2_with fail
      refine wp_region_held_drew (S := fun w' => w'.cell? ⟨gt, 0, none⟩ = some (.int .i64 n4) ∧ w'.cell? ⟨gt, 1, none⟩ = some (.int .i64 n5) ∧ w'.cell? ⟨gt, 2, none⟩ = some (.int .i64 n6) ∧ w'.cell? ⟨gt, 3, none⟩ = some (.int .i64 n7)) (by kernel_rfl) HSA.out (fun hHeld => ?_)
      refine wpAnyH_take (i := 0) (v := ?_) rfl (by kernel_rfl) (by kernel_rfl) (by kernel_rfl) (fun _ _ _ h => h) (Or.inl ⟨by rfl, ?_⟩) (by assumption) ?_
      rotate_left
      · (intro w hSw; (try dsimp only at hSw); obtain ⟨t0, t1, t2, t3⟩ := hSw; go_simp; try with_reducible rfl)
      try simp only [Act.put, List.getElem_toArray, List.getElem_cons_zero, List.getElem_cons_succ, List.setIfInBounds_toArray, List.set_cons_zero, List.set_cons_succ]
      refine wpAnyH_take (i := 1) (v := ?_) rfl (by kernel_rfl) (by kernel_rfl) (by kernel_rfl) (fun _ _ _ h => h) (Or.inl ⟨by rfl, ?_⟩) (by assumption) ?_
      rotate_left
      · (intro w hSw; (try dsimp only at hSw); obtain ⟨t0, t1, t2, t3⟩ := hSw; go_simp; try with_reducible rfl)
      try simp only [Act.put, List.getElem_toArray, List.getElem_cons_zero, List.getElem_cons_succ, List.setIfInBounds_toArray, List.set_cons_zero, List.set_cons_succ]
      refine wpAnyH_take (i := 2) (v := ?_) rfl (by kernel_rfl) (by kernel_rfl) (by kernel_rfl) (fun _ _ _ h => h) (Or.inl ⟨by rfl, ?_⟩) (by assumption) ?_
      rotate_left
      · (intro w hSw; (try dsimp only at hSw); obtain ⟨t0, t1, t2, t3⟩ := hSw; go_simp; try with_reducible rfl)
      try simp only [Act.put, List.getElem_toArray, List.getElem_cons_zero, List.getElem_cons_succ, List.setIfInBounds_toArray, List.set_cons_zero, List.set_cons_succ]
      refine wpAnyH_take (i := 3) (v := ?_) rfl (by kernel_rfl) (by kernel_rfl) (by kernel_rfl) (fun _ _ _ h => h) (Or.inl ⟨by rfl, ?_⟩) (by assumption) ?_
      rotate_left
      · (intro w hSw; (try dsimp only at hSw); obtain ⟨t0, t1, t2, t3⟩ := hSw; go_simp; try with_reducible rfl)
      try simp only [Act.put, List.getElem_toArray, List.getElem_cons_zero, List.getElem_cons_succ, List.setIfInBounds_toArray, List.set_cons_zero, List.set_cons_succ]
      refine wpAnyH_take (i := 4) (v := ?_) rfl (by kernel_rfl) (by kernel_rfl) (by kernel_rfl) (fun _ _ _ h => h) (Or.inl ⟨by rfl, ?_⟩) (by assumption) ?_
      rotate_left
      · (intro w hSw; (try dsimp only at hSw); obtain ⟨t0, t1, t2, t3⟩ := hSw; go_simp; try with_reducible rfl)
      try simp only [Act.put, List.getElem_toArray, List.getElem_cons_zero, List.getElem_cons_succ, List.setIfInBounds_toArray, List.set_cons_zero, List.set_cons_succ]
      refine wpAnyH_take (i := 5) (v := ?_) rfl (by kernel_rfl) (by kernel_rfl) (by kernel_rfl) (fun _ _ _ h => h) (Or.inl ⟨by rfl, ?_⟩) (by assumption) ?_
      rotate_left
      · (intro w hSw; (try dsimp only at hSw); obtain ⟨t0, t1, t2, t3⟩ := hSw; go_simp; try with_reducible rfl)
      try simp only [Act.put, List.getElem_toArray, List.getElem_cons_zero, List.getElem_cons_succ, List.setIfInBounds_toArray, List.set_cons_zero, List.set_cons_succ]
      refine wpAnyH_take (i := 6) (v := ?_) rfl (by kernel_rfl) (by kernel_rfl) (by kernel_rfl) (fun _ _ _ h => h) (Or.inl ⟨by rfl, ?_⟩) (by assumption) ?_
      rotate_left
      · (intro w hSw; (try dsimp only at hSw); obtain ⟨t0, t1, t2, t3⟩ := hSw; go_simp; try with_reducible rfl)
      try simp only [Act.put, List.getElem_toArray, List.getElem_cons_zero, List.getElem_cons_succ, List.setIfInBounds_toArray, List.set_cons_zero, List.set_cons_succ]
      refine wpAnyH_take (i := 7) (v := ?_) rfl (by kernel_rfl) (by kernel_rfl) (by kernel_rfl) (fun _ _ _ h => h) (Or.inl ⟨by rfl, ?_⟩) (by assumption) ?_
      rotate_left
      · (intro w hSw; (try dsimp only at hSw); obtain ⟨t0, t1, t2, t3⟩ := hSw; go_simp; try with_reducible rfl)
      try simp only [Act.put, List.getElem_toArray, List.getElem_cons_zero, List.getElem_cons_succ, List.setIfInBounds_toArray, List.set_cons_zero, List.set_cons_succ]
      refine wpAnyH_take (i := 8) (v := ?_) rfl (by kernel_rfl) (by kernel_rfl) (by kernel_rfl) (fun _ _ _ h => h) (Or.inl ⟨by rfl, ?_⟩) (by assumption) ?_
      rotate_left
      · (intro w hSw; (try dsimp only at hSw); obtain ⟨t0, t1, t2, t3⟩ := hSw; go_simp; try with_reducible rfl)
      try simp only [Act.put, List.getElem_toArray, List.getElem_cons_zero, List.getElem_cons_succ, List.setIfInBounds_toArray, List.set_cons_zero, List.set_cons_succ]
      refine wpAnyH_take (i := 9) (v := ?_) rfl (by kernel_rfl) (by kernel_rfl) (by kernel_rfl) (fun _ _ _ h => h) (Or.inl ⟨by rfl, ?_⟩) (by assumption) ?_
      rotate_left
      · (intro w hSw; (try dsimp only at hSw); obtain ⟨t0, t1, t2, t3⟩ := hSw; go_simp; try with_reducible rfl)
      try simp only [Act.put, List.getElem_toArray, List.getElem_cons_zero, List.getElem_cons_succ, List.setIfInBounds_toArray, List.set_cons_zero, List.set_cons_succ]
      refine wpAnyH_take (i := 10) (v := ?_) rfl (by kernel_rfl) (by kernel_rfl) (by kernel_rfl) (fun _ _ _ h => h) (Or.inl ⟨by rfl, ?_⟩) (by assumption) ?_
      rotate_left
      · (intro w hSw; (try dsimp only at hSw); obtain ⟨t0, t1, t2, t3⟩ := hSw; go_simp; try with_reducible rfl)
      try simp only [Act.put, List.getElem_toArray, List.getElem_cons_zero, List.getElem_cons_succ, List.setIfInBounds_toArray, List.set_cons_zero, List.set_cons_succ]
      refine wpAnyH_take (i := 11) (v := ?_) rfl (by kernel_rfl) (by kernel_rfl) (by kernel_rfl) (fun _ _ _ h => h) (Or.inl ⟨by rfl, ?_⟩) (by assumption) ?_
      rotate_left
      · (intro w hSw; (try dsimp only at hSw); obtain ⟨t0, t1, t2, t3⟩ := hSw; go_simp; try with_reducible rfl)
      try simp only [Act.put, List.getElem_toArray, List.getElem_cons_zero, List.getElem_cons_succ, List.setIfInBounds_toArray, List.set_cons_zero, List.set_cons_succ]
      refine wpAnyH_take (i := 12) (v := ?_) rfl (by kernel_rfl) (by kernel_rfl) (by kernel_rfl) (fun _ _ _ h => h) (Or.inl ⟨by rfl, ?_⟩) (by assumption) ?_
      rotate_left
      · (intro w hSw; (try dsimp only at hSw); obtain ⟨t0, t1, t2, t3⟩ := hSw; go_simp; try with_reducible rfl)
      try simp only [Act.put, List.getElem_toArray, List.getElem_cons_zero, List.getElem_cons_succ, List.setIfInBounds_toArray, List.set_cons_zero, List.set_cons_succ]
      refine wpAnyH_take (i := 13) (v := ?_) rfl (by kernel_rfl) (by kernel_rfl) (by kernel_rfl) (fun _ _ _ h => h) (Or.inl ⟨by rfl, ?_⟩) (by assumption) ?_
      rotate_left
      · (intro w hSw; (try dsimp only at hSw); obtain ⟨t0, t1, t2, t3⟩ := hSw; go_simp; try with_reducible rfl)
      try simp only [Act.put, List.getElem_toArray, List.getElem_cons_zero, List.getElem_cons_succ, List.setIfInBounds_toArray, List.set_cons_zero, List.set_cons_succ]
      refine wpAnyH_take (i := 14) (v := ?_) rfl (by kernel_rfl) (by kernel_rfl) (by kernel_rfl) (fun _ _ _ h => h) (Or.inl ⟨by rfl, ?_⟩) (by assumption) ?_
      rotate_left
      · (intro w hSw; (try dsimp only at hSw); obtain ⟨t0, t1, t2, t3⟩ := hSw; go_simp; try with_reducible rfl)
      try simp only [Act.put, List.getElem_toArray, List.getElem_cons_zero, List.getElem_cons_succ, List.setIfInBounds_toArray, List.set_cons_zero, List.set_cons_succ]
      refine wpAnyH_take (i := 15) (v := ?_) rfl (by kernel_rfl) (by kernel_rfl) (by kernel_rfl) (fun _ _ _ h => h) (Or.inl ⟨by rfl, ?_⟩) (by assumption) ?_
      rotate_left
      · (intro w hSw; (try dsimp only at hSw); obtain ⟨t0, t1, t2, t3⟩ := hSw; go_simp; try with_reducible rfl)
      try simp only [Act.put, List.getElem_toArray, List.getElem_cons_zero, List.getElem_cons_succ, List.setIfInBounds_toArray, List.set_cons_zero, List.set_cons_succ]
      refine wpAnyH_take (i := 16) (v := ?_) rfl (by kernel_rfl) (by kernel_rfl) (by kernel_rfl) (fun _ _ _ h => h) (Or.inl ⟨by rfl, ?_⟩) (by assumption) ?_
      rotate_left
      · (intro w hSw; (try dsimp only at hSw); obtain ⟨t0, t1, t2, t3⟩ := hSw; go_simp; try with_reducible rfl)
      try simp only [Act.put, List.getElem_toArray, List.getElem_cons_zero, List.getElem_cons_succ, List.setIfInBounds_toArray, List.set_cons_zero, List.set_cons_succ]
      refine wpAnyH_take (i := 17) (v := ?_) rfl (by kernel_rfl) (by kernel_rfl) (by kernel_rfl) (fun _ _ _ h => h) (Or.inl ⟨by rfl, ?_⟩) (by assumption) ?_
      rotate_left
      · (intro w hSw; (try dsimp only at hSw); obtain ⟨t0, t1, t2, t3⟩ := hSw; go_simp; try with_reducible rfl)
      try simp only [Act.put, List.getElem_toArray, List.getElem_cons_zero, List.getElem_cons_succ, List.setIfInBounds_toArray, List.set_cons_zero, List.set_cons_succ]
      refine wpAnyH_take (i := 18) (v := ?_) rfl (by kernel_rfl) (by kernel_rfl) (by kernel_rfl) (fun _ _ _ h => h) (Or.inl ⟨by rfl, ?_⟩) (by assumption) ?_
      rotate_left
      · (intro w hSw; (try dsimp only at hSw); obtain ⟨t0, t1, t2, t3⟩ := hSw; go_simp; try with_reducible rfl)
      try simp only [Act.put, List.getElem_toArray, List.getElem_cons_zero, List.getElem_cons_succ, List.setIfInBounds_toArray, List.set_cons_zero, List.set_cons_succ]
      refine wpAnyH_take (i := 19) (v := ?_) rfl (by kernel_rfl) (by kernel_rfl) (by kernel_rfl) (fun _ _ _ h => h) (Or.inl ⟨by rfl, ?_⟩) (by assumption) ?_
      rotate_left
      · (intro w hSw; (try dsimp only at hSw); obtain ⟨t0, t1, t2, t3⟩ := hSw; go_simp; try with_reducible rfl)
      try simp only [Act.put, List.getElem_toArray, List.getElem_cons_zero, List.getElem_cons_succ, List.setIfInBounds_toArray, List.set_cons_zero, List.set_cons_succ]
      refine wpAnyH_take (i := 20) (v := ?_) rfl (by kernel_rfl) (by kernel_rfl) (by kernel_rfl) (fun _ _ _ h => h) (Or.inl ⟨by rfl, ?_⟩) (by assumption) ?_
      rotate_left
      · (intro w hSw; (try dsimp only at hSw); obtain ⟨t0, t1, t2, t3⟩ := hSw; go_simp; try with_reducible rfl)
      try simp only [Act.put, List.getElem_toArray, List.getElem_cons_zero, List.getElem_cons_succ, List.setIfInBounds_toArray, List.set_cons_zero, List.set_cons_succ]
      refine wpAnyH_ready (rs := [21]) (by kernel_rfl) (by simp) ?_
      refine AllReadyH.cons rfl (fun K hK => ?_) AllReadyH.nil
      go_simp
      refine hK.out _ _ ?_ (fun hHeld => ?_)
      · exact HSB.out
      clear hK K
      try simp only [Act.put, List.getElem_toArray, List.getElem_cons_zero, List.getElem_cons_succ, List.setIfInBounds_toArray, List.set_cons_zero, List.set_cons_succ]
      refine wpAnyH_ready (rs := [22]) (by kernel_rfl) (by simp) ?_
      refine AllReadyH.cons rfl (fun K hK => ?_) AllReadyH.nil
      rw [if_pos (by rfl)]
      refine wp_store_ (old := noP) (q := rpt l 8) rfl rfl (by rw [hR8]; rfl) (rpt_len H24.out (by decide)) rfl hn5 ?_
      refine hK.out _ _ ?_ (fun hHeld => ?_)
      · exact HSC.out
      clear hK K
      try simp only [Act.put, List.getElem_toArray, List.getElem_cons_zero, List.getElem_cons_succ, List.setIfInBounds_toArray, List.set_cons_zero, List.set_cons_succ]
      refine wpAnyH_done (by kernel_rfl) ?_ _
      clear ht3 hr3 hk3 hn5 HSA HSB HSC hR8 y0 y1 y2 y3 i0 i1 i2 i3
      generalize (((wr.alloc (.cells #[.int .i64 0, .int .i64 0, .int .i64 0, .int .i64 0, .int .i64 0, .int .i64 0, .int .i64 0, .int .i64 0, .int .i64 0, .int .i64 0, .int .i64 0, .int .i64 0, .int .i64 0, .int .i64 0, .int .i64 0, .int .i64 0] 39)).drew).setRow wr.heap.size (ints (rpt l 8)).toArray) = w5 at *
      generalize wr.heap.size = gp at *
      go_wp2_with fail
      go_loopw [7] (fun s7 wx => ∃ k : Nat, k ≤ 8 ∧ s7 = .int .i64 k ∧ Blk wx gp 39 (ints (rpt l (8 + k))) ∧ Blk wx w.heap.size 39 (ints noP) ∧ Keep Nob w wx) (fun s7 _ => 8 - (intOf s7).toNat)
      case atStart => exact ⟨0, Nat.zero_le _, rfl, hp5, hr5, hk5⟩
      case round =>
        obtain ⟨k, hk, rfl, hp6, hr6, hk6⟩ := hrel
        clear hp5 hr5 hk5
        by_cases hlt : k < 8
        · have y1 := index_str s (12 + (k : Int)) (12 + k) (by omega) (by omega) _ (HAT.out (12 + k) (by omega))
          have hset := rpt_set H24.out (k := 8 + k) (by omega)
          rw [rd_fds H24.out k hlt] at hset
          have hu := u8_lt (l.getD (12 + k) 0)
          have hwr : IntKind.i64.wrap ((l.getD (12 + k) 0).toNat : Int) = ((l.getD (12 + k) 0).toNat : Int) := wrap_small_i64 _ (by omega) (by omega)
          generalize ((l.getD (12 + k) 0).toNat : Int) = u at *
          have fr := hp6.frozen (8 + k)
          have cc : ∃ x, _ = some x := ⟨_, (hp6.cell (8 + k)).trans (ints_getD_ (by rw [rpt_len H24.out (by omega)]; omega))⟩
          obtain ⟨x, cc⟩ := cc
          have hp7 : Blk (wr.setCell ⟨gp, 8 + k, none⟩ (.int .i64 u)) gp 39 (ints (rpt l (8 + (k + 1)))) := by
            have := hp6.setCell (8 + k) (.int .i64 u)
            rw [ints_set, hset] at this
            exact this
          have hr7 := hr6.far (p := ⟨gp, 8 + k, none⟩) hgr2 (.int .i64 u)
          have hk7 : Keep Nob w (wr.setCell ⟨gp, 8 + k, none⟩ (.int .i64 u)) := hk6.setCell ⟨gp, 8 + k, none⟩ _ (fun h => absurd h (by show ¬ gp < _; omega))
          clear hp6 hr6 hk6 hset
          go_wp2_with fail
          go_round
          case rel => exact ⟨k + 1, by omega, by go_num, hp7, hr7, hk7⟩
          case measure => simp [intOf]; omega
        · obtain rfl : k = 8 := by omega
          rw [show 8 + 8 = 16 from rfl, rpt_all H24.out] at hp6
          clear hlt hk
          have hsl : s.toList = l := by rw [← HS.out, str_tl]
          have hgd : (okd (rd l) && enc (rd l) == l) = gd l := rfl
          have hd3 := HD2.out
          have hrl := rd_len H24.out
          have hrw := rd_wf H24.out
          rw [← hgd] at hd3
          clear hgd
          generalize rd l = P at *
          have HRL := Lib.hid hrl
          have Q1 := Lib.hid (fun w v h => procok_is P hrl hrw w v h)
          clear hrl hrw
          obtain ⟨p0, p1, p2, p3, p4, p5, p6, p7, p8, p9, p10, p11, p12, p13, p14, p15, rfl⟩ := split16 HRL.out
          obtain ⟨c0, c1, c2, c3, c4, c5, c6, c7, c8, c9, c10, c11, c12, c13, c14, c15⟩ := cells16 hp6
          cases ho : okd [p0, p1, p2, p3, p4, p5, p6, p7, p8, p9, p10, p11, p12, p13, p14, p15] with
          | false =>
            have hd4 : (noP, (2 : Int)) = (R, d) := by rw [← hd3, ho]; rfl
            cases hd4
            have QQ := Lib.hid (fun w => Q1.out w false ho)
            clear Q1 hd3 HD2 ho hsl HAT
            go_wp2_with fail
            refine (QQ.out _).mono ?_; rintro e w7 ⟨rfl, k7⟩
            have hr7 := hr6.nob k7
            have hk7 := hk6.nobt k7
            clear hp6 hr6 hk6 k7 c0 c1 c2 c3 c4 c5 c6 c7 c8 c9 c10 c11 c12 c13 c14 c15
            go_wp2_with (refine wpList_st rfl _ _ rfl _ noP noP rfl rfl rfl rfl hr7 ?_; intro w8 hr8 hk8 hs8; clear hs8)
            (try simp only [Exit.inBlock, Exit.then])
            refine bodyPost_ret (v := .tuple #[pv noP, .int .i64 2]) (results_pair rfl _ _ w.heap.size noP rfl rfl hr8 _ rfl) rfl ?_
            exact ⟨rfl, hk7.trans hk8 (fun b hb e => by have h3 : b = w.heap.size := e; omega)⟩
          | true =>
          have QQ := Lib.hid (fun w => Q1.out w true ho)
          have QB := Lib.hid (fun w => procbytes_is [p0, p1, p2, p3, p4, p5, p6, p7, p8, p9, p10, p11, p12, p13, p14, p15] HRL.out ho w)
          have heq : ((str (enc [p0, p1, p2, p3, p4, p5, p6, p7, p8, p9, p10, p11, p12, p13, p14, p15])).toList == s.toList) = (enc [p0, p1, p2, p3, p4, p5, p6, p7, p8, p9, p10, p11, p12, p13, p14, p15] == l) := by rw [hsl, str_tl]
          rw [ho, Bool.true_and] at hd3
          clear Q1 HD2 ho hsl HAT
          generalize str (enc [p0, p1, p2, p3, p4, p5, p6, p7, p8, p9, p10, p11, p12, p13, p14, p15]) = X at *
          generalize (enc [p0, p1, p2, p3, p4, p5, p6, p7, p8, p9, p10, p11, p12, p13, p14, p15] == l) = v at *
          go_wp2_with fail
          refine (QQ.out _).mono ?_; rintro e w7 ⟨rfl, k7⟩
          have hr7 := hr6.nob k7
          have hp7 := hp6.nob k7
          have hk7 := hk6.nobt k7
          clear hp6 hr6 hk6 k7 c0 c1 c2 c3 c4 c5 c6 c7 c8 c9 c10 c11 c12 c13 c14 c15
          obtain ⟨c0, c1, c2, c3, c4, c5, c6, c7, c8, c9, c10, c11, c12, c13, c14, c15⟩ := cells16 hp7
          go_wp2_with fail
          refine (QB.out _).mono ?_; rintro e w8 ⟨rfl, k8⟩
          have hr8 := hr7.nob k8
          have hp8 := hp7.nob k8
          have hk8 := hk7.nobt k8
          clear hp7 hr7 hk7 k8 c0 c1 c2 c3 c4 c5 c6 c7 c8 c9 c10 c11 c12 c13 c14 c15
          obtain ⟨c0, c1, c2, c3, c4, c5, c6, c7, c8, c9, c10, c11, c12, c13, c14, c15⟩ := cells16 hp8
          cases v with
          | false =>
            have hd4 : (noP, (2 : Int)) = (R, d) := by rw [← hd3]; rfl
            cases hd4
            clear hd3
            go_wp2_with (refine wpList_st rfl _ _ rfl _ noP noP rfl rfl rfl rfl hr8 ?_; intro w9 hr9 hk9 hs9; clear hs9)
            (try simp only [Exit.inBlock, Exit.then])
            refine bodyPost_ret (v := .tuple #[pv noP, .int .i64 2]) (results_pair rfl _ _ w.heap.size noP rfl rfl hr9 _ rfl) rfl ?_
            exact ⟨rfl, hk8.trans hk9 (fun b hb e => by have h3 : b = w.heap.size := e; omega)⟩
          | true =>
            rw [if_pos rfl] at hd3
            cases hd3
            go_wp2_with (refine wpList_st rfl _ _ rfl _ [p0, p1, p2, p3, p4, p5, p6, p7, p8, p9, p10, p11, p12, p13, p14, p15] noP rfl rfl HRL.out rfl hr8 ?_; intro w9 hr9 hk9 hs9; clear hs9)
            (try simp only [Exit.inBlock, Exit.then])
            refine bodyPost_ret (v := .tuple #[pv [p0, p1, p2, p3, p4, p5, p6, p7, p8, p9, p10, p11, p12, p13, p14, p15], .int .i64 1]) (results_pair rfl _ _ w.heap.size [p0, p1, p2, p3, p4, p5, p6, p7, p8, p9, p10, p11, p12, p13, p14, p15] HRL.out rfl hr9 _ rfl) rfl ?_
            exact ⟨rfl, hk8.trans hk9 (fun b hb e => by have h3 : b = w.heap.size := e; omega)⟩
end Go.Proofs.YtngchjejmnfanaaGreat.Cd
namespace Go.Proofs.YtngchjejmnfanaaGreat.Co
open Go.RowKit
set_option linter.unusedVariables false
set_option linter.unusedSimpArgs false
theorem alP (W : World) : (Instr.alloc 39 true (.tuple #[])).run Tryz.prog W = .ok (.pointer (some ⟨W.heap.size, 0, none⟩)) (W.alloc (.cells (ints Cd.noP).toArray 39)) := by
  go_simp
  rfl
theorem alF (W : World) : (Instr.alloc 41 true (.tuple #[])).run Tryz.prog W = .ok (.pointer (some ⟨W.heap.size, 0, none⟩)) (W.alloc (.cells (ints Fi.noP).toArray 41)) := by
  go_simp
  rfl
theorem flatP : Flat 39 16 (ints Cd.noP) := ⟨⟨_, Tryz.underlying39, rfl⟩, Cd.infoP_, alP, rfl⟩
theorem flatF : Flat 41 4 (ints Fi.noP) := ⟨⟨_, Tryz.underlying41, rfl⟩, Fi.infoP_, alF, rfl⟩
theorem flatR : Flat 44 36 (Ri.pc Ri.noP) := ⟨⟨_, Tryz.underlying44, rfl⟩, Ri.infoP_, Ri.run_al, rfl⟩
theorem cellsI {n : Nat} {l : List Int} (h : l.length = n) : Cells n (ints l) := ⟨by simp [ints, h], ints_one l⟩
theorem cellsR {p : Ri.Pp} (h : p.d.length = 32) : Cells 36 (Ri.pc p) := ⟨Ri.pc_len h, Ri.pc_one p⟩
end Go.Proofs.YtngchjejmnfanaaGreat.Co
namespace Go.Proofs.YtngchjejmnfanaaGreat.Cd
open Go.RowKit
set_option linter.unusedVariables false
set_option linter.unusedSimpArgs false
theorem equal_is (A B : Option Addr) (n m c d : Nat) (x y : List UInt8) (w : World) (hx : Reads w A n (bytes x)) (hy : Reads w B m (bytes y)) (v : Bool) (hv : (x == y) = v) :
    Calls Tryz.prog 227 #[.slice A n c, .slice B m d] w fun e w' => e = .returned (.bool v) ∧ w = w' := by
  have s1 := fun c => run_str (P := Tryz.prog) w 36 9 5 A n c x Tryz.underlying36 Tryz.underlying5 Tryz.underlying9 hx
  have s2 := fun c => run_str (P := Tryz.prog) w 36 9 5 B m c y Tryz.underlying36 Tryz.underlying5 Tryz.underlying9 hy
  have s3 : ((str x).toList == (str y).toList) = v := by rw [str_tl, str_tl, hv]
  clear hv hx hy
  generalize str x = X at *
  generalize str y = Y at *
  go_enter Tryz.func227, Tryz.ntmps227
  go_wp2
  go_ret
  exact ⟨rfl, rfl⟩
theorem reads_at {w : World} {g n : Nat} {l : List UInt8} (hr : Reads w (some ⟨g, 0, none⟩) n (bytes l)) {k : Nat} (hk : k < n) : w.cell? ⟨g, k, none⟩ = some (.int .u8 ((l.getD k 0).toNat : Int)) := by
  have hl : l.length = n := by simpa using hr.1
  obtain ⟨ad, h1, h2⟩ := hr.2 (by omega)
  cases h1
  have := h2 k _ (bytes_getD (by omega))
  rwa [add_lit, Nat.zero_add] at this
section
variable {ρ : Operand → Value} {o : Oper} {x y : Operand} {w : World} {g : Nat} {q old : List Int}
theorem exec_load (ho : o.op = .load 39 x) (hx : ρ x = .pointer (some ⟨g, 0, none⟩)) (hq : q.length = 16) (hb : Blk w g 39 (ints q)) : (execOp ρ o).run Tryz.prog w = .ok (.value (.agg (ints q).toArray)) w := by
  have := run_loadVar_row (P := Tryz.prog) w g 39 39 (ints q).toArray (0, 0) _ hb Tryz.underlying39 rfl (by rw [infoP_]; simp [hq])
  simp [execOp, ho, hx, Instr.loadAt, Instr.sureAddr, this, Result.andThen]
theorem exec_store (ho : o.op = .store 39 x y) (hx : ρ x = .pointer (some ⟨g, 0, none⟩)) (hy : ρ y = .agg (ints q).toArray) (hq : q.length = 16) (hd : old.length = 16) (hb : Blk w g 39 (ints old)) :
    (execOp ρ o).run Tryz.prog w = .ok .skip (w.setRow g (ints q).toArray) := by
  have := run_storeVar_row (P := Tryz.prog) w g 39 39 (ints old).toArray (ints q).toArray hb (by rw [infoP_]; simp [hq]) (by simp [hq, hd]) (by rw [Array.all_eq_true_iff_forall_mem]; intro v hv; exact ints_one q v (by simpa using hv))
  simp [execOp, ho, hx, hy, Instr.storeAt, Instr.sureAddr, this, Result.andThen]
theorem wp_store {a : Act} {K : Act → World → Prop} {Q : Exit → Act → World → Prop} (ho : o.op = .store 39 x y) (hx : a.eval x = .pointer (some ⟨g, 0, none⟩)) (hy : a.eval y = .agg (ints q).toArray) (hq : q.length = 16) (hd : old.length = 16) (hb : Blk w g 39 (ints old))
    (h : K (a.put o.dst undef) (w.setRow g (ints q).toArray)) : Oper.wp Tryz.prog o a w K Q := by
  unfold Oper.wp
  rw [exec_store ho hx hy hq hd hb]
  exact h
end
set_option maxHeartbeats 4000000 in
set_option maxRecDepth 100000 in
theorem get_is_ (l : List UInt8) (hl : l.length = 24) (g c : Nat) (w : World) (hr : Reads w (some ⟨g, 0, none⟩) 24 (bytes l)) (R : List Int) (hR : rd l = R) (v : Bool) (hv : gd l = v) :
    Calls Tryz.prog 285 #[.slice (some ⟨g, 0, none⟩) 24 c] w fun e w' => e = .returned (.tuple #[pv R, .bool v]) ∧ Keep Nob w w' := by
  have HRR := Lib.hid hR
  have HV := Lib.hid hv
  clear hR hv
  have hlt := block_lt_of_cell (reads_at hr (k := 0) (by decide))
  have hlt' : g < w.heap.size := hlt
  have h0 := reads_at hr (k := 0) (by decide)
  have h1 := reads_at hr (k := 1) (by decide)
  have h2 := reads_at hr (k := 2) (by decide)
  have h3 := reads_at hr (k := 3) (by decide)
  have u0 := u8_lt (l.getD 0 0)
  have u1 := u8_lt (l.getD 1 0)
  have u2 := u8_lt (l.getD 2 0)
  have u3 := u8_lt (l.getD 3 0)
  have HL := Lib.hid hl
  have HR := Lib.hid hr
  obtain ⟨x0, hx0⟩ : ∃ x, ((l.getD 0 0).toNat : Int) = x := ⟨_, rfl⟩
  obtain ⟨x1, hx1⟩ : ∃ x, ((l.getD 1 0).toNat : Int) = x := ⟨_, rfl⟩
  obtain ⟨x2, hx2⟩ : ∃ x, ((l.getD 2 0).toNat : Int) = x := ⟨_, rfl⟩
  obtain ⟨x3, hx3⟩ : ∃ x, ((l.getD 3 0).toNat : Int) = x := ⟨_, rfl⟩
  have hR4 : rpt l 4 = [x0, x1, x2, x3, 0, 0, 0, 0, 0, 0, 0, 0, 0, 0, 0, 0] := by
    subst hx0 hx1 hx2 hx3
    obtain ⟨x0, x1, x2, x3, x4, x5, x6, x7, x8, x9, y0, y1, y2, y3, y4, y5, y6, y7, y8, y9, z0, z1, z2, z3, rfl⟩ := split24 hl
    rfl
  have HR4 := Lib.hid hR4
  rw [hx0] at h0 u0
  rw [hx1] at h1 u1
  rw [hx2] at h2 u2
  rw [hx3] at h3 u3
  have i0 : IntKind.i64.wrap x0 = x0 := wrap_small_i64 _ (by omega) (by omega)
  have i1 : IntKind.i64.wrap x1 = x1 := wrap_small_i64 _ (by omega) (by omega)
  have i2 : IntKind.i64.wrap x2 = x2 := wrap_small_i64 _ (by omega) (by omega)
  have i3 : IntKind.i64.wrap x3 = x3 := wrap_small_i64 _ (by omega) (by omega)
  clear hl hr hx0 hx1 hx2 hx3 hlt hR4
  go_enter Tryz.func285, Tryz.ntmps285
  go_wp2_with fail
  go_region
  have hp1 : Blk (((w.alloc (.cells #[.int .i64 0, .int .i64 0, .int .i64 0, .int .i64 0, .int .i64 0, .int .i64 0, .int .i64 0, .int .i64 0, .int .i64 0, .int .i64 0, .int .i64 0, .int .i64 0, .int .i64 0, .int .i64 0, .int .i64 0, .int .i64 0] 39)).alloc (.cells #[.int .i64 x0, .int .i64 x1, .int .i64 x2, .int .i64 x3, .int .i64 0, .int .i64 0, .int .i64 0, .int .i64 0, .int .i64 0, .int .i64 0, .int .i64 0, .int .i64 0, .int .i64 0, .int .i64 0, .int .i64 0, .int .i64 0] 39)).drew) (w.heap.size + 1) 39 (ints (rpt l 4)) := by
    rw [HR4.out]
    have := (Blk.new (w.alloc (.cells #[.int .i64 0, .int .i64 0, .int .i64 0, .int .i64 0, .int .i64 0, .int .i64 0, .int .i64 0, .int .i64 0, .int .i64 0, .int .i64 0, .int .i64 0, .int .i64 0, .int .i64 0, .int .i64 0, .int .i64 0, .int .i64 0] 39)) 39 (ints [x0, x1, x2, x3, 0, 0, 0, 0, 0, 0, 0, 0, 0, 0, 0, 0])).drew
    rw [show (w.alloc (.cells #[.int .i64 0, .int .i64 0, .int .i64 0, .int .i64 0, .int .i64 0, .int .i64 0, .int .i64 0, .int .i64 0, .int .i64 0, .int .i64 0, .int .i64 0, .int .i64 0, .int .i64 0, .int .i64 0, .int .i64 0, .int .i64 0] 39)).heap.size = w.heap.size + 1 from by simp] at this
    exact this
  have hr1 : Blk (((w.alloc (.cells #[.int .i64 0, .int .i64 0, .int .i64 0, .int .i64 0, .int .i64 0, .int .i64 0, .int .i64 0, .int .i64 0, .int .i64 0, .int .i64 0, .int .i64 0, .int .i64 0, .int .i64 0, .int .i64 0, .int .i64 0, .int .i64 0] 39)).alloc (.cells #[.int .i64 x0, .int .i64 x1, .int .i64 x2, .int .i64 x3, .int .i64 0, .int .i64 0, .int .i64 0, .int .i64 0, .int .i64 0, .int .i64 0, .int .i64 0, .int .i64 0, .int .i64 0, .int .i64 0, .int .i64 0, .int .i64 0] 39)).drew) w.heap.size 39 (ints noP) := ((Blk.new w 39 (ints noP)).alloc _).drew
  have hk1 : Keep Nob w (((w.alloc (.cells #[.int .i64 0, .int .i64 0, .int .i64 0, .int .i64 0, .int .i64 0, .int .i64 0, .int .i64 0, .int .i64 0, .int .i64 0, .int .i64 0, .int .i64 0, .int .i64 0, .int .i64 0, .int .i64 0, .int .i64 0, .int .i64 0] 39)).alloc (.cells #[.int .i64 x0, .int .i64 x1, .int .i64 x2, .int .i64 x3, .int .i64 0, .int .i64 0, .int .i64 0, .int .i64 0, .int .i64 0, .int .i64 0, .int .i64 0, .int .i64 0, .int .i64 0, .int .i64 0, .int .i64 0, .int .i64 0] 39)).drew) := (((Keep.refl Nob w).alloc _).alloc _).drew
  generalize (((w.alloc (.cells #[.int .i64 0, .int .i64 0, .int .i64 0, .int .i64 0, .int .i64 0, .int .i64 0, .int .i64 0, .int .i64 0, .int .i64 0, .int .i64 0, .int .i64 0, .int .i64 0, .int .i64 0, .int .i64 0, .int .i64 0, .int .i64 0] 39)).alloc (.cells #[.int .i64 x0, .int .i64 x1, .int .i64 x2, .int .i64 x3, .int .i64 0, .int .i64 0, .int .i64 0, .int .i64 0, .int .i64 0, .int .i64 0, .int .i64 0, .int .i64 0, .int .i64 0, .int .i64 0, .int .i64 0, .int .i64 0] 39)).drew) = w1 at *
  have hgr : w.heap.size ≠ w.heap.size + 1 := by omega
  have hgn : w.heap.size ≤ w.heap.size + 1 := by omega
  generalize w.heap.size + 1 = gp at *
  clear h0 h1 h2 h3 u0 u1 u2 u3 HR4 i0 i1 i2 i3
  have hpl := hp1.lt
  have hs2 : Blk (w1.alloc (.cells #[.pointer (some ⟨gp, 4, none⟩), .pointer (some ⟨gp, 5, none⟩), .pointer (some ⟨gp, 6, none⟩), .pointer (some ⟨gp, 7, none⟩)] 404)) w1.heap.size 404 [.pointer (some ⟨gp, 4, none⟩), .pointer (some ⟨gp, 5, none⟩), .pointer (some ⟨gp, 6, none⟩), .pointer (some ⟨gp, 7, none⟩)] := Blk.new w1 _ _
  have hp2 := hp1.alloc (.cells #[.pointer (some ⟨gp, 4, none⟩), .pointer (some ⟨gp, 5, none⟩), .pointer (some ⟨gp, 6, none⟩), .pointer (some ⟨gp, 7, none⟩)] 404)
  have hr2 := hr1.alloc (.cells #[.pointer (some ⟨gp, 4, none⟩), .pointer (some ⟨gp, 5, none⟩), .pointer (some ⟨gp, 6, none⟩), .pointer (some ⟨gp, 7, none⟩)] 404)
  have hk2 := hk1.alloc (.cells #[.pointer (some ⟨gp, 4, none⟩), .pointer (some ⟨gp, 5, none⟩), .pointer (some ⟨gp, 6, none⟩), .pointer (some ⟨gp, 7, none⟩)] 404)
  clear hp1 hr1 hk1
  have hsz : w.heap.size ≤ w1.heap.size := by omega
  go_wp2_with fail
  generalize w1.heap.size = gs at *
  go_loopw [32] (fun s32 wx => ∃ k : Nat, k ≤ 4 ∧ s32 = .int .i64 k ∧ Blk wx gp 39 (ints (rpt l (4 + k))) ∧ Blk wx w.heap.size 39 (ints noP) ∧ Blk wx gs 404 [.pointer (some ⟨gp, 4, none⟩), .pointer (some ⟨gp, 5, none⟩), .pointer (some ⟨gp, 6, none⟩), .pointer (some ⟨gp, 7, none⟩)] ∧ Keep Nob w wx) (fun s32 _ => 4 - (intOf s32).toNat)
  case atStart => exact ⟨0, Nat.zero_le _, rfl, hp2, hr2, hs2, hk2⟩
  case round =>
    obtain ⟨k, hk, rfl, hp3, hr3, hs3, hk3⟩ := hrel
    clear hp2 hr2 hs2 hk2
    by_cases hlt : k < 4
    · have c5 := hs3.cell k
      have hcc : ([.pointer (some ⟨gp, 4, none⟩), .pointer (some ⟨gp, 5, none⟩), .pointer (some ⟨gp, 6, none⟩), .pointer (some ⟨gp, 7, none⟩)] : List Value)[k]? = some (.pointer (some ⟨gp, 4 + k, none⟩)) := by
        rcases (show k = 0 ∨ k = 1 ∨ k = 2 ∨ k = 3 from by omega) with rfl | rfl | rfl | rfl <;> rfl
      rw [hcc] at c5
      clear hcc
      go_wp2_with fail
      refine (get_is (some ⟨g, 0, none⟩) 24 c _ l _ (HR.out.nob hk3) (by decide) true (decide_eq_true ⟨by omega, by omega⟩) ((rd l).getD (4 + k) 0) (by rw [if_pos rfl, rd_two k hlt]; congr 1 <;> omega)).mono ?_; rintro e wy ⟨rfl, ky⟩
      have hp4 := hp3.nob ky
      have hr4 := hr3.nob ky
      have hs4 := hs3.nob ky
      have hk4 := hk3.nobt ky
      clear hp3 hr3 hs3 hk3 ky c5
      have hset := rpt_set HL.out (k := 4 + k) (by omega)
      generalize (rd l).getD (4 + k) 0 = u at *
      have fr := hp4.frozen (4 + k)
      have cc : ∃ x, _ = some x := ⟨_, (hp4.cell (4 + k)).trans (ints_getD (by rw [rpt_len HL.out (by omega)]; omega))⟩
      obtain ⟨x, cc⟩ := cc
      have hp5 : Blk (wy.setCell ⟨gp, 4 + k, none⟩ (.int .i64 u)) gp 39 (ints (rpt l (4 + (k + 1)))) := by
        have := hp4.setCell (4 + k) (.int .i64 u)
        rw [ints_set, hset] at this
        exact this
      have hr5 := hr4.far (p := ⟨gp, 4 + k, none⟩) hgr (.int .i64 u)
      have hs5 := hs4.far (p := ⟨gp, 4 + k, none⟩) (show gs ≠ gp from by omega) (.int .i64 u)
      have hk5 : Keep Nob w (wy.setCell ⟨gp, 4 + k, none⟩ (.int .i64 u)) := hk4.setCell ⟨gp, 4 + k, none⟩ _ (fun h => absurd h (by show ¬ gp < _; omega))
      clear hp4 hr4 hs4 hk4 hset
      go_wp2_with fail
      go_round
      case rel => exact ⟨k + 1, by omega, by go_num, hp5, hr5, hs5, hk5⟩
      case measure => simp [intOf]; omega
    · obtain rfl : k = 4 := by omega
      clear hlt hk hs3
      go_wp2_with fail
      go_loopw [48] (fun s48 wx => ∃ k : Nat, k ≤ 8 ∧ s48 = .int .i64 k ∧ Blk wx gp 39 (ints (rpt l (8 + k))) ∧ Blk wx w.heap.size 39 (ints noP) ∧ Keep Nob w wx) (fun s48 _ => 8 - (intOf s48).toNat)
      case atStart => exact ⟨0, Nat.zero_le _, rfl, hp3, hr3, hk3⟩
      case round =>
        obtain ⟨k, hk, rfl, hp4, hr4, hk4⟩ := hrel
        clear hp3 hr3 hk3
        by_cases hlt : k < 8
        · have c6 := reads_at (HR.out.nob hk4) (k := 12 + k) (by omega)
          have hset := rpt_set HL.out (k := 8 + k) (by omega)
          rw [rd_fds HL.out k hlt] at hset
          have hu := u8_lt (l.getD (12 + k) 0)
          obtain ⟨u, hu0⟩ : ∃ x, ((l.getD (12 + k) 0).toNat : Int) = x := ⟨_, rfl⟩
          rw [hu0] at c6 hset hu
          clear hu0
          have hwr : IntKind.i64.wrap u = u := wrap_small_i64 _ (by omega) (by omega)
          have fr := hp4.frozen (8 + k)
          have cc : ∃ x, _ = some x := ⟨_, (hp4.cell (8 + k)).trans (ints_getD (by rw [rpt_len HL.out (by omega)]; omega))⟩
          obtain ⟨x, cc⟩ := cc
          have hp5 : Blk (wr.setCell ⟨gp, 8 + k, none⟩ (.int .i64 u)) gp 39 (ints (rpt l (8 + (k + 1)))) := by
            have := hp4.setCell (8 + k) (.int .i64 u)
            rw [ints_set, hset] at this
            exact this
          have hr5 := hr4.far (p := ⟨gp, 8 + k, none⟩) hgr (.int .i64 u)
          have hk5 : Keep Nob w (wr.setCell ⟨gp, 8 + k, none⟩ (.int .i64 u)) := hk4.setCell ⟨gp, 8 + k, none⟩ _ (fun h => absurd h (by show ¬ gp < _; omega))
          clear hp4 hr4 hk4 hset
          go_wp2_with fail
          go_round
          case rel => exact ⟨k + 1, by omega, by go_num, hp5, hr5, hk5⟩
          case measure => simp [intOf]; omega
        · obtain rfl : k = 8 := by omega
          rw [show 8 + 8 = 16 from rfl, rpt_all HL.out] at hp4
          clear hlt hk
          go_wp2_with (refine wpList_mk rfl _ _ 36 rfl 5 (.int .u8 0) 1 Tryz.underlying36 Tryz.info5 rfl .i64 .i64 24 _ rfl rfl rfl (by omega) (by omega) ?_; intro w5 hb5 hk5 hs5)
          clear hs5
          have hp5 := hp4.nob hk5
          have hr5 := hr4.nob hk5
          have hk6 := hk4.nobt hk5
          have hR5 := (HR.out.nob hk4).nob hk5
          have hgw : wr.heap.size ≠ gp := by have := hp4.lt; omega
          have hga : wr.heap.size ≠ w.heap.size := by have := hr4.lt; omega
          have hgb : wr.heap.size ≠ g := by have := hk4.size; omega
          have hge : w.heap.size ≤ wr.heap.size := hk4.size
          rw [← bytes_replicate] at hb5
          clear hp4 hr4 hk4 hk5
          generalize wr.heap.size = ga at *
          have hrl := rd_len HL.out
          have hrw := rd_wf HL.out
          have hgd : (okd (rd l) && enc (rd l) == l) = v := HV.out
          clear HV
          rw [HRR.out] at hgd hp5 hrl hrw
          clear HRR
          have hpd := hp5.drew
          have hrd := hr5.drew
          have hkd := hk6.drew
          have hRd := hR5.nob ((Keep.refl Nob w5).drew)
          have hbd := hb5.drew
          clear hp5 hr5 hk6 hR5 hb5
          have hgr' : gp ≠ w.heap.size := Ne.symm hgr
          have HRL := Lib.hid hrl
          have HRW := Lib.hid hrw
          clear hrl hrw
          cases ho : okd R with
          | true =>
            rw [ho, Bool.true_and] at hgd
            have ho2 := put_is_ R HRL.out HRW.out ga _ hbd true ho
            simp only [pv, if_true] at ho2
            have HO := Lib.hid ho2
            have HV := Lib.hid hgd
            clear ho2 ho hgd
            refine wp_region_held_drew (S := (fun w' => Blk w' gp 39 (ints R))) (by kernel_rfl) hpd (fun hHeld => ?_)
            refine wpAnyH_take (i := 0) (v := ?_) rfl (by kernel_rfl) (by kernel_rfl) (by kernel_rfl) (fun _ _ _ h => h) (Or.inl ⟨by rfl, ?_⟩) (by assumption) ?_
            rotate_left
            · (intro w hSw; (try dsimp only at hSw); refine exec_load (x := .tmp 4) ?_ ?_ HRL.out hSw <;> rfl)
            try simp only [Act.put, List.getElem_toArray, List.getElem_cons_zero, List.getElem_cons_succ, List.setIfInBounds_toArray, List.set_cons_zero, List.set_cons_succ]
            refine wpAnyH_take (i := 1) (v := ?_) rfl (by kernel_rfl) (by kernel_rfl) (by kernel_rfl) (fun _ _ _ h => h) (Or.inl ⟨by rfl, ?_⟩) (by assumption) ?_
            rotate_left
            · (intro w hSw; (try dsimp only at hSw); refine exec_load (x := .tmp 4) ?_ ?_ HRL.out hSw <;> rfl)
            try simp only [Act.put, List.getElem_toArray, List.getElem_cons_zero, List.getElem_cons_succ, List.setIfInBounds_toArray, List.set_cons_zero, List.set_cons_succ]
            refine wpAnyH_take (i := 2) (v := ?_) rfl (by kernel_rfl) (by kernel_rfl) (by kernel_rfl) (fun _ _ _ h => h) (Or.inl ⟨by rfl, ?_⟩) (by assumption) ?_
            rotate_left
            · (intro w hSw; (try dsimp only at hSw); go_simp; try with_reducible rfl)
            try simp only [Act.put, List.getElem_toArray, List.getElem_cons_zero, List.getElem_cons_succ, List.setIfInBounds_toArray, List.set_cons_zero, List.set_cons_succ]
            refine wpAnyH_ready (rs := [3]) (by kernel_rfl) (by simp) ?_
            refine AllReadyH.cons rfl (fun K hK => ?_) AllReadyH.nil
            go_simp
            with_reducible_and_instances apply Calls.mono HO.out; rintro e w6 ⟨rfl, z6, k6⟩
            have hp6 := hpd.keep k6 (Ne.symm hgw)
            have hr6 := hrd.keep k6 (Ne.symm hga)
            refine hK.out _ _ ?_ (fun hHeld => ?_)
            · exact hp6
            clear hK K
            try simp only [Act.put, List.getElem_toArray, List.getElem_cons_zero, List.getElem_cons_succ, List.setIfInBounds_toArray, List.set_cons_zero, List.set_cons_succ]
            refine wpAnyH_take (i := 4) (v := ?_) rfl (by kernel_rfl) (by kernel_rfl) (by kernel_rfl) (fun _ _ _ h => h) (Or.inl ⟨by rfl, ?_⟩) (by assumption) ?_
            rotate_left
            · (intro w hSw; (try dsimp only at hSw); go_simp; try with_reducible rfl)
            try simp only [Act.put, List.getElem_toArray, List.getElem_cons_zero, List.getElem_cons_succ, List.setIfInBounds_toArray, List.set_cons_zero, List.set_cons_succ]
            refine wpAnyH_take (i := 5) (v := ?_) rfl (by kernel_rfl) (by kernel_rfl) (by kernel_rfl) (fun _ _ _ h => h) (Or.inl ⟨by rfl, ?_⟩) (by assumption) ?_
            rotate_left
            · (intro w hSw; (try dsimp only at hSw); go_simp; try with_reducible rfl)
            try simp only [Act.put, List.getElem_toArray, List.getElem_cons_zero, List.getElem_cons_succ, List.setIfInBounds_toArray, List.set_cons_zero, List.set_cons_succ]
            refine wpAnyH_take (i := 6) (v := ?_) rfl (by kernel_rfl) (by kernel_rfl) (by kernel_rfl) (fun _ _ _ h => h) (Or.inl ⟨by rfl, ?_⟩) (by assumption) ?_
            rotate_left
            · (intro w hSw; (try dsimp only at hSw); go_simp; try with_reducible rfl)
            try simp only [Act.put, List.getElem_toArray, List.getElem_cons_zero, List.getElem_cons_succ, List.setIfInBounds_toArray, List.set_cons_zero, List.set_cons_succ]
            refine wpAnyH_ready (rs := [7]) (by kernel_rfl) (by simp) ?_
            refine AllReadyH.cons rfl (fun K hK => ?_) AllReadyH.nil
            go_simp
            refine (equal_is _ _ _ _ _ _ (enc R) l _ (reads_all z6 (by rw [bytes_length, enc_len HRL.out])) (hRd.keep k6 (fun ad e => by cases e; exact Ne.symm hgb)) v HV.out).mono ?_; rintro e w7 ⟨rfl, rfl⟩
            refine hK.out _ _ ?_ (fun hHeld => ?_)
            · exact hp6
            clear hK K
            try simp only [Act.put, List.getElem_toArray, List.getElem_cons_zero, List.getElem_cons_succ, List.setIfInBounds_toArray, List.set_cons_zero, List.set_cons_succ]
            refine wpAnyH_take (i := 8) (v := ?_) rfl (by kernel_rfl) (by kernel_rfl) (by kernel_rfl) (fun _ _ _ h => h) (Or.inl ⟨by rfl, ?_⟩) (by assumption) ?_
            rotate_left
            · (intro w hSw; (try dsimp only at hSw); go_simp; try with_reducible rfl)
            try simp only [Act.put, List.getElem_toArray, List.getElem_cons_zero, List.getElem_cons_succ, List.setIfInBounds_toArray, List.set_cons_zero, List.set_cons_succ]
            refine wpAnyH_ready (rs := [9]) (by kernel_rfl) (by simp) ?_
            refine AllReadyH.cons rfl (fun K hK => ?_) AllReadyH.nil
            rw [if_pos (by rfl)]
            refine wp_store (old := noP) (q := R) rfl rfl rfl HRL.out rfl hr6 ?_
            refine hK.out _ _ ?_ (fun hHeld => ?_)
            · exact hp6.setRow_far hgr' _
            clear hK K
            try simp only [Act.put, List.getElem_toArray, List.getElem_cons_zero, List.getElem_cons_succ, List.setIfInBounds_toArray, List.set_cons_zero, List.set_cons_succ]
            refine wpAnyH_take (i := 10) (v := ?_) rfl (by kernel_rfl) (by kernel_rfl) (by kernel_rfl) (fun _ _ _ h => h) (Or.inl ⟨by rfl, ?_⟩) (by assumption) ?_
            rotate_left
            · (intro w hSw; (try dsimp only at hSw); go_simp; try with_reducible rfl)
            try simp only [Act.put, List.getElem_toArray, List.getElem_cons_zero, List.getElem_cons_succ, List.setIfInBounds_toArray, List.set_cons_zero, List.set_cons_succ]
            refine wpAnyH_done (by kernel_rfl) ?_ _
            have fin := (hkd.trans k6 (fun b hb e => by have h3 : b = ga := e; omega)).setRow w.heap.size (ints R).toArray (fun h => absurd h (Nat.lt_irrefl _))
            have hr7 := hr6.setRow (ints R)
            go_wp2
            (try simp only [Exit.inBlock, Exit.then])
            refine bodyPost_ret (v := .tuple #[pv R, .bool v]) (results_pair rfl _ _ w.heap.size R HRL.out rfl hr7 _ rfl) rfl ?_
            exact ⟨rfl, fin⟩
          | false =>
            rw [ho, Bool.false_and] at hgd
            have ho2 := put_is_ R HRL.out HRW.out ga _ hbd false ho
            simp only [pv, if_false, Bool.false_eq_true] at ho2
            have HO := Lib.hid ho2
            clear ho2 ho
            subst hgd
            refine wp_region_held_drew (S := (fun w' => Blk w' gp 39 (ints R))) (by kernel_rfl) hpd (fun hHeld => ?_)
            refine wpAnyH_take (i := 0) (v := ?_) rfl (by kernel_rfl) (by kernel_rfl) (by kernel_rfl) (fun _ _ _ h => h) (Or.inl ⟨by rfl, ?_⟩) (by assumption) ?_
            rotate_left
            · (intro w hSw; (try dsimp only at hSw); refine exec_load (x := .tmp 4) ?_ ?_ HRL.out hSw <;> rfl)
            try simp only [Act.put, List.getElem_toArray, List.getElem_cons_zero, List.getElem_cons_succ, List.setIfInBounds_toArray, List.set_cons_zero, List.set_cons_succ]
            refine wpAnyH_take (i := 1) (v := ?_) rfl (by kernel_rfl) (by kernel_rfl) (by kernel_rfl) (fun _ _ _ h => h) (Or.inl ⟨by rfl, ?_⟩) (by assumption) ?_
            rotate_left
            · (intro w hSw; (try dsimp only at hSw); refine exec_load (x := .tmp 4) ?_ ?_ HRL.out hSw <;> rfl)
            try simp only [Act.put, List.getElem_toArray, List.getElem_cons_zero, List.getElem_cons_succ, List.setIfInBounds_toArray, List.set_cons_zero, List.set_cons_succ]
            refine wpAnyH_take (i := 2) (v := ?_) rfl (by kernel_rfl) (by kernel_rfl) (by kernel_rfl) (fun _ _ _ h => h) (Or.inl ⟨by rfl, ?_⟩) (by assumption) ?_
            rotate_left
            · (intro w hSw; (try dsimp only at hSw); go_simp; try with_reducible rfl)
            try simp only [Act.put, List.getElem_toArray, List.getElem_cons_zero, List.getElem_cons_succ, List.setIfInBounds_toArray, List.set_cons_zero, List.set_cons_succ]
            refine wpAnyH_ready (rs := [3]) (by kernel_rfl) (by simp) ?_
            refine AllReadyH.cons rfl (fun K hK => ?_) AllReadyH.nil
            go_simp
            with_reducible_and_instances apply Calls.mono HO.out; rintro e w6 ⟨rfl, z6, k6⟩
            have hp6 := hpd.keep k6 (Ne.symm hgw)
            have hr6 := hrd.keep k6 (Ne.symm hga)
            refine hK.out _ _ ?_ (fun hHeld => ?_)
            · exact hp6
            clear hK K
            try simp only [Act.put, List.getElem_toArray, List.getElem_cons_zero, List.getElem_cons_succ, List.setIfInBounds_toArray, List.set_cons_zero, List.set_cons_succ]
            refine wpAnyH_take (i := 4) (v := ?_) rfl (by kernel_rfl) (by kernel_rfl) (by kernel_rfl) (fun _ _ _ h => h) (Or.inl ⟨by rfl, ?_⟩) (by assumption) ?_
            rotate_left
            · (intro w hSw; (try dsimp only at hSw); go_simp; try with_reducible rfl)
            try simp only [Act.put, List.getElem_toArray, List.getElem_cons_zero, List.getElem_cons_succ, List.setIfInBounds_toArray, List.set_cons_zero, List.set_cons_succ]
            refine wpAnyH_take (i := 5) (v := undef) rfl (by kernel_rfl) (by kernel_rfl) (by kernel_rfl) (fun _ _ _ h => h) (Or.inr ⟨by rfl, rfl⟩) (by assumption) ?_
            try simp only [Act.put, List.getElem_toArray, List.getElem_cons_zero, List.getElem_cons_succ, List.setIfInBounds_toArray, List.set_cons_zero, List.set_cons_succ]
            refine wpAnyH_take (i := 6) (v := undef) rfl (by kernel_rfl) (by kernel_rfl) (by kernel_rfl) (fun _ _ _ h => h) (Or.inr ⟨by rfl, rfl⟩) (by assumption) ?_
            try simp only [Act.put, List.getElem_toArray, List.getElem_cons_zero, List.getElem_cons_succ, List.setIfInBounds_toArray, List.set_cons_zero, List.set_cons_succ]
            refine wpAnyH_take (i := 7) (v := undef) rfl (by kernel_rfl) (by kernel_rfl) (by kernel_rfl) (fun _ _ _ h => h) (Or.inr ⟨by rfl, rfl⟩) (by assumption) ?_
            try simp only [Act.put, List.getElem_toArray, List.getElem_cons_zero, List.getElem_cons_succ, List.setIfInBounds_toArray, List.set_cons_zero, List.set_cons_succ]
            refine wpAnyH_take (i := 8) (v := ?_) rfl (by kernel_rfl) (by kernel_rfl) (by kernel_rfl) (fun _ _ _ h => h) (Or.inl ⟨by rfl, ?_⟩) (by assumption) ?_
            rotate_left
            · (intro w hSw; (try dsimp only at hSw); go_simp; try with_reducible rfl)
            try simp only [Act.put, List.getElem_toArray, List.getElem_cons_zero, List.getElem_cons_succ, List.setIfInBounds_toArray, List.set_cons_zero, List.set_cons_succ]
            refine wpAnyH_ready (rs := [9]) (by kernel_rfl) (by simp) ?_
            refine AllReadyH.cons rfl (fun K hK => ?_) AllReadyH.nil
            rw [if_pos (by rfl)]
            refine wp_store (old := noP) (q := R) rfl rfl rfl HRL.out rfl hr6 ?_
            refine hK.out _ _ ?_ (fun hHeld => ?_)
            · exact hp6.setRow_far hgr' _
            clear hK K
            try simp only [Act.put, List.getElem_toArray, List.getElem_cons_zero, List.getElem_cons_succ, List.setIfInBounds_toArray, List.set_cons_zero, List.set_cons_succ]
            refine wpAnyH_take (i := 10) (v := ?_) rfl (by kernel_rfl) (by kernel_rfl) (by kernel_rfl) (fun _ _ _ h => h) (Or.inl ⟨by rfl, ?_⟩) (by assumption) ?_
            rotate_left
            · (intro w hSw; (try dsimp only at hSw); go_simp; try with_reducible rfl)
            try simp only [Act.put, List.getElem_toArray, List.getElem_cons_zero, List.getElem_cons_succ, List.setIfInBounds_toArray, List.set_cons_zero, List.set_cons_succ]
            refine wpAnyH_done (by kernel_rfl) ?_ _
            have fin := (hkd.trans k6 (fun b hb e => by have h3 : b = ga := e; omega)).setRow w.heap.size (ints R).toArray (fun h => absurd h (Nat.lt_irrefl _))
            have hr7 := hr6.setRow (ints R)
            go_wp2
            (try simp only [Exit.inBlock, Exit.then])
            refine bodyPost_ret (v := .tuple #[pv R, .bool false]) (results_pair rfl _ _ w.heap.size R HRL.out rfl hr7 _ rfl) rfl ?_
            exact ⟨rfl, fin⟩
end Go.Proofs.YtngchjejmnfanaaGreat.Cd
