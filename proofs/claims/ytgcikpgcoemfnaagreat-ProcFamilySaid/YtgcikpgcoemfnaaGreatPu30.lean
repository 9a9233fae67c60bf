/- Texts Prc1, Prc2, Prc3, Prc7, Prc8, Prc9, PrcA, PrcB, PrcC, packed. -/
import Derived.Deep.MidRow
import Derived.Great.BuildSlice
import Derived.Deep.RegionHeld3
import Derived.ProofKit
import Derived.SizedLaws
import Derived.ChangeArms
import Derived.Test.YtgcikpgcoemfnaaGreatPu0
import Derived.Test.YtgcikpgcoemfnaaGreatPu4
import Derived.Test.YtgcikpgcoemfnaaGreatPu18
import Derived.Test.YtgcikpgcoemfnaaGreatPu19
import Derived.Test.YtgcikpgcoemfnaaGreatPu1
import Derived.Test.YtgcikpgcoemfnaaGreatPu7
import Derived.Test.YtgcikpgcoemfnaaGreatPu11
import Derived.Test.YtgcikpgcoemfnaaGreatPu21
import Derived.Test.YtgcikpgcoemfnaaGreatPu22
import Derived.Test.YtgcikpgcoemfnaaGreatPu12
import Derived.Test.YtgcikpgcoemfnaaGreatPu14
import Derived.Test.YtgcikpgcoemfnaaGreatPu13
import Derived.Test.YtgcikpgcoemfnaaGreatPu15
import Derived.Test.YtgcikpgcoemfnaaGreatPu16
import Derived.Test.YtgcikpgcoemfnaaGreatPu24
import Derived.Test.YtgcikpgcoemfnaaGreatPu23
import Derived.Test.YtgcikpgcoemfnaaGreatPu5
import Derived.Test.YtgcikpgcoemfnaaGreatPu8
import Derived.Test.YtgcikpgcoemfnaaGreatPu20
import Derived.Test.YtgcikpgcoemfnaaGreatPu2
import Derived.Test.YtgcikpgcoemfnaaGreatPu9
import Derived.Test.YtgcikpgcoemfnaaGreatPu25
import Derived.Test.YtgcikpgcoemfnaaGreatPu10
import Derived.Test.YtgcikpgcoemfnaaGreatPu27
import Derived.Test.YtgcikpgcoemfnaaGreatPu3
namespace Go.Proofs.YtgcikpgcoemfnaaGreat.Pr
open Go.RowKit Co
set_option linter.unusedVariables false
set_option linter.unusedSimpArgs false
/-- Slots in a row, cell by cell. -/
def rows (l : List (List Int)) : List Value := (l.map ints).flatten
theorem rows_snoc (l : List (List Int)) (x : List Int) : rows (l ++ [x]) = rows l ++ ints x := by simp [rows]
theorem rows_get {l : List (List Int)} {m : Nat} (hW : ∀ x ∈ l, x.length = m) {k j : Nat} {x : List Int} (h : l[k]? = some x) (hj : j < m) : (rows l)[k * m + j]? = (ints x)[j]? := by
  have hW' : ∀ c ∈ l.map ints, c.length = m := fun c hc => by
    obtain ⟨x, hx, rfl⟩ := List.mem_map.1 hc
    simp [ints, hW x hx]
  have := flatten_get (l.map ints) hW' k j hj
  rw [List.getElem?_map, h] at this
  exact this
theorem rows_mid {m n : Nat} {l : List (List Int)} {w : World} {A : Option Addr} (hW : ∀ x ∈ l, x.length = m) (h0 : 0 < m) (hx : Reads w A (n * m) (rows l)) {k : Nat} {x : List Int} (h : l[k]? = some x) (hn : k < n) :
    ∃ b off, A = some ⟨b, off, none⟩ ∧ ∀ j v, (ints x)[j]? = some v → w.cell? ⟨b, off + k * m + j, none⟩ = some v := by
  obtain ⟨b, off, hA, hcl⟩ := hx.lit (Nat.mul_pos (by omega) h0)
  refine ⟨b, off, hA, fun j v hv => ?_⟩
  have hj : j < m := by
    have := (List.getElem?_eq_some_iff.1 hv).1
    simpa [ints, hW x (List.mem_of_getElem? h)] using this
  rw [Nat.add_assoc]
  exact hcl (k * m + j) v (by rw [rows_get hW h hj]; exact hv)
/-- Slot i as it is read. -/
def slS (S : Stt) (i : Int) : List Int := i :: (S.p i).2 :: (S.p i).1
/-- Those of the first k slots that are wanted. -/
def pk (S : Stt) (p : List Int → Bool) (k : Nat) : List (List Int) := (mk k (fun i => slS S i)).filter p
theorem pk_zero (S : Stt) (p : List Int → Bool) : pk S p 0 = [] := rfl
theorem pk_succ (S : Stt) (p : List Int → Bool) (k : Nat) : pk S p (k + 1) = pk S p k ++ (if p (slS S k) then [slS S k] else []) := by
  unfold pk
  rw [← mk_succ, List.filter_append]
  congr 1
  simp [List.filter_cons]
theorem pk_len (S : Stt) (p : List Int → Bool) (k : Nat) : (pk S p k).length ≤ k := by
  refine Nat.le_trans (List.length_filter_le _ _) ?_
  simp [mk]
set_option maxRecDepth 100000 in
theorem bs_slot (cs : List Value) (h : cs.length = 18) (W : World) : (Instr.buildSlice 91 1 #[(0, .agg cs.toArray)]).run Tryz.prog W = .ok (.slice (some ⟨W.heap.size, 0, none⟩) 1 1) (W.alloc (.cells cs.toArray 94)) := by
  match cs, h with
  | a0 :: a1 :: a2 :: a3 :: a4 :: a5 :: a6 :: a7 :: a8 :: a9 :: a10 :: a11 :: a12 :: a13 :: a14 :: a15 :: a16 :: a17 :: [], _ => go_simp
theorem infF_slot : (Tryz.prog.info? 94).map (fun i => (i.zero, i.size, i.bytes)) = some (some (.agg (ints (List.replicate 18 0)).toArray), 18, 144) := by kernel_rfl
section
variable {ops : Array Oper} {rest : List Oper} {o : Oper} {a : Act} {Q : Exit → Act → World → Prop} {w : World}
theorem wpList_bs1 (hgd : o.guard = none) (t e : TypeId) (x : Operand) (ho : o.op = .buildSlice t 1 #[(0, x)]) (cs : List Value) (hx : a.eval x = .agg cs.toArray) (hrun : (Instr.buildSlice t 1 #[(0, .agg cs.toArray)]).run Tryz.prog w = .ok (.slice (some ⟨w.heap.size, 0, none⟩) 1 1) (w.alloc (.cells cs.toArray e)))
    (h : ∀ w', Blk w' w.heap.size e cs → Keep Nob w w' → w'.heap.size = w.heap.size + 1 → wpList Tryz.prog ops Q rest (a.put o.dst (.slice (some ⟨w.heap.size, 0, none⟩) 1 1)) w') : wpList Tryz.prog ops Q (o :: rest) a w := by
  refine wpList_plain hgd fun K hK => ?_
  have hh := h _ (Blk.new w e cs) ((Keep.refl Nob w).alloc _) (by simp)
  unfold Oper.wp
  simp [execOp, ho, hx, hrun, Result.andThen]
  exact hK _ _ hh
end
section
variable {F : List UInt8 → Prop} {n : Nat} {w w' w1 : World} {K : Kn} {C : Cm} {src : Src} {S S' S2 : Stt}
/-- A row of slots that a call has made. -/
def Made (w w' : World) (l : List (List Int)) (A : Option Addr) (cap : Nat) : Prop := Vec w' 94 18 A l.length cap (rows l) ∧ ∀ x, Own A x → w.heap.size ≤ x
set_option maxRecDepth 100000 in
set_option maxHeartbeats 4000000 in
theorem pick_is (h : Ks F n w K C src S) (fn : FuncId) (caps : Array Value) (p : List Int → Bool) (hfn : ∀ args w, (callFunc fn args).run Tryz.prog w = .ok (.enter fn args) w)
    (hf : ∀ W x, x.length = 18 → Kp K C w W → Calls Tryz.prog fn (#[.agg (ints x).toArray] ++ caps) W fun e w' => e = .returned (.bool (p x)) ∧ Keep Nob W w') :
    Calls Tryz.prog 34 #[.pointer (some ⟨C.p, 0, none⟩), .func (.func fn) #[] caps] w fun e w' => (∃ A cap, e = .returned (.slice A (pk S p 8).length cap) ∧ Made w w' (pk S p 8) A cap) ∧ Kt F n w K C src S w' := by
  have HAt := Lib.hid (fun W K' (k : Nat) (hk8 : k < 8) (hk : Ks F n W K' C src S) => at_is hk (k : Int) (by unfold Cd.Wf; omega) _ _ (show S.p (k : Int) = ((S.p (k : Int)).1, (S.p (k : Int)).2) from rfl))
  have HLn := Lib.hid (fun k : Int => show (slS S k).length = 18 by simp [slS, len16 h.s (show S.p k = ((S.p k).1, (S.p k).2) from rfl)])
  have H := Lib.hid h
  have HT0 := Lib.hid (h.still (Keep.refl Nob w))
  have HF := Lib.hid hf
  have HFn := Lib.hid hfn
  have HZ := Lib.hid (cellsI (n := 18) (l := List.replicate 18 0) rfl)
  have HS := Lib.hid (fun k => pk_succ S p k)
  have HPl := Lib.hid (fun k => pk_len S p k)
  have HP0 := Lib.hid (pk_zero S p)
  have HAt2 : Hid (∀ W K' (k : Nat), k < 8 → Ks F n W K' C src S → Calls Tryz.prog 40 #[.pointer (some ⟨C.p, 0, none⟩), .int .i64 (k : Int)] W fun e w' => e = .returned (.agg (ints (slS S (k : Int))).toArray) ∧ Kt F n W K' C src S w') := Lib.hid HAt.out
  clear h hf HAt hfn
  generalize slS S = sl at *
  generalize pk S p = P at *
  go_enter Tryz.func34, Tryz.ntmps34
  go_wp2_with fail
  go_loopw [5, 8] (fun s5 s8 wx => ∃ (k : Nat) (A : Option Addr) (cap : Nat), k ≤ 8 ∧ s8 = .int .i64 k ∧ s5 = .slice A (P k).length cap ∧ Vec wx 94 18 A (P k).length cap (rows (P k)) ∧ Hid ((∀ x, Own A x → w.heap.size ≤ x) ∧ Kt F n w K C src S wx)) (fun _ s8 _ => 8 - (intOf s8).toNat)
  case atStart => exact ⟨0, none, 0, Nat.zero_le _, rfl, by rw [HP0.out]; rfl, by rw [HP0.out]; exact Vec.nil _ _ _, Lib.hid ⟨fun x ⟨a, e, _⟩ => (by cases e), HT0.out⟩⟩
  case round =>
    obtain ⟨k, A, cap, hk, rfl, rfl, hV, HT⟩ := hrel
    by_cases hlt : (k : Int) < 8
    · obtain ⟨x, hx⟩ : ∃ x, sl (k : Int) = x := ⟨_, rfl⟩
      have hcall := HT.out.2.go (fun K' hK => HAt2.out wr K' k (by omega) hK)
      have hxl := HLn.out (k : Int)
      have hs := HS.out k
      have hpl := HPl.out k
      rw [hx] at hcall hxl hs
      have HXl := Lib.hid hxl
      have HSk := Lib.hid hs
      have HV := Lib.hid hV
      have HCx := Lib.hid (cellsI hxl)
      clear hV hs hxl hx
      go_wp2_with fail
      refine hcall.mono ?_; rintro e w1 ⟨rfl, T1, kp1⟩
      have HV1 := Lib.hid (kp1.vec H.out HV.out HT.out.1)
      have HT1 := Lib.hid T1
      have hsz := Nat.le_trans HT.out.2.kp.size kp1.size
      clear hcall T1 kp1 HV
      go_upto_region 6 with (first
        | (refine flatS.wpList_al rfl rfl ?_; intro w2 hb2 hk2 hs2; clear hs2)
        | (refine flatS.wpList_st rfl rfl rfl rfl HCx.out HZ.out hb2 ?_; intro w3 hb3 hk3 hs3; clear hs3))
      have T3 := (HT1.out.nob hk2).st H.out hb2 (by decide) hsz hk3
      have HV3 := Lib.hid ((HV1.out.nob hk2).keep hk3 (fun y hy e => by
        have := HV1.out.lt y hy
        omega))
      have hcl := HF.out w3 x HXl.out T3.kp
      have HT3 := Lib.hid T3
      have HB3 := Lib.hid hb3
      clear hb2 hk2 hk3 hb3 T3
      go_wp2_with (refine flatS.wpList_ld rfl rfl rfl HCx.out HB3.out ?_)
      rw [HFn.out, Oper.upon_enter]
      refine hcl.mono ?_; rintro e w4 ⟨rfl, k4⟩
      have HT4 := Lib.hid (HT3.out.nob k4)
      have HV4 := Lib.hid (HV3.out.nob k4)
      have HB4 := Lib.hid (HB3.out.nob k4)
      clear hcl k4
      obtain ⟨v, hv⟩ : ∃ v, p x = v := ⟨_, rfl⟩
      rw [hv]
      rw [hv] at HSk
      cases v with
      | true =>
        have hth : P (k + 1) = P k ++ [x] := HSk.out
        have HTh := Lib.hid hth
        have hln : (P k ++ [x]).length = (P k).length + 1 := by rw [List.length_append]; rfl
        have HLn2 := Lib.hid hln
        clear hth hln
        obtain ⟨cs, hcs⟩ : ∃ cs, ints x = cs := ⟨_, rfl⟩
        have hbs := fun W => bs_slot cs (by rw [← hcs]; exact HCx.out.len) W
        rw [hcs] at HCx HB4
        have HCS := Lib.hid hcs
        have HBS := Lib.hid hbs
        clear hcs hbs
        go_wp2_with (refine flatS.wpList_ld rfl rfl rfl HCx.out HB4.out ?_; refine wpList_bs1 rfl _ 94 _ rfl cs rfl (HBS.out w4) ?_; intro w5 hb5 hk5 hs5; refine wpList_ap rfl _ _ 91 rfl 94 18 144 _ Tryz.underlying91 infF_slot rfl (by decide) A (P k).length cap _ rfl (HV4.out.nob hk5) (some ⟨w4.heap.size, 0, none⟩) 1 1 cs rfl 18 rfl (reads_all hb5 (by rw [HCx.out.len])) HCx.out.one (by unfold maxLen; omega) (by omega) ?_; intro A2 c2 w6 hv6 hk6 ho6)
        rw [← HCS.out] at hv6
        have T6 := Lib.hid ((HT4.out.nob hk5).loc H.out hk6 (fun b hb => by
          obtain ⟨cs, hc⟩ := (HV4.out.nob hk5).blk hb
          exact ⟨HT.out.1 b hb, _, _, hc, by decide⟩))
        have HFr := Lib.hid (show ∀ x, Own A2 x → w.heap.size ≤ x from fun x m => by
          rcases ho6 x m with m | m
          · exact HT.out.1 x m
          · have := HT4.out.kp.size
            have := hk5.size
            omega)
        clear hb5 hk5 hs5 hk6 ho6
        go_roundw
        case rel => exact ⟨k + 1, A2, c2, by omega, by go_num, by rw [HTh.out, HLn2.out], by rw [HTh.out, HLn2.out, rows_snoc]; exact hv6, Lib.hid ⟨HFr.out, T6.out⟩⟩
        case measure => simp [intOf]; omega
      | false =>
        have hth : P (k + 1) = P k := by rw [HSk.out]; simp
        have HTh := Lib.hid hth
        clear hth
        go_wp2_with fail
        go_roundw
        case rel => exact ⟨k + 1, A, cap, by omega, by go_num, by rw [HTh.out], by rw [HTh.out]; exact HV4.out, Lib.hid ⟨HT.out.1, HT4.out⟩⟩
        case measure => simp [intOf]; omega
    · obtain rfl : k = 8 := by omega
      have HFin := Lib.hid (And.intro hV HT.out)
      clear hV HT
      go_wp2
      go_ret
      exact ⟨⟨A, cap, rfl, ⟨HFin.out.1, HFin.out.2.1⟩⟩, HFin.out.2.2⟩
end
end Go.Proofs.YtgcikpgcoemfnaaGreat.Pr
namespace Go.Proofs.YtgcikpgcoemfnaaGreat.Pr
open Go.RowKit Co
set_option linter.unusedVariables false
set_option linter.unusedSimpArgs false
theorem split18 {p : List Int} (h : p.length = 18) : ∃ i d v, p = i :: d :: v ∧ v.length = 16 := by
  match p, h with
  | i :: d :: v, h => exact ⟨i, d, v, rfl, by simpa using h⟩
/-- Of a slot: is it free; is it a child of i; has it ended; is it another one's child; is it of group g, and has not ended. -/
def freeS (x : List Int) : Bool := x.getD 1 0 == 0
def childS (i : Int) (x : List Int) : Bool := x.getD 1 0 == 1 && x.getD 3 0 == i + 1
def endedS (x : List Int) : Bool := x.getD 2 0 == 2
def otherS (i : Int) (x : List Int) : Bool := x.getD 0 0 != i && childS i x
section
variable {w : World}
theorem fork1_is (x : List Int) (hl : x.length = 18) (w : World) : Calls Tryz.prog 35 #[.agg (ints x).toArray] w fun e w' => e = .returned (.bool (freeS x)) ∧ Keep Nob w w' := by
  obtain ⟨i, d, v, rfl, hv⟩ := split18 hl
  have h1 : (ints (i :: d :: v))[1]? = some (.int .i64 d) := rfl
  have e : freeS (i :: d :: v) = (d == 0) := rfl
  rw [e]
  generalize ints (i :: d :: v) = cs at *
  clear e
  go_enter Tryz.func35, Tryz.ntmps35
  go_wp2_with (refine wpList_box rfl 94 _ rfl cs.toArray rfl ?_; intro w1 hb k1 hs; clear hs; have c1 : w1.cell? ⟨w.heap.size, 1, none⟩ = some (.int .i64 d) := (hb.cell 1).trans h1; have K1 := Lib.hid k1; clear hb k1)
  go_ret
  exact ⟨rfl, K1.out⟩
theorem wait2_is (x : List Int) (hl : x.length = 18) (w : World) : Calls Tryz.prog 49 #[.agg (ints x).toArray] w fun e w' => e = .returned (.bool (endedS x)) ∧ Keep Nob w w' := by
  obtain ⟨i, d, v, rfl, hv⟩ := split18 hl
  have h2 : (ints (i :: d :: v))[2]? = some (.int .i64 (v.getD 0 0)) := by
    obtain ⟨a0, a1, a2, a3, a4, a5, a6, a7, f0, f1, f2, f3, f4, f5, f6, f7, rfl⟩ := Cd.split16 hv
    rfl
  have e : endedS (i :: d :: v) = (v.getD 0 0 == 2) := by unfold endedS; rfl
  rw [e]
  generalize v.getD 0 0 = s at *
  generalize ints (i :: d :: v) = cs at *
  clear e hl
  go_enter Tryz.func49, Tryz.ntmps49
  go_wp2_with (refine wpList_box rfl 94 _ rfl cs.toArray rfl ?_; intro w1 hb k1 hs; clear hs; have c1 : w1.cell? ⟨w.heap.size, 2, none⟩ = some (.int .i64 s) := (hb.cell 2).trans h2; have K1 := Lib.hid k1; clear hb k1)
  go_ret
  exact ⟨rfl, K1.out⟩
theorem chS (i d j : Int) (v : List Int) : childS j (i :: d :: v) = chB v d j := rfl
theorem wait1_is {q : Nat} (j : Int) (hj : -9223372036854775808 ≤ j + 1 ∧ j + 1 ≤ 9223372036854775807) (hc : w.cell? ⟨q, 0, none⟩ = some (.int .i64 j)) (x : List Int) (hl : x.length = 18) :
    Calls Tryz.prog 46 #[.agg (ints x).toArray, .pointer (some ⟨q, 0, none⟩)] w fun e w' => e = .returned (.bool (childS j x)) ∧ Keep Nob w w' := by
  obtain ⟨i, d, v, rfl, hv⟩ := split18 hl
  have HC := Lib.hid (cellsI hl)
  have HCall := Lib.hid (fun W => child_is i d j hj v hv _ rfl W)
  rw [chS]
  generalize chB v d j = r at *
  generalize ints (i :: d :: v) = cs at *
  clear hl hv hj
  go_enter Tryz.func46, Tryz.ntmps46
  go_wp2_with (first
    | (refine wpList_box rfl 94 _ rfl cs.toArray rfl ?_; intro w1 hb k1 hs; clear hs; have c1 := k1.cell_nob hc; have K1 := Lib.hid k1; clear k1)
    | (refine flatS.wpList_ld rfl rfl rfl HC.out hb ?_))
  refine (HCall.out _).mono ?_; rintro e w2 ⟨rfl, k2⟩
  have K2 := Lib.hid (K1.out.nobt k2)
  clear k2
  go_wp2
  go_ret
  exact ⟨rfl, K2.out⟩
set_option maxRecDepth 100000 in
theorem orphan1_is {q : Nat} (j : Int) (hj : -9223372036854775808 ≤ j + 1 ∧ j + 1 ≤ 9223372036854775807) (hc : w.cell? ⟨q, 0, none⟩ = some (.int .i64 j)) (x : List Int) (hl : x.length = 18) :
    Calls Tryz.prog 104 #[.agg (ints x).toArray, .pointer (some ⟨q, 0, none⟩)] w fun e w' => e = .returned (.bool (otherS j x)) ∧ Keep Nob w w' := by
  obtain ⟨i, d, v, rfl, hv⟩ := split18 hl
  have h0 : (ints (i :: d :: v))[0]? = some (.int .i64 i) := rfl
  have HC := Lib.hid (cellsI hl)
  have HCall := Lib.hid (fun W => child_is i d j hj v hv _ rfl W)
  have e : otherS j (i :: d :: v) = (i != j && chB v d j) := rfl
  rw [e]
  generalize chB v d j = r at *
  generalize ints (i :: d :: v) = cs at *
  clear hl hv hj e
  by_cases hij : i = j
  · rw [show (i != j && r) = false by rw [hij]; simp]
    go_enter Tryz.func104, Tryz.ntmps104
    go_wp2_with (refine wpList_box rfl 94 _ rfl cs.toArray rfl ?_; intro w1 hb k1 hs; clear hs; have c0 : w1.cell? ⟨w.heap.size, 0, none⟩ = some (.int .i64 i) := (hb.cell 0).trans h0; have c1 := k1.cell_nob hc; have K1 := Lib.hid k1; clear k1)
    go_ret
    exact ⟨rfl, K1.out⟩
  · rw [show (i != j && r) = r by rw [bne_iff_ne.2 hij]; rfl]
    have hij : (i != j) = true := bne_iff_ne.2 hij
    go_enter Tryz.func104, Tryz.ntmps104
    go_wp2_with (first
      | (refine wpList_box rfl 94 _ rfl cs.toArray rfl ?_; intro w1 hb k1 hs; clear hs; have c0 : w1.cell? ⟨w.heap.size, 0, none⟩ = some (.int .i64 i) := (hb.cell 0).trans h0; have c1 := k1.cell_nob hc; have K1 := Lib.hid k1; clear k1)
      | (refine flatS.wpList_ldG (by rfl) rfl rfl HC.out hb ?_))
    refine (HCall.out _).mono ?_; rintro e w2 ⟨rfl, k2⟩
    have K2 := Lib.hid (K1.out.nobt k2)
    clear k2
    go_wp2
    go_ret
    exact ⟨rfl, K2.out⟩
end
end Go.Proofs.YtgcikpgcoemfnaaGreat.Pr
namespace Go.Proofs.YtgcikpgcoemfnaaGreat.Pr
open Go.RowKit Co
set_option linter.unusedVariables false
set_option linter.unusedSimpArgs false
theorem take_any {α : Type} {p : α → Bool} {l : List α} {k : Nat} {x : α} (h : l[k]? = some x) (hk : (l.take k).any p = false) (hp : p x = false) : (l.take (k + 1)).any p = false := by
  rw [List.take_add_one, h, List.any_append, hk]
  simpa using hp
/-- The place of the first one that has ended, or -1. -/
def Ended (l : List (List Int)) (k : Int) : Prop := (k = -1 ∧ l.any endedS = false) ∨ (∃ (m : Nat) (x : List Int), k = m ∧ l[m]? = some x ∧ endedS x = true ∧ (l.take m).any endedS = false)
set_option maxRecDepth 100000 in
set_option maxHeartbeats 2000000 in
theorem ixS_is {w : World} (A : Option Addr) (n c : Nat) (l : List (List Int)) (hl : l.length = n) (hw : ∀ x ∈ l, x.length = 18) (hx : Reads w A (n * 18) (rows l)) (hn : n ≤ 1000) :
    Calls Tryz.prog 48 #[.slice A n c, .func (.func 49) #[] #[]] w fun e w' => ∃ k : Int, e = .returned (.int .i64 k) ∧ Ended l k ∧ Keep Nob w w' := by
  have HW := Lib.hid hw
  have HX := Lib.hid hx
  have HL := Lib.hid hl
  have hz := infoS_
  have HZ := Lib.hid hz
  clear hx hl hw hz
  go_enter Tryz.func48, Tryz.ntmps48
  go_wp2_with fail
  go_loopw [8] (fun s8 wx => ∃ k : Nat, k ≤ n ∧ s8 = .int .i64 k ∧ Keep Nob w wx ∧ Hid ((l.take k).any endedS = false)) (fun s8 _ => n - (intOf s8).toNat)
  case atStart => exact ⟨0, Nat.zero_le _, rfl, Keep.refl _ _, Lib.hid rfl⟩
  case round =>
    obtain ⟨k, hk, rfl, hK, HA⟩ := hrel
    by_cases hlt : k < n
    · obtain ⟨x, hx⟩ : ∃ x, l[k]? = some x := ⟨_, List.getElem?_eq_getElem (by rw [HL.out]; exact hlt)⟩
      obtain ⟨b, off, hA, hm⟩ := rows_mid HW.out (by decide) (HX.out.nob hK) hx hlt
      have hxm := List.mem_of_getElem? hx
      have hwx := HW.out x hxm
      have hcall := wait2_is x hwx wr
      have HX' := Lib.hid hx
      have HM := Lib.hid hm
      have HWX := Lib.hid (show (ints x).length = 18 by simp [ints, hwx])
      obtain ⟨cs, hcs⟩ : ∃ cs, ints x = cs := ⟨_, rfl⟩
      rw [hcs] at hcall HM HWX
      obtain ⟨v, hv⟩ : ∃ v, endedS x = v := ⟨_, rfl⟩
      rw [hv] at hcall
      have HV := Lib.hid hv
      subst hA
      clear hx hxm hm hwx hcs hv
      go_wp2_with (refine wpList_load_mid rfl 94 _ rfl b (off + k * 18) rfl cs _ HM.out Tryz.underlying94 rfl (by rw [HWX.out]; exact HZ.out) ?_)
      refine hcall.mono ?_; rintro e w1 ⟨rfl, k1⟩
      have hK2 := hK.nobt k1
      clear hcall k1
      cases v with
      | true =>
        have HRes := Lib.hid (show Ended l (k : Int) from .inr ⟨k, x, rfl, HX'.out, HV.out, HA.out⟩)
        go_wp2
        go_ret
        exact ⟨_, rfl, HRes.out, hK2⟩
      | false =>
        have HA2 := Lib.hid (take_any HX'.out HA.out HV.out)
        go_wp2_with fail
        go_roundw
        case rel => exact ⟨k + 1, by omega, by go_num, hK2, HA2⟩
        case measure => simp [intOf]; omega
    · have hkn : k = n := by omega
      have HRes := Lib.hid (show Ended l (-1) from .inl ⟨rfl, by
        have := HA.out
        rw [List.take_of_length_le (by rw [HL.out]; omega)] at this
        exact this⟩)
      go_wp2
      go_ret
      exact ⟨_, rfl, HRes.out, hK⟩
section
variable {F : List UInt8 → Prop} {n : Nat} {w w' w1 : World} {K : Kn} {C : Cm} {src : Src} {S S' S2 : Stt}
end
end Go.Proofs.YtgcikpgcoemfnaaGreat.Pr
namespace Go.Proofs.YtgcikpgcoemfnaaGreat.Pr
open Go.RowKit Co
set_option linter.unusedVariables false
set_option linter.unusedSimpArgs false
/-- A child that is nobody's from now on: gone, or without a Parent. -/
def orph1 (s : Stt) (x : List Int) : Stt :=
  if x.getD 2 0 = 2 then (if decide ((s.p (x.getD 0 0)).2 ≠ 2) then s.frP (x.getD 0 0) else s)
  else (if decide ((s.p (x.getD 0 0)).2 ≠ 2) && Cd.okd ((x.drop 2).set 1 0) then s.setP (x.getD 0 0) ((x.drop 2).set 1 0) else s)
theorem orph1_at (s : Stt) (j d : Int) {v : List Int} (h : v.length = 16) : orph1 s (j :: d :: v) =
    if v.getD 0 0 = 2 then (if decide ((s.p j).2 ≠ 2) then s.frP j else s) else (if decide ((s.p j).2 ≠ 2) && Cd.okd (v.set 1 0) then s.setP j (v.set 1 0) else s) := by
  obtain ⟨a0, a1, a2, a3, a4, a5, a6, a7, f0, f1, f2, f3, f4, f5, f6, f7, rfl⟩ := Cd.split16 h
  rfl
def orphS (S : Stt) (i : Int) : Stt := (pk S (otherS i) 8).foldl orph1 S
theorem orph_succ (S : Stt) {l : List (List Int)} {k : Nat} {x : List Int} (h : l[k]? = some x) : (l.take (k + 1)).foldl orph1 S = orph1 ((l.take k).foldl orph1 S) x := by
  rw [List.take_add_one, h, List.foldl_append]
  rfl
theorem mem_pk {S : Stt} {p : List Int → Bool} {x : List Int} (h : x ∈ pk S p 8) : ∃ k : Nat, k < 8 ∧ x = slS S k ∧ p x = true := by
  unfold pk at h
  obtain ⟨h1, h2⟩ := List.mem_filter.1 h
  unfold mk at h1
  obtain ⟨k, hk, rfl⟩ := List.mem_map.1 h1
  exact ⟨k, List.mem_range.1 hk, rfl, h2⟩
theorem enter_orphan1 : ∀ args w, (callFunc 104 args).run Tryz.prog w = .ok (.enter 104 args) w := fun args w => by kernel_rfl
theorem wf_set {l : List Int} (h : ∀ x ∈ l, Cd.Wf x) (k : Nat) {a : Int} (ha : Cd.Wf a) : ∀ x ∈ l.set k a, Cd.Wf x := fun x hx => by
  rcases List.mem_or_eq_of_mem_set hx with hx | rfl
  · exact h x hx
  · exact ha
theorem wf_0 : Cd.Wf 0 := by unfold Cd.Wf; decide
section
variable {F : List UInt8 → Prop} {n : Nat} {w w' w1 : World} {K : Kn} {C : Cm} {src : Src} {S S' S2 : Stt}
set_option maxRecDepth 100000 in
set_option maxHeartbeats 400000 in
theorem orphan_is (h : Ks F n w K C src S) (i : Int) (hi : -9223372036854775808 ≤ i + 1 ∧ i + 1 ≤ 9223372036854775807) (S' : Stt) (hs : orphS S i = S') :
    Calls Tryz.prog 39 #[.pointer (some ⟨C.p, 0, none⟩), .int .i64 i] w fun e w' => e = .returned (.tuple #[]) ∧ Kt F n w K C src S' w' := by
  have HP := Lib.hid (show ∀ x ∈ pk S (otherS i) 8, ∃ (j d : Int) (v : List Int), x = j :: d :: v ∧ v.length = 16 ∧ Cd.Wf j ∧ ∀ y ∈ v, Cd.Wf y from fun x hx => by
    obtain ⟨k, hk, rfl, hp⟩ := mem_pk hx
    have hd : (S.p k).2 = 1 := by
      have : ((slS S k).getD 1 0 == 1) = true := by
        unfold otherS childS at hp
        simp only [Bool.and_eq_true] at hp
        exact hp.2.1
      simpa [slS] using this
    have hgd := goodP h.s (show S.p (k : Int) = ((S.p k).1, 1) by rw [← hd])
    have hl := len16 h.s (show S.p (k : Int) = ((S.p k).1, (S.p k).2) from rfl)
    exact ⟨(k : Int), _, _, rfl, hl, by unfold Cd.Wf; omega, wf_okd hl hgd⟩)
  have hlen := pk_len S (otherS i) 8
  have H := Lib.hid h
  have HI := Lib.hid hi
  unfold orphS at hs
  have HS := Lib.hid hs
  clear h hi hs
  obtain ⟨l, hl⟩ : ∃ l, pk S (otherS i) 8 = l := ⟨_, rfl⟩
  rw [hl] at HP HS hlen
  have HLen := Lib.hid hlen
  have HLd := Lib.hid hl
  clear hl
  go_enter Tryz.func39, Tryz.ntmps39
  go_wp2_with fail
  have hb1 := Blk.new w 3 [.int .i64 i]
  have k1 := (Keep.refl Nob w).alloc (.cells #[.int .i64 i] 3)
  generalize w.alloc (.cells #[.int .i64 i] 3) = w1 at *
  have T1 := H.out.still k1
  have hc := T1.goK (fun K' hK kk => pick_is hK 104 #[.pointer (some ⟨w.heap.size, 0, none⟩)] (otherS i) enter_orphan1 (fun W x hx kp => orphan1_is i HI.out (((kk W kp).lb H.out hb1 (Nat.le_refl _)).cell 0) x hx))
  rw [HLd.out] at hc
  have K1 := Lib.hid k1
  clear hb1 T1 k1
  refine hc.mono ?_; rintro e w2 ⟨⟨A, cap, rfl, hm⟩, T2, _⟩
  have HV2 := Lib.hid hm.1
  have HO := Lib.hid (show ∀ x, Own A x → w.heap.size ≤ x from fun x m => Nat.le_trans K1.out.size (hm.2 x m))
  have HT2 := Lib.hid T2
  have HW18 := Lib.hid (show ∀ x ∈ l, x.length = 18 from fun x hx => by
    obtain ⟨j, d, v, rfl, hv, _⟩ := HP.out x hx
    simp [hv])
  clear hm T2 hc
  go_wp2_with fail
  go_loopw [10] (fun s10 wx => ∃ k : Nat, k ≤ l.length ∧ s10 = .int .i64 k ∧ Hid (Kt F n w K C src ((l.take k).foldl orph1 S) wx) ∧ Hid (Vec wx 94 18 A l.length cap (rows l))) (fun s10 _ => l.length - (intOf s10).toNat)
  case atStart => exact ⟨0, Nat.zero_le _, rfl, HT2, HV2⟩
  case round =>
    obtain ⟨k, hk, rfl, HT, HV⟩ := hrel
    by_cases hlt : k < l.length
    · obtain ⟨x, hx⟩ : ∃ x, l[k]? = some x := ⟨_, List.getElem?_eq_getElem hlt⟩
      obtain ⟨b, off, hA, hm⟩ := rows_mid HW18.out (by decide) HV.out.reads hx hlt
      obtain ⟨j, d, v, hxe, hvl, hj, hvw⟩ := HP.out x (List.mem_of_getElem? hx)
      have hno := orph_succ S hx
      rw [hxe, orph1_at _ _ _ hvl] at hno
      have HNx := Lib.hid hno
      have HM := Lib.hid hm
      have hxl : x.length = 18 := by rw [hxe]; simp [hvl]
      have HIl := Lib.hid (show (ints x).length = 18 by simp [ints, hxl])
      have HCx := Lib.hid (cellsI hxl)
      have HZ := Lib.hid (cellsI (n := 18) (l := List.replicate 18 0) rfl)
      have HJ := Lib.hid hj
      have HVw := Lib.hid hvw
      have HVl := Lib.hid hvl
      have c0 : (ints x)[0]? = some (.int .i64 j) := by rw [hxe]; rfl
      have c2 : (ints x)[2]? = some (.int .i64 (v.getD 0 0)) := by rw [hxe]; obtain ⟨a0, a1, a2, a3, a4, a5, a6, a7, f0, f1, f2, f3, f4, f5, f6, f7, rfl⟩ := Cd.split16 hvl; rfl
      have c3 : ∃ y, (ints x)[3]? = some y := ⟨_, List.getElem?_eq_getElem (by simp [ints, hxl])⟩
      have e4 : (ints x).set 3 (.int .i64 0) = ints (j :: d :: v.set 1 0) := by rw [hxe]; obtain ⟨a0, a1, a2, a3, a4, a5, a6, a7, f0, f1, f2, f3, f4, f5, f6, f7, rfl⟩ := Cd.split16 hvl; rfl
      obtain ⟨y3, c3⟩ := c3
      obtain ⟨st, hst⟩ : ∃ st, v.getD 0 0 = st := ⟨_, rfl⟩
      rw [hst] at HNx c2
      obtain ⟨cs, hcs⟩ : ∃ cs, ints x = cs := ⟨_, rfl⟩
      rw [hcs] at HM HIl HCx c0 c2 c3 e4
      have HE4 := Lib.hid e4
      have hsz := HT.out.kp.size
      subst hA
      clear hx hm hj hvw hvl hxe hxl e4 hst hcs hno
      go_upto_region 4 with (first
        | (refine wpList_load_mid rfl 94 _ rfl b (off + k * 18) rfl cs _ HM.out Tryz.underlying94 rfl (by rw [HIl.out]; exact infoS_) ?_)
        | (refine flatS.wpList_al rfl rfl ?_; intro w3 hb3 hk3 hs3; clear hs3)
        | (refine flatS.wpList_st rfl rfl rfl rfl HCx.out HZ.out hb3 ?_; intro w4 hb4 hk4 hs4; clear hs4))
      have T4 := Lib.hid ((HT.out.nob hk3).st H.out hb3 (by decide) hsz hk4)
      have HB4 := Lib.hid hb4
      have HV4 := Lib.hid ((HV.out.nob hk3).keep hk4 (fun y hy e => by
        have := HV.out.lt y hy
        omega))
      have HLt := Lib.hid HV.out.lt
      generalize wr.heap.size = g5 at *
      have q0 := (hb4.cell 0).trans c0
      have q2 := (hb4.cell 2).trans c2
      have q3 := (hb4.cell 3).trans c3
      have hf3 := hb4.frozen 3
      clear hk3 hb3 hk4 hb4 c0 c2 c3
      by_cases hz : st = 2
      · obtain ⟨ok, hok⟩ : ∃ ok, decide ((((l.take k).foldl orph1 S).p j).2 ≠ 2) = ok := ⟨_, rfl⟩
        rw [if_pos hz, hok] at HNx
        have HFr := Lib.hid (fun K' (hK : Ks F n w4 K' C src ((l.take k).foldl orph1 S)) => sfreeProc_is hK j HJ.out ok hok)
        clear hok
        subst hz
        go_wp2_with fail
        refine (T4.out.go HFr.out).mono ?_; rintro e w5 ⟨rfl, T5, kp5⟩
        have HT5 := Lib.hid (show Kt F n w K C src ((l.take (k + 1)).foldl orph1 S) w5 by rw [HNx.out]; exact T5)
        have HV5 := Lib.hid (kp5.vec H.out HV4.out HO.out)
        clear T5 kp5 q0 q2 q3 hf3
        go_wp2_with fail
        go_roundw
        case rel => exact ⟨k + 1, by omega, by go_num, HT5, HV5⟩
        case measure => simp [intOf]; omega
      · obtain ⟨ok, hok⟩ : ∃ ok, (decide ((((l.take k).foldl orph1 S).p j).2 ≠ 2) && Cd.okd (v.set 1 0)) = ok := ⟨_, rfl⟩
        rw [if_neg hz, hok] at HNx
        have hset := fun K' w6 (hK : Ks F n w6 K' C src ((l.take k).foldl orph1 S)) => ssetProc_is hK j HJ.out (v.set 1 0) (by rw [List.length_set]; exact HVl.out) (wf_set HVw.out 1 wf_0) ok hok
        have HSet := Lib.hid hset
        have HCv := Lib.hid (cellsI (n := 16) (l := v.set 1 0) (by rw [List.length_set]; exact HVl.out))
        clear hok hset
        go_upto_region 7 with fail
        have HB6 := Lib.hid (show Blk (w4.setCell ⟨g5, 3, none⟩ (.int .i64 0)) g5 94 (ints (j :: d :: v.set 1 0)) by
          rw [← HE4.out]
          exact HB4.out.setCell 3 _)
        have ks := (Keep.refl (fun x => x = g5) w4).setCell ⟨g5, 3, none⟩ (.int .i64 0) (fun _ => rfl)
        have T6 := Lib.hid (T4.out.st H.out HB4.out (by decide) hsz ks)
        have HV6 := Lib.hid (HV4.out.keep ks (fun y hy e => by
          have := HLt.out y hy
          omega))
        clear q0 q2 q3 hf3 ks
        generalize w4.setCell ⟨g5, 3, none⟩ (.int .i64 0) = w6 at *
        have r0 := HB6.out.cell 0
        have hrng := blk_range HB6.out 2 16
        rw [show ((ints (j :: d :: v.set 1 0)).drop 2).take 16 = ints (v.set 1 0) by
          have := HCv.out.len
          show (ints (v.set 1 0)).take 16 = _
          rw [List.take_of_length_le (by omega)]] at hrng
        have HRg := Lib.hid hrng
        have r0 : w6.cell? ⟨g5, 0, none⟩ = some (.int .i64 j) := r0
        clear hrng
        go_wp2_with (refine wpList_load_mid rfl 37 _ rfl g5 2 rfl (ints (v.set 1 0)) _ HRg.out Tryz.underlying37 rfl (by rw [HCv.out.len]; exact flatP.i) ?_)
        refine (T6.out.go (fun K' hK => HSet.out K' w6 hK)).mono ?_; rintro e w7 ⟨rfl, T7, kp7⟩
        have HT7 := Lib.hid (show Kt F n w K C src ((l.take (k + 1)).foldl orph1 S) w7 by rw [HNx.out]; exact T7)
        have HV7 := Lib.hid (kp7.vec H.out HV6.out HO.out)
        clear T7 kp7 r0
        go_wp2_with fail
        go_roundw
        case rel => exact ⟨k + 1, by omega, by go_num, HT7, HV7⟩
        case measure => simp [intOf]; omega
    · have HT8 := Lib.hid (show Kt F n w K C src S' wr by
        have := HT.out
        rw [List.take_of_length_le (by omega), HS.out] at this
        exact this)
      go_wp2
      refine bodyPost_end (results_none rfl _ _ _) rfl ?_
      exact ⟨rfl, HT8.out⟩
end
end Go.Proofs.YtgcikpgcoemfnaaGreat.Pr
namespace Go.Proofs.YtgcikpgcoemfnaaGreat.Pr
open Go.RowKit Co
set_option linter.unusedVariables false
set_option linter.unusedSimpArgs false
/-- What a call returns. -/
def rv (N E : Int) (b : Bool) : List Value := [.int .i64 N, .int .i64 E, .slice none 0 0, .bool b]
theorem cellsV (N E : Int) (b : Bool) : Cells 4 (rv N E b) := ⟨rfl, fun v hv => by
  unfold rv at hv
  simp only [List.mem_cons, List.not_mem_nil, or_false] at hv
  rcases hv with rfl | rfl | rfl | rfl <;> rfl⟩
theorem flatV : Flat 32 4 (rv 0 0 false) := ⟨⟨_, Tryz.underlying32, rfl⟩, by kernel_rfl, fun W => by go_simp; rfl, rfl⟩
theorem enter_wait1 : ∀ args w, (callFunc 46 args).run Tryz.prog w = .ok (.enter 46 args) w := fun args w => by kernel_rfl
/-- The first child that has ended is gone, and told. -/
def waitS (S : Stt) (i : Int) : Stt × (Int × Int × Bool) :=
  if (selfR (S.p i).1 (S.p i).2).2 = 0 then
    (if (pk S (childS i) 8).length = 0 then (S, 0, 110, false) else
    match (pk S (childS i) 8).find? endedS with
    | none => (S, 0, 0, true)
    | some z => (S.frP (z.getD 0 0), 256 * z.getD 0 0 + z.getD 5 0, 0, false))
  else (S, 0, 105, false)
theorem selfR_er (v : List Int) (d : Int) : ((selfR v d).2 = 0 ∧ d = 1 ∧ selfR v d = (v, 0)) ∨ selfR v d = (Cd.noP, 105) := by
  unfold selfR
  split
  · rename_i h; exact .inl ⟨rfl, h.1, rfl⟩
  · exact .inr rfl
theorem find_ended {l : List (List Int)} {m : Nat} {x : List Int} (h1 : l[m]? = some x) (h2 : endedS x = true) (h3 : (l.take m).any endedS = false) : l.find? endedS = some x := by
  induction l generalizing m with
  | nil => simp at h1
  | cons y l ih =>
    cases m with
    | zero =>
      simp only [List.getElem?_cons_zero, Option.some.injEq] at h1
      subst h1
      rw [List.find?_cons, h2]
    | succ m =>
      simp only [List.take_succ_cons, List.any_cons, Bool.or_eq_false_iff] at h3
      rw [List.find?_cons, h3.1]
      exact ih (by simpa using h1) h3.2
theorem find_none {l : List (List Int)} (h : l.any endedS = false) : l.find? endedS = none := by
  rw [List.find?_eq_none]
  intro x hx
  rw [List.any_eq_false] at h
  exact h x hx
section
variable {F : List UInt8 → Prop} {n : Nat} {w w' w1 : World} {K : Kn} {C : Cm} {src : Src} {S S' S2 : Stt}
set_option maxRecDepth 100000 in
set_option maxHeartbeats 4000000 in
theorem wait_is (h : Ks F n w K C src S) (i : Int) (hi : -9223372036854775808 ≤ i ∧ i + 1 ≤ 9223372036854775807) (S' : Stt) (N E : Int) (bl : Bool) (hs : waitS S i = (S', N, E, bl)) :
    Calls Tryz.prog 14 #[.pointer (some ⟨C.p, 0, none⟩), .int .i64 i] w fun e w' => e = .returned (.agg (rv N E bl).toArray) ∧ Kt F n w K C src S' w' := by
  obtain ⟨v, d, hv⟩ : ∃ v d, S.p i = (v, d) := ⟨_, _, rfl⟩
  obtain ⟨R, er, hr⟩ : ∃ R er, selfR v d = (R, er) := ⟨_, _, rfl⟩
  have hvl := len16 h.s hv
  have hrl : R.length = 16 := by
    rcases selfR_er v d with ⟨_, _, e⟩ | e
    · rw [e] at hr; obtain ⟨rfl, _⟩ := Prod.mk.inj hr; exact hvl
    · rw [e] at hr; obtain ⟨rfl, _⟩ := Prod.mk.inj hr; rfl
  have her : er = 0 ∨ er = 105 := by
    rcases selfR_er v d with ⟨_, _, e⟩ | e
    · rw [e] at hr; exact .inl (Prod.mk.inj hr).2.symm
    · rw [e] at hr; exact .inr (Prod.mk.inj hr).2.symm
  have HP := Lib.hid (show ∀ x ∈ pk S (childS i) 8, ∃ (k : Nat) (v : List Int), k < 8 ∧ x = (k : Int) :: 1 :: v ∧ v.length = 16 ∧ S.p k = (v, 1) ∧ Cd.okd v = true from fun x hx => by
    obtain ⟨k, hk, rfl, hp⟩ := mem_pk hx
    have hd : (S.p k).2 = 1 := by
      have : ((slS S k).getD 1 0 == 1) = true := by
        unfold childS at hp
        simp only [Bool.and_eq_true] at hp
        exact hp.1
      simpa [slS] using this
    have hpk : S.p (k : Int) = ((S.p k).1, 1) := by rw [← hd]
    refine ⟨k, (S.p k).1, hk, ?_, len16 h.s (show S.p (k : Int) = ((S.p k).1, (S.p k).2) from rfl), hpk, goodP h.s hpk⟩
    unfold slS
    rw [hd])
  have HSelf := Lib.hid (fun W K' (hK : Ks F n W K' C src S) => self_is hK i (by unfold Cd.Wf; omega) v d hv R er hr)
  have hlen := pk_len S (childS i) 8
  have H := Lib.hid h
  unfold waitS at hs
  rw [hv] at hs
  dsimp only at hs
  rw [hr] at hs
  dsimp only at hs
  have HS := Lib.hid hs
  have HI := Lib.hid (show -9223372036854775808 ≤ i + 1 ∧ i + 1 ≤ 9223372036854775807 by omega)
  have HCR := Lib.hid (cellsI hrl)
  have HZ2 := Lib.hid (cellsI (n := 16) (l := Cd.noP) rfl)
  have HV0 := Lib.hid (cellsV 0 0 false)
  obtain ⟨l, hl⟩ : ∃ l, pk S (childS i) 8 = l := ⟨_, rfl⟩
  rw [hl] at HP HS hlen
  have HLd := Lib.hid hl
  obtain ⟨ln, hln⟩ : ∃ ln, l.length = ln := ⟨_, rfl⟩
  have HLn := Lib.hid hln
  rw [hln] at hlen HS
  clear hln
  clear h hi hs hv hr hvl hrl hl
  go_enter Tryz.func14, Tryz.ntmps14
  go_wp2_with (refine flatV.wpList_al rfl rfl ?_; intro w1 hb1 hk1 hs1; have hbi : Blk w1 w.heap.size 3 [.int .i64 i] := (Blk.new w 3 [.int .i64 i]).nob hk1; have ci := hbi.cell 0; have ci : w1.cell? ⟨w.heap.size, 0, none⟩ = some (.int .i64 i) := ci; have k0 : Keep Nob w w1 := ((Keep.refl Nob w).alloc _).nobt hk1)
  have HK0 := Lib.hid k0
  rw [show (w.alloc (.cells #[.int .i64 i] 3)).heap.size = w.heap.size + 1 by simp] at hb1
  have hsr : w.heap.size ≤ w.heap.size + 1 := by omega
  have T1 := H.out.still k0
  refine (T1.go (HSelf.out _)).mono ?_; rintro e w2 ⟨rfl, T2, kp2⟩
  have HB2 := Lib.hid (kp2.lb H.out hb1 hsr)
  have HBi2 := Lib.hid (kp2.lb H.out hbi (Nat.le_refl _))
  have HT2 := Lib.hid T2
  have hsz := T2.kp.size
  clear T1 T2 kp2 hb1 hbi hk1 hs1 ci k0
  go_upto_region 2 with (first
    | (refine flatP.wpList_al rfl rfl ?_; intro w3 hb3 hk3 hs3; clear hs3)
    | (refine flatP.wpList_st rfl rfl rfl rfl HCR.out HZ2.out hb3 ?_; intro w4 hb4 hk4 hs4; clear hs4))
  have T4 := Lib.hid ((HT2.out.nob hk3).st H.out hb3 (by decide) hsz hk4)
  have HB4 := Lib.hid ((HB2.out.nob hk3).keep hk4 (by have := HB2.out.lt; omega))
  have HBi4 := Lib.hid ((HBi2.out.nob hk3).keep hk4 (by have := HBi2.out.lt; omega))
  clear hb3 hk3 hb4 hk4 HT2 HB2 HBi2
  rcases her with rfl | rfl
  · rw [if_pos rfl] at HS
    go_wp2_with fail
    have hc := T4.out.goK (fun K' hK kk => pick_is hK 46 #[.pointer (some ⟨w.heap.size, 0, none⟩)] (childS i) enter_wait1 (fun W x hx kp => wait1_is i HI.out (((kk W kp).lb H.out HBi4.out (Nat.le_refl _)).cell 0) x hx))
    rw [HLd.out, HLn.out] at hc
    refine hc.mono ?_; rintro e w5 ⟨⟨A, cap, rfl, hm⟩, T5, kp5⟩
    have hV5 := hm.1
    rw [HLn.out] at hV5
    have HV5 := Lib.hid hV5
    have HO := Lib.hid (show ∀ x, Own A x → w.heap.size ≤ x from fun x m => Nat.le_trans T4.out.kp.size (hm.2 x m))
    have HT5 := Lib.hid T5
    have HB5 := Lib.hid (kp5.lb H.out HB4.out hsr)
    clear hm T5 hc kp5 hV5
    by_cases h0 : ln = 0
    · have hs := HS.out
      rw [if_pos h0] at hs
      obtain ⟨rfl, rfl, rfl, rfl⟩ : S = S' ∧ 0 = N ∧ 110 = E ∧ false = bl := by simpa using hs
      clear hs
      subst h0
      go_wp2_with (refine flatV.wpList_st rfl rfl rfl rfl (cellsV 0 110 false) HV0.out HB5.out ?_; intro w6 hb6 hk6 hs6; clear hs6)
      refine bodyPost_ret (v := .agg (rv 0 110 false).toArray) (flatV.results_one rfl _ (cellsV 0 110 false) rfl hb6) rfl ?_
      exact ⟨rfl, HT5.out.st H.out HB5.out (by decide) hsr hk6⟩
    · rw [if_neg h0] at HS
      have HW18 := Lib.hid (show ∀ x ∈ l, x.length = 18 from fun x hx => by
        obtain ⟨j, u, _, rfl, hu, _⟩ := HP.out x hx
        simp [hu])
      have HIx := Lib.hid (ixS_is A ln cap l HLn.out HW18.out HV5.out.reads (by omega))
      go_wp2_with fail
      refine HIx.out.mono ?_; rintro e w6 ⟨q, rfl, hq, k6⟩
      have HT6 := Lib.hid (HT5.out.nob k6)
      have HB6 := Lib.hid (HB5.out.nob k6)
      have HV6 := Lib.hid (HV5.out.nob k6)
      clear k6 HIx
      rcases hq with ⟨rfl, hq⟩ | ⟨m, x, rfl, hx, hxe, hxt⟩
      · have hs := HS.out
        rw [find_none hq] at hs
        obtain ⟨rfl, rfl, rfl, rfl⟩ : S = S' ∧ 0 = N ∧ 0 = E ∧ true = bl := by simpa using hs
        clear hs hq
        go_wp2_with (refine flatV.wpList_st rfl rfl rfl rfl (cellsV 0 0 true) HV0.out HB6.out ?_; intro w7 hb7 hk7 hs7; clear hs7)
        refine bodyPost_ret (v := .agg (rv 0 0 true).toArray) (flatV.results_one rfl _ (cellsV 0 0 true) rfl hb7) rfl ?_
        exact ⟨rfl, HT6.out.st H.out HB6.out (by decide) hsr hk7⟩
      · have hs := HS.out
        rw [find_ended hx hxe hxt] at hs
        dsimp only at hs
        have hml : m < ln := by rw [← HLn.out]; exact (List.getElem?_eq_some_iff.1 hx).1
        obtain ⟨b, off, hA, hm⟩ := rows_mid HW18.out (by decide) HV6.out.reads hx hml
        obtain ⟨j, u, hj8, hxj, hul, hpj, hou⟩ := HP.out x (List.mem_of_getElem? hx)
        have hub := Cd.okd_bounds hou
        have HM := Lib.hid hm
        have hxl : x.length = 18 := by rw [hxj]; simp [hul]
        have HIl := Lib.hid (show (ints x).length = 18 by simp [ints, hxl])
        have HCx := Lib.hid (cellsI hxl)
        have HZ := Lib.hid (cellsI (n := 18) (l := List.replicate 18 0) rfl)
        have e5 : x.getD 5 0 = u.getD 3 0 := by rw [hxj]; obtain ⟨a0, a1, a2, a3, a4, a5, a6, a7, f0, f1, f2, f3, f4, f5, f6, f7, rfl⟩ := Cd.split16 hul; rfl
        have e0 : x.getD 0 0 = (j : Int) := by rw [hxj]; rfl
        rw [e0, e5] at hs
        have hcb := hub.c
        obtain ⟨cd, hcd⟩ : ∃ cd, u.getD 3 0 = cd := ⟨_, rfl⟩
        have c0 : (ints x)[0]? = some (.int .i64 j) := by rw [hxj]; rfl
        have c5 : (ints x)[5]? = some (.int .i64 cd) := by rw [← hcd, hxj]; obtain ⟨a0, a1, a2, a3, a4, a5, a6, a7, f0, f1, f2, f3, f4, f5, f6, f7, rfl⟩ := Cd.split16 hul; rfl
        rw [hcd] at hs hcb
        obtain ⟨rfl, rfl, rfl, rfl⟩ : S.frP j = S' ∧ 256 * (j : Int) + cd = N ∧ 0 = E ∧ false = bl := by simpa using hs
        have HFr := Lib.hid (fun w7 K' (hK : Ks F n w7 K' C src S) => sfreeProc_is hK (j : Int) (by unfold Cd.Wf; omega) true (by rw [hpj]; rfl))
        obtain ⟨cs, hcs⟩ : ∃ cs, ints x = cs := ⟨_, rfl⟩
        rw [hcs] at HM HIl HCx c0 c5
        have hsz6 := HT6.out.kp.size
        have hw1 : wrap64 (256 * (j : Int)) = 256 * (j : Int) := by rw [← IntWalk.i64_left, IntKind.wrap_i64]; omega
        have hw2 : wrap64 (256 * (j : Int) + cd) = 256 * (j : Int) + cd := by rw [← IntWalk.i64_left, IntKind.wrap_i64]; omega
        have HVr := Lib.hid (cellsV (256 * (j : Int) + cd) 0 false)
        subst hA
        have HW12 := Lib.hid (And.intro hw1 hw2)
        clear hs hx hxe hxt hm hxj hul hpj hou hub hxl e5 e0 hcd hcs
        go_upto_region 11 with (first
          | (refine wpList_load_mid rfl 94 _ rfl b (off + m * 18) rfl cs _ HM.out Tryz.underlying94 rfl (by rw [HIl.out]; exact infoS_) ?_)
          | (refine flatS.wpList_al rfl rfl ?_; intro w7 hb7 hk7 hs7; clear hs7)
          | (refine flatS.wpList_st rfl rfl rfl rfl HCx.out HZ.out hb7 ?_; intro w8 hb8 hk8 hs8; clear hs8))
        have HT8 := Lib.hid ((HT6.out.nob hk7).st H.out hb7 (by decide) hsz6 hk8)
        have HB8 := Lib.hid ((HB6.out.nob hk7).keep hk8 (by have := HB6.out.lt; omega))
        have HX8 := Lib.hid hb8
        generalize w6.heap.size = g9 at *
        have q0 := (hb8.cell 0).trans c0
        clear hb7 hk7 hb8 hk8 c0
        go_wp2_with fail
        refine (HT8.out.go (HFr.out _)).mono ?_; rintro e w9 ⟨rfl, T9, kp9⟩
        have HT9 := Lib.hid (show Kt F n w K C src (S.frP j) w9 from T9)
        have HB9 := Lib.hid (kp9.lb H.out HB8.out hsr)
        have hx9 := kp9.lb H.out HX8.out (by omega)
        have r0 := (hx9.cell 0).trans ((HX8.out.cell 0).symm.trans q0)
        have r5 := (hx9.cell 5).trans c5
        clear T9 kp9 hx9 q0 c5
        go_wp2_with (refine flatV.wpList_st rfl rfl rfl rfl HVr.out HV0.out HB9.out ?_; intro w10 hb10 hk10 hs10; clear hs10)
        refine bodyPost_ret (v := .agg (rv (256 * (j : Int) + cd) 0 false).toArray) (flatV.results_one rfl _ HVr.out rfl hb10) rfl ?_
        exact ⟨rfl, HT9.out.st H.out HB9.out (by decide) hsr hk10⟩
  · rw [if_neg (by decide)] at HS
    obtain ⟨rfl, rfl, rfl, rfl⟩ : S = S' ∧ 0 = N ∧ 105 = E ∧ false = bl := by simpa using HS.out
    go_wp2_with (refine flatV.wpList_st rfl rfl rfl rfl (cellsV 0 105 false) HV0.out HB4.out ?_; intro w5 hb5 hk5 hs5; clear hs5)
    refine bodyPost_ret (v := .agg (rv 0 105 false).toArray) (flatV.results_one rfl _ (cellsV 0 105 false) rfl hb5) rfl ?_
    exact ⟨rfl, T4.out.st H.out HB4.out (by decide) hsr hk5⟩
end
end Go.Proofs.YtgcikpgcoemfnaaGreat.Pr
namespace Go.Proofs.YtgcikpgcoemfnaaGreat.Pr
open Go.RowKit Co
set_option linter.unusedVariables false
set_option linter.unusedSimpArgs false
theorem ints_set (l : List Int) (k : Nat) (a : Int) : ints (l.set k a) = (ints l).set k (.int .i64 a) := by simp [ints, List.map_set]
/-- The code as a zombie keeps it. -/
def code8 (c : Int) : Int := (c.tmod 256 + 256).tmod 256
/-- What a process is when it has ended. -/
def zomb (v : List Int) (c : Int) : List Int := (bare ((v.set 0 2).set 3 c)).set 4 0
def exitS (S : Stt) (i code : Int) : Stt × Int :=
  if (selfR (S.p i).1 (S.p i).2).2 = 0 then
    (if actB ((orphS (closeAllS S i) i).p ((S.p i).1.getD 1 0 - 1)).1 ((orphS (closeAllS S i) i).p ((S.p i).1.getD 1 0 - 1)).2 then
      (if decide (((orphS (closeAllS S i) i).p i).2 ≠ 2) && Cd.okd (zomb (S.p i).1 (code8 code)) then (orphS (closeAllS S i) i).setP i (zomb (S.p i).1 (code8 code)) else orphS (closeAllS S i) i,
        erB (decide (((orphS (closeAllS S i) i).p i).2 ≠ 2) && Cd.okd (zomb (S.p i).1 (code8 code))))
    else (if decide (((orphS (closeAllS S i) i).p i).2 ≠ 2) then (orphS (closeAllS S i) i).frP i else orphS (closeAllS S i) i, erB (decide (((orphS (closeAllS S i) i).p i).2 ≠ 2))))
  else (S, 105)
theorem code8_in (c : Int) : (-255 ≤ c.tmod 256 ∧ c.tmod 256 ≤ 255) ∧ 0 ≤ code8 c ∧ code8 c ≤ 255 := by
  have h1 : -255 ≤ c.tmod 256 ∧ c.tmod 256 ≤ 255 := by
    have a := Int.tmod_lt_of_pos c (show (0 : Int) < 256 by decide)
    have b := Int.lt_tmod_of_pos c (show (0 : Int) < 256 by decide)
    omega
  refine ⟨h1, ?_⟩
  unfold code8
  rw [Int.tmod_eq_emod_of_nonneg (by omega)]
  omega
section
variable {F : List UInt8 → Prop} {n : Nat} {w w' w1 : World} {K : Kn} {C : Cm} {src : Src} {S S' S2 : Stt}
set_option maxRecDepth 100000 in
set_option maxHeartbeats 4000000 in
theorem exit_is (h : Ks F n w K C src S) (i : Int) (hi : -9223372036854775808 ≤ i ∧ i + 1 ≤ 9223372036854775807) (code : Int) (S' : Stt) (E : Int) (hs : exitS S i code = (S', E)) :
    Calls Tryz.prog 12 #[.pointer (some ⟨C.p, 0, none⟩), .int .i64 i, .int .i64 code] w fun e w' => e = .returned (.agg (rv 0 E false).toArray) ∧ Kt F n w K C src S' w' := by
  obtain ⟨v, d, hv⟩ : ∃ v d, S.p i = (v, d) := ⟨_, _, rfl⟩
  obtain ⟨R, er, hr⟩ : ∃ R er, selfR v d = (R, er) := ⟨_, _, rfl⟩
  have hvl := len16 h.s hv
  have hrl : R.length = 16 := by
    rcases selfR_er v d with ⟨_, _, e⟩ | e
    · rw [e] at hr; obtain ⟨rfl, _⟩ := Prod.mk.inj hr; exact hvl
    · rw [e] at hr; obtain ⟨rfl, _⟩ := Prod.mk.inj hr; rfl
  have her : (er = 0 ∧ R = v ∧ Cd.okd v = true) ∨ er = 105 := by
    rcases selfR_er v d with ⟨_, hd, e⟩ | e
    · rw [e] at hr
      obtain ⟨e1, e2⟩ := Prod.mk.inj hr
      exact .inl ⟨e2.symm, e1.symm, goodP h.s (show S.p i = (v, 1) by rw [hv, hd])⟩
    · rw [e] at hr; exact .inr (Prod.mk.inj hr).2.symm
  have hwi : Cd.Wf i := by unfold Cd.Wf; omega
  have HSelf := Lib.hid (fun W K' (hK : Ks F n W K' C src S) => self_is hK i hwi v d hv R er hr)
  obtain ⟨S1, h1⟩ : ∃ S1, closeAllS S i = S1 := ⟨_, rfl⟩
  obtain ⟨S3, h3⟩ : ∃ S3, orphS S1 i = S3 := ⟨_, rfl⟩
  have HCl := Lib.hid (fun W K' (hK : Ks F n W K' C src S) => closeAll_is hK i hwi S1 h1)
  have HOr := Lib.hid (fun W K' (hK : Ks F n W K' C src S1) => orphan_is hK i (by omega) S3 h3)
  have H := Lib.hid h
  have HWi := Lib.hid hwi
  unfold exitS at hs
  rw [hv] at hs
  dsimp only at hs
  rw [hr] at hs
  dsimp only at hs
  rw [h1, h3] at hs
  have HS := Lib.hid hs
  have HCR := Lib.hid (cellsI hrl)
  have HZ2 := Lib.hid (cellsI (n := 16) (l := Cd.noP) rfl)
  have HV0 := Lib.hid (cellsV 0 0 false)
  clear h hi hs hv hr hrl h1 h3 hwi
  go_enter Tryz.func12, Tryz.ntmps12
  go_wp2_with (refine flatV.wpList_al rfl rfl ?_; intro w1 hb1 hk1 hs1)
  have T1 := H.out.still hk1
  refine (T1.go (HSelf.out _)).mono ?_; rintro e w2 ⟨rfl, T2, kp2⟩
  have HB2 := Lib.hid (kp2.lb H.out hb1 (Nat.le_refl _))
  have HT2 := Lib.hid T2
  have hsz := T2.kp.size
  clear T1 T2 kp2 hb1 hk1 hs1
  go_upto_region 2 with (first
    | (refine flatP.wpList_al rfl rfl ?_; intro w3 hb3 hk3 hs3; clear hs3)
    | (refine flatP.wpList_st rfl rfl rfl rfl HCR.out HZ2.out hb3 ?_; intro w4 hb4 hk4 hs4; clear hs4))
  have T4 := Lib.hid ((HT2.out.nob hk3).st H.out hb3 (by decide) hsz hk4)
  have HB4 := Lib.hid ((HB2.out.nob hk3).keep hk4 (by have := HB2.out.lt; omega))
  have HX4 := Lib.hid hb4
  have hg5 : w.heap.size < w2.heap.size := HB2.out.lt
  generalize w2.heap.size = g5 at *
  clear hb3 hk3 hb4 hk4 HT2 HB2
  rcases her with ⟨rfl, rfl, hokv⟩ | rfl
  · rw [if_pos rfl] at HS
    have hbd := Cd.okd_bounds hokv
    have HWv := Lib.hid (wf_okd hvl hokv)
    have hpa := hbd.pa
    have HVl := Lib.hid hvl
    obtain ⟨pa, hpe⟩ : ∃ pa, R.getD 1 0 = pa := ⟨_, rfl⟩
    have HPe := Lib.hid hpe
    rw [hpe] at hpa HS
    clear hbd hokv hvl hpe
    go_wp2_with fail
    refine (T4.out.go (HCl.out _)).mono ?_; rintro e w5 ⟨rfl, T5, kp5⟩
    have HB5 := Lib.hid (kp5.lb H.out HB4.out (Nat.le_refl _))
    have HX5 := Lib.hid (kp5.lb H.out HX4.out hsz)
    have HT5 := Lib.hid T5
    clear T5 kp5
    go_wp2_with fail
    refine (HT5.out.go (HOr.out _)).mono ?_; rintro e w6 ⟨rfl, T6, kp6⟩
    have HB6 := Lib.hid (kp6.lb H.out HB5.out (Nat.le_refl _))
    have HX6 := Lib.hid (kp6.lb H.out HX5.out hsz)
    have HT6 := Lib.hid T6
    have c1 : w6.cell? ⟨g5, 1, none⟩ = some (.int .i64 pa) := by
      rw [cell_of HX6.out 1 (by rw [HVl.out]; decide), HPe.out]
    clear T6 kp6 HB4 HB5 HX4 HX5
    obtain ⟨pv, pd, hpp⟩ : ∃ pv pd, S3.p (pa - 1) = (pv, pd) := ⟨_, _, rfl⟩
    rw [hpp] at HS
    have hw1 : wrap64 (pa - 1) = pa - 1 := by rw [← IntWalk.i64_left, IntKind.wrap_i64]; omega
    have HAt := Lib.hid (fun W K' (hK : Ks F n W K' C src S3) => at_is hK (pa - 1) (by unfold Cd.Wf; omega) pv pd hpp)
    have HPl := Lib.hid (show pv.length = 16 by
      obtain ⟨ys, hst, _⟩ := HT6.out
      exact len16 hst hpp)
    clear hpp
    go_wp2_with fail
    refine (HT6.out.go (HAt.out _)).mono ?_; rintro e w7 ⟨rfl, T7, kp7⟩
    have HB7 := Lib.hid (kp7.lb H.out HB6.out (Nat.le_refl _))
    have HX7 := Lib.hid (kp7.lb H.out HX6.out hsz)
    have HT7 := Lib.hid T7
    obtain ⟨av, hav⟩ : ∃ av, actB pv pd = av := ⟨_, rfl⟩
    have HAct := Lib.hid (fun W => acts_is (pa - 1) pd pv HPl.out av hav W)
    rw [hav] at HS
    clear T7 kp7 HB6 HX6 c1 hav hw1 hpa
    go_wp2_with fail
    refine (HAct.out _).mono ?_; rintro e w8 ⟨rfl, k8⟩
    have HB8 := Lib.hid (HB7.out.nob k8)
    have HX8 := Lib.hid (HX7.out.nob k8)
    have HT8 := Lib.hid (HT7.out.nob k8)
    clear k8 HB7 HX7 HT7
    cases av with
    | false =>
      obtain ⟨ok, hok⟩ : ∃ ok, decide ((S3.p i).2 ≠ 2) = ok := ⟨_, rfl⟩
      have HFr := Lib.hid (fun W K' (hK : Ks F n W K' C src S3) => sfreeProc_is hK i HWi.out ok hok)
      rw [hok] at HS
      have HSe := Lib.hid (show (if ok then S3.frP i else S3) = S' ∧ erB ok = E by simpa using HS.out)
      have HEr := Lib.hid (fun W => errno_is ok W)
      rw [HSe.out.2] at HEr
      have HVr := Lib.hid (cellsV 0 E false)
      clear hok
      go_wp2_with fail
      refine (HT8.out.go (HFr.out _)).mono ?_; rintro e w9 ⟨rfl, T9, kp9⟩
      rw [HSe.out.1] at T9
      have HB9 := Lib.hid (kp9.lb H.out HB8.out (Nat.le_refl _))
      have HT9 := Lib.hid T9
      clear T9 kp9
      go_wp2_with fail
      refine (HEr.out _).mono ?_; rintro e w10 ⟨rfl, rfl⟩
      go_wp2_with (refine flatV.wpList_st rfl rfl rfl rfl HVr.out HV0.out HB9.out ?_; intro w11 hb11 hk11 hs11; clear hs11)
      refine bodyPost_ret (v := .agg (rv 0 E false).toArray) (flatV.results_one rfl _ HVr.out rfl hb11) rfl ?_
      exact ⟨rfl, HT9.out.st H.out HB9.out (by decide) (Nat.le_refl _) hk11⟩
    | true =>
      have hcin := code8_in code
      unfold code8 at hcin
      obtain ⟨cc, hcc⟩ : ∃ cc, code8 code = cc := ⟨_, rfl⟩
      have hcc2 := hcc
      unfold code8 at hcc2
      rw [hcc2] at hcin
      obtain ⟨m1, hm1⟩ : ∃ m1, code.tmod 256 = m1 := ⟨_, rfl⟩
      rw [hm1] at hcc2 hcin
      have hw2 : wrap64 (m1 + 256) = m1 + 256 := by rw [← IntWalk.i64_left, IntKind.wrap_i64]; omega
      rw [hcc] at HS
      obtain ⟨ok, hok⟩ : ∃ ok, (decide ((S3.p i).2 ≠ 2) && Cd.okd (zomb R cc)) = ok := ⟨_, rfl⟩
      have hzl : (zomb R cc).length = 16 := by
        unfold zomb
        rw [List.length_set]
        exact bare_len (by rw [List.length_set, List.length_set]; exact HVl.out)
      have HZl := Lib.hid hzl
      have HSt := Lib.hid (fun W K' (hK : Ks F n W K' C src S3) => ssetProc_is hK i HWi.out (zomb R cc) hzl (wf_set (wf_bare (wf_set (wf_set HWv.out 0 (by unfold Cd.Wf; decide)) 3 (by unfold Cd.Wf; omega))) 4 wf_0) ok hok)
      rw [hok] at HS
      have HSe := Lib.hid (show (if ok then S3.setP i (zomb R cc) else S3) = S' ∧ erB ok = E by simpa using HS.out)
      have HEr := Lib.hid (fun W => errno_is ok W)
      rw [HSe.out.2] at HEr
      have HVr := Lib.hid (cellsV 0 E false)
      have q0 := cell_of HX8.out 0 (by rw [HVl.out]; decide)
      have q3 := cell_of HX8.out 3 (by rw [HVl.out]; decide)
      have f0 := HX8.out.frozen 0
      have f3 := HX8.out.frozen 3
      obtain ⟨y0, hy0⟩ : ∃ y, R.getD 0 0 = y := ⟨_, rfl⟩
      obtain ⟨y3, hy3⟩ : ∃ y, R.getD 3 0 = y := ⟨_, rfl⟩
      rw [hy0] at q0
      rw [hy3] at q3
      clear hok hcc hzl hy0 hy3
      go_upto_region 9 with fail
      have ks : Keep (fun x => x = g5) w8 ((w8.setCell ⟨g5, 0, none⟩ (.int .i64 2)).setCell ⟨g5, 3, none⟩ (.int .i64 cc)) := ((Keep.refl (fun x => x = g5) w8).setCell ⟨g5, 0, none⟩ (.int .i64 2) (fun _ => rfl)).setCell ⟨g5, 3, none⟩ (.int .i64 cc) (fun _ => rfl)
      have hx9 : Blk ((w8.setCell ⟨g5, 0, none⟩ (.int .i64 2)).setCell ⟨g5, 3, none⟩ (.int .i64 cc)) g5 37 (ints ((R.set 0 2).set 3 cc)) := by
        rw [ints_set, ints_set]
        exact (HX8.out.setCell 0 _).setCell 3 _
      have T9 := HT8.out.st H.out HX8.out (by decide) hsz ks
      have hb9 := HB8.out.keep ks (by omega)
      clear q0 q3 f0 f3 ks
      generalize (w8.setCell ⟨g5, 0, none⟩ (.int .i64 2)).setCell ⟨g5, 3, none⟩ (.int .i64 cc) = w9 at *
      have HX9 := Lib.hid hx9
      have HT9 := Lib.hid T9
      have HB9 := Lib.hid hb9
      have HVl9 := Lib.hid (show ((R.set 0 2).set 3 cc).length = 16 by rw [List.length_set, List.length_set]; exact HVl.out)
      have hzm : zomb R cc = (bare ((R.set 0 2).set 3 cc)).set 4 0 := rfl
      generalize (R.set 0 2).set 3 cc = u at *
      have HZm := Lib.hid hzm
      clear hx9 T9 hb9 hzm hm1 hcc2 hw2 hcin
      have HZ8 := Lib.hid (cellsI (n := 8) (l := List.replicate 8 0) rfl)
      have HBr := Lib.hid (show ints (bare u) = splice (ints u) 8 (ints (List.replicate 8 0)) by
        obtain ⟨a0, a1, a2, a3, a4, a5, a6, a7, f0, f1, f2, f3, f4, f5, f6, f7, rfl⟩ := Cd.split16 HVl9.out
        rfl)
      have hbl := bare_len HVl9.out
      obtain ⟨y4, hy4⟩ : ∃ y, (bare u).getD 4 0 = y := ⟨_, rfl⟩
      have HY4 := Lib.hid hy4
      have HBl := Lib.hid hbl
      clear hy4 hbl
      go_upto_region 10 with (refine flatA8.wpList_stm (g := g5) (off := 8) (e := 37) (old := ints u) rfl rfl (by rfl) (by rfl) HZ8.out HX9.out (by simp [ints, HVl9.out]) ?_; intro w10 hb10 hk10 hs10; clear hs10; rw [← HBr.out] at hb10; have p4 := cell_of hb10 4 (by rw [HBl.out]; decide); rw [HY4.out] at p4; have f4 := hb10.frozen 4; have HX10 := Lib.hid hb10; have HK10 := Lib.hid hk10; clear hb10 hk10)
      have T10 := HT9.out.st H.out HX9.out (by decide) hsz HK10.out
      have hb10 := HB9.out.keep HK10.out (by omega)
      have ks : Keep (fun x => x = g5) w10 (w10.setCell ⟨g5, 4, none⟩ (.int .i64 0)) := (Keep.refl (fun x => x = g5) w10).setCell ⟨g5, 4, none⟩ (.int .i64 0) (fun _ => rfl)
      have hx11 : Blk (w10.setCell ⟨g5, 4, none⟩ (.int .i64 0)) g5 37 (ints (zomb R cc)) := by
        rw [HZm.out, ints_set]
        exact HX10.out.setCell 4 _
      have T11 := T10.st H.out HX10.out (by decide) hsz ks
      have hb11 := hb10.keep ks (by omega)
      clear p4 f4 ks T10 hb10
      generalize w10.setCell ⟨g5, 4, none⟩ (.int .i64 0) = w11 at *
      have HX11 := Lib.hid hx11
      have HT11 := Lib.hid T11
      have HB11 := Lib.hid hb11
      have HCz := Lib.hid (cellsI HZl.out)
      clear hx11 T11 hb11
      go_wp2_with (refine flatP.wpList_ld rfl rfl rfl HCz.out HX11.out ?_)
      refine (HT11.out.go (HSt.out _)).mono ?_; rintro e w12 ⟨rfl, T12, kp12⟩
      rw [HSe.out.1] at T12
      have HB12 := Lib.hid (kp12.lb H.out HB11.out (Nat.le_refl _))
      have HT12 := Lib.hid T12
      clear T12 kp12
      go_wp2_with fail
      refine (HEr.out _).mono ?_; rintro e w13 ⟨rfl, rfl⟩
      go_wp2_with (refine flatV.wpList_st rfl rfl rfl rfl HVr.out HV0.out HB12.out ?_; intro w14 hb14 hk14 hs14; clear hs14)
      refine bodyPost_ret (v := .agg (rv 0 E false).toArray) (flatV.results_one rfl _ HVr.out rfl hb14) rfl ?_
      exact ⟨rfl, HT12.out.st H.out HB12.out (by decide) (Nat.le_refl _) hk14⟩
  · rw [if_neg (by decide)] at HS
    obtain ⟨rfl, rfl⟩ : S = S' ∧ 105 = E := by simpa using HS.out
    go_wp2_with (refine flatV.wpList_st rfl rfl rfl rfl (cellsV 0 105 false) HV0.out HB4.out ?_; intro w5 hb5 hk5 hs5; clear hs5)
    refine bodyPost_ret (v := .agg (rv 0 105 false).toArray) (flatV.results_one rfl _ (cellsV 0 105 false) rfl hb5) rfl ?_
    exact ⟨rfl, T4.out.st H.out HB4.out (by decide) (Nat.le_refl _) hk5⟩
end
end Go.Proofs.YtgcikpgcoemfnaaGreat.Pr
namespace Go.Proofs.YtgcikpgcoemfnaaGreat.Pr
open Go.RowKit Co
set_option linter.unusedVariables false
set_option linter.unusedSimpArgs false
/-- How often each file is named. -/
def cntL (fds : List Int) : List Int := mk 12 (fun f => ((fds.count ((f : Int) + 1) : Nat) : Int))
theorem cntL_len (fds : List Int) : (cntL fds).length = 12 := by simp [cntL, mk]
theorem cntL_get (fds : List Int) {f : Nat} (hf : f < 12) : (cntL fds).getD f 0 = ((fds.count ((f : Int) + 1) : Nat) : Int) := by
  unfold cntL mk
  rw [List.getD_eq_getElem?_getD, List.getElem?_map, List.getElem?_range hf]
  rfl
theorem ext12 {a b : List Int} (ha : a.length = 12) (hb : b.length = 12) (h : ∀ f, f < 12 → a.getD f 0 = b.getD f 0) : a = b := by
  apply List.ext_getElem (by omega)
  intro f h1 h2
  have := h f (by omega)
  rw [List.getD_eq_getElem?_getD, List.getD_eq_getElem?_getD, List.getElem?_eq_getElem h1, List.getElem?_eq_getElem h2] at this
  simpa using this
theorem cnt_take {fds : List Int} {k : Nat} {fd : Int} (h : fds[k]? = some fd) (x : Int) : (fds.take (k + 1)).count x = (fds.take k).count x + (if fd = x then 1 else 0) := by
  rw [List.take_add_one, h, List.count_append]
  simp [List.count_cons]
theorem cntL_zero {fds : List Int} {k : Nat} (h : fds[k]? = some 0) : cntL (fds.take (k + 1)) = cntL (fds.take k) := by
  refine ext12 (cntL_len _) (cntL_len _) (fun f hf => ?_)
  rw [cntL_get _ hf, cntL_get _ hf, cnt_take h, if_neg (by omega)]
  simp
theorem cntL_succ {fds : List Int} {k j : Nat} (h : fds[k]? = some ((j : Int) + 1)) (hj : j < 12) : cntL (fds.take (k + 1)) = (cntL (fds.take k)).set j ((cntL (fds.take k)).getD j 0 + 1) := by
  refine ext12 (cntL_len _) (by rw [List.length_set]; exact cntL_len _) (fun f hf => ?_)
  rw [cntL_get _ hf, cnt_take h, List.getD_eq_getElem?_getD, List.getElem?_set]
  by_cases e : j = f
  · subst e
    rw [if_pos rfl, if_pos rfl, if_pos (by rw [cntL_len]; exact hf), cntL_get _ hf]
    simp
  · rw [if_neg (by omega), if_neg e, ← List.getD_eq_getElem?_getD, cntL_get _ hf]
    simp
/-- A file named so many times more. -/
def newF (S : Stt) (cn : List Int) (f : Nat) : List Int := [(S.f f).1.getD 0 0, (S.f f).1.getD 1 0, (S.f f).1.getD 2 0 + cn.getD f 0, (S.f f).1.getD 3 0]
def filL (S : Stt) (cn : List Int) (done : List Int) : List (List Int) := mk 12 (fun f => if ((f : Int) + 1) ∈ done then newF S cn f else [0, 0, 0, 0])
theorem filL_len (S : Stt) (cn done : List Int) : (filL S cn done).length = 12 := by simp [filL, mk]
theorem filL_four (S : Stt) (cn done : List Int) : ∀ x ∈ filL S cn done, x.length = 4 := fun x hx => by
  unfold filL mk at hx
  obtain ⟨f, _, rfl⟩ := List.mem_map.1 hx
  split <;> rfl
theorem filL_get (S : Stt) (cn done : List Int) {f : Nat} (hf : f < 12) : (filL S cn done)[f]? = some (if ((f : Int) + 1) ∈ done then newF S cn f else [0, 0, 0, 0]) := by
  unfold filL mk
  rw [List.getElem?_map, List.getElem?_range hf]
  rfl
theorem mem_take {fds : List Int} {k : Nat} {fd : Int} (h : fds[k]? = some fd) (x : Int) : x ∈ fds.take (k + 1) ↔ x ∈ fds.take k ∨ x = fd := by
  rw [List.take_add_one, h]
  simp
theorem filL_zero {S : Stt} {cn fds : List Int} {k : Nat} (h : fds[k]? = some 0) : filL S cn (fds.take (k + 1)) = filL S cn (fds.take k) := by
  apply List.ext_getElem?
  intro f
  by_cases hf : f < 12
  · rw [filL_get S cn _ hf, filL_get S cn _ hf]
    have : ((f : Int) + 1 ∈ fds.take (k + 1)) ↔ ((f : Int) + 1 ∈ fds.take k) := by
      rw [mem_take h]
      constructor
      · rintro (h | h)
        · exact h
        · omega
      · exact .inl
    simp only [this]
  · rw [List.getElem?_eq_none (by rw [filL_len]; omega), List.getElem?_eq_none (by rw [filL_len]; omega)]
theorem filL_succ {S : Stt} {cn fds : List Int} {k j : Nat} (h : fds[k]? = some ((j : Int) + 1)) (hj : j < 12) : filL S cn (fds.take (k + 1)) = (filL S cn (fds.take k)).set j (newF S cn j) := by
  apply List.ext_getElem?
  intro f
  by_cases hf : f < 12
  · rw [filL_get S cn _ hf, List.getElem?_set]
    by_cases e : j = f
    · subst e
      rw [if_pos rfl, if_pos ((mem_take h _).2 (.inr rfl)), if_pos (by rw [filL_len]; exact hf)]
    · rw [if_neg e, filL_get S cn _ hf]
      have : ((f : Int) + 1 ∈ fds.take (k + 1)) ↔ ((f : Int) + 1 ∈ fds.take k) := by
        rw [mem_take h]
        constructor
        · rintro (h | h)
          · exact h
          · omega
        · exact .inl
      simp only [this]
  · rw [List.getElem?_eq_none (by rw [filL_len]; omega), List.getElem?_eq_none (by rw [List.length_set, filL_len]; omega)]
theorem rows_set {m : Nat} {x : List Int} (hx : x.length = m) : ∀ {l : List (List Int)} {j : Nat}, (∀ y ∈ l, y.length = m) → j < l.length → rows (l.set j x) = splice (rows l) (j * m) (ints x)
  | [], _, _, h => absurd h (by simp)
  | y :: l, 0, hW, _ => by
    have hy := hW y (by simp)
    simp [rows, splice, ints, hx, hy]
  | y :: l, j + 1, hW, h => by
    have hy := hW y (by simp)
    have ih := rows_set hx (l := l) (j := j) (fun z hz => hW z (by simp [hz])) (by simpa using h)
    have e : rows (y :: l) = ints y ++ rows l := by simp [rows]
    have e2 : rows ((y :: l).set (j + 1) x) = ints y ++ rows (l.set j x) := by simp [rows]
    rw [e2, ih, e]
    have hi : (ints y).length = m := by simp [ints, hy]
    unfold splice
    rw [List.take_append, List.drop_append, hi]
    have h1 : List.take ((j + 1) * m) (ints y) = ints y := List.take_of_length_le (by rw [hi, Nat.add_mul]; omega)
    have h2 : List.drop ((j + 1) * m + (ints x).length) (ints y) = [] := List.drop_eq_nil_of_le (by rw [hi, Nat.add_mul]; omega)
    rw [h1, h2, show (j + 1) * m - m = j * m by rw [Nat.add_mul]; omega, show (j + 1) * m + (ints x).length - m = j * m + (ints x).length by rw [Nat.add_mul]; omega]
    simp
/-- What stops it, or 0. -/
def scan (S : Stt) (cn : List Int) : List Int → Int
  | [] => 0
  | fd :: l => if fd = 0 then scan S cn l else if (S.f (fd - 1)).2 ≠ 1 then 105 else if 64 < (S.f (fd - 1)).1.getD 2 0 + cn.getD (fd - 1).toNat 0 then 123 else scan S cn l
theorem scan_cons (S : Stt) (cn : List Int) (fd : Int) (l : List Int) : scan S cn (fd :: l) = if fd = 0 then scan S cn l else if (S.f (fd - 1)).2 ≠ 1 then 105 else if 64 < (S.f (fd - 1)).1.getD 2 0 + cn.getD (fd - 1).toNat 0 then 123 else scan S cn l := rfl
theorem scan_all {S : Stt} {cn : List Int} : ∀ {l : List Int}, scan S cn l = 0 → ∀ fd ∈ l, fd ≠ 0 → (S.f (fd - 1)).2 = 1 ∧ (S.f (fd - 1)).1.getD 2 0 + cn.getD (fd - 1).toNat 0 ≤ 64
  | [], _, fd, hm, _ => absurd hm (by simp)
  | x :: l, h, fd, hm, h0 => by
    unfold scan at h
    split at h
    · rename_i hx
      rcases List.mem_cons.1 hm with rfl | hm
      · exact absurd hx h0
      · exact scan_all h fd hm h0
    · split at h
      · cases h
      · split at h
        · cases h
        · rename_i h1 h2
          rcases List.mem_cons.1 hm with rfl | hm
          · exact ⟨by omega, by omega⟩
          · exact scan_all h fd hm h0
def shS (S : Stt) (cn : List Int) : Nat → Stt
  | 0 => S
  | k + 1 => if 0 < cn.getD k 0 then (shS S cn k).setF k (newF S cn k) else shS S cn k
def shareS (S : Stt) (fds : List Int) : Stt × Int := if scan S (cntL fds) fds = 0 then (shS S (cntL fds) 12, 0) else (S, scan S (cntL fds) fds)
theorem shS_far (S : Stt) (cn : List Int) : ∀ (k : Nat) (j : Int), (k : Int) ≤ j → (shS S cn k).f j = S.f j
  | 0, _, _ => rfl
  | k + 1, j, h => by
    unfold shS
    split
    · show upd _ _ _ j = _
      rw [upd_far (by omega)]
      exact shS_far S cn k j (by omega)
    · exact shS_far S cn k j (by omega)
theorem flatA12 : Flat 186 12 (ints (List.replicate 12 0)) := ⟨⟨_, Tryz.underlying186, rfl⟩, by kernel_rfl, fun W => by go_simp; rfl, rfl⟩
theorem flatF12 : Flat 187 48 (ints (List.replicate 48 0)) := ⟨⟨_, Tryz.underlying187, rfl⟩, by kernel_rfl, fun W => by go_simp; rfl, rfl⟩
theorem index12 (f : List Int) (hf : f.length = 12) (k : Nat) (hk : k < 12) (W : World) : (Instr.index 186 (.agg (ints f).toArray) (.int .i64 (k : Int))).run Tryz.prog W = .ok (.int .i64 (f.getD k 0)) W := by
  have hg := Tryz.isAgg3
  have hs := Tryz.sizeOf3
  have h0 : (0 : Int) ≤ (k : Int) := by omega
  have h8 : ((k : Nat) : Int) < ((12 : Nat) : Int) := by omega
  have hc : ((ints f).toArray)[k]? = some (.int .i64 (f.getD k 0)) := by
    rw [List.getElem?_toArray, ints_get, List.getD_eq_getElem?_getD, List.getElem?_eq_getElem (by omega)]; rfl
  generalize (ints f).toArray = A at *
  simp [Instr.index, asIntOf, run_underlying Tryz.underlying186, Go.part, hg, hs, h8, hc, Sem.run_bind, Result.andThen]
  intro hk2
  omega
theorem wpList_load_midG {ops : Array Oper} {rest : List Oper} {op : Oper} {a : Act} {w : World} {Q : Exit → Act → World → Prop} (hw : Region.wanted op (yielded ops a.tmps) = true) (ty : TypeId) (x : Operand) (ho : op.op = .load ty x)
    (b o : Nat) (hx : a.eval x = .pointer (some ⟨b, o, none⟩)) (cs : List Value) (d : TypeDesc) (hc : w.rangeAt b o cs)
    (hu : Tryz.prog.underlying ty = some d) (hd : d.isRow = true) (hi : (Tryz.prog.info? ty).map (·.size) = some cs.length)
    (h : wpList Tryz.prog ops Q rest (a.put op.dst (.agg cs.toArray)) w) : wpList Tryz.prog ops Q (op :: rest) a w := by
  refine wpList_step fun K hK => ?_
  rw [if_pos hw]
  exact wp_load_mid ty x ho b o hx cs d hc hu hd hi (hK _ _ h)
end Go.Proofs.YtgcikpgcoemfnaaGreat.Pr
namespace Go.Proofs.YtgcikpgcoemfnaaGreat.Pr
open Go.RowKit Co
set_option linter.unusedVariables false
set_option linter.unusedSimpArgs false
section
variable {F : List UInt8 → Prop} {n : Nat} {w w' w1 : World} {K : Kn} {C : Cm} {src : Src} {S S' S2 : Stt}
set_option maxRecDepth 100000 in
set_option maxHeartbeats 4000000 in
theorem share_is (h : Ks F n w K C src S) (fds : List Int) (hl : fds.length = 8) (hf : ∀ x ∈ fds, 0 ≤ x ∧ x ≤ 12) (S' : Stt) (E : Int) (hs : shareS S fds = (S', E)) :
    Calls Tryz.prog 36 #[.pointer (some ⟨C.p, 0, none⟩), .agg (ints fds).toArray] w fun e w' => e = .returned (.int .i64 E) ∧ Kt F n w K C src S' w' := by
  have H := Lib.hid h
  have HL := Lib.hid hl
  have HF := Lib.hid hf
  have HS := Lib.hid hs
  have HC8 := Lib.hid (cellsI hl)
  have HZ12 := Lib.hid (cellsI (n := 12) (l := List.replicate 12 0) rfl)
  have hlv : (Value.agg (ints fds).toArray).cells.toList = ints fds := rfl
  clear h hl hf hs hlv
  go_enter Tryz.func36, Tryz.ntmps36
  go_upto_region 3 with (first
    | (refine wpList_box rfl 35 _ rfl (ints fds).toArray rfl ?_; intro w1 hb1 hk1 hs1; have hx1 : Blk w1 w.heap.size 35 (ints fds) := hb1; clear hb1 hs1)
    | (refine flatA12.wpList_al rfl rfl ?_; intro w2 hb2 hk2 hs2; clear hs2; have hx2 := hx1.nob hk2)
    | (refine flatA8.wpList_ld rfl rfl rfl HC8.out hx2 ?_))
  have HB2 := Lib.hid (show Blk w2 w1.heap.size 186 (ints (cntL (fds.take 0))) from hb2)
  have HX2 := Lib.hid hx2
  have T2 := Lib.hid (H.out.still (hk1.nobt hk2))
  have hg1 : w.heap.size < w1.heap.size := hx1.lt
  have HG1 := Lib.hid hg1
  generalize w1.heap.size = g1 at *
  clear hb2 hx2 hx1 hk1 hk2 hg1
  go_loopw [16] (fun s16 wx => ∃ k : Nat, k ≤ 8 ∧ s16 = .int .i64 k ∧ Hid (Kt F n w K C src S wx) ∧ Hid (Blk wx w.heap.size 35 (ints fds)) ∧ Hid (Blk wx g1 186 (ints (cntL (fds.take k))))) (fun s16 _ => 8 - (intOf s16).toNat)
  case atStart => exact ⟨0, Nat.zero_le _, rfl, T2, HX2, HB2⟩
  case round =>
    obtain ⟨k, hk, rfl, HT, HX, HB⟩ := hrel
    by_cases hlt : (k : Int) < 8
    · have hix := fun W => Cd.index8 fds HL.out k (by omega) W
      obtain ⟨fd, hfd⟩ : ∃ fd, fds.getD k 0 = fd := ⟨_, rfl⟩
      have hgk : fds[k]? = some fd := by
        rw [← hfd, List.getD_eq_getElem?_getD, List.getElem?_eq_getElem (by rw [HL.out]; omega)]
        rfl
      have hbd := HF.out fd (List.mem_of_getElem? hgk)
      rw [hfd] at hix
      clear hfd
      by_cases hz : 0 < fd
      · obtain ⟨j, rfl⟩ : ∃ j : Nat, fd = (j : Int) + 1 := ⟨(fd - 1).toNat, by omega⟩
        have HSuc := Lib.hid (cntL_succ hgk (by omega))
        have hcj := cell_of HB.out j (by rw [cntL_len]; omega)
        have hfj := HB.out.frozen j
        have hcb : 0 ≤ (cntL (fds.take k)).getD j 0 ∧ (cntL (fds.take k)).getD j 0 ≤ 8 := by
          rw [cntL_get _ (by omega)]
          have := List.count_le_length (a := (j : Int) + 1) (l := fds.take k)
          rw [List.length_take] at this
          omega
        obtain ⟨c, hc⟩ : ∃ c, (cntL (fds.take k)).getD j 0 = c := ⟨_, rfl⟩
        rw [hc] at hcj hcb HSuc
        have hw1 : wrap64 ((j : Int) + 1 - 1) = (j : Int) := by rw [← IntWalk.i64_left, IntKind.wrap_i64]; omega
        have hw2 : wrap64 (c + 1) = c + 1 := by rw [← IntWalk.i64_left, IntKind.wrap_i64]; omega
        clear hgk hc
        go_upto_region 7 with fail
        have ks : Keep (fun x => x = g1) wr (wr.setCell ⟨g1, j, none⟩ (.int .i64 (c + 1))) := (Keep.refl (fun x => x = g1) wr).setCell ⟨g1, j, none⟩ (.int .i64 (c + 1)) (fun _ => rfl)
        have HB6 := Lib.hid (show Blk (wr.setCell ⟨g1, j, none⟩ (.int .i64 (c + 1))) g1 186 (ints (cntL (fds.take (k + 1)))) by
          rw [HSuc.out, ints_set]
          exact HB.out.setCell j _)
        have HT6 := Lib.hid (HT.out.st H.out HB.out (by decide) (Nat.le_of_lt HG1.out) ks)
        have HX6 := Lib.hid (HX.out.keep ks (by have := HG1.out; omega))
        clear ks hcj hfj hw1 hw2 hix hbd hcb hz
        generalize wr.setCell ⟨g1, j, none⟩ (.int .i64 (c + 1)) = w6 at *
        go_wp2_with fail
        go_roundw
        case rel => exact ⟨k + 1, by omega, by go_num, HT6, HX6, HB6⟩
        case measure => simp [intOf]; omega
      · obtain rfl : fd = 0 := by omega
        have HZe := Lib.hid (cntL_zero hgk)
        clear hgk
        go_wp2_with fail
        go_roundw
        case rel => exact ⟨k + 1, by omega, by go_num, HT, HX, by rw [HZe.out]; exact HB⟩
        case measure => simp [intOf]; omega
    · obtain ⟨cn, hcn⟩ : ∃ cn, cntL fds = cn := ⟨_, rfl⟩
      have HB' := Lib.hid (show Blk wr g1 186 (ints cn) by
        have := HB.out
        rw [List.take_of_length_le (by rw [HL.out]; omega), hcn] at this
        exact this)
      have HCn := Lib.hid hcn
      unfold shareS at HS
      rw [hcn] at HS
      have HCl := Lib.hid (show cn.length = 12 by rw [← hcn]; exact cntL_len _)
      have HCb := Lib.hid (show ∀ f, f < 12 → 0 ≤ cn.getD f 0 ∧ cn.getD f 0 ≤ 8 from fun f hf => by
        rw [← hcn, cntL_get _ hf]
        have := List.count_le_length (a := (f : Int) + 1) (l := fds)
        rw [HL.out] at this
        omega)
      have HC12 := Lib.hid (cellsI HCl.out)
      clear hcn HB
      go_upto_region 10 with (first
        | (refine flatF12.wpList_al rfl rfl ?_; intro w7 hb7 hk7 hs7; clear hs7; have hx7 := HX.out.nob hk7)
        | (refine flatA8.wpList_ld rfl rfl rfl HC8.out hx7 ?_))
      have HF7 := Lib.hid (show Blk w7 wr.heap.size 187 (rows (filL S cn (fds.take 0))) from hb7)
      have HX7 := Lib.hid hx7
      have HB7 := Lib.hid (HB'.out.nob hk7)
      have T7 := Lib.hid (HT.out.nob hk7)
      have HG2 := Lib.hid (show g1 < wr.heap.size from HB'.out.lt)
      generalize wr.heap.size = g2 at *
      clear hb7 hx7 hk7
      go_loopw [29] (fun s29 wx => ∃ k : Nat, k ≤ 8 ∧ s29 = .int .i64 k ∧ Hid (Kt F n w K C src S wx) ∧ Hid (Blk wx w.heap.size 35 (ints fds)) ∧ Hid (Blk wx g1 186 (ints cn)) ∧ Hid (Blk wx g2 187 (rows (filL S cn (fds.take k)))) ∧ Hid (scan S cn (fds.drop k) = scan S cn fds)) (fun s29 _ => 8 - (intOf s29).toNat)
      case atStart => exact ⟨0, Nat.zero_le _, rfl, T7, HX7, HB7, HF7, Lib.hid rfl⟩
      case round =>
        obtain ⟨k, hk, rfl, HT, HX, HB, HFl, HSc⟩ := hrel
        by_cases hlt : (k : Int) < 8
        · have hix := fun W => Cd.index8 fds HL.out k (by omega) W
          obtain ⟨fd, hfd⟩ : ∃ fd, fds.getD k 0 = fd := ⟨_, rfl⟩
          have hgk : fds[k]? = some fd := by
            rw [← hfd, List.getD_eq_getElem?_getD, List.getElem?_eq_getElem (by rw [HL.out]; omega)]
            rfl
          have hbd := HF.out fd (List.mem_of_getElem? hgk)
          have hdr : fds.drop k = fd :: fds.drop (k + 1) := by
            have hk' : k < fds.length := by rw [HL.out]; omega
            rw [List.drop_eq_getElem_cons hk']
            congr 1
            rw [List.getElem?_eq_getElem hk'] at hgk
            simpa using hgk
          rw [hdr] at HSc
          rw [scan_cons] at HSc
          rw [hfd] at hix
          clear hfd hdr
          by_cases hz : fd = 0
          · subst hz
            rw [if_pos rfl] at HSc
            have HFl2 := Lib.hid (show Blk wr g2 187 (rows (filL S cn (fds.take (k + 1)))) by rw [filL_zero hgk]; exact HFl.out)
            clear hgk hbd
            go_wp2_with fail
            go_roundw
            case rel => exact ⟨k + 1, by omega, by go_num, HT, HX, HB, HFl2, HSc⟩
            case measure => simp [intOf]; omega
          · obtain ⟨j, rfl⟩ : ∃ j : Nat, fd = (j : Int) + 1 := ⟨(fd - 1).toNat, by omega⟩
            rw [if_neg hz, show (j : Int) + 1 - 1 = (j : Int) by omega, Int.toNat_natCast] at HSc
            have HSuc := Lib.hid (filL_succ (S := S) (cn := cn) hgk (by omega))
            obtain ⟨v, d, hv⟩ : ∃ v d, S.f (j : Int) = (v, d) := ⟨_, _, rfl⟩
            have hvl : v.length = 4 := by
              obtain ⟨ys, hst, _⟩ := HT.out
              exact lenF hst hv
            have HGood := Lib.hid (show d = 1 → Fi.okd v = true from fun e => by
              obtain ⟨ys, hst, _⟩ := HT.out
              exact goodF hst (by rw [hv, e]))
            rw [hv] at HSc
            dsimp only at HSc
            have hnew : newF S cn j = [v.getD 0 0, v.getD 1 0, v.getD 2 0 + cn.getD j 0, v.getD 3 0] := by unfold newF; rw [hv]
            rw [hnew] at HSuc
            have HCall := Lib.hid (fun W K' (hK : Ks F n W K' C src S) => sfile_is hK (j : Int) (by unfold Cd.Wf; omega) v d hv)
            have HCv := Lib.hid (cellsI hvl)
            have HZ4 := Lib.hid (cellsI (n := 4) (l := Fi.noP) rfl)
            have hw1 : wrap64 ((j : Int) + 1 - 1) = (j : Int) := by rw [← IntWalk.i64_left, IntKind.wrap_i64]; omega
            have HJ := Lib.hid (show j < 12 by omega)
            have hsz := HT.out.kp.size
            clear hgk hnew hv
            go_wp2_with fail
            refine (HT.out.go (HCall.out _)).mono ?_; rintro e w8 ⟨rfl, T8, kp8⟩
            have HX8 := Lib.hid (kp8.lb H.out HX.out (Nat.le_refl _))
            have HB8 := Lib.hid (kp8.lb H.out HB.out (Nat.le_of_lt HG1.out))
            have HF8 := Lib.hid (kp8.lb H.out HFl.out (by have := HG1.out; have := HG2.out; omega))
            have HT8 := Lib.hid T8
            have hsz8 := T8.kp.size
            clear T8 kp8 hix hbd
            go_upto_region 14 with (first
              | (refine flatF.wpList_al rfl rfl ?_; intro w9 hb9 hk9 hs9; clear hs9)
              | (refine flatF.wpList_st rfl rfl rfl rfl HCv.out HZ4.out hb9 ?_; intro w10 hb10 hk10 hs10; clear hs10))
            have HT10 := Lib.hid ((HT8.out.nob hk9).st H.out hb9 (by decide) hsz8 hk10)
            have HX10 := Lib.hid ((HX8.out.nob hk9).keep hk10 (by have := HX8.out.lt; omega))
            have HB10 := Lib.hid ((HB8.out.nob hk9).keep hk10 (by have := HB8.out.lt; omega))
            have HF10 := Lib.hid ((HF8.out.nob hk9).keep hk10 (by have := HF8.out.lt; omega))
            have HY10 := Lib.hid hb10
            have HG3 := Lib.hid (show g1 < w8.heap.size ∧ g2 < w8.heap.size ∧ w.heap.size < w8.heap.size from ⟨HB8.out.lt, HF8.out.lt, HX8.out.lt⟩)
            generalize w8.heap.size = g3 at *
            clear hb9 hk9 hb10 hk10
            by_cases hd : d = 1
            · subst hd
              rw [if_neg (by decide)] at HSc
              obtain ⟨a0, a1, a2, a3, rfl⟩ := Fi.split4 hvl
              have hin := Fi_in (HGood.out rfl)
              have hcb := HCb.out j HJ.out
              simp only [List.getD_cons_zero, List.getD_cons_succ] at HSc HSuc
              have hc2 : w10.cell? ⟨g3, 2, none⟩ = some (.int .i64 a2) := HY10.out.cell 2
              have hf2 := HY10.out.frozen 2
              have hcj := cell_of HB10.out j (by rw [HCl.out]; exact HJ.out)
              obtain ⟨c, hc⟩ : ∃ c, cn.getD j 0 = c := ⟨_, rfl⟩
              rw [hc] at hcj hcb HSc HSuc
              obtain ⟨r2, hr2⟩ : ∃ r2, a2 + c = r2 := ⟨_, rfl⟩
              have hw2 : wrap64 (a2 + c) = r2 := by rw [← IntWalk.i64_left, IntKind.wrap_i64]; omega
              have hw3 : IntKind.i64.wrap (a2 + c) = r2 := by rw [IntKind.wrap_i64]; omega
              have hj12 : (j : Int) < 12 := by have := HJ.out; omega
              rw [hr2] at HSc HSuc
              obtain ⟨cv, hcv⟩ : ∃ cv, ints [a0, a1, a2, a3] = cv := ⟨_, rfl⟩
              rw [hcv] at HCv HY10 HCall
              have HCv2 := Lib.hid hcv
              clear hc hr2 hcv
              go_upto_region 16 with fail
              go_region
              have ks : Keep (fun x => x = g3) w10 (w10.setCell ⟨g3, 2, none⟩ (.int .i64 r2)).drew := ((Keep.refl (fun x => x = g3) w10).setCell ⟨g3, 2, none⟩ (.int .i64 r2) (fun _ => rfl)).trans (Keep.nobdrew _) (fun _ _ f => f.elim)
              have hb11 : Blk (w10.setCell ⟨g3, 2, none⟩ (.int .i64 r2)).drew g3 64 (ints [a0, a1, r2, a3]) := by
                have e : ints [a0, a1, r2, a3] = cv.set 2 (.int .i64 r2) := by rw [← HCv2.out]; rfl
                rw [e]
                exact (HY10.out.setCell 2 (.int .i64 r2)).drew
              have HT11 := Lib.hid (HT10.out.st H.out HY10.out (by decide) hsz8 ks)
              have HX11 := Lib.hid (HX10.out.keep ks (by have := HG3.out; omega))
              have HB11 := Lib.hid (HB10.out.keep ks (by have := HG3.out; omega))
              have HF11 := Lib.hid (HF10.out.keep ks (by have := HG3.out; omega))
              clear ks hc2 hf2 hcj hw1 hw2 hw3 hin hcb
              generalize (w10.setCell ⟨g3, 2, none⟩ (.int .i64 r2)).drew = w11 at *
              have q2 : w11.cell? ⟨g3, 2, none⟩ = some (.int .i64 r2) := hb11.cell 2
              have HY11 := Lib.hid hb11
              have HC11 := Lib.hid (cellsI (n := 4) (l := [a0, a1, r2, a3]) rfl)
              clear hb11
              by_cases hr : 64 < r2
              · rw [if_pos hr] at HSc
                have HE := Lib.hid (show S = S' ∧ 123 = E by
                  have := HS.out
                  rw [← HSc.out, if_neg (by decide)] at this
                  simpa using this)
                obtain ⟨rfl, rfl⟩ := HE.out
                go_wp2_with fail
                go_ret
                exact ⟨rfl, HT11.out⟩
              · rw [if_neg hr] at HSc
                obtain ⟨c11, hc11⟩ : ∃ c11, ints [a0, a1, r2, a3] = c11 := ⟨_, rfl⟩
                have HRs := Lib.hid (rows_set (m := 4) (x := [a0, a1, r2, a3]) rfl (l := filL S cn (fds.take k)) (j := j) (filL_four _ _ _) (by rw [filL_len]; exact HJ.out))
                have HRl := Lib.hid (show (rows (filL S cn (fds.take k))).length = 48 by
                  have h1 := filL_four S cn (fds.take k)
                  have h2 := filL_len S cn (fds.take k)
                  unfold rows
                  rw [List.length_flatten, List.map_map]
                  rw [show List.map (List.length ∘ ints) (filL S cn (fds.take k)) = List.replicate 12 4 by
                    rw [← h2]
                    refine List.eq_replicate_iff.2 ⟨by simp, fun y hy => ?_⟩
                    obtain ⟨x, hx, rfl⟩ := List.mem_map.1 hy
                    simp [ints, h1 x hx]]
                  rfl)
                rw [hc11] at HRs HY11 HC11
                have HC11e := Lib.hid hc11
                have hw1 : wrap64 ((j : Int) + 1 - 1) = (j : Int) := by rw [← IntWalk.i64_left, IntKind.wrap_i64]; omega
                clear hc11
                generalize rows (filL S cn (fds.take k)) = rw0 at *
                go_wp2_with (first
                  | (refine flatF.wpList_ld rfl rfl rfl HC11.out HY11.out ?_)
                  | (refine flatF.wpList_stm (g := g2) (off := j * 4) (e := 187) (old := rw0) rfl rfl (by rfl) (by rfl) HC11.out HF11.out (by have := HRl.out; have := HJ.out; omega) ?_; intro w12 hb12 hk12 hs12; clear hs12; have HK12 := Lib.hid hk12; have HB12 := Lib.hid hb12; clear hb12 hk12))
                have HT13 := Lib.hid (HT11.out.st H.out HF11.out (by decide) (by have := HG1.out; have := HG2.out; omega) HK12.out)
                have HX13 := Lib.hid (HX11.out.keep HK12.out (by have := HG1.out; have := HG2.out; omega))
                have HB13 := Lib.hid (HB11.out.keep HK12.out (by have := HG2.out; omega))
                have HF13 := Lib.hid (show Blk w12 g2 187 (rows (filL S cn (fds.take (k + 1)))) by
                  rw [HSuc.out, HRs.out]
                  exact HB12.out)
                go_roundw
                case rel => exact ⟨k + 1, by omega, by go_num, HT13, HX13, HB13, HF13, HSc⟩
                case measure => simp [intOf]; omega
            · rw [if_pos hd] at HSc
              have HE := Lib.hid (show S = S' ∧ 105 = E by
                have := HS.out
                rw [← HSc.out, if_neg (by decide)] at this
                simpa using this)
              obtain ⟨rfl, rfl⟩ := HE.out
              go_wp2_with fail
              go_ret
              exact ⟨rfl, HT10.out⟩
        · have HE := Lib.hid (show shS S cn 12 = S' ∧ 0 = E by
            have h0 := HSc.out
            rw [List.drop_of_length_le (by rw [HL.out]; omega)] at h0
            have h1 : scan S cn fds = 0 := h0.symm
            have := HS.out
            rw [h1, if_pos rfl] at this
            simpa using this)
          have HAll := Lib.hid (scan_all (S := S) (cn := cn) (l := fds) (by
            have h0 := HSc.out
            rw [List.drop_of_length_le (by rw [HL.out]; omega)] at h0
            exact h0.symm))
          have HFl' := Lib.hid (show Blk wr g2 187 (rows (filL S cn fds)) by
            have := HFl.out
            rw [List.take_of_length_le (by rw [HL.out]; omega)] at this
            exact this)
          have HMem := Lib.hid (show ∀ f : Nat, f < 12 → 0 < cn.getD f 0 → ((f : Int) + 1) ∈ fds from fun f hf hp => by
            rw [← HCn.out, cntL_get _ hf] at hp
            exact List.count_pos_iff.1 (by omega))
          have HOk := Lib.hid (show ∀ f : Nat, f < 12 → 0 < cn.getD f 0 → (S.f (f : Int)).2 = 1 ∧ Fi.okd (newF S cn f) = true from fun f hf hp => by
            obtain ⟨h1, h2⟩ := HAll.out _ (HMem.out f hf hp) (by omega)
            rw [show (f : Int) + 1 - 1 = (f : Int) by omega] at h1 h2
            rw [Int.toNat_natCast] at h2
            refine ⟨h1, ?_⟩
            obtain ⟨ys, hst, _⟩ := HT.out
            have hv : S.f (f : Int) = ((S.f (f : Int)).1, 1) := by rw [← h1]
            have hgd := goodF hst hv
            have hl4 := lenF hst hv
            unfold newF
            generalize (S.f (f : Int)).1 = v at *
            obtain ⟨a0, a1, a2, a3, rfl⟩ := Fi.split4 hl4
            simp only [List.getD_cons_zero, List.getD_cons_succ] at h2 ⊢
            rw [Fi.okd_doc] at hgd ⊢
            simp only [Bool.and_eq_true] at hgd ⊢
            obtain ⟨h0, h3, h4, h5, h6⟩ := hgd
            have := Fi.inn_out h5
            have := (HCb.out f hf).1
            exact ⟨h0, h3, h4, decide_eq_true (by omega), h6⟩)
          go_upto_region 22 with (refine flatA12.wpList_ld rfl rfl rfl HC12.out HB.out ?_)
          have HT0 := Lib.hid (show Kt F n w K C src (shS S cn 0) wr from HT.out)
          go_loopw [60] (fun s60 wx => ∃ k : Nat, k ≤ 12 ∧ s60 = .int .i64 k ∧ Hid (Kt F n w K C src (shS S cn k) wx) ∧ Hid (Blk wx g2 187 (rows (filL S cn fds)))) (fun s60 _ => 12 - (intOf s60).toNat)
          case atStart => exact ⟨0, Nat.zero_le _, rfl, HT0, HFl'⟩
          case round =>
            obtain ⟨k, hk, rfl, HT, HFl⟩ := hrel
            by_cases hlt : (k : Int) < 12
            · have hix := fun W => index12 cn HCl.out k (by omega) W
              have hok := HOk.out k (by omega)
              have hSh : shS S cn (k + 1) = if 0 < cn.getD k 0 then (shS S cn k).setF k (newF S cn k) else shS S cn k := rfl
              have HSh := Lib.hid hSh
              have hcb := HCb.out k (by omega)
              obtain ⟨c, hc⟩ : ∃ c, cn.getD k 0 = c := ⟨_, rfl⟩
              have hgt := filL_get S cn fds (f := k) (by omega)
              have hmm := HMem.out k (by omega)
              rw [hc] at hix hok HSh hcb hmm
              clear hc hSh
              by_cases hp : 0 < c
              · obtain ⟨h1, h2⟩ := hok hp
                rw [if_pos (hmm hp)] at hgt
                rw [if_pos hp] at HSh
                have hrng : wr.rangeAt g2 (k * 4) (ints (newF S cn k)) := fun q v hv => by
                  have hq : q < 4 := by
                    have := (List.getElem?_eq_some_iff.1 hv).1
                    simpa [ints, newF] using this
                  rw [HFl.out.cell, rows_get (filL_four S cn fds) hgt hq]
                  exact hv
                have hset := fun K' (hK : Ks F n wr K' C src (shS S cn k)) => ssetFile_is hK (k : Int) (by unfold Cd.Wf; omega) (newF S cn k) rfl true (by rw [shS_far S cn k k (by omega), h1, h2]; rfl)
                have HRg := Lib.hid hrng
                have HSet := Lib.hid hset
                have HIl := Lib.hid (show (ints (newF S cn k)).length = 4 from rfl)
                have hp' : (0 : Int) < c := hp
                clear hok hgt hmm h1 h2 hrng hset hcb
                generalize newF S cn k = nf at *
                go_wp2_with (refine wpList_load_midG (by rfl) 64 _ rfl g2 (k * 4) rfl (ints nf) _ HRg.out Tryz.underlying64 rfl (by rw [HIl.out]; exact flatF.i) ?_)
                refine (HT.out.go HSet.out).mono ?_; rintro e w14 ⟨rfl, T14, kp14⟩
                have HT14 := Lib.hid (show Kt F n w K C src (shS S cn (k + 1)) w14 by rw [HSh.out]; exact T14)
                have HF14 := Lib.hid (kp14.lb H.out HFl.out (by have := HG1.out; have := HG2.out; omega))
                clear T14 kp14
                go_wp2_with fail
                go_roundw
                case rel => exact ⟨k + 1, by omega, by go_num, HT14, HF14⟩
                case measure => simp [intOf]; omega
              · rw [if_neg hp] at HSh
                obtain rfl : c = 0 := by omega
                have HT14 := Lib.hid (show Kt F n w K C src (shS S cn (k + 1)) wr by rw [HSh.out]; exact HT.out)
                clear hok hgt hmm
                go_wp2_with fail
                go_roundw
                case rel => exact ⟨k + 1, by omega, by go_num, HT14, HFl⟩
                case measure => simp [intOf]; omega
            · have HTe := Lib.hid (show Kt F n w K C src S' wr by
                obtain rfl : k = 12 := by omega
                rw [← HE.out.1]
                exact HT.out)
              obtain rfl := HE.out.2
              go_wp2_with fail
              go_ret
              exact ⟨rfl, HTe.out⟩
end
end Go.Proofs.YtgcikpgcoemfnaaGreat.Pr
namespace Go.Proofs.YtgcikpgcoemfnaaGreat.Pr
open Go.RowKit Co
set_option linter.unusedVariables false
set_option linter.unusedSimpArgs false
theorem enter_fork1 : ∀ args w, (callFunc 35 args).run Tryz.prog w = .ok (.enter 35 args) w := fun args w => by kernel_rfl
/-- A process' child. -/
def childV (v : List Int) (i : Int) : List Int := (v.set 1 (i + 1)).set 4 0
def forkS (S : Stt) (i : Int) : Stt × (Int × Int) :=
  if (selfR (S.p i).1 (S.p i).2).2 = 0 then
    (match (pk S freeS 8) with
    | [] => (S, 0, 111)
    | x :: _ =>
      if (shareS S ((S.p i).1.drop 8)).2 = 0 then
        (if (decide (((shareS S ((S.p i).1.drop 8)).1.p (x.getD 0 0)).2 ≠ 2) && Cd.okd (childV (S.p i).1 i)) then ((shareS S ((S.p i).1.drop 8)).1.setP (x.getD 0 0) (childV (S.p i).1 i), x.getD 0 0, 0) else ((shareS S ((S.p i).1.drop 8)).1, 0, 105))
      else ((shareS S ((S.p i).1.drop 8)).1, 0, (shareS S ((S.p i).1.drop 8)).2))
  else (S, 0, 105)
section
variable {F : List UInt8 → Prop} {n : Nat} {w w' w1 : World} {K : Kn} {C : Cm} {src : Src} {S S' S2 : Stt}
set_option maxRecDepth 100000 in
set_option maxHeartbeats 4000000 in
theorem fork_is (h : Ks F n w K C src S) (i : Int) (hi : -9223372036854775808 ≤ i ∧ i + 1 ≤ 9223372036854775807) (S' : Stt) (N E : Int) (hs : forkS S i = (S', N, E)) :
    Calls Tryz.prog 11 #[.pointer (some ⟨C.p, 0, none⟩), .int .i64 i] w fun e w' => e = .returned (.agg (rv N E false).toArray) ∧ Kt F n w K C src S' w' := by
  obtain ⟨v, d, hv⟩ : ∃ v d, S.p i = (v, d) := ⟨_, _, rfl⟩
  obtain ⟨R, er, hr⟩ : ∃ R er, selfR v d = (R, er) := ⟨_, _, rfl⟩
  have hvl := len16 h.s hv
  have hrl : R.length = 16 := by
    rcases selfR_er v d with ⟨_, _, e⟩ | e
    · rw [e] at hr; obtain ⟨rfl, _⟩ := Prod.mk.inj hr; exact hvl
    · rw [e] at hr; obtain ⟨rfl, _⟩ := Prod.mk.inj hr; rfl
  have her : (er = 0 ∧ R = v ∧ Cd.okd v = true) ∨ er = 105 := by
    rcases selfR_er v d with ⟨_, hd, e⟩ | e
    · rw [e] at hr
      obtain ⟨e1, e2⟩ := Prod.mk.inj hr
      exact .inl ⟨e2.symm, e1.symm, goodP h.s (show S.p i = (v, 1) by rw [hv, hd])⟩
    · rw [e] at hr; exact .inr (Prod.mk.inj hr).2.symm
  have hwi : Cd.Wf i := by unfold Cd.Wf; omega
  have HSelf := Lib.hid (fun W K' (hK : Ks F n W K' C src S) => self_is hK i hwi v d hv R er hr)
  have HP := Lib.hid (show ∀ x ∈ pk S freeS 8, x.length = 18 ∧ ∃ k : Nat, k < 8 ∧ x.getD 0 0 = (k : Int) from fun x hx => by
    obtain ⟨k, hk, rfl, hp⟩ := mem_pk hx
    exact ⟨by simp [slS, len16 h.s (show S.p (k : Int) = ((S.p k).1, (S.p k).2) from rfl)], k, hk, rfl⟩)
  have hlen := pk_len S freeS 8
  have H := Lib.hid h
  unfold forkS at hs
  rw [hv] at hs
  dsimp only at hs
  rw [hr] at hs
  dsimp only at hs
  have HS := Lib.hid hs
  have HI := Lib.hid (show -9223372036854775808 ≤ i + 1 ∧ i + 1 ≤ 9223372036854775807 by omega)
  have HCR := Lib.hid (cellsI hrl)
  have HZ2 := Lib.hid (cellsI (n := 16) (l := Cd.noP) rfl)
  have HV0 := Lib.hid (cellsV 0 0 false)
  obtain ⟨l, hl⟩ : ∃ l, pk S freeS 8 = l := ⟨_, rfl⟩
  rw [hl] at HP HS hlen
  have HLd := Lib.hid hl
  obtain ⟨ln, hln⟩ : ∃ ln, l.length = ln := ⟨_, rfl⟩
  have HLn := Lib.hid hln
  rw [hln] at hlen
  clear h hi hs hv hr hrl hl hln hwi
  go_enter Tryz.func11, Tryz.ntmps11
  go_wp2_with (refine flatV.wpList_al rfl rfl ?_; intro w1 hb1 hk1 hs1; clear hs1)
  have T1 := H.out.still hk1
  refine (T1.go (HSelf.out _)).mono ?_; rintro e w2 ⟨rfl, T2, kp2⟩
  have HB2 := Lib.hid (kp2.lb H.out hb1 (Nat.le_refl _))
  have HT2 := Lib.hid T2
  have hsz := T2.kp.size
  clear T1 T2 kp2 hb1 hk1
  go_upto_region 2 with (first
    | (refine flatP.wpList_al rfl rfl ?_; intro w3 hb3 hk3 hs3; clear hs3)
    | (refine flatP.wpList_st rfl rfl rfl rfl HCR.out HZ2.out hb3 ?_; intro w4 hb4 hk4 hs4; clear hs4))
  have T4 := Lib.hid ((HT2.out.nob hk3).st H.out hb3 (by decide) hsz hk4)
  have HB4 := Lib.hid ((HB2.out.nob hk3).keep hk4 (by have := HB2.out.lt; omega))
  have HX4 := Lib.hid hb4
  have hg5 : w.heap.size < w2.heap.size := HB2.out.lt
  generalize w2.heap.size = g5 at *
  clear hb3 hk3 hb4 hk4 HT2 HB2
  rcases her with ⟨rfl, rfl, hokv⟩ | rfl
  · rw [if_pos rfl] at HS
    have HWv := Lib.hid (wf_okd hvl hokv)
    have HFd := Lib.hid (Cd.okd_bounds hokv).f
    have HVl := Lib.hid hvl
    clear hokv hvl
    go_wp2_with fail
    have hc := T4.out.go (fun K' hK => pick_is hK 35 #[] freeS enter_fork1 (fun W x hx kp => fork1_is x hx W))
    rw [HLd.out, HLn.out] at hc
    refine hc.mono ?_; rintro e w5 ⟨⟨A, cap, rfl, hm⟩, T5, kp5⟩
    have hV5 := hm.1
    rw [HLn.out] at hV5
    have HV5 := Lib.hid hV5
    have HO := Lib.hid (show ∀ x, Own A x → w.heap.size ≤ x from fun x m => Nat.le_trans T4.out.kp.size (hm.2 x m))
    have HT5 := Lib.hid T5
    have HB5 := Lib.hid (kp5.lb H.out HB4.out (Nat.le_refl _))
    have HX5 := Lib.hid (kp5.lb H.out HX4.out hsz)
    clear hm T5 hc kp5 hV5
    cases l with
    | nil =>
      obtain rfl : ln = 0 := HLn.out.symm
      obtain ⟨rfl, rfl, rfl⟩ : S = S' ∧ 0 = N ∧ 111 = E := by simpa using HS.out
      go_wp2_with (refine flatV.wpList_st rfl rfl rfl rfl (cellsV 0 111 false) HV0.out HB5.out ?_; intro w6 hb6 hk6 hs6; clear hs6)
      refine bodyPost_ret (v := .agg (rv 0 111 false).toArray) (flatV.results_one rfl _ (cellsV 0 111 false) rfl hb6) rfl ?_
      exact ⟨rfl, HT5.out.st H.out HB5.out (by decide) (Nat.le_refl _) hk6⟩
    | cons x l =>
      have hln0 : 0 < ln := by rw [← HLn.out]; simp
      obtain ⟨hxl, k, hk, hxk⟩ := HP.out x (by simp)
      have hs := HS.out
      dsimp only at hs
      rw [hxk] at hs
      obtain ⟨fds, hfds⟩ : ∃ fds, R.drop 8 = fds := ⟨_, rfl⟩
      have hfl : fds.length = 8 := by rw [← hfds, List.length_drop, HVl.out]
      rw [hfds] at hs HFd
      have hrng := blk_range HX5.out 8 8
      rw [show ((ints R).drop 8).take 8 = ints fds by rw [← hfds]; unfold ints; rw [List.map_drop, List.take_of_length_le]; simp [HVl.out]] at hrng
      have HRg := Lib.hid hrng
      have HIl := Lib.hid (show (ints fds).length = 8 by simp [ints, hfl])
      obtain ⟨S1, e1, hsh⟩ : ∃ S1 e1, shareS S fds = (S1, e1) := ⟨_, _, rfl⟩
      rw [hsh] at hs
      dsimp only at hs
      have HSh := Lib.hid (fun W K' (hK : Ks F n W K' C src S) => share_is hK fds hfl HFd.out S1 e1 hsh)
      obtain ⟨b, off, hA, hm⟩ := rows_mid (m := 18) (n := ln) (fun y hy => (HP.out y hy).1) (by decide) HV5.out.reads (k := 0) (x := x) (by simp) hln0
      have HM := Lib.hid (show ∀ W, Vec W 94 18 A ln cap (rows (x :: l)) → W.cell? ⟨b, off, none⟩ = some (.int .i64 (k : Int)) from fun W hv => by
        obtain ⟨b2, off2, hA2, hm2⟩ := rows_mid (m := 18) (n := ln) (fun y hy => (HP.out y hy).1) (by decide) hv.reads (k := 0) (x := x) (by simp) hln0
        rw [hA] at hA2
        simp only [Option.some.injEq, Addr.mk.injEq, and_true] at hA2
        obtain ⟨rfl, rfl⟩ := hA2
        have := hm2 0 (.int .i64 (k : Int)) (by
          rw [← hxk, ints_get, List.getD_eq_getElem?_getD, List.getElem?_eq_getElem (by omega)]
          rfl)
        simpa using this)
      have HSt := Lib.hid hs
      subst hA
      have hln1 : ((ln : Int) == 0) = false := by simp; omega
      have hln2 : (0 : Int) < (ln : Int) := by omega
      clear hm hxk hs hfds hrng hfl hsh
      go_wp2_with (refine wpList_load_mid rfl 35 _ rfl g5 8 rfl (ints fds) _ HRg.out Tryz.underlying35 rfl (by rw [HIl.out]; exact flatA8.i) ?_)
      refine (HT5.out.go (HSh.out _)).mono ?_; rintro e w6 ⟨rfl, T6, kp6⟩
      have HT6 := Lib.hid T6
      have HB6 := Lib.hid (kp6.lb H.out HB5.out (Nat.le_refl _))
      have HX6 := Lib.hid (kp6.lb H.out HX5.out hsz)
      have HV6 := Lib.hid (kp6.vec H.out HV5.out HO.out)
      clear T6 kp6
      by_cases he : e1 = 0
      · subst he
        rw [if_pos rfl] at HSt
        have hk0 := HM.out w6 HV6.out
        have q1 := cell_of HX6.out 1 (by rw [HVl.out]; decide)
        have q4 := cell_of HX6.out 4 (by rw [HVl.out]; decide)
        have f1 := HX6.out.frozen 1
        have f4 := HX6.out.frozen 4
        obtain ⟨y1, hy1⟩ : ∃ y, R.getD 1 0 = y := ⟨_, rfl⟩
        obtain ⟨y4, hy4⟩ : ∃ y, R.getD 4 0 = y := ⟨_, rfl⟩
        rw [hy1] at q1
        rw [hy4] at q4
        have hi1 := HI.out
        obtain ⟨i1, hi1e⟩ : ∃ i1, i + 1 = i1 := ⟨_, rfl⟩
        have hw1 : wrap64 (i + 1) = i1 := by rw [← IntWalk.i64_left, IntKind.wrap_i64]; omega
        have HI1 := Lib.hid hi1e
        clear hy1 hy4 hi1 hi1e
        go_upto_region 12 with fail
        have ks : Keep (fun x => x = g5) w6 ((w6.setCell ⟨g5, 1, none⟩ (.int .i64 i1)).setCell ⟨g5, 4, none⟩ (.int .i64 0)) := ((Keep.refl (fun x => x = g5) w6).setCell ⟨g5, 1, none⟩ (.int .i64 i1) (fun _ => rfl)).setCell ⟨g5, 4, none⟩ (.int .i64 0) (fun _ => rfl)
        have hx7 : Blk ((w6.setCell ⟨g5, 1, none⟩ (.int .i64 i1)).setCell ⟨g5, 4, none⟩ (.int .i64 0)) g5 37 (ints (childV R i)) := by
          unfold childV
          rw [HI1.out, ints_set, ints_set]
          exact (HX6.out.setCell 1 _).setCell 4 _
        have HX7 := Lib.hid hx7
        have HT7 := Lib.hid (HT6.out.st H.out HX6.out (by decide) hsz ks)
        have HB7 := Lib.hid (HB6.out.keep ks (by omega))
        clear q1 q4 f1 f4 ks hw1 hx7 hk0
        generalize (w6.setCell ⟨g5, 1, none⟩ (.int .i64 i1)).setCell ⟨g5, 4, none⟩ (.int .i64 0) = w7 at *
        have hcl : (childV R i).length = 16 := by unfold childV; rw [List.length_set, List.length_set]; exact HVl.out
        have HCc := Lib.hid (cellsI hcl)
        obtain ⟨ok, hok⟩ : ∃ ok, (decide ((S1.p (k : Int)).2 ≠ 2) && Cd.okd (childV R i)) = ok := ⟨_, rfl⟩
        rw [hok] at HSt
        have HSet := Lib.hid (fun W K' (hK : Ks F n W K' C src S1) => ssetProc_is hK (k : Int) (by unfold Cd.Wf; omega) (childV R i) hcl (wf_set (wf_set HWv.out 1 HI.out) 4 wf_0) ok hok)
        clear hok hcl
        generalize childV R i = u at *
        go_wp2_with (refine flatP.wpList_ld rfl rfl rfl HCc.out HX7.out ?_)
        refine (HT7.out.go (HSet.out _)).mono ?_; rintro e w8 ⟨rfl, T8, kp8⟩
        have HB8 := Lib.hid (kp8.lb H.out HB7.out (Nat.le_refl _))
        have HT8 := Lib.hid T8
        clear T8 kp8
        cases ok with
        | true =>
          obtain ⟨rfl, rfl, rfl⟩ : S1.setP k u = S' ∧ (k : Int) = N ∧ 0 = E := by simpa using HSt.out
          have HVr := Lib.hid (cellsV (k : Int) 0 false)
          have HT8' := Lib.hid (show Kt F n w K C src (S1.setP k u) w8 from HT8.out)
          go_wp2_with (refine flatV.wpList_st rfl rfl rfl rfl HVr.out HV0.out HB8.out ?_; intro w9 hb9 hk9 hs9; clear hs9)
          refine bodyPost_ret (v := .agg (rv (k : Int) 0 false).toArray) (flatV.results_one rfl _ HVr.out rfl hb9) rfl ?_
          exact ⟨rfl, HT8'.out.st H.out HB8.out (by decide) (Nat.le_refl _) hk9⟩
        | false =>
          obtain ⟨rfl, rfl, rfl⟩ : S1 = S' ∧ 0 = N ∧ 105 = E := by simpa using HSt.out
          have HT8' := Lib.hid (show Kt F n w K C src S1 w8 from HT8.out)
          go_wp2_with (refine flatV.wpList_st rfl rfl rfl rfl (cellsV 0 105 false) HV0.out HB8.out ?_; intro w9 hb9 hk9 hs9; clear hs9)
          refine bodyPost_ret (v := .agg (rv 0 105 false).toArray) (flatV.results_one rfl _ (cellsV 0 105 false) rfl hb9) rfl ?_
          exact ⟨rfl, HT8'.out.st H.out HB8.out (by decide) (Nat.le_refl _) hk9⟩
      · rw [if_neg he] at HSt
        obtain ⟨rfl, rfl, rfl⟩ : S1 = S' ∧ 0 = N ∧ e1 = E := by simpa using HSt.out
        have HVr := Lib.hid (cellsV 0 e1 false)
        have he2 : (e1 != 0) = true := bne_iff_ne.2 he
        go_wp2_with (refine flatV.wpList_st rfl rfl rfl rfl HVr.out HV0.out HB6.out ?_; intro w7 hb7 hk7 hs7; clear hs7)
        refine bodyPost_ret (v := .agg (rv 0 e1 false).toArray) (flatV.results_one rfl _ HVr.out rfl hb7) rfl ?_
        exact ⟨rfl, HT6.out.st H.out HB6.out (by decide) (Nat.le_refl _) hk7⟩
  · rw [if_neg (by decide)] at HS
    obtain ⟨rfl, rfl, rfl⟩ : S = S' ∧ 0 = N ∧ 105 = E := by simpa using HS.out
    go_wp2_with (refine flatV.wpList_st rfl rfl rfl rfl (cellsV 0 105 false) HV0.out HB4.out ?_; intro w5 hb5 hk5 hs5; clear hs5)
    refine bodyPost_ret (v := .agg (rv 0 105 false).toArray) (flatV.results_one rfl _ (cellsV 0 105 false) rfl hb5) rfl ?_
    exact ⟨rfl, T4.out.st H.out HB4.out (by decide) (Nat.le_refl _) hk5⟩
end
end Go.Proofs.YtgcikpgcoemfnaaGreat.Pr
