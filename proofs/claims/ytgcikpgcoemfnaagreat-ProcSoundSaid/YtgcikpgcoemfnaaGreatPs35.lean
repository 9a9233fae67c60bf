import Derived.Great.BuildSlice
import Derived.Test.YtgcikpgcoemfnaaGreatPs31
set_option maxRecDepth 100000
set_option maxHeartbeats 8000000
set_option linter.unusedVariables false
set_option linter.unusedSimpArgs false
namespace Go.Proofs.YtgcikpgcoemfnaaGreat.Pr
open Go.RowKit Co
def rows (l : List (List Int)) : List Value := (l.map ab).flatten
theorem fD (l : List (List Int)) (x : List Int) : rows (l ++ [x]) = rows l ++ ab x := by simp [rows]
theorem iX {l : List (List Int)} {m : Nat} (hW : ∀ x ∈ l, x.length = m) {k j : Nat} {x : List Int} (h : l[k]? = some x) (hj : j < m) : (rows l)[k * m + j]? = (ab x)[j]? := by
 have hW' : ∀ c ∈ l.map ab, c.length = m := fun c hc => by
  obtain ⟨x, hx, rfl⟩ := List.mem_map.1 hc
  simp [ab, hW x hx]
 have := aE (l.map ab) hW' k j hj
 rw [List.getElem?_map, h] at this
 exact this
theorem aZ {m n : Nat} {l : List (List Int)} {w : World} {A : Option Addr} (hW : ∀ x ∈ l, x.length = m) (h0 : 0 < m) (hx : ae w A (n * m) (rows l)) {k : Nat} {x : List Int} (h : l[k]? = some x) (hn : k < n) :
  ∃ b off, A = some ⟨b, off, none⟩ ∧ ∀ j v, (ab x)[j]? = some v → w.cell? ⟨b, off + k * m + j, none⟩ = some v := by
 obtain ⟨b, off, hA, hcl⟩ := hx.lit (Nat.mul_pos (by omega) h0)
 refine ⟨b, off, hA, fun j v hv => ?_⟩
 have hj : j < m := by
  have := (List.getElem?_eq_some_iff.1 hv).1
  simpa [ab, hW x (List.mem_of_getElem? h)] using this
 rw [Nat.add_assoc]
 exact hcl (k * m + j) v (by rw [iX hW h hj]; exact hv)
def slS (S : Stt) (i : Int) : List Int := i :: (S.p i).2 :: (S.p i).1
def pk (S : Stt) (p : List Int → Bool) (k : Nat) : List (List Int) := (mk k (fun i => slS S i)).filter p
theorem pk_zero (S : Stt) (p : List Int → Bool) : pk S p 0 = [] := rfl
theorem pk_succ (S : Stt) (p : List Int → Bool) (k : Nat) : pk S p (k + 1) = pk S p k ++ (if p (slS S k) then [slS S k] else []) := by
 unfold pk
 rw [← dE, List.filter_append]
 congr 1
 simp [List.filter_cons]
theorem pk_len (S : Stt) (p : List Int → Bool) (k : Nat) : (pk S p k).length ≤ k := by
 refine Nat.le_trans (List.length_filter_le _ _) ?_
 simp [mk]
theorem bs_slot (cs : List Value) (h : cs.length = 18) (W : World) : (Instr.buildSlice 91 1 #[(0, .agg cs.toArray)]).run Tryz.prog W = .ok (.slice (some ⟨W.heap.size, 0, none⟩) 1 1) (W.alloc (.cells cs.toArray 94)) := by
 match cs, h with
 | a0 :: a1 :: a2 :: a3 :: a4 :: a5 :: a6 :: a7 :: a8 :: a9 :: a10 :: a11 :: a12 :: a13 :: a14 :: a15 :: a16 :: a17 :: [], _ => go_simp
theorem infF_slot : (Tryz.prog.info? 94).map (fun i => (i.zero, i.size, i.bytes)) = some (some (.agg (ab (List.replicate 18 0)).toArray), 18, 144) := by kernel_rfl
section
variable {ops : Array Oper} {rest : List Oper} {o : Oper} {a : Act} {Q : Exit → Act → World → Prop} {w : World}
theorem dL (hgd : o.guard = none) (t e : TypeId) (x : Operand) (ho : o.op = .buildSlice t 1 #[(0, x)]) (cs : List Value) (hx : a.eval x = .agg cs.toArray) (hrun : (Instr.buildSlice t 1 #[(0, .agg cs.toArray)]).run Tryz.prog w = .ok (.slice (some ⟨w.heap.size, 0, none⟩) 1 1) (w.alloc (.cells cs.toArray e)))
  (h : ∀ w', Blk w' w.heap.size e cs → Keep Nob w w' → w'.heap.size = w.heap.size + 1 → wpList Tryz.prog ops Q rest (a.put o.dst (.slice (some ⟨w.heap.size, 0, none⟩) 1 1)) w') : wpList Tryz.prog ops Q (o :: rest) a w := by
 refine wpList_plain hgd fun K hK => ?_
 have hh := h _ (Blk.new w e cs) ((Keep.refl Nob w).alloc _) (by simp)
 unfold Oper.wp
 simp [execOp, ho, hx, hrun, Result.andThen]
 exact hK _ _ hh
end
section
variable {F : List UInt8 → Prop} {n : Nat} {w w' w1 : World} {K : Kn} {C : Cm} {src : Src} {S S' S2 : Stt}
def fJ (w w' : World) (l : List (List Int)) (A : Option Addr) (cap : Nat) : Prop := Vec w' 94 18 A l.length cap (rows l) ∧ ∀ x, Own A x → w.heap.size ≤ x
theorem jU (h : Ks F n w K C src S) (fn : FuncId) (caps : Array Value) (p : List Int → Bool) (hfn : ∀ args w, (callFunc fn args).run Tryz.prog w = .ok (.enter fn args) w)
  (hf : ∀ W x, x.length = 18 → Kp K C w W → Calls Tryz.prog fn (#[.agg (ab x).toArray] ++ caps) W fun e w' => e = .returned (.bool (p x)) ∧ Keep Nob W w') :
  Calls Tryz.prog 34 #[.pointer (some ⟨C.p, 0, none⟩), .func (.func fn) #[] caps] w fun e w' => (∃ A cap, e = .returned (.slice A (pk S p 8).length cap) ∧ fJ w w' (pk S p 8) A cap) ∧ Kt F n w K C src S w' := by
 have HAt := aa (fun W K' (k : Nat) (hk8 : k < 8) (hk : Ks F n W K' C src S) => at_is hk (k : Int) (by unfold Cd.Wf; omega) _ _ (show S.p (k : Int) = ((S.p (k : Int)).1, (S.p (k : Int)).2) from rfl))
 have HLn := aa (fun k : Int => show (slS S k).length = 18 by simp [slS, eu h.s (show S.p k = ((S.p k).1, (S.p k).2) from rfl)])
 have H := aa h
 have HT0 := aa (h.still (Keep.refl Nob w))
 have HF := aa hf
 have HFn := aa hfn
 have HZ := aa (ai (n := 18) (l := List.replicate 18 0) rfl)
 have HS := aa (fun k => pk_succ S p k)
 have HPl := aa (fun k => pk_len S p k)
 have HP0 := aa (pk_zero S p)
 have HAt2 : Hid (∀ W K' (k : Nat), k < 8 → Ks F n W K' C src S → Calls Tryz.prog 40 #[.pointer (some ⟨C.p, 0, none⟩), .int .i64 (k : Int)] W fun e w' => e = .returned (.agg (ab (slS S (k : Int))).toArray) ∧ Kt F n W K' C src S w') := aa HAt.out
 clear h hf HAt hfn
 generalize slS S = sl at *
 generalize pk S p = P at *
 go_enter Tryz.func34, Tryz.ntmps34
 go_wp2_with fail
 go_loopw [5, 8] (fun s5 s8 wx => ∃ (k : Nat) (A : Option Addr) (cap : Nat), k ≤ 8 ∧ s8 = .int .i64 k ∧ s5 = .slice A (P k).length cap ∧ Vec wx 94 18 A (P k).length cap (rows (P k)) ∧ Hid ((∀ x, Own A x → w.heap.size ≤ x) ∧ Kt F n w K C src S wx)) (fun _ s8 _ => 8 - (intOf s8).toNat)
 case atStart => exact ⟨0, none, 0, Nat.zero_le _, rfl, by rw [HP0.out]; rfl, by rw [HP0.out]; exact Vec.nil _ _ _, aa ⟨fun x ⟨a, e, _⟩ => (by cases e), HT0.out⟩⟩
 case round =>
  obtain ⟨k, A, cap, hk, rfl, rfl, hV, HT⟩ := hrel
  by_cases hlt : (k : Int) < 8
  ·obtain ⟨x, hx⟩ : ∃ x, sl (k : Int) = x := ⟨_, rfl⟩
   have hcall := HT.out.2.go (fun K' hK => HAt2.out wr K' k (by omega) hK)
   have hxl := HLn.out (k : Int)
   have hs := HS.out k
   have hpl := HPl.out k
   rw [hx] at hcall hxl hs
   have HXl := aa hxl
   have HSk := aa hs
   have HV := aa hV
   have HCx := aa (ai hxl)
   clear hV hs hxl hx
   go_wp2_with fail
   refine hcall.mono ?_; rintro e w1 ⟨rfl, T1, kp1⟩
   have HV1 := aa (kp1.vec H.out HV.out HT.out.1)
   have HT1 := aa T1
   have hsz := Nat.le_trans HT.out.2.kp.size kp1.size
   clear hcall T1 kp1 HV
   go_upto_region 6 with (first
    | (refine cI.wpList_al rfl rfl ?_; intro w2 hb2 hk2 hs2; clear hs2)
    | (refine cI.wpList_st rfl rfl rfl rfl HCx.out HZ.out hb2 ?_; intro w3 hb3 hk3 hs3; clear hs3))
   have T3 := (HT1.out.nob hk2).st H.out hb2 (by decide) hsz hk3
   have HV3 := aa ((HV1.out.nob hk2).keep hk3 (fun y hy e => by
    have := HV1.out.lt y hy
    omega))
   have hcl := HF.out w3 x HXl.out T3.kp
   have HT3 := aa T3
   have HB3 := aa hb3
   clear hb2 hk2 hk3 hb3 T3
   go_wp2_with (refine cI.wpList_ld rfl rfl rfl HCx.out HB3.out ?_)
   rw [HFn.out, Oper.upon_enter]
   refine hcl.mono ?_; rintro e w4 ⟨rfl, k4⟩
   have HT4 := aa (HT3.out.nob k4)
   have HV4 := aa (HV3.out.nob k4)
   have HB4 := aa (HB3.out.nob k4)
   clear hcl k4
   obtain ⟨v, hv⟩ : ∃ v, p x = v := ⟨_, rfl⟩
   rw [hv]
   rw [hv] at HSk
   cases v with
   | true =>
    have hth : P (k + 1) = P k ++ [x] := HSk.out
    have HTh := aa hth
    have hln : (P k ++ [x]).length = (P k).length + 1 := by rw [List.length_append]; rfl
    have HLn2 := aa hln
    clear hth hln
    obtain ⟨cs, hcs⟩ : ∃ cs, ab x = cs := ⟨_, rfl⟩
    have hbs := fun W => bs_slot cs (by rw [← hcs]; exact HCx.out.len) W
    rw [hcs] at HCx HB4
    have HCS := aa hcs
    have HBS := aa hbs
    clear hcs hbs
    go_wp2_with (refine cI.wpList_ld rfl rfl rfl HCx.out HB4.out ?_; refine dL rfl _ 94 _ rfl cs rfl (HBS.out w4) ?_; intro w5 hb5 hk5 hs5; refine aN rfl _ _ 91 rfl 94 18 144 _ Tryz.underlying91 infF_slot rfl (by decide) A (P k).length cap _ rfl (HV4.out.nob hk5) (some ⟨w4.heap.size, 0, none⟩) 1 1 cs rfl 18 rfl (aj hb5 (by rw [HCx.out.len])) HCx.out.one (by unfold maxLen; omega) (by omega) ?_; intro A2 c2 w6 hv6 hk6 ho6)
    rw [← HCS.out] at hv6
    have T6 := aa ((HT4.out.nob hk5).loc H.out hk6 (fun b hb => by
     obtain ⟨cs, hc⟩ := (HV4.out.nob hk5).blk hb
     exact ⟨HT.out.1 b hb, _, _, hc, by decide⟩))
    have HFr := aa (show ∀ x, Own A2 x → w.heap.size ≤ x from fun x m => by
     rcases ho6 x m with m | m
     ·exact HT.out.1 x m
     ·have := HT4.out.kp.size
      have := hk5.size
      omega)
    clear hb5 hk5 hs5 hk6 ho6
    go_roundw
    case rel => exact ⟨k + 1, A2, c2, by omega, by go_num, by rw [HTh.out, HLn2.out], by rw [HTh.out, HLn2.out, fD]; exact hv6, aa ⟨HFr.out, T6.out⟩⟩
    case measure => simp [intOf]; omega
   | false =>
    have hth : P (k + 1) = P k := by rw [HSk.out]; simp
    have HTh := aa hth
    clear hth
    go_wp2_with fail
    go_roundw
    case rel => exact ⟨k + 1, A, cap, by omega, by go_num, by rw [HTh.out], by rw [HTh.out]; exact HV4.out, aa ⟨HT.out.1, HT4.out⟩⟩
    case measure => simp [intOf]; omega
  ·obtain rfl : k = 8 := by omega
   have HFin := aa (And.intro hV HT.out)
   clear hV HT
   go_wp2
   go_ret
   exact ⟨⟨A, cap, rfl, ⟨HFin.out.1, HFin.out.2.1⟩⟩, HFin.out.2.2⟩
end
end Go.Proofs.YtgcikpgcoemfnaaGreat.Pr
namespace Go.Proofs.YtgcikpgcoemfnaaGreat.Pr
open Go.RowKit Co
theorem jc {p : List Int} (h : p.length = 18) : ∃ i d v, p = i :: d :: v ∧ v.length = 16 := by
 match p, h with
 | i :: d :: v, h => exact ⟨i, d, v, rfl, by simpa using h⟩
def iC (x : List Int) : Bool := x.getD 1 0 == 0
def dr (i : Int) (x : List Int) : Bool := x.getD 1 0 == 1 && x.getD 3 0 == i + 1
def dk (x : List Int) : Bool := x.getD 2 0 == 2
def da (i : Int) (x : List Int) : Bool := x.getD 0 0 != i && dr i x
def actS (x : List Int) : Bool := x.getD 1 0 == 1 && x.getD 2 0 != 2
def cy (g : Int) (x : List Int) : Bool := actS x && x.getD 4 0 == g
section
variable {w : World}
theorem fork1_is (x : List Int) (hl : x.length = 18) (w : World) : Calls Tryz.prog 35 #[.agg (ab x).toArray] w fun e w' => e = .returned (.bool (iC x)) ∧ Keep Nob w w' := by
 obtain ⟨i, d, v, rfl, hv⟩ := jc hl
 have h1 : (ab (i :: d :: v))[1]? = some (.int .i64 d) := rfl
 have e : iC (i :: d :: v) = (d == 0) := rfl
 rw [e]
 generalize ab (i :: d :: v) = cs at *
 clear e
 go_enter Tryz.func35, Tryz.ntmps35
 go_wp2_with (refine af rfl 94 _ rfl cs.toArray rfl ?_; intro w1 hb k1 hs; clear hs; have c1 : w1.cell? ⟨w.heap.size, 1, none⟩ = some (.int .i64 d) := (hb.cell 1).trans h1; have K1 := aa k1; clear hb k1)
 go_ret
 exact ⟨rfl, K1.out⟩
theorem wait2_is (x : List Int) (hl : x.length = 18) (w : World) : Calls Tryz.prog 49 #[.agg (ab x).toArray] w fun e w' => e = .returned (.bool (dk x)) ∧ Keep Nob w w' := by
 obtain ⟨i, d, v, rfl, hv⟩ := jc hl
 have h2 : (ab (i :: d :: v))[2]? = some (.int .i64 (v.getD 0 0)) := by
  obtain ⟨a0, a1, a2, a3, a4, a5, a6, a7, f0, f1, f2, f3, f4, f5, f6, f7, rfl⟩ := Cd.aD hv
  rfl
 have e : dk (i :: d :: v) = (v.getD 0 0 == 2) := by unfold dk; rfl
 rw [e]
 generalize v.getD 0 0 = s at *
 generalize ab (i :: d :: v) = cs at *
 clear e hl
 go_enter Tryz.func49, Tryz.ntmps49
 go_wp2_with (refine af rfl 94 _ rfl cs.toArray rfl ?_; intro w1 hb k1 hs; clear hs; have c1 : w1.cell? ⟨w.heap.size, 2, none⟩ = some (.int .i64 s) := (hb.cell 2).trans h2; have K1 := aa k1; clear hb k1)
 go_ret
 exact ⟨rfl, K1.out⟩
theorem chS (i d j : Int) (v : List Int) : dr j (i :: d :: v) = chB v d j := rfl
theorem wait1_is {q : Nat} (j : Int) (hj : -9223372036854775808 ≤ j + 1 ∧ j + 1 ≤ 9223372036854775807) (hc : w.cell? ⟨q, 0, none⟩ = some (.int .i64 j)) (x : List Int) (hl : x.length = 18) :
  Calls Tryz.prog 46 #[.agg (ab x).toArray, .pointer (some ⟨q, 0, none⟩)] w fun e w' => e = .returned (.bool (dr j x)) ∧ Keep Nob w w' := by
 obtain ⟨i, d, v, rfl, hv⟩ := jc hl
 have HC := aa (ai hl)
 have HCall := aa (fun W => kF i d j hj v hv _ rfl W)
 rw [chS]
 generalize chB v d j = r at *
 generalize ab (i :: d :: v) = cs at *
 clear hl hv hj
 go_enter Tryz.func46, Tryz.ntmps46
 go_wp2_with (first
  | (refine af rfl 94 _ rfl cs.toArray rfl ?_; intro w1 hb k1 hs; clear hs; have c1 := k1.cell_nob hc; have K1 := aa k1; clear k1)
  | (refine cI.wpList_ld rfl rfl rfl HC.out hb ?_))
 refine (HCall.out _).mono ?_; rintro e w2 ⟨rfl, k2⟩
 have K2 := aa (K1.out.nobt k2)
 clear k2
 go_wp2
 go_ret
 exact ⟨rfl, K2.out⟩
theorem orphan1_is {q : Nat} (j : Int) (hj : -9223372036854775808 ≤ j + 1 ∧ j + 1 ≤ 9223372036854775807) (hc : w.cell? ⟨q, 0, none⟩ = some (.int .i64 j)) (x : List Int) (hl : x.length = 18) :
  Calls Tryz.prog 104 #[.agg (ab x).toArray, .pointer (some ⟨q, 0, none⟩)] w fun e w' => e = .returned (.bool (da j x)) ∧ Keep Nob w w' := by
 obtain ⟨i, d, v, rfl, hv⟩ := jc hl
 have h0 : (ab (i :: d :: v))[0]? = some (.int .i64 i) := rfl
 have HC := aa (ai hl)
 have HCall := aa (fun W => kF i d j hj v hv _ rfl W)
 have e : da j (i :: d :: v) = (i != j && chB v d j) := rfl
 rw [e]
 generalize chB v d j = r at *
 generalize ab (i :: d :: v) = cs at *
 clear hl hv hj e
 by_cases hij : i = j
 ·rw [show (i != j && r) = false by rw [hij]; simp]
  go_enter Tryz.func104, Tryz.ntmps104
  go_wp2_with (refine af rfl 94 _ rfl cs.toArray rfl ?_; intro w1 hb k1 hs; clear hs; have c0 : w1.cell? ⟨w.heap.size, 0, none⟩ = some (.int .i64 i) := (hb.cell 0).trans h0; have c1 := k1.cell_nob hc; have K1 := aa k1; clear k1)
  go_ret
  exact ⟨rfl, K1.out⟩
 ·rw [show (i != j && r) = r by rw [bne_iff_ne.2 hij]; rfl]
  have hij : (i != j) = true := bne_iff_ne.2 hij
  go_enter Tryz.func104, Tryz.ntmps104
  go_wp2_with (first
   | (refine af rfl 94 _ rfl cs.toArray rfl ?_; intro w1 hb k1 hs; clear hs; have c0 : w1.cell? ⟨w.heap.size, 0, none⟩ = some (.int .i64 i) := (hb.cell 0).trans h0; have c1 := k1.cell_nob hc; have K1 := aa k1; clear k1)
   | (refine cI.wpList_ldG (by rfl) rfl rfl HC.out hb ?_))
  refine (HCall.out _).mono ?_; rintro e w2 ⟨rfl, k2⟩
  have K2 := aa (K1.out.nobt k2)
  clear k2
  go_wp2
  go_ret
  exact ⟨rfl, K2.out⟩
theorem members1_is {q : Nat} (g : Int) (hc : w.cell? ⟨q, 0, none⟩ = some (.int .i64 g)) (x : List Int) (hl : x.length = 18) :
  Calls Tryz.prog 139 #[.agg (ab x).toArray, .pointer (some ⟨q, 0, none⟩)] w fun e w' => e = .returned (.bool (cy g x)) ∧ Keep Nob w w' := by
 obtain ⟨i, d, v, rfl, hv⟩ := jc hl
 have h4 : (ab (i :: d :: v))[4]? = some (.int .i64 (v.getD 2 0)) := by
  obtain ⟨a0, a1, a2, a3, a4, a5, a6, a7, f0, f1, f2, f3, f4, f5, f6, f7, rfl⟩ := Cd.aD hv
  rfl
 have HC := aa (ai hl)
 have HCall := aa (fun W => acts_is i d v hv _ rfl W)
 have e : cy g (i :: d :: v) = (actB v d && v.getD 2 0 == g) := rfl
 rw [e]
 generalize actB v d = r at *
 generalize v.getD 2 0 = s at *
 generalize ab (i :: d :: v) = cs at *
 clear hl hv e
 go_enter Tryz.func139, Tryz.ntmps139
 go_wp2_with (first
  | (refine af rfl 94 _ rfl cs.toArray rfl ?_; intro w1 hb k1 hs; clear hs; have c1 := k1.cell_nob hc; have c4 : w1.cell? ⟨w.heap.size, 4, none⟩ = some (.int .i64 s) := (hb.cell 4).trans h4; have K1 := aa k1; clear k1)
  | (refine cI.wpList_ld rfl rfl rfl HC.out hb ?_))
 refine (HCall.out _).mono ?_; rintro e w2 ⟨rfl, k2⟩
 have c12 := k2.cell_nob c1
 have c42 := k2.cell_nob c4
 have K2 := aa (K1.out.nobt k2)
 clear k2 c1 c4 hb
 cases r with
 | true =>
  go_wp2
  go_ret
  exact ⟨by simp, K2.out⟩
 | false =>
  go_wp2
  go_ret
  exact ⟨rfl, K2.out⟩
end
end Go.Proofs.YtgcikpgcoemfnaaGreat.Pr
namespace Go.Proofs.YtgcikpgcoemfnaaGreat.Pr
open Go.RowKit Co
theorem cD {α : Type} {p : α → Bool} {l : List α} {k : Nat} {x : α} (h : l[k]? = some x) (hk : (l.take k).any p = false) (hp : p x = false) : (l.take (k + 1)).any p = false := by
 rw [List.take_add_one, h, List.any_append, hk]
 simpa using hp
def Ended (l : List (List Int)) (k : Int) : Prop := (k = -1 ∧ l.any dk = false) ∨ (∃ (m : Nat) (x : List Int), k = m ∧ l[m]? = some x ∧ dk x = true ∧ (l.take m).any dk = false)
theorem ixS_is {w : World} (A : Option Addr) (n c : Nat) (l : List (List Int)) (hl : l.length = n) (hw : ∀ x ∈ l, x.length = 18) (hx : ae w A (n * 18) (rows l)) (hn : n ≤ 1000) :
  Calls Tryz.prog 48 #[.slice A n c, .func (.func 49) #[] #[]] w fun e w' => ∃ k : Int, e = .returned (.int .i64 k) ∧ Ended l k ∧ Keep Nob w w' := by
 have HW := aa hw
 have HX := aa hx
 have HL := aa hl
 have hz := ik
 have HZ := aa hz
 clear hx hl hw hz
 go_enter Tryz.func48, Tryz.ntmps48
 go_wp2_with fail
 go_loopw [8] (fun s8 wx => ∃ k : Nat, k ≤ n ∧ s8 = .int .i64 k ∧ Keep Nob w wx ∧ Hid ((l.take k).any dk = false)) (fun s8 _ => n - (intOf s8).toNat)
 case atStart => exact ⟨0, Nat.zero_le _, rfl, Keep.refl _ _, aa rfl⟩
 case round =>
  obtain ⟨k, hk, rfl, hK, HA⟩ := hrel
  by_cases hlt : k < n
  ·obtain ⟨x, hx⟩ : ∃ x, l[k]? = some x := ⟨_, List.getElem?_eq_getElem (by rw [HL.out]; exact hlt)⟩
   obtain ⟨b, off, hA, hm⟩ := aZ HW.out (by decide) (HX.out.nob hK) hx hlt
   have hxm := List.mem_of_getElem? hx
   have hwx := HW.out x hxm
   have hcall := wait2_is x hwx wr
   have HX' := aa hx
   have HM := aa hm
   have HWX := aa (show (ab x).length = 18 by simp [ab, hwx])
   obtain ⟨cs, hcs⟩ : ∃ cs, ab x = cs := ⟨_, rfl⟩
   rw [hcs] at hcall HM HWX
   obtain ⟨v, hv⟩ : ∃ v, dk x = v := ⟨_, rfl⟩
   rw [hv] at hcall
   have HV := aa hv
   subst hA
   clear hx hxm hm hwx hcs hv
   go_wp2_with (refine wpList_load_mid rfl 94 _ rfl b (off + k * 18) rfl cs _ HM.out Tryz.underlying94 rfl (by rw [HWX.out]; exact HZ.out) ?_)
   refine hcall.mono ?_; rintro e w1 ⟨rfl, k1⟩
   have hK2 := hK.nobt k1
   clear hcall k1
   cases v with
   | true =>
    have HRes := aa (show Ended l (k : Int) from .inr ⟨k, x, rfl, HX'.out, HV.out, HA.out⟩)
    go_wp2
    go_ret
    exact ⟨_, rfl, HRes.out, hK2⟩
   | false =>
    have HA2 := aa (cD HX'.out HA.out HV.out)
    go_wp2_with fail
    go_roundw
    case rel => exact ⟨k + 1, by omega, by go_num, hK2, HA2⟩
    case measure => simp [intOf]; omega
  ·have hkn : k = n := by omega
   have HRes := aa (show Ended l (-1) from .inl ⟨rfl, by
    have := HA.out
    rw [List.take_of_length_le (by rw [HL.out]; omega)] at this
    exact this⟩)
   go_wp2
   go_ret
   exact ⟨_, rfl, HRes.out, hK⟩
section
variable {F : List UInt8 → Prop} {n : Nat} {w w' w1 : World} {K : Kn} {C : Cm} {src : Src} {S S' S2 : Stt}
theorem fJ.pre {l : List (List Int)} {A : Option Addr} {cap : Nat} (hs : w.heap.size ≤ w1.heap.size) (m : fJ w1 w' l A cap) : fJ w w' l A cap := ⟨m.1, fun x hx => Nat.le_trans hs (m.2 x hx)⟩
theorem kt : ∀ args w, (callFunc 139 args).run Tryz.prog w = .ok (.enter 139 args) w := fun args w => by kernel_rfl
theorem ij (h : Ks F n w K C src S) (g : Int) :
  Calls Tryz.prog 70 #[.pointer (some ⟨C.p, 0, none⟩), .int .i64 g] w fun e w' => (∃ A cap, e = .returned (.slice A (pk S (cy g) 8).length cap) ∧ fJ w w' (pk S (cy g) 8) A cap) ∧ Kt F n w K C src S w' := by
 have H := aa h
 clear h
 go_enter Tryz.func70, Tryz.ntmps70
 go_wp2_with fail
 have hb1 := Blk.new w 3 [.int .i64 g]
 have k1 := (Keep.refl Nob w).alloc (.cells #[.int .i64 g] 3)
 generalize w.alloc (.cells #[.int .i64 g] 3) = w1 at *
 have T1 := H.out.still k1
 have hc := T1.goK (fun K' hK kk => jU hK 139 #[.pointer (some ⟨w.heap.size, 0, none⟩)] (cy g) kt (fun W x hx kp => members1_is g (((kk W kp).lb H.out hb1 (Nat.le_refl _)).cell 0) x hx))
 clear hb1 T1
 have K1 := aa k1
 clear k1
 refine hc.mono ?_; rintro e w2 ⟨⟨A, cap, rfl, hm⟩, T2, _⟩
 have HM := aa (And.intro hm T2)
 clear hm T2 hc
 go_wp2
 go_ret
 exact ⟨⟨A, cap, rfl, HM.out.1.pre K1.out.size⟩, HM.out.2⟩
end
end Go.Proofs.YtgcikpgcoemfnaaGreat.Pr
namespace Go.Proofs.YtgcikpgcoemfnaaGreat.Pr
open Go.RowKit Co
def fx (s : Stt) (x : List Int) : Stt :=
 if x.getD 2 0 = 2 then (if decide ((s.p (x.getD 0 0)).2 ≠ 2) then s.frP (x.getD 0 0) else s)
 else (if decide ((s.p (x.getD 0 0)).2 ≠ 2) && Cd.okd ((x.drop 2).set 1 0) then s.setP (x.getD 0 0) ((x.drop 2).set 1 0) else s)
theorem kJ (s : Stt) (j d : Int) {v : List Int} (h : v.length = 16) : fx s (j :: d :: v) =
  if v.getD 0 0 = 2 then (if decide ((s.p j).2 ≠ 2) then s.frP j else s) else (if decide ((s.p j).2 ≠ 2) && Cd.okd (v.set 1 0) then s.setP j (v.set 1 0) else s) := by
 obtain ⟨a0, a1, a2, a3, a4, a5, a6, a7, f0, f1, f2, f3, f4, f5, f6, f7, rfl⟩ := Cd.aD h
 rfl
def et (S : Stt) (i : Int) : Stt := (pk S (da i) 8).foldl fx S
theorem orph_succ (S : Stt) {l : List (List Int)} {k : Nat} {x : List Int} (h : l[k]? = some x) : (l.take (k + 1)).foldl fx S = fx ((l.take k).foldl fx S) x := by
 rw [List.take_add_one, h, List.foldl_append]
 rfl
theorem ir {S : Stt} {p : List Int → Bool} {x : List Int} (h : x ∈ pk S p 8) : ∃ k : Nat, k < 8 ∧ x = slS S k ∧ p x = true := by
 unfold pk at h
 obtain ⟨h1, h2⟩ := List.mem_filter.1 h
 unfold mk at h1
 obtain ⟨k, hk, rfl⟩ := List.mem_map.1 h1
 exact ⟨k, List.mem_range.1 hk, rfl, h2⟩
theorem lK : ∀ args w, (callFunc 104 args).run Tryz.prog w = .ok (.enter 104 args) w := fun args w => by kernel_rfl
theorem fp {l : List Int} (h : ∀ x ∈ l, Cd.Wf x) (k : Nat) {a : Int} (ha : Cd.Wf a) : ∀ x ∈ l.set k a, Cd.Wf x := fun x hx => by
 rcases List.mem_or_eq_of_mem_set hx with hx | rfl
 ·exact h x hx
 ·exact ha
theorem wf_0 : Cd.Wf 0 := by unfold Cd.Wf; decide
section
variable {F : List UInt8 → Prop} {n : Nat} {w w' w1 : World} {K : Kn} {C : Cm} {src : Src} {S S' S2 : Stt}
theorem orphan_is (h : Ks F n w K C src S) (i : Int) (hi : -9223372036854775808 ≤ i + 1 ∧ i + 1 ≤ 9223372036854775807) (S' : Stt) (hs : et S i = S') :
  Calls Tryz.prog 39 #[.pointer (some ⟨C.p, 0, none⟩), .int .i64 i] w fun e w' => e = .returned (.tuple #[]) ∧ Kt F n w K C src S' w' := by
 have HP := aa (show ∀ x ∈ pk S (da i) 8, ∃ (j d : Int) (v : List Int), x = j :: d :: v ∧ v.length = 16 ∧ Cd.Wf j ∧ ∀ y ∈ v, Cd.Wf y from fun x hx => by
  obtain ⟨k, hk, rfl, hp⟩ := ir hx
  have hd : (S.p k).2 = 1 := by
   have : ((slS S k).getD 1 0 == 1) = true := by
    unfold da dr at hp
    simp only [Bool.and_eq_true] at hp
    exact hp.2.1
   simpa [slS] using this
  have hgd := goodP h.s (show S.p (k : Int) = ((S.p k).1, 1) by rw [← hd])
  have hl := eu h.s (show S.p (k : Int) = ((S.p k).1, (S.p k).2) from rfl)
  exact ⟨(k : Int), _, _, rfl, hl, by unfold Cd.Wf; omega, il hl hgd⟩)
 have hlen := pk_len S (da i) 8
 have H := aa h
 have HI := aa hi
 unfold et at hs
 have HS := aa hs
 clear h hi hs
 obtain ⟨l, hl⟩ : ∃ l, pk S (da i) 8 = l := ⟨_, rfl⟩
 rw [hl] at HP HS hlen
 have HLen := aa hlen
 have HLd := aa hl
 clear hl
 go_enter Tryz.func39, Tryz.ntmps39
 go_wp2_with fail
 have hb1 := Blk.new w 3 [.int .i64 i]
 have k1 := (Keep.refl Nob w).alloc (.cells #[.int .i64 i] 3)
 generalize w.alloc (.cells #[.int .i64 i] 3) = w1 at *
 have T1 := H.out.still k1
 have hc := T1.goK (fun K' hK kk => jU hK 104 #[.pointer (some ⟨w.heap.size, 0, none⟩)] (da i) lK (fun W x hx kp => orphan1_is i HI.out (((kk W kp).lb H.out hb1 (Nat.le_refl _)).cell 0) x hx))
 rw [HLd.out] at hc
 have K1 := aa k1
 clear hb1 T1 k1
 refine hc.mono ?_; rintro e w2 ⟨⟨A, cap, rfl, hm⟩, T2, _⟩
 have HV2 := aa hm.1
 have HO := aa (show ∀ x, Own A x → w.heap.size ≤ x from fun x m => Nat.le_trans K1.out.size (hm.2 x m))
 have HT2 := aa T2
 have HW18 := aa (show ∀ x ∈ l, x.length = 18 from fun x hx => by
  obtain ⟨j, d, v, rfl, hv, _⟩ := HP.out x hx
  simp [hv])
 clear hm T2 hc
 go_wp2_with fail
 go_loopw [10] (fun s10 wx => ∃ k : Nat, k ≤ l.length ∧ s10 = .int .i64 k ∧ Hid (Kt F n w K C src ((l.take k).foldl fx S) wx) ∧ Hid (Vec wx 94 18 A l.length cap (rows l))) (fun s10 _ => l.length - (intOf s10).toNat)
 case atStart => exact ⟨0, Nat.zero_le _, rfl, HT2, HV2⟩
 case round =>
  obtain ⟨k, hk, rfl, HT, HV⟩ := hrel
  by_cases hlt : k < l.length
  ·obtain ⟨x, hx⟩ : ∃ x, l[k]? = some x := ⟨_, List.getElem?_eq_getElem hlt⟩
   obtain ⟨b, off, hA, hm⟩ := aZ HW18.out (by decide) HV.out.reads hx hlt
   obtain ⟨j, d, v, hxe, hvl, hj, hvw⟩ := HP.out x (List.mem_of_getElem? hx)
   have hno := orph_succ S hx
   rw [hxe, kJ _ _ _ hvl] at hno
   have HNx := aa hno
   have HM := aa hm
   have hxl : x.length = 18 := by rw [hxe]; simp [hvl]
   have HIl := aa (show (ab x).length = 18 by simp [ab, hxl])
   have HCx := aa (ai hxl)
   have HZ := aa (ai (n := 18) (l := List.replicate 18 0) rfl)
   have HJ := aa hj
   have HVw := aa hvw
   have HVl := aa hvl
   have c0 : (ab x)[0]? = some (.int .i64 j) := by rw [hxe]; rfl
   have c2 : (ab x)[2]? = some (.int .i64 (v.getD 0 0)) := by rw [hxe]; obtain ⟨a0, a1, a2, a3, a4, a5, a6, a7, f0, f1, f2, f3, f4, f5, f6, f7, rfl⟩ := Cd.aD hvl; rfl
   have c3 : ∃ y, (ab x)[3]? = some y := ⟨_, List.getElem?_eq_getElem (by simp [ab, hxl])⟩
   have e4 : (ab x).set 3 (.int .i64 0) = ab (j :: d :: v.set 1 0) := by rw [hxe]; obtain ⟨a0, a1, a2, a3, a4, a5, a6, a7, f0, f1, f2, f3, f4, f5, f6, f7, rfl⟩ := Cd.aD hvl; rfl
   obtain ⟨y3, c3⟩ := c3
   obtain ⟨st, hst⟩ : ∃ st, v.getD 0 0 = st := ⟨_, rfl⟩
   rw [hst] at HNx c2
   obtain ⟨cs, hcs⟩ : ∃ cs, ab x = cs := ⟨_, rfl⟩
   rw [hcs] at HM HIl HCx c0 c2 c3 e4
   have HE4 := aa e4
   have hsz := HT.out.kp.size
   subst hA
   clear hx hm hj hvw hvl hxe hxl e4 hst hcs hno
   go_upto_region 4 with (first
    | (refine wpList_load_mid rfl 94 _ rfl b (off + k * 18) rfl cs _ HM.out Tryz.underlying94 rfl (by rw [HIl.out]; exact ik) ?_)
    | (refine cI.wpList_al rfl rfl ?_; intro w3 hb3 hk3 hs3; clear hs3)
    | (refine cI.wpList_st rfl rfl rfl rfl HCx.out HZ.out hb3 ?_; intro w4 hb4 hk4 hs4; clear hs4))
   have T4 := aa ((HT.out.nob hk3).st H.out hb3 (by decide) hsz hk4)
   have HB4 := aa hb4
   have HV4 := aa ((HV.out.nob hk3).keep hk4 (fun y hy e => by
    have := HV.out.lt y hy
    omega))
   have HLt := aa HV.out.lt
   generalize wr.heap.size = g5 at *
   have q0 := (hb4.cell 0).trans c0
   have q2 := (hb4.cell 2).trans c2
   have q3 := (hb4.cell 3).trans c3
   have hf3 := hb4.frozen 3
   clear hk3 hb3 hk4 hb4 c0 c2 c3
   by_cases hz : st = 2
   ·obtain ⟨ok, hok⟩ : ∃ ok, decide ((((l.take k).foldl fx S).p j).2 ≠ 2) = ok := ⟨_, rfl⟩
    rw [if_pos hz, hok] at HNx
    have HFr := aa (fun K' (hK : Ks F n w4 K' C src ((l.take k).foldl fx S)) => fV hK j HJ.out ok hok)
    clear hok
    subst hz
    go_wp2_with fail
    refine (T4.out.go HFr.out).mono ?_; rintro e w5 ⟨rfl, T5, kp5⟩
    have HT5 := aa (show Kt F n w K C src ((l.take (k + 1)).foldl fx S) w5 by rw [HNx.out]; exact T5)
    have HV5 := aa (kp5.vec H.out HV4.out HO.out)
    clear T5 kp5 q0 q2 q3 hf3
    go_wp2_with fail
    go_roundw
    case rel => exact ⟨k + 1, by omega, by go_num, HT5, HV5⟩
    case measure => simp [intOf]; omega
   ·obtain ⟨ok, hok⟩ : ∃ ok, (decide ((((l.take k).foldl fx S).p j).2 ≠ 2) && Cd.okd (v.set 1 0)) = ok := ⟨_, rfl⟩
    rw [if_neg hz, hok] at HNx
    have hset := fun K' w6 (hK : Ks F n w6 K' C src ((l.take k).foldl fx S)) => bv hK j HJ.out (v.set 1 0) (by rw [List.length_set]; exact HVl.out) (fp HVw.out 1 wf_0) ok hok
    have HSet := aa hset
    have HCv := aa (ai (n := 16) (l := v.set 1 0) (by rw [List.length_set]; exact HVl.out))
    clear hok hset
    go_upto_region 7 with fail
    have HB6 := aa (show Blk (w4.setCell ⟨g5, 3, none⟩ (.int .i64 0)) g5 94 (ab (j :: d :: v.set 1 0)) by
     rw [← HE4.out]
     exact HB4.out.setCell 3 _)
    have ks := (Keep.refl (fun x => x = g5) w4).setCell ⟨g5, 3, none⟩ (.int .i64 0) (fun _ => rfl)
    have T6 := aa (T4.out.st H.out HB4.out (by decide) hsz ks)
    have HV6 := aa (HV4.out.keep ks (fun y hy e => by
     have := HLt.out y hy
     omega))
    clear q0 q2 q3 hf3 ks
    generalize w4.setCell ⟨g5, 3, none⟩ (.int .i64 0) = w6 at *
    have r0 := HB6.out.cell 0
    have hrng := du HB6.out 2 16
    rw [show ((ab (j :: d :: v.set 1 0)).drop 2).take 16 = ab (v.set 1 0) by
     have := HCv.out.len
     show (ab (v.set 1 0)).take 16 = _
     rw [List.take_of_length_le (by omega)]] at hrng
    have HRg := aa hrng
    have r0 : w6.cell? ⟨g5, 0, none⟩ = some (.int .i64 j) := r0
    clear hrng
    go_wp2_with (refine wpList_load_mid rfl 37 _ rfl g5 2 rfl (ab (v.set 1 0)) _ HRg.out Tryz.underlying37 rfl (by rw [HCv.out.len]; exact ar.i) ?_)
    refine (T6.out.go (fun K' hK => HSet.out K' w6 hK)).mono ?_; rintro e w7 ⟨rfl, T7, kp7⟩
    have HT7 := aa (show Kt F n w K C src ((l.take (k + 1)).foldl fx S) w7 by rw [HNx.out]; exact T7)
    have HV7 := aa (kp7.vec H.out HV6.out HO.out)
    clear T7 kp7 r0
    go_wp2_with fail
    go_roundw
    case rel => exact ⟨k + 1, by omega, by go_num, HT7, HV7⟩
    case measure => simp [intOf]; omega
  ·have HT8 := aa (show Kt F n w K C src S' wr by
    have := HT.out
    rw [List.take_of_length_le (by omega), HS.out] at this
    exact this)
   go_wp2
   refine bodyPost_end (results_none rfl _ _ _) rfl ?_
   exact ⟨rfl, HT8.out⟩
end
end Go.Proofs.YtgcikpgcoemfnaaGreat.Pr
namespace Go.Proofs.YtgcikpgcoemfnaaGreat.Pr
open Go.RowKit Co
def rv (N E : Int) (b : Bool) : List Value := [.int .i64 N, .int .i64 E, .slice none 0 0, .bool b]
theorem ak (N E : Int) (b : Bool) : cE 4 (rv N E b) := ⟨rfl, fun v hv => by
 unfold rv at hv
 simp only [List.mem_cons, List.not_mem_nil, or_false] at hv
 rcases hv with rfl | rfl | rfl | rfl <;> rfl⟩
theorem aq : cS 32 4 (rv 0 0 false) := ⟨⟨_, Tryz.underlying32, rfl⟩, by kernel_rfl, fun W => by go_simp; rfl, rfl⟩
theorem enter_wait1 : ∀ args w, (callFunc 46 args).run Tryz.prog w = .ok (.enter 46 args) w := fun args w => by kernel_rfl
def waitS (S : Stt) (i : Int) : Stt × (Int × Int × Bool) :=
 if (cH (S.p i).1 (S.p i).2).2 = 0 then
  (if (pk S (dr i) 8).length = 0 then (S, 0, 110, false) else
  match (pk S (dr i) 8).find? dk with
  | none => (S, 0, 0, true)
  | some z => (S.frP (z.getD 0 0), 256 * z.getD 0 0 + z.getD 5 0, 0, false))
 else (S, 0, 105, false)
theorem cG (v : List Int) (d : Int) : ((cH v d).2 = 0 ∧ d = 1 ∧ cH v d = (v, 0)) ∨ cH v d = (Cd.noP, 105) := by
 unfold cH
 split
 ·rename_i h; exact .inl ⟨rfl, h.1, rfl⟩
 ·exact .inr rfl
theorem rngS {F : List UInt8 → Prop} {n nb : Nat} {src : Src} {bad : List Rf} {xs : List UInt8} {S : Stt} (h : Sto F n src nb bad xs S) {i : Int} {v R : List Int} {d er : Int} (hv : S.p i = (v, d)) (hr : cH v d = (R, er)) (he : er = 0) : -9223372036854775808 ≤ i + 1 ∧ i + 1 ≤ 9223372036854775807 := by
 have hd : d = 1 := by
  rcases cG v d with ⟨_, hd, _⟩ | e
  ·exact hd
  ·rw [e] at hr
   have := (Prod.mk.inj hr).2
   omega
 have hp := h.p i
 rw [hv, hd] at hp
 obtain ⟨_, x, b, hw, _, _⟩ := live (by decide) hp (fun h => by cases h)
 by_cases hi : 0 ≤ i ∧ i < 8
 ·omega
 ·exfalso
  simp [aw] at hw
  omega
theorem find_ended {l : List (List Int)} {m : Nat} {x : List Int} (h1 : l[m]? = some x) (h2 : dk x = true) (h3 : (l.take m).any dk = false) : l.find? dk = some x := by
 induction l generalizing m with
 | nil => simp at h1
 | cons y l ih =>
  cases m with
  | zero =>
   simp only [List.getElem?_cons_zero, Option.some.injEq] at h1
   subst h1
   rw [List.find?_cons, h2]
  | succ m =>
   simp only [List.take_succ_cons, List.any_cons, Bool.or_eq_false_iff] at h3
   rw [List.find?_cons, h3.1]
   exact ih (by simpa using h1) h3.2
theorem find_none {l : List (List Int)} (h : l.any dk = false) : l.find? dk = none := by
 rw [List.find?_eq_none]
 intro x hx
 rw [List.any_eq_false] at h
 exact h x hx
section
variable {F : List UInt8 → Prop} {n : Nat} {w w' w1 : World} {K : Kn} {C : Cm} {src : Src} {S S' S2 : Stt}
theorem wait_all (h : Ks F n w K C src S) (i : Int) (hi : Cd.Wf i) (S' : Stt) (N E : Int) (bl : Bool) (hs : waitS S i = (S', N, E, bl)) :
  Calls Tryz.prog 14 #[.pointer (some ⟨C.p, 0, none⟩), .int .i64 i] w fun e w' => e = .returned (.agg (rv N E bl).toArray) ∧ Kt F n w K C src S' w' := by
 obtain ⟨v, d, hv⟩ : ∃ v d, S.p i = (v, d) := ⟨_, _, rfl⟩
 obtain ⟨R, er, hr⟩ : ∃ R er, cH v d = (R, er) := ⟨_, _, rfl⟩
 have hvl := eu h.s hv
 have hrl : R.length = 16 := by
  rcases cG v d with ⟨_, _, e⟩ | e
  ·rw [e] at hr; obtain ⟨rfl, _⟩ := Prod.mk.inj hr; exact hvl
  ·rw [e] at hr; obtain ⟨rfl, _⟩ := Prod.mk.inj hr; rfl
 have her : er = 0 ∨ er = 105 := by
  rcases cG v d with ⟨_, _, e⟩ | e
  ·rw [e] at hr; exact .inl (Prod.mk.inj hr).2.symm
  ·rw [e] at hr; exact .inr (Prod.mk.inj hr).2.symm
 have HP := aa (show ∀ x ∈ pk S (dr i) 8, ∃ (k : Nat) (v : List Int), k < 8 ∧ x = (k : Int) :: 1 :: v ∧ v.length = 16 ∧ S.p k = (v, 1) ∧ Cd.okd v = true from fun x hx => by
  obtain ⟨k, hk, rfl, hp⟩ := ir hx
  have hd : (S.p k).2 = 1 := by
   have : ((slS S k).getD 1 0 == 1) = true := by
    unfold dr at hp
    simp only [Bool.and_eq_true] at hp
    exact hp.1
   simpa [slS] using this
  have hpk : S.p (k : Int) = ((S.p k).1, 1) := by rw [← hd]
  refine ⟨k, (S.p k).1, hk, ?_, eu h.s (show S.p (k : Int) = ((S.p k).1, (S.p k).2) from rfl), hpk, goodP h.s hpk⟩
  unfold slS
  rw [hd])
 have HSelf := aa (fun W K' (hK : Ks F n W K' C src S) => gM hK i hi v d hv R er hr)
 have hlen := pk_len S (dr i) 8
 have H := aa h
 unfold waitS at hs
 rw [hv] at hs
 dsimp only at hs
 rw [hr] at hs
 dsimp only at hs
 have HS := aa hs
 have HI := aa (show er = 0 → -9223372036854775808 ≤ i + 1 ∧ i + 1 ≤ 9223372036854775807 from rngS h.s hv hr)
 have HCR := aa (ai hrl)
 have HZ2 := aa (ai (n := 16) (l := Cd.noP) rfl)
 have HV0 := aa (ak 0 0 false)
 obtain ⟨l, hl⟩ : ∃ l, pk S (dr i) 8 = l := ⟨_, rfl⟩
 rw [hl] at HP HS hlen
 have HLd := aa hl
 obtain ⟨ln, hln⟩ : ∃ ln, l.length = ln := ⟨_, rfl⟩
 have HLn := aa hln
 rw [hln] at hlen HS
 clear hln
 clear h hi hs hv hr hvl hrl hl
 go_enter Tryz.func14, Tryz.ntmps14
 go_wp2_with (refine aq.wpList_al rfl rfl ?_; intro w1 hb1 hk1 hs1; have hbi : Blk w1 w.heap.size 3 [.int .i64 i] := (Blk.new w 3 [.int .i64 i]).nob hk1; have ci := hbi.cell 0; have ci : w1.cell? ⟨w.heap.size, 0, none⟩ = some (.int .i64 i) := ci; have k0 : Keep Nob w w1 := ((Keep.refl Nob w).alloc _).nobt hk1)
 have HK0 := aa k0
 rw [show (w.alloc (.cells #[.int .i64 i] 3)).heap.size = w.heap.size + 1 by simp] at hb1
 have hsr : w.heap.size ≤ w.heap.size + 1 := by omega
 have T1 := H.out.still k0
 refine (T1.go (HSelf.out _)).mono ?_; rintro e w2 ⟨rfl, T2, kp2⟩
 have HB2 := aa (kp2.lb H.out hb1 hsr)
 have HBi2 := aa (kp2.lb H.out hbi (Nat.le_refl _))
 have HT2 := aa T2
 have hsz := T2.kp.size
 clear T1 T2 kp2 hb1 hbi hk1 hs1 ci k0
 go_upto_region 2 with (first
  | (refine ar.wpList_al rfl rfl ?_; intro w3 hb3 hk3 hs3; clear hs3)
  | (refine ar.wpList_st rfl rfl rfl rfl HCR.out HZ2.out hb3 ?_; intro w4 hb4 hk4 hs4; clear hs4))
 have T4 := aa ((HT2.out.nob hk3).st H.out hb3 (by decide) hsz hk4)
 have HB4 := aa ((HB2.out.nob hk3).keep hk4 (by have := HB2.out.lt; omega))
 have HBi4 := aa ((HBi2.out.nob hk3).keep hk4 (by have := HBi2.out.lt; omega))
 clear hb3 hk3 hb4 hk4 HT2 HB2 HBi2
 rcases her with rfl | rfl
 ·replace HI := aa (HI.out rfl)
  rw [if_pos rfl] at HS
  go_wp2_with fail
  have hc := T4.out.goK (fun K' hK kk => jU hK 46 #[.pointer (some ⟨w.heap.size, 0, none⟩)] (dr i) enter_wait1 (fun W x hx kp => wait1_is i HI.out (((kk W kp).lb H.out HBi4.out (Nat.le_refl _)).cell 0) x hx))
  rw [HLd.out, HLn.out] at hc
  refine hc.mono ?_; rintro e w5 ⟨⟨A, cap, rfl, hm⟩, T5, kp5⟩
  have hV5 := hm.1
  rw [HLn.out] at hV5
  have HV5 := aa hV5
  have HO := aa (show ∀ x, Own A x → w.heap.size ≤ x from fun x m => Nat.le_trans T4.out.kp.size (hm.2 x m))
  have HT5 := aa T5
  have HB5 := aa (kp5.lb H.out HB4.out hsr)
  clear hm T5 hc kp5 hV5
  by_cases h0 : ln = 0
  ·have hs := HS.out
   rw [if_pos h0] at hs
   obtain ⟨rfl, rfl, rfl, rfl⟩ : S = S' ∧ 0 = N ∧ 110 = E ∧ false = bl := by simpa using hs
   clear hs
   subst h0
   go_wp2_with (refine aq.wpList_st rfl rfl rfl rfl (ak 0 110 false) HV0.out HB5.out ?_; intro w6 hb6 hk6 hs6; clear hs6)
   refine bodyPost_ret (v := .agg (rv 0 110 false).toArray) (aq.results_one rfl _ (ak 0 110 false) rfl hb6) rfl ?_
   exact ⟨rfl, HT5.out.st H.out HB5.out (by decide) hsr hk6⟩
  ·rw [if_neg h0] at HS
   have HW18 := aa (show ∀ x ∈ l, x.length = 18 from fun x hx => by
    obtain ⟨j, u, _, rfl, hu, _⟩ := HP.out x hx
    simp [hu])
   have HIx := aa (ixS_is A ln cap l HLn.out HW18.out HV5.out.reads (by omega))
   go_wp2_with fail
   refine HIx.out.mono ?_; rintro e w6 ⟨q, rfl, hq, k6⟩
   have HT6 := aa (HT5.out.nob k6)
   have HB6 := aa (HB5.out.nob k6)
   have HV6 := aa (HV5.out.nob k6)
   clear k6 HIx
   rcases hq with ⟨rfl, hq⟩ | ⟨m, x, rfl, hx, hxe, hxt⟩
   ·have hs := HS.out
    rw [find_none hq] at hs
    obtain ⟨rfl, rfl, rfl, rfl⟩ : S = S' ∧ 0 = N ∧ 0 = E ∧ true = bl := by simpa using hs
    clear hs hq
    go_wp2_with (refine aq.wpList_st rfl rfl rfl rfl (ak 0 0 true) HV0.out HB6.out ?_; intro w7 hb7 hk7 hs7; clear hs7)
    refine bodyPost_ret (v := .agg (rv 0 0 true).toArray) (aq.results_one rfl _ (ak 0 0 true) rfl hb7) rfl ?_
    exact ⟨rfl, HT6.out.st H.out HB6.out (by decide) hsr hk7⟩
   ·have hs := HS.out
    rw [find_ended hx hxe hxt] at hs
    dsimp only at hs
    have hml : m < ln := by rw [← HLn.out]; exact (List.getElem?_eq_some_iff.1 hx).1
    obtain ⟨b, off, hA, hm⟩ := aZ HW18.out (by decide) HV6.out.reads hx hml
    obtain ⟨j, u, hj8, hxj, hul, hpj, hou⟩ := HP.out x (List.mem_of_getElem? hx)
    have hub := Cd.aH hou
    have HM := aa hm
    have hxl : x.length = 18 := by rw [hxj]; simp [hul]
    have HIl := aa (show (ab x).length = 18 by simp [ab, hxl])
    have HCx := aa (ai hxl)
    have HZ := aa (ai (n := 18) (l := List.replicate 18 0) rfl)
    have e5 : x.getD 5 0 = u.getD 3 0 := by rw [hxj]; obtain ⟨a0, a1, a2, a3, a4, a5, a6, a7, f0, f1, f2, f3, f4, f5, f6, f7, rfl⟩ := Cd.aD hul; rfl
    have e0 : x.getD 0 0 = (j : Int) := by rw [hxj]; rfl
    rw [e0, e5] at hs
    have hcb := hub.c
    obtain ⟨cd, hcd⟩ : ∃ cd, u.getD 3 0 = cd := ⟨_, rfl⟩
    have c0 : (ab x)[0]? = some (.int .i64 j) := by rw [hxj]; rfl
    have c5 : (ab x)[5]? = some (.int .i64 cd) := by rw [← hcd, hxj]; obtain ⟨a0, a1, a2, a3, a4, a5, a6, a7, f0, f1, f2, f3, f4, f5, f6, f7, rfl⟩ := Cd.aD hul; rfl
    rw [hcd] at hs hcb
    obtain ⟨rfl, rfl, rfl, rfl⟩ : S.frP j = S' ∧ 256 * (j : Int) + cd = N ∧ 0 = E ∧ false = bl := by simpa using hs
    have HFr := aa (fun w7 K' (hK : Ks F n w7 K' C src S) => fV hK (j : Int) (by unfold Cd.Wf; omega) true (by rw [hpj]; rfl))
    obtain ⟨cs, hcs⟩ : ∃ cs, ab x = cs := ⟨_, rfl⟩
    rw [hcs] at HM HIl HCx c0 c5
    have hsz6 := HT6.out.kp.size
    have hw1 : wrap64 (256 * (j : Int)) = 256 * (j : Int) := by rw [← IntWalk.i64_left, IntKind.wrap_i64]; omega
    have hw2 : wrap64 (256 * (j : Int) + cd) = 256 * (j : Int) + cd := by rw [← IntWalk.i64_left, IntKind.wrap_i64]; omega
    have HVr := aa (ak (256 * (j : Int) + cd) 0 false)
    subst hA
    have HW12 := aa (And.intro hw1 hw2)
    clear hs hx hxe hxt hm hxj hul hpj hou hub hxl e5 e0 hcd hcs
    go_upto_region 11 with (first
     | (refine wpList_load_mid rfl 94 _ rfl b (off + m * 18) rfl cs _ HM.out Tryz.underlying94 rfl (by rw [HIl.out]; exact ik) ?_)
     | (refine cI.wpList_al rfl rfl ?_; intro w7 hb7 hk7 hs7; clear hs7)
     | (refine cI.wpList_st rfl rfl rfl rfl HCx.out HZ.out hb7 ?_; intro w8 hb8 hk8 hs8; clear hs8))
    have HT8 := aa ((HT6.out.nob hk7).st H.out hb7 (by decide) hsz6 hk8)
    have HB8 := aa ((HB6.out.nob hk7).keep hk8 (by have := HB6.out.lt; omega))
    have HX8 := aa hb8
    generalize w6.heap.size = g9 at *
    have q0 := (hb8.cell 0).trans c0
    clear hb7 hk7 hb8 hk8 c0
    go_wp2_with fail
    refine (HT8.out.go (HFr.out _)).mono ?_; rintro e w9 ⟨rfl, T9, kp9⟩
    have HT9 := aa (show Kt F n w K C src (S.frP j) w9 from T9)
    have HB9 := aa (kp9.lb H.out HB8.out hsr)
    have hx9 := kp9.lb H.out HX8.out (by omega)
    have r0 := (hx9.cell 0).trans ((HX8.out.cell 0).symm.trans q0)
    have r5 := (hx9.cell 5).trans c5
    clear T9 kp9 hx9 q0 c5
    go_wp2_with (refine aq.wpList_st rfl rfl rfl rfl HVr.out HV0.out HB9.out ?_; intro w10 hb10 hk10 hs10; clear hs10)
    refine bodyPost_ret (v := .agg (rv (256 * (j : Int) + cd) 0 false).toArray) (aq.results_one rfl _ HVr.out rfl hb10) rfl ?_
    exact ⟨rfl, HT9.out.st H.out HB9.out (by decide) hsr hk10⟩
 ·rw [if_neg (by decide)] at HS
  obtain ⟨rfl, rfl, rfl, rfl⟩ : S = S' ∧ 0 = N ∧ 105 = E ∧ false = bl := by simpa using HS.out
  go_wp2_with (refine aq.wpList_st rfl rfl rfl rfl (ak 0 105 false) HV0.out HB4.out ?_; intro w5 hb5 hk5 hs5; clear hs5)
  refine bodyPost_ret (v := .agg (rv 0 105 false).toArray) (aq.results_one rfl _ (ak 0 105 false) rfl hb5) rfl ?_
  exact ⟨rfl, T4.out.st H.out HB4.out (by decide) hsr hk5⟩
theorem wait_is (h : Ks F n w K C src S) (i : Int) (hi : -9223372036854775808 ≤ i ∧ i + 1 ≤ 9223372036854775807) (S' : Stt) (N E : Int) (bl : Bool) (hs : waitS S i = (S', N, E, bl)) :
  Calls Tryz.prog 14 #[.pointer (some ⟨C.p, 0, none⟩), .int .i64 i] w fun e w' => e = .returned (.agg (rv N E bl).toArray) ∧ Kt F n w K C src S' w' :=
 wait_all h i (by unfold Cd.Wf; omega) S' N E bl hs
end
end Go.Proofs.YtgcikpgcoemfnaaGreat.Pr
namespace Go.Proofs.YtgcikpgcoemfnaaGreat.Pr
open Go.RowKit Co
theorem dF (l : List Int) (k : Nat) (a : Int) : ab (l.set k a) = (ab l).set k (.int .i64 a) := by simp [ab, List.map_set]
def hJ (c : Int) : Int := (c.tmod 256 + 256).tmod 256
def zomb (v : List Int) (c : Int) : List Int := (bare ((v.set 0 2).set 3 c)).set 4 0
def exitS (S : Stt) (i code : Int) : Stt × Int :=
 if (cH (S.p i).1 (S.p i).2).2 = 0 then
  (if actB ((et (aR S i) i).p ((S.p i).1.getD 1 0 - 1)).1 ((et (aR S i) i).p ((S.p i).1.getD 1 0 - 1)).2 then
   (if decide (((et (aR S i) i).p i).2 ≠ 2) && Cd.okd (zomb (S.p i).1 (hJ code)) then (et (aR S i) i).setP i (zomb (S.p i).1 (hJ code)) else et (aR S i) i,
    erB (decide (((et (aR S i) i).p i).2 ≠ 2) && Cd.okd (zomb (S.p i).1 (hJ code))))
  else (if decide (((et (aR S i) i).p i).2 ≠ 2) then (et (aR S i) i).frP i else et (aR S i) i, erB (decide (((et (aR S i) i).p i).2 ≠ 2))))
 else (S, 105)
theorem code8_in (c : Int) : (-255 ≤ c.tmod 256 ∧ c.tmod 256 ≤ 255) ∧ 0 ≤ hJ c ∧ hJ c ≤ 255 := by
 have h1 : -255 ≤ c.tmod 256 ∧ c.tmod 256 ≤ 255 := by
  have a := Int.tmod_lt_of_pos c (show (0 : Int) < 256 by decide)
  have b := Int.lt_tmod_of_pos c (show (0 : Int) < 256 by decide)
  omega
 refine ⟨h1, ?_⟩
 unfold hJ
 rw [Int.tmod_eq_emod_of_nonneg (by omega)]
 omega
section
variable {F : List UInt8 → Prop} {n : Nat} {w w' w1 : World} {K : Kn} {C : Cm} {src : Src} {S S' S2 : Stt}
theorem exit_all (h : Ks F n w K C src S) (i : Int) (hi : Cd.Wf i) (code : Int) (S' : Stt) (E : Int) (hs : exitS S i code = (S', E)) :
  Calls Tryz.prog 12 #[.pointer (some ⟨C.p, 0, none⟩), .int .i64 i, .int .i64 code] w fun e w' => e = .returned (.agg (rv 0 E false).toArray) ∧ Kt F n w K C src S' w' := by
 obtain ⟨v, d, hv⟩ : ∃ v d, S.p i = (v, d) := ⟨_, _, rfl⟩
 obtain ⟨R, er, hr⟩ : ∃ R er, cH v d = (R, er) := ⟨_, _, rfl⟩
 have hvl := eu h.s hv
 have hrl : R.length = 16 := by
  rcases cG v d with ⟨_, _, e⟩ | e
  ·rw [e] at hr; obtain ⟨rfl, _⟩ := Prod.mk.inj hr; exact hvl
  ·rw [e] at hr; obtain ⟨rfl, _⟩ := Prod.mk.inj hr; rfl
 have her : (er = 0 ∧ R = v ∧ Cd.okd v = true) ∨ er = 105 := by
  rcases cG v d with ⟨_, hd, e⟩ | e
  ·rw [e] at hr
   obtain ⟨e1, e2⟩ := Prod.mk.inj hr
   exact .inl ⟨e2.symm, e1.symm, goodP h.s (show S.p i = (v, 1) by rw [hv, hd])⟩
  ·rw [e] at hr; exact .inr (Prod.mk.inj hr).2.symm
 have hwi := hi
 have HSelf := aa (fun W K' (hK : Ks F n W K' C src S) => gM hK i hwi v d hv R er hr)
 obtain ⟨S1, h1⟩ : ∃ S1, aR S i = S1 := ⟨_, rfl⟩
 obtain ⟨S3, h3⟩ : ∃ S3, et S1 i = S3 := ⟨_, rfl⟩
 have HCl := aa (fun W K' (hK : Ks F n W K' C src S) => closeAll_is hK i hwi S1 h1)
 have HOr := aa (fun (hI : -9223372036854775808 ≤ i + 1 ∧ i + 1 ≤ 9223372036854775807) W K' (hK : Ks F n W K' C src S1) => orphan_is hK i hI S3 h3)
 have HI := aa (show er = 0 → -9223372036854775808 ≤ i + 1 ∧ i + 1 ≤ 9223372036854775807 from rngS h.s hv hr)
 have H := aa h
 have HWi := aa hwi
 unfold exitS at hs
 rw [hv] at hs
 dsimp only at hs
 rw [hr] at hs
 dsimp only at hs
 rw [h1, h3] at hs
 have HS := aa hs
 have HCR := aa (ai hrl)
 have HZ2 := aa (ai (n := 16) (l := Cd.noP) rfl)
 have HV0 := aa (ak 0 0 false)
 clear h hi hs hv hr hrl h1 h3 hwi
 go_enter Tryz.func12, Tryz.ntmps12
 go_wp2_with (refine aq.wpList_al rfl rfl ?_; intro w1 hb1 hk1 hs1)
 have T1 := H.out.still hk1
 refine (T1.go (HSelf.out _)).mono ?_; rintro e w2 ⟨rfl, T2, kp2⟩
 have HB2 := aa (kp2.lb H.out hb1 (Nat.le_refl _))
 have HT2 := aa T2
 have hsz := T2.kp.size
 clear T1 T2 kp2 hb1 hk1 hs1
 go_upto_region 2 with (first
  | (refine ar.wpList_al rfl rfl ?_; intro w3 hb3 hk3 hs3; clear hs3)
  | (refine ar.wpList_st rfl rfl rfl rfl HCR.out HZ2.out hb3 ?_; intro w4 hb4 hk4 hs4; clear hs4))
 have T4 := aa ((HT2.out.nob hk3).st H.out hb3 (by decide) hsz hk4)
 have HB4 := aa ((HB2.out.nob hk3).keep hk4 (by have := HB2.out.lt; omega))
 have HX4 := aa hb4
 have hg5 : w.heap.size < w2.heap.size := HB2.out.lt
 generalize w2.heap.size = g5 at *
 clear hb3 hk3 hb4 hk4 HT2 HB2
 rcases her with ⟨rfl, rfl, hokv⟩ | rfl
 ·replace HI := aa (HI.out rfl)
  rw [if_pos rfl] at HS
  have hbd := Cd.aH hokv
  have HWv := aa (il hvl hokv)
  have hpa := hbd.pa
  have HVl := aa hvl
  obtain ⟨pa, hpe⟩ : ∃ pa, R.getD 1 0 = pa := ⟨_, rfl⟩
  have HPe := aa hpe
  rw [hpe] at hpa HS
  clear hbd hokv hvl hpe
  go_wp2_with fail
  refine (T4.out.go (HCl.out _)).mono ?_; rintro e w5 ⟨rfl, T5, kp5⟩
  have HB5 := aa (kp5.lb H.out HB4.out (Nat.le_refl _))
  have HX5 := aa (kp5.lb H.out HX4.out hsz)
  have HT5 := aa T5
  clear T5 kp5
  go_wp2_with fail
  refine (HT5.out.go (HOr.out HI.out _)).mono ?_; rintro e w6 ⟨rfl, T6, kp6⟩
  have HB6 := aa (kp6.lb H.out HB5.out (Nat.le_refl _))
  have HX6 := aa (kp6.lb H.out HX5.out hsz)
  have HT6 := aa T6
  have c1 : w6.cell? ⟨g5, 1, none⟩ = some (.int .i64 pa) := by
   rw [eF HX6.out 1 (by rw [HVl.out]; decide), HPe.out]
  clear T6 kp6 HB4 HB5 HX4 HX5
  obtain ⟨pv, pd, hpp⟩ : ∃ pv pd, S3.p (pa - 1) = (pv, pd) := ⟨_, _, rfl⟩
  rw [hpp] at HS
  have hw1 : wrap64 (pa - 1) = pa - 1 := by rw [← IntWalk.i64_left, IntKind.wrap_i64]; omega
  have HAt := aa (fun W K' (hK : Ks F n W K' C src S3) => at_is hK (pa - 1) (by unfold Cd.Wf; omega) pv pd hpp)
  have HPl := aa (show pv.length = 16 by
   obtain ⟨ys, hst, _⟩ := HT6.out
   exact eu hst hpp)
  clear hpp
  go_wp2_with fail
  refine (HT6.out.go (HAt.out _)).mono ?_; rintro e w7 ⟨rfl, T7, kp7⟩
  have HB7 := aa (kp7.lb H.out HB6.out (Nat.le_refl _))
  have HX7 := aa (kp7.lb H.out HX6.out hsz)
  have HT7 := aa T7
  obtain ⟨av, hav⟩ : ∃ av, actB pv pd = av := ⟨_, rfl⟩
  have HAct := aa (fun W => acts_is (pa - 1) pd pv HPl.out av hav W)
  rw [hav] at HS
  clear T7 kp7 HB6 HX6 c1 hav hw1 hpa
  go_wp2_with fail
  refine (HAct.out _).mono ?_; rintro e w8 ⟨rfl, k8⟩
  have HB8 := aa (HB7.out.nob k8)
  have HX8 := aa (HX7.out.nob k8)
  have HT8 := aa (HT7.out.nob k8)
  clear k8 HB7 HX7 HT7
  cases av with
  | false =>
   obtain ⟨ok, hok⟩ : ∃ ok, decide ((S3.p i).2 ≠ 2) = ok := ⟨_, rfl⟩
   have HFr := aa (fun W K' (hK : Ks F n W K' C src S3) => fV hK i HWi.out ok hok)
   rw [hok] at HS
   have HSe := aa (show (if ok then S3.frP i else S3) = S' ∧ erB ok = E by simpa using HS.out)
   have HEr := aa (fun W => ed ok W)
   rw [HSe.out.2] at HEr
   have HVr := aa (ak 0 E false)
   clear hok
   go_wp2_with fail
   refine (HT8.out.go (HFr.out _)).mono ?_; rintro e w9 ⟨rfl, T9, kp9⟩
   rw [HSe.out.1] at T9
   have HB9 := aa (kp9.lb H.out HB8.out (Nat.le_refl _))
   have HT9 := aa T9
   clear T9 kp9
   go_wp2_with fail
   refine (HEr.out _).mono ?_; rintro e w10 ⟨rfl, rfl⟩
   go_wp2_with (refine aq.wpList_st rfl rfl rfl rfl HVr.out HV0.out HB9.out ?_; intro w11 hb11 hk11 hs11; clear hs11)
   refine bodyPost_ret (v := .agg (rv 0 E false).toArray) (aq.results_one rfl _ HVr.out rfl hb11) rfl ?_
   exact ⟨rfl, HT9.out.st H.out HB9.out (by decide) (Nat.le_refl _) hk11⟩
  | true =>
   have hcin := code8_in code
   unfold hJ at hcin
   obtain ⟨cc, hcc⟩ : ∃ cc, hJ code = cc := ⟨_, rfl⟩
   have hcc2 := hcc
   unfold hJ at hcc2
   rw [hcc2] at hcin
   obtain ⟨m1, hm1⟩ : ∃ m1, code.tmod 256 = m1 := ⟨_, rfl⟩
   rw [hm1] at hcc2 hcin
   have hw2 : wrap64 (m1 + 256) = m1 + 256 := by rw [← IntWalk.i64_left, IntKind.wrap_i64]; omega
   rw [hcc] at HS
   obtain ⟨ok, hok⟩ : ∃ ok, (decide ((S3.p i).2 ≠ 2) && Cd.okd (zomb R cc)) = ok := ⟨_, rfl⟩
   have hzl : (zomb R cc).length = 16 := by
    unfold zomb
    rw [List.length_set]
    exact ix (by rw [List.length_set, List.length_set]; exact HVl.out)
   have HZl := aa hzl
   have HSt := aa (fun W K' (hK : Ks F n W K' C src S3) => bv hK i HWi.out (zomb R cc) hzl (fp (wf_bare (fp (fp HWv.out 0 (by unfold Cd.Wf; decide)) 3 (by unfold Cd.Wf; omega))) 4 wf_0) ok hok)
   rw [hok] at HS
   have HSe := aa (show (if ok then S3.setP i (zomb R cc) else S3) = S' ∧ erB ok = E by simpa using HS.out)
   have HEr := aa (fun W => ed ok W)
   rw [HSe.out.2] at HEr
   have HVr := aa (ak 0 E false)
   have q0 := eF HX8.out 0 (by rw [HVl.out]; decide)
   have q3 := eF HX8.out 3 (by rw [HVl.out]; decide)
   have f0 := HX8.out.frozen 0
   have f3 := HX8.out.frozen 3
   obtain ⟨y0, hy0⟩ : ∃ y, R.getD 0 0 = y := ⟨_, rfl⟩
   obtain ⟨y3, hy3⟩ : ∃ y, R.getD 3 0 = y := ⟨_, rfl⟩
   rw [hy0] at q0
   rw [hy3] at q3
   clear hok hcc hzl hy0 hy3
   go_upto_region 9 with fail
   have ks : Keep (fun x => x = g5) w8 ((w8.setCell ⟨g5, 0, none⟩ (.int .i64 2)).setCell ⟨g5, 3, none⟩ (.int .i64 cc)) := ((Keep.refl (fun x => x = g5) w8).setCell ⟨g5, 0, none⟩ (.int .i64 2) (fun _ => rfl)).setCell ⟨g5, 3, none⟩ (.int .i64 cc) (fun _ => rfl)
   have hx9 : Blk ((w8.setCell ⟨g5, 0, none⟩ (.int .i64 2)).setCell ⟨g5, 3, none⟩ (.int .i64 cc)) g5 37 (ab ((R.set 0 2).set 3 cc)) := by
    rw [dF, dF]
    exact (HX8.out.setCell 0 _).setCell 3 _
   have T9 := HT8.out.st H.out HX8.out (by decide) hsz ks
   have hb9 := HB8.out.keep ks (by omega)
   clear q0 q3 f0 f3 ks
   generalize (w8.setCell ⟨g5, 0, none⟩ (.int .i64 2)).setCell ⟨g5, 3, none⟩ (.int .i64 cc) = w9 at *
   have HX9 := aa hx9
   have HT9 := aa T9
   have HB9 := aa hb9
   have HVl9 := aa (show ((R.set 0 2).set 3 cc).length = 16 by rw [List.length_set, List.length_set]; exact HVl.out)
   have hzm : zomb R cc = (bare ((R.set 0 2).set 3 cc)).set 4 0 := rfl
   generalize (R.set 0 2).set 3 cc = u at *
   have HZm := aa hzm
   clear hx9 T9 hb9 hzm hm1 hcc2 hw2 hcin
   have HZ8 := aa (ai (n := 8) (l := List.replicate 8 0) rfl)
   have HBr := aa (show ab (bare u) = splice (ab u) 8 (ab (List.replicate 8 0)) by
    obtain ⟨a0, a1, a2, a3, a4, a5, a6, a7, f0, f1, f2, f3, f4, f5, f6, f7, rfl⟩ := Cd.aD HVl9.out
    rfl)
   have hbl := ix HVl9.out
   obtain ⟨y4, hy4⟩ : ∃ y, (bare u).getD 4 0 = y := ⟨_, rfl⟩
   have HY4 := aa hy4
   have HBl := aa hbl
   clear hy4 hbl
   go_upto_region 10 with (refine jf.wpList_stm (g := g5) (off := 8) (e := 37) (old := ab u) rfl rfl (by rfl) (by rfl) HZ8.out HX9.out (by simp [ab, HVl9.out]) ?_; intro w10 hb10 hk10 hs10; clear hs10; rw [← HBr.out] at hb10; have p4 := eF hb10 4 (by rw [HBl.out]; decide); rw [HY4.out] at p4; have f4 := hb10.frozen 4; have HX10 := aa hb10; have HK10 := aa hk10; clear hb10 hk10)
   have T10 := HT9.out.st H.out HX9.out (by decide) hsz HK10.out
   have hb10 := HB9.out.keep HK10.out (by omega)
   have ks : Keep (fun x => x = g5) w10 (w10.setCell ⟨g5, 4, none⟩ (.int .i64 0)) := (Keep.refl (fun x => x = g5) w10).setCell ⟨g5, 4, none⟩ (.int .i64 0) (fun _ => rfl)
   have hx11 : Blk (w10.setCell ⟨g5, 4, none⟩ (.int .i64 0)) g5 37 (ab (zomb R cc)) := by
    rw [HZm.out, dF]
    exact HX10.out.setCell 4 _
   have T11 := T10.st H.out HX10.out (by decide) hsz ks
   have hb11 := hb10.keep ks (by omega)
   clear p4 f4 ks T10 hb10
   generalize w10.setCell ⟨g5, 4, none⟩ (.int .i64 0) = w11 at *
   have HX11 := aa hx11
   have HT11 := aa T11
   have HB11 := aa hb11
   have HCz := aa (ai HZl.out)
   clear hx11 T11 hb11
   go_wp2_with (refine ar.wpList_ld rfl rfl rfl HCz.out HX11.out ?_)
   refine (HT11.out.go (HSt.out _)).mono ?_; rintro e w12 ⟨rfl, T12, kp12⟩
   rw [HSe.out.1] at T12
   have HB12 := aa (kp12.lb H.out HB11.out (Nat.le_refl _))
   have HT12 := aa T12
   clear T12 kp12
   go_wp2_with fail
   refine (HEr.out _).mono ?_; rintro e w13 ⟨rfl, rfl⟩
   go_wp2_with (refine aq.wpList_st rfl rfl rfl rfl HVr.out HV0.out HB12.out ?_; intro w14 hb14 hk14 hs14; clear hs14)
   refine bodyPost_ret (v := .agg (rv 0 E false).toArray) (aq.results_one rfl _ HVr.out rfl hb14) rfl ?_
   exact ⟨rfl, HT12.out.st H.out HB12.out (by decide) (Nat.le_refl _) hk14⟩
 ·rw [if_neg (by decide)] at HS
  obtain ⟨rfl, rfl⟩ : S = S' ∧ 105 = E := by simpa using HS.out
  go_wp2_with (refine aq.wpList_st rfl rfl rfl rfl (ak 0 105 false) HV0.out HB4.out ?_; intro w5 hb5 hk5 hs5; clear hs5)
  refine bodyPost_ret (v := .agg (rv 0 105 false).toArray) (aq.results_one rfl _ (ak 0 105 false) rfl hb5) rfl ?_
  exact ⟨rfl, T4.out.st H.out HB4.out (by decide) (Nat.le_refl _) hk5⟩
end
end Go.Proofs.YtgcikpgcoemfnaaGreat.Pr
namespace Go.Proofs.YtgcikpgcoemfnaaGreat.Pr
open Go.RowKit Co
def groupS (S : Stt) (i t g : Int) : Stt × Int :=
 if (cH (S.p i).1 (S.p i).2).2 = 0 then
  (if t < 0 ∨ 7 < t ∨ g < 0 ∨ 7 < g then (S, 122)
  else if t ≠ i ∧ (S.p t).2 = 2 then (S, 105)
  else if t ≠ i ∧ ¬ (chB (S.p t).1 (S.p t).2 i = true ∧ actB (S.p t).1 (S.p t).2 = true) then (S, 103)
  else if g ≠ t ∧ (pk S (cy g) 8).length = 0 then (S, 101)
  else (if decide ((S.p t).2 ≠ 2) && Cd.okd ((S.p t).1.set 2 g) then S.setP t ((S.p t).1.set 2 g) else S, erB (decide ((S.p t).2 ≠ 2) && Cd.okd ((S.p t).1.set 2 g))))
 else (S, 105)
section
variable {F : List UInt8 → Prop} {n : Nat} {w w' w1 : World} {K : Kn} {C : Cm} {src : Src} {S S' S2 : Stt}
theorem group_all (h : Ks F n w K C src S) (i : Int) (hi : Cd.Wf i) (t g : Int) (S' : Stt) (E : Int) (hs : groupS S i t g = (S', E)) :
  Calls Tryz.prog 24 #[.pointer (some ⟨C.p, 0, none⟩), .int .i64 i, .int .i64 t, .int .i64 g] w fun e w' => e = .returned (.agg (rv 0 E false).toArray) ∧ Kt F n w K C src S' w' := by
 obtain ⟨v, d, hv⟩ : ∃ v d, S.p i = (v, d) := ⟨_, _, rfl⟩
 obtain ⟨R, er, hr⟩ : ∃ R er, cH v d = (R, er) := ⟨_, _, rfl⟩
 have hvl := eu h.s hv
 have hrl : R.length = 16 := by
  rcases cG v d with ⟨_, _, e⟩ | e
  ·rw [e] at hr; obtain ⟨rfl, _⟩ := Prod.mk.inj hr; exact hvl
  ·rw [e] at hr; obtain ⟨rfl, _⟩ := Prod.mk.inj hr; rfl
 have her : (er = 0 ∧ d = 1) ∨ er = 105 := by
  rcases cG v d with ⟨_, hd, e⟩ | e
  ·rw [e] at hr; exact .inl ⟨(Prod.mk.inj hr).2.symm, hd⟩
  ·rw [e] at hr; exact .inr (Prod.mk.inj hr).2.symm
 have hwi := hi
 have HSelf := aa (fun W K' (hK : Ks F n W K' C src S) => gM hK i hwi v d hv R er hr)
 have H := aa h
 have HI := aa (show er = 0 → -9223372036854775808 ≤ i + 1 ∧ i + 1 ≤ 9223372036854775807 from rngS h.s hv hr)
 unfold groupS at hs
 rw [hv] at hs
 dsimp only at hs
 rw [hr] at hs
 dsimp only at hs
 obtain ⟨u, q, hq⟩ : ∃ u q, S.p t = (u, q) := ⟨_, _, rfl⟩
 rw [hq] at hs
 dsimp only at hs
 have HS := aa hs
 have HCR := aa (ai hrl)
 have HZ2 := aa (ai (n := 16) (l := Cd.noP) rfl)
 have HV0 := aa (ak 0 0 false)
 have HQ := aa hq
 have HVd := aa hv
 have hul := eu h.s hq
 have HUl := aa hul
 have HG := aa (show q = 1 → Cd.okd u = true from fun e => goodP h.s (show S.p t = (u, 1) by rw [hq, e]))
 clear h hi hs hr hrl hwi hvl
 go_enter Tryz.func24, Tryz.ntmps24
 go_wp2_with (refine aq.wpList_al rfl rfl ?_; intro w1 hb1 hk1 hs1; clear hs1)
 have T1 := H.out.still hk1
 refine (T1.go (HSelf.out _)).mono ?_; rintro e w2 ⟨rfl, T2, kp2⟩
 have HB2 := aa (kp2.lb H.out hb1 (Nat.le_refl _))
 have HT2 := aa T2
 have hsz := T2.kp.size
 clear T1 T2 kp2 hb1 hk1
 go_upto_region 2 with (first
  | (refine ar.wpList_al rfl rfl ?_; intro w3 hb3 hk3 hs3; clear hs3)
  | (refine ar.wpList_st rfl rfl rfl rfl HCR.out HZ2.out hb3 ?_; intro w4 hb4 hk4 hs4; clear hs4))
 have T4 := aa ((HT2.out.nob hk3).st H.out hb3 (by decide) hsz hk4)
 have HB4 := aa ((HB2.out.nob hk3).keep hk4 (by have := HB2.out.lt; omega))
 clear hb3 hk3 hb4 hk4 HT2 HB2
 rcases her with ⟨rfl, rfl⟩ | rfl
 ·replace HI := aa (HI.out rfl)
  rw [if_pos rfl] at HS
  by_cases hb : t < 0 ∨ 7 < t ∨ g < 0 ∨ 7 < g
  ·rw [if_pos hb] at HS
   obtain ⟨rfl, rfl⟩ : S = S' ∧ 122 = E := by simpa using HS.out
   rcases (show t < 0 ∨ (¬ t < 0 ∧ 7 < t) ∨ (¬ t < 0 ∧ ¬ 7 < t ∧ g < 0) ∨ (¬ t < 0 ∧ ¬ 7 < t ∧ ¬ g < 0 ∧ 7 < g) by omega) with e1 | ⟨e1, e2⟩ | ⟨e1, e2, e3⟩ | ⟨e1, e2, e3, e4⟩
   all_goals
    clear hb
    go_wp2_with (refine aq.wpList_st rfl rfl rfl rfl (ak 0 122 false) HV0.out HB4.out ?_; intro w5 hb5 hk5 hs5; clear hs5)
    refine bodyPost_ret (v := .agg (rv 0 122 false).toArray) (aq.results_one rfl _ (ak 0 122 false) rfl hb5) rfl ?_
    exact ⟨rfl, T4.out.st H.out HB4.out (by decide) (Nat.le_refl _) hk5⟩
  ·rw [if_neg hb] at HS
   have hb2 : 0 ≤ t ∧ t ≤ 7 ∧ 0 ≤ g ∧ g ≤ 7 := by omega
   have HB := aa hb2
   have e1 : ¬ t < 0 := by omega
   have e2 : ¬ 7 < t := by omega
   have e3 : ¬ g < 0 := by omega
   have e4 : ¬ 7 < g := by omega
   have HAt := aa (fun W K' (hK : Ks F n W K' C src S) => at_is hK t (by unfold Cd.Wf; omega) u q HQ.out)
   obtain ⟨x, hx⟩ : ∃ x, t :: q :: u = x := ⟨_, rfl⟩
   have c1 : (ab x)[1]? = some (.int .i64 q) := by rw [← hx]; rfl
   have hxl : x.length = 18 := by rw [← hx]; simp [hul]
   have HCx := aa (ai hxl)
   have HZ := aa (ai (n := 18) (l := List.replicate 18 0) rfl)
   obtain ⟨ch, hch⟩ : ∃ ch, chB u q i = ch := ⟨_, rfl⟩
   obtain ⟨ac, hac⟩ : ∃ ac, actB u q = ac := ⟨_, rfl⟩
   have HAq := aa (show ac = true → q = 1 from fun e => by
    rw [← hac] at e
    unfold actB at e
    simp only [Bool.and_eq_true, beq_iff_eq] at e
    exact e.1)
   have HCh := aa (fun W => kF t q i HI.out u hul ch hch W)
   have HAc := aa (fun W => acts_is t q u hul ac hac W)
   rw [hch, hac] at HS
   have hs4 : (ab x).set 4 (.int .i64 g) = ab (t :: q :: u.set 2 g) := by rw [← hx]; obtain ⟨a0, a1, a2, a3, a4, a5, a6, a7, f0, f1, f2, f3, f4, f5, f6, f7, rfl⟩ := Cd.aD hul; rfl
   have c4 : ∃ y, (ab x)[4]? = some y := ⟨_, List.getElem?_eq_getElem (by simp [ab, hxl])⟩
   obtain ⟨y4, c4⟩ := c4
   rw [hx] at HAt HCh HAc
   have HS4 := aa hs4
   have HC4 := aa c4
   clear hb hb2 hx hxl hch hac hs4 c4 hul hq
   go_wp2_with fail
   refine (T4.out.go (HAt.out _)).mono ?_; rintro e w5 ⟨rfl, T5, kp5⟩
   have HB5 := aa (kp5.lb H.out HB4.out (Nat.le_refl _))
   have HT5 := aa T5
   have hsz5 := T5.kp.size
   clear T5 kp5 HB4
   go_upto_region 7 with (first
    | (refine cI.wpList_al rfl rfl ?_; intro w6 hb6 hk6 hs6; clear hs6)
    | (refine cI.wpList_st rfl rfl rfl rfl HCx.out HZ.out hb6 ?_; intro w7 hb7 hk7 hs7; clear hs7))
   have HT7 := aa ((HT5.out.nob hk6).st H.out hb6 (by decide) hsz5 hk7)
   have HB7 := aa ((HB5.out.nob hk6).keep hk7 (by have := HB5.out.lt; omega))
   have HX7 := aa hb7
   have hg5 : w.heap.size < w5.heap.size := HB5.out.lt
   have q1 := (hb7.cell 1).trans c1
   generalize w5.heap.size = g5 at *
   clear hb6 hk6 hb7 hk7 HB5 HT5
   by_cases hti : t = i
   ·rw [if_neg (by simp [hti]), if_neg (by simp [hti])] at HS
    have hte : (t != i) = false := by simp [hti]
    have HTi := aa hti
    clear hti
    have HWu := aa (show ∀ y ∈ u.set 2 g, Cd.Wf y from fp (il HUl.out (HG.out (by
     have h1 := HVd.out
     rw [← HTi.out, HQ.out] at h1
     exact (Prod.mk.inj h1).2))) 2 (by have := HB.out; unfold Cd.Wf; omega))
    by_cases hg : g = t
    ·rw [if_neg (by simp [hg])] at HS
     have hgt : (g != t) = false := by simp [hg]
     clear hg
     obtain ⟨ok, hok⟩ : ∃ ok, (decide ((S.p t).2 ≠ 2) && Cd.okd (u.set 2 g)) = ok := ⟨_, rfl⟩
     have hset : (decide (q ≠ 2) && Cd.okd (u.set 2 g)) = ok := by rw [← hok, HQ.out]
     rw [hset] at HS
     have HSe := aa (show (if ok then S.setP t (u.set 2 g) else S) = S' ∧ erB ok = E by simpa using HS.out)
     have HEr := aa (fun W => ed ok W)
     rw [HSe.out.2] at HEr
     have HVr := aa (ak 0 E false)
     have hul2 : (u.set 2 g).length = 16 := by rw [List.length_set]; exact HUl.out
     have HSet := aa (fun W K' (hK : Ks F n W K' C src S) => bv hK t (by have := HB.out; unfold Cd.Wf; omega) (u.set 2 g) hul2 HWu.out ok hok)
     have HCu := aa (ai hul2)
     have q4 := (HX7.out.cell 4).trans HC4.out
     have f4 := HX7.out.frozen 4
     clear hok hset hul2
     go_upto_region 14 with fail
     have ks : Keep (fun x => x = g5) w7 (w7.setCell ⟨g5, 4, none⟩ (.int .i64 g)) := (Keep.refl (fun x => x = g5) w7).setCell ⟨g5, 4, none⟩ (.int .i64 g) (fun _ => rfl)
     have hx20 : Blk (w7.setCell ⟨g5, 4, none⟩ (.int .i64 g)) g5 94 (ab (t :: q :: u.set 2 g)) := by
      rw [← HS4.out]
      exact HX7.out.setCell 4 _
     have HT20 := aa (HT7.out.st H.out HX7.out (by decide) hsz5 ks)
     have HB20 := aa (HB7.out.keep ks (by omega))
     have hrng := du hx20 2 16
     rw [show ((ab (t :: q :: u.set 2 g)).drop 2).take 16 = ab (u.set 2 g) by
      have := HCu.out.len
      show (ab (u.set 2 g)).take 16 = _
      rw [List.take_of_length_le (by omega)]] at hrng
     have HRg := aa hrng
     clear hrng hx20 ks q4 f4
     generalize w7.setCell ⟨g5, 4, none⟩ (.int .i64 g) = w20 at *
     generalize u.set 2 g = u2 at *
     go_wp2_with (refine wpList_load_mid rfl 37 _ rfl g5 2 rfl (ab u2) _ HRg.out Tryz.underlying37 rfl (by rw [HCu.out.len]; exact ar.i) ?_)
     refine (HT20.out.go (HSet.out _)).mono ?_; rintro e w21 ⟨rfl, T21, kp21⟩
     rw [HSe.out.1] at T21
     have HB21 := aa (kp21.lb H.out HB20.out (Nat.le_refl _))
     have HT21 := aa T21
     clear T21 kp21
     go_wp2_with fail
     refine (HEr.out _).mono ?_; rintro e w22 ⟨rfl, rfl⟩
     go_wp2_with (refine aq.wpList_st rfl rfl rfl rfl HVr.out HV0.out HB21.out ?_; intro w23 hb23 hk23 hs23; clear hs23)
     refine bodyPost_ret (v := .agg (rv 0 E false).toArray) (aq.results_one rfl _ HVr.out rfl hb23) rfl ?_
     exact ⟨rfl, HT21.out.st H.out HB21.out (by decide) (Nat.le_refl _) hk23⟩
    ·have hgt : (g != t) = true := bne_iff_ne.2 hg
     obtain ⟨l, hl⟩ : ∃ l, pk S (cy g) 8 = l := ⟨_, rfl⟩
     obtain ⟨ln, hln⟩ : ∃ ln, l.length = ln := ⟨_, rfl⟩
     have hc := HT7.out.go (fun K' hK => ij hK g)
     rw [hl, hln] at hc
     rw [hl, hln] at HS
     clear hl hln
     go_wp2_with fail
     refine hc.mono ?_; rintro e w10 ⟨⟨A, cap, rfl, _⟩, T10, kp10⟩
     have HT10 := aa T10
     have HB10 := aa (kp10.lb H.out HB7.out (Nat.le_refl _))
     have HX10 := aa (kp10.lb H.out HX7.out hsz5)
     clear T10 kp10 hc
     by_cases h0 : ln = 0
     ·rw [if_pos ⟨hg, h0⟩] at HS
      obtain ⟨rfl, rfl⟩ : S = S' ∧ 101 = E := by simpa using HS.out
      subst h0
      go_wp2_with (refine aq.wpList_st rfl rfl rfl rfl (ak 0 101 false) HV0.out HB10.out ?_; intro w11 hb11 hk11 hs11; clear hs11)
      refine bodyPost_ret (v := .agg (rv 0 101 false).toArray) (aq.results_one rfl _ (ak 0 101 false) rfl hb11) rfl ?_
      exact ⟨rfl, HT10.out.st H.out HB10.out (by decide) (Nat.le_refl _) hk11⟩
     ·rw [if_neg (by intro h; exact h0 h.2)] at HS
      have hl0 : ((ln : Int) == 0) = false := by simp; omega
      obtain ⟨ok, hok⟩ : ∃ ok, (decide ((S.p t).2 ≠ 2) && Cd.okd (u.set 2 g)) = ok := ⟨_, rfl⟩
      have hset : (decide (q ≠ 2) && Cd.okd (u.set 2 g)) = ok := by rw [← hok, HQ.out]
      rw [hset] at HS
      have HSe := aa (show (if ok then S.setP t (u.set 2 g) else S) = S' ∧ erB ok = E by simpa using HS.out)
      have HEr := aa (fun W => ed ok W)
      rw [HSe.out.2] at HEr
      have HVr := aa (ak 0 E false)
      have hul2 : (u.set 2 g).length = 16 := by rw [List.length_set]; exact HUl.out
      have HSet := aa (fun W K' (hK : Ks F n W K' C src S) => bv hK t (by have := HB.out; unfold Cd.Wf; omega) (u.set 2 g) hul2 HWu.out ok hok)
      have HCu := aa (ai hul2)
      have q4 := (HX10.out.cell 4).trans HC4.out
      have f4 := HX10.out.frozen 4
      clear hok hset hul2
      go_upto_region 14 with fail
      have ks : Keep (fun x => x = g5) w10 (w10.setCell ⟨g5, 4, none⟩ (.int .i64 g)) := (Keep.refl (fun x => x = g5) w10).setCell ⟨g5, 4, none⟩ (.int .i64 g) (fun _ => rfl)
      have hx20 : Blk (w10.setCell ⟨g5, 4, none⟩ (.int .i64 g)) g5 94 (ab (t :: q :: u.set 2 g)) := by
       rw [← HS4.out]
       exact HX10.out.setCell 4 _
      have HT20 := aa (HT10.out.st H.out HX10.out (by decide) hsz5 ks)
      have HB20 := aa (HB10.out.keep ks (by omega))
      have hrng := du hx20 2 16
      rw [show ((ab (t :: q :: u.set 2 g)).drop 2).take 16 = ab (u.set 2 g) by
       have := HCu.out.len
       show (ab (u.set 2 g)).take 16 = _
       rw [List.take_of_length_le (by omega)]] at hrng
      have HRg := aa hrng
      clear hrng hx20 ks q4 f4
      generalize w10.setCell ⟨g5, 4, none⟩ (.int .i64 g) = w20 at *
      generalize u.set 2 g = u2 at *
      go_wp2_with (refine wpList_load_mid rfl 37 _ rfl g5 2 rfl (ab u2) _ HRg.out Tryz.underlying37 rfl (by rw [HCu.out.len]; exact ar.i) ?_)
      refine (HT20.out.go (HSet.out _)).mono ?_; rintro e w21 ⟨rfl, T21, kp21⟩
      rw [HSe.out.1] at T21
      have HB21 := aa (kp21.lb H.out HB20.out (Nat.le_refl _))
      have HT21 := aa T21
      clear T21 kp21
      go_wp2_with fail
      refine (HEr.out _).mono ?_; rintro e w22 ⟨rfl, rfl⟩
      go_wp2_with (refine aq.wpList_st rfl rfl rfl rfl HVr.out HV0.out HB21.out ?_; intro w23 hb23 hk23 hs23; clear hs23)
      refine bodyPost_ret (v := .agg (rv 0 E false).toArray) (aq.results_one rfl _ HVr.out rfl hb23) rfl ?_
      exact ⟨rfl, HT21.out.st H.out HB21.out (by decide) (Nat.le_refl _) hk23⟩
   ·have hte : (t != i) = true := bne_iff_ne.2 hti
    by_cases hq2 : q = 2
    ·rw [if_pos ⟨hti, hq2⟩] at HS
     obtain ⟨rfl, rfl⟩ : S = S' ∧ 105 = E := by simpa using HS.out
     subst hq2
     go_wp2_with (refine aq.wpList_st rfl rfl rfl rfl (ak 0 105 false) HV0.out HB7.out ?_; intro w8 hb8 hk8 hs8; clear hs8)
     refine bodyPost_ret (v := .agg (rv 0 105 false).toArray) (aq.results_one rfl _ (ak 0 105 false) rfl hb8) rfl ?_
     exact ⟨rfl, HT7.out.st H.out HB7.out (by decide) (Nat.le_refl _) hk8⟩
    ·rw [if_neg (by intro h; exact hq2 h.2)] at HS
     have HQ2 := aa hq2
     go_wp2_with (refine cI.wpList_ldG (by rfl) rfl rfl HCx.out HX7.out ?_)
     refine (HCh.out _).mono ?_; rintro e w8 ⟨rfl, k8⟩
     have HT8 := aa (HT7.out.nob k8)
     have HB8 := aa (HB7.out.nob k8)
     have HX8 := aa (HX7.out.nob k8)
     clear k8
     cases ch with
     | false =>
      rw [if_pos ⟨hti, by simp⟩] at HS
      obtain ⟨rfl, rfl⟩ : S = S' ∧ 103 = E := by simpa using HS.out
      go_wp2_with (refine aq.wpList_st rfl rfl rfl rfl (ak 0 103 false) HV0.out HB8.out ?_; intro w9 hb9 hk9 hs9; clear hs9)
      refine bodyPost_ret (v := .agg (rv 0 103 false).toArray) (aq.results_one rfl _ (ak 0 103 false) rfl hb9) rfl ?_
      exact ⟨rfl, HT8.out.st H.out HB8.out (by decide) (Nat.le_refl _) hk9⟩
     | true =>
      go_wp2_with (refine cI.wpList_ldG (by rfl) rfl rfl HCx.out HX8.out ?_)
      refine (HAc.out _).mono ?_; rintro e w9 ⟨rfl, k9⟩
      have HT9 := aa (HT8.out.nob k9)
      have HB9 := aa (HB8.out.nob k9)
      have HX9 := aa (HX8.out.nob k9)
      clear k9
      cases ac with
      | false =>
       rw [if_pos ⟨hti, by simp⟩] at HS
       obtain ⟨rfl, rfl⟩ : S = S' ∧ 103 = E := by simpa using HS.out
       go_wp2_with (refine aq.wpList_st rfl rfl rfl rfl (ak 0 103 false) HV0.out HB9.out ?_; intro w10 hb10 hk10 hs10; clear hs10)
       refine bodyPost_ret (v := .agg (rv 0 103 false).toArray) (aq.results_one rfl _ (ak 0 103 false) rfl hb10) rfl ?_
       exact ⟨rfl, HT9.out.st H.out HB9.out (by decide) (Nat.le_refl _) hk10⟩
      | true =>
       rw [if_neg (by simp)] at HS
       have HWu := aa (show ∀ y ∈ u.set 2 g, Cd.Wf y from fp (il HUl.out (HG.out (by
        have h1 := HAq.out rfl
        exact h1))) 2 (by have := HB.out; unfold Cd.Wf; omega))
       by_cases hg : g = t
       ·rw [if_neg (by simp [hg])] at HS
        have hgt : (g != t) = false := by simp [hg]
        clear hg
        obtain ⟨ok, hok⟩ : ∃ ok, (decide ((S.p t).2 ≠ 2) && Cd.okd (u.set 2 g)) = ok := ⟨_, rfl⟩
        have hset : (decide (q ≠ 2) && Cd.okd (u.set 2 g)) = ok := by rw [← hok, HQ.out]
        rw [hset] at HS
        have HSe := aa (show (if ok then S.setP t (u.set 2 g) else S) = S' ∧ erB ok = E by simpa using HS.out)
        have HEr := aa (fun W => ed ok W)
        rw [HSe.out.2] at HEr
        have HVr := aa (ak 0 E false)
        have hul2 : (u.set 2 g).length = 16 := by rw [List.length_set]; exact HUl.out
        have HSet := aa (fun W K' (hK : Ks F n W K' C src S) => bv hK t (by have := HB.out; unfold Cd.Wf; omega) (u.set 2 g) hul2 HWu.out ok hok)
        have HCu := aa (ai hul2)
        have q4 := (HX9.out.cell 4).trans HC4.out
        have f4 := HX9.out.frozen 4
        clear hok hset hul2
        go_upto_region 14 with fail
        have ks : Keep (fun x => x = g5) w9 (w9.setCell ⟨g5, 4, none⟩ (.int .i64 g)) := (Keep.refl (fun x => x = g5) w9).setCell ⟨g5, 4, none⟩ (.int .i64 g) (fun _ => rfl)
        have hx20 : Blk (w9.setCell ⟨g5, 4, none⟩ (.int .i64 g)) g5 94 (ab (t :: q :: u.set 2 g)) := by
         rw [← HS4.out]
         exact HX9.out.setCell 4 _
        have HT20 := aa (HT9.out.st H.out HX9.out (by decide) hsz5 ks)
        have HB20 := aa (HB9.out.keep ks (by omega))
        have hrng := du hx20 2 16
        rw [show ((ab (t :: q :: u.set 2 g)).drop 2).take 16 = ab (u.set 2 g) by
         have := HCu.out.len
         show (ab (u.set 2 g)).take 16 = _
         rw [List.take_of_length_le (by omega)]] at hrng
        have HRg := aa hrng
        clear hrng hx20 ks q4 f4
        generalize w9.setCell ⟨g5, 4, none⟩ (.int .i64 g) = w20 at *
        generalize u.set 2 g = u2 at *
        go_wp2_with (refine wpList_load_mid rfl 37 _ rfl g5 2 rfl (ab u2) _ HRg.out Tryz.underlying37 rfl (by rw [HCu.out.len]; exact ar.i) ?_)
        refine (HT20.out.go (HSet.out _)).mono ?_; rintro e w21 ⟨rfl, T21, kp21⟩
        rw [HSe.out.1] at T21
        have HB21 := aa (kp21.lb H.out HB20.out (Nat.le_refl _))
        have HT21 := aa T21
        clear T21 kp21
        go_wp2_with fail
        refine (HEr.out _).mono ?_; rintro e w22 ⟨rfl, rfl⟩
        go_wp2_with (refine aq.wpList_st rfl rfl rfl rfl HVr.out HV0.out HB21.out ?_; intro w23 hb23 hk23 hs23; clear hs23)
        refine bodyPost_ret (v := .agg (rv 0 E false).toArray) (aq.results_one rfl _ HVr.out rfl hb23) rfl ?_
        exact ⟨rfl, HT21.out.st H.out HB21.out (by decide) (Nat.le_refl _) hk23⟩
       ·have hgt : (g != t) = true := bne_iff_ne.2 hg
        obtain ⟨l, hl⟩ : ∃ l, pk S (cy g) 8 = l := ⟨_, rfl⟩
        obtain ⟨ln, hln⟩ : ∃ ln, l.length = ln := ⟨_, rfl⟩
        have hc := HT9.out.go (fun K' hK => ij hK g)
        rw [hl, hln] at hc
        rw [hl, hln] at HS
        clear hl hln
        go_wp2_with fail
        refine hc.mono ?_; rintro e w10 ⟨⟨A, cap, rfl, _⟩, T10, kp10⟩
        have HT10 := aa T10
        have HB10 := aa (kp10.lb H.out HB9.out (Nat.le_refl _))
        have HX10 := aa (kp10.lb H.out HX9.out hsz5)
        clear T10 kp10 hc
        by_cases h0 : ln = 0
        ·rw [if_pos ⟨hg, h0⟩] at HS
         obtain ⟨rfl, rfl⟩ : S = S' ∧ 101 = E := by simpa using HS.out
         subst h0
         go_wp2_with (refine aq.wpList_st rfl rfl rfl rfl (ak 0 101 false) HV0.out HB10.out ?_; intro w11 hb11 hk11 hs11; clear hs11)
         refine bodyPost_ret (v := .agg (rv 0 101 false).toArray) (aq.results_one rfl _ (ak 0 101 false) rfl hb11) rfl ?_
         exact ⟨rfl, HT10.out.st H.out HB10.out (by decide) (Nat.le_refl _) hk11⟩
        ·rw [if_neg (by intro h; exact h0 h.2)] at HS
         have hl0 : ((ln : Int) == 0) = false := by simp; omega
         obtain ⟨ok, hok⟩ : ∃ ok, (decide ((S.p t).2 ≠ 2) && Cd.okd (u.set 2 g)) = ok := ⟨_, rfl⟩
         have hset : (decide (q ≠ 2) && Cd.okd (u.set 2 g)) = ok := by rw [← hok, HQ.out]
         rw [hset] at HS
         have HSe := aa (show (if ok then S.setP t (u.set 2 g) else S) = S' ∧ erB ok = E by simpa using HS.out)
         have HEr := aa (fun W => ed ok W)
         rw [HSe.out.2] at HEr
         have HVr := aa (ak 0 E false)
         have hul2 : (u.set 2 g).length = 16 := by rw [List.length_set]; exact HUl.out
         have HSet := aa (fun W K' (hK : Ks F n W K' C src S) => bv hK t (by have := HB.out; unfold Cd.Wf; omega) (u.set 2 g) hul2 HWu.out ok hok)
         have HCu := aa (ai hul2)
         have q4 := (HX10.out.cell 4).trans HC4.out
         have f4 := HX10.out.frozen 4
         clear hok hset hul2
         go_upto_region 14 with fail
         have ks : Keep (fun x => x = g5) w10 (w10.setCell ⟨g5, 4, none⟩ (.int .i64 g)) := (Keep.refl (fun x => x = g5) w10).setCell ⟨g5, 4, none⟩ (.int .i64 g) (fun _ => rfl)
         have hx20 : Blk (w10.setCell ⟨g5, 4, none⟩ (.int .i64 g)) g5 94 (ab (t :: q :: u.set 2 g)) := by
          rw [← HS4.out]
          exact HX10.out.setCell 4 _
         have HT20 := aa (HT10.out.st H.out HX10.out (by decide) hsz5 ks)
         have HB20 := aa (HB10.out.keep ks (by omega))
         have hrng := du hx20 2 16
         rw [show ((ab (t :: q :: u.set 2 g)).drop 2).take 16 = ab (u.set 2 g) by
          have := HCu.out.len
          show (ab (u.set 2 g)).take 16 = _
          rw [List.take_of_length_le (by omega)]] at hrng
         have HRg := aa hrng
         clear hrng hx20 ks q4 f4
         generalize w10.setCell ⟨g5, 4, none⟩ (.int .i64 g) = w20 at *
         generalize u.set 2 g = u2 at *
         go_wp2_with (refine wpList_load_mid rfl 37 _ rfl g5 2 rfl (ab u2) _ HRg.out Tryz.underlying37 rfl (by rw [HCu.out.len]; exact ar.i) ?_)
         refine (HT20.out.go (HSet.out _)).mono ?_; rintro e w21 ⟨rfl, T21, kp21⟩
         rw [HSe.out.1] at T21
         have HB21 := aa (kp21.lb H.out HB20.out (Nat.le_refl _))
         have HT21 := aa T21
         clear T21 kp21
         go_wp2_with fail
         refine (HEr.out _).mono ?_; rintro e w22 ⟨rfl, rfl⟩
         go_wp2_with (refine aq.wpList_st rfl rfl rfl rfl HVr.out HV0.out HB21.out ?_; intro w23 hb23 hk23 hs23; clear hs23)
         refine bodyPost_ret (v := .agg (rv 0 E false).toArray) (aq.results_one rfl _ HVr.out rfl hb23) rfl ?_
         exact ⟨rfl, HT21.out.st H.out HB21.out (by decide) (Nat.le_refl _) hk23⟩
 ·rw [if_neg (by decide)] at HS
  obtain ⟨rfl, rfl⟩ : S = S' ∧ 105 = E := by simpa using HS.out
  go_wp2_with (refine aq.wpList_st rfl rfl rfl rfl (ak 0 105 false) HV0.out HB4.out ?_; intro w5 hb5 hk5 hs5; clear hs5)
  refine bodyPost_ret (v := .agg (rv 0 105 false).toArray) (aq.results_one rfl _ (ak 0 105 false) rfl hb5) rfl ?_
  exact ⟨rfl, T4.out.st H.out HB4.out (by decide) (Nat.le_refl _) hk5⟩
end
end Go.Proofs.YtgcikpgcoemfnaaGreat.Pr
namespace Go.Proofs.YtgcikpgcoemfnaaGreat.Pr
open Go.RowKit Co
def ia (S : Stt) (t : Int) : List (List Int) × Int :=
 if 7 < t then (if (pk S (cy (t - 8)) 8).length = 0 then ([], 103) else (pk S (cy (t - 8)) 8, 0))
 else if (S.p t).2 = 2 then ([], 105) else if (S.p t).2 = 0 then ([], 103) else ([slS S t], 0)
section
variable {F : List UInt8 → Prop} {n : Nat} {w w' w1 : World} {K : Kn} {C : Cm} {src : Src} {S S' S2 : Stt}
theorem kj (w w' : World) : fJ w w' [] none 0 := ⟨Vec.nil _ _ _, fun x ⟨a, e, _⟩ => by cases e⟩
theorem targets_is (h : Ks F n w K C src S) (t : Int) (ht : -9223372036854775800 ≤ t ∧ t ≤ 9223372036854775807) (l : List (List Int)) (er : Int) (hs : ia S t = (l, er)) :
  Calls Tryz.prog 68 #[.pointer (some ⟨C.p, 0, none⟩), .int .i64 t] w fun e w' => (∃ A cap, e = .returned (.tuple #[.slice A l.length cap, .int .i64 er]) ∧ fJ w w' l A cap) ∧ Kt F n w K C src S w' := by
 have H := aa h
 unfold ia at hs
 by_cases h7 : 7 < t
 ·rw [if_pos h7] at hs
  have hw1 : wrap64 (t - 8) = t - 8 := by rw [← IntWalk.i64_left, IntKind.wrap_i64]; omega
  have HM := aa (fun W K' (hK : Ks F n W K' C src S) => ij hK (t - 8))
  obtain ⟨l0, hl0⟩ : ∃ l0, pk S (cy (t - 8)) 8 = l0 := ⟨_, rfl⟩
  rw [hl0] at hs HM
  obtain ⟨ln, hln⟩ : ∃ ln, l0.length = ln := ⟨_, rfl⟩
  have HLn := aa hln
  have HS := aa hs
  clear h ht hs hl0 hln
  go_enter Tryz.func68, Tryz.ntmps68
  go_wp2_with fail
  have T0 := H.out.still (Keep.refl Nob w)
  have hc := T0.go (HM.out _)
  rw [HLn.out] at hc
  refine hc.mono ?_; rintro e w2 ⟨⟨A, cap, rfl, hm⟩, T2, _⟩
  have HMd := aa hm
  have HT2 := aa T2
  clear hm T2 T0 hc
  by_cases h0 : ln = 0
  ·have hs := HS.out
   rw [if_pos (by rw [HLn.out]; exact h0)] at hs
   obtain ⟨rfl, rfl⟩ : [] = l ∧ 103 = er := by simpa using hs
   subst h0
   clear hs
   go_wp2
   go_ret2
   exact ⟨⟨none, 0, rfl, kj _ _⟩, HT2.out⟩
  ·have hs := HS.out
   rw [if_neg (by rw [HLn.out]; exact h0)] at hs
   obtain ⟨rfl, hz0⟩ : l0 = l ∧ 0 = er := by simpa using hs
   have HE0 := aa hz0
   have h1 : ((ln : Int) == 0) = false := by simp; omega
   clear hs hz0
   go_wp2
   go_ret2
   exact ⟨⟨A, cap, by rw [HLn.out, ← HE0.out]; rfl, HMd.out⟩, HT2.out⟩
 ·rw [if_neg h7] at hs
  obtain ⟨v, d, hv⟩ : ∃ v d, S.p t = (v, d) := ⟨_, _, rfl⟩
  have hvl := eu h.s hv
  have HAt := aa (fun W K' (hK : Ks F n W K' C src S) => at_is hK t (by unfold Cd.Wf; omega) v d hv)
  have hsl : slS S t = t :: d :: v := by unfold slS; rw [hv]
  rw [hsl, hv] at hs
  dsimp only at hs
  obtain ⟨x, hx⟩ : ∃ x, t :: d :: v = x := ⟨_, rfl⟩
  have c1 : (ab x)[1]? = some (.int .i64 d) := by rw [← hx]; rfl
  have hxl : x.length = 18 := by rw [← hx]; simp [hvl]
  rw [hx] at HAt hs
  have HS := aa hs
  have HXl := aa hxl
  have HCx := aa (ai hxl)
  have HZ := aa (ai (n := 18) (l := List.replicate 18 0) rfl)
  clear h ht hs hv hvl hsl hx hxl
  go_enter Tryz.func68, Tryz.ntmps68
  go_wp2_with fail
  have T0 := H.out.still (Keep.refl Nob w)
  refine (T0.go (HAt.out _)).mono ?_; rintro e w2 ⟨rfl, T2, _⟩
  have HT2 := aa T2
  have hsz := T2.kp.size
  clear T0 T2
  go_upto_region 7 with (first
   | (refine cI.wpList_al rfl rfl ?_; intro w3 hb3 hk3 hs3; clear hs3)
   | (refine cI.wpList_st rfl rfl rfl rfl HCx.out HZ.out hb3 ?_; intro w4 hb4 hk4 hs4; clear hs4))
  have HT4 := aa ((HT2.out.nob hk3).st H.out hb3 (by decide) hsz hk4)
  have q1 := (hb4.cell 1).trans c1
  have HB4 := aa hb4
  generalize w2.heap.size = g5 at *
  clear hb3 hk3 hb4 hk4
  by_cases h2 : d = 2
  ·obtain ⟨rfl, rfl⟩ : [] = l ∧ 105 = er := by
    have := HS.out
    rw [if_pos h2] at this
    simpa using this
   subst h2
   go_wp2
   go_ret2
   exact ⟨⟨none, 0, rfl, kj _ _⟩, HT4.out⟩
  ·rw [if_neg h2] at HS
   by_cases h0 : d = 0
   ·obtain ⟨rfl, rfl⟩ : [] = l ∧ 103 = er := by
     have := HS.out
     rw [if_pos h0] at this
     simpa using this
    subst h0
    go_wp2
    go_ret2
    exact ⟨⟨none, 0, rfl, kj _ _⟩, HT4.out⟩
   ·obtain ⟨rfl, rfl⟩ : [x] = l ∧ 0 = er := by
     have := HS.out
     rw [if_neg h0] at this
     simpa using this
    obtain ⟨cs, hcs⟩ : ∃ cs, ab x = cs := ⟨_, rfl⟩
    have hbs := fun W => bs_slot cs (by rw [← hcs]; exact HCx.out.len) W
    rw [hcs] at HCx HB4
    have HCS := aa hcs
    have HBS := aa hbs
    clear hcs hbs c1
    go_wp2_with (first
     | (refine cI.wpList_ld rfl rfl rfl HCx.out HB4.out ?_)
     | (refine dL rfl _ 94 _ rfl cs rfl (HBS.out w4) ?_; intro w5 hb5 hk5 hs5; clear hs5))
    have HMd := aa (show fJ w w5 [x] (some ⟨w4.heap.size, 0, none⟩) 1 by
     refine ⟨Vec.of_blk (n := 1) (by rw [show rows [x] = cs by rw [← HCS.out]; simp [rows]]; exact hb5) ?_ (by decide), fun y ⟨a, e, h⟩ => ?_⟩
     ·rw [show rows [x] = cs by rw [← HCS.out]; simp [rows], HCx.out.len]
     ·cases e
      cases h
      exact HT4.out.kp.size)
    have HT5 := aa (HT4.out.nob hk5)
    clear hb5 hk5
    go_ret2
    exact ⟨⟨_, 1, rfl, HMd.out⟩, HT5.out⟩
end
end Go.Proofs.YtgcikpgcoemfnaaGreat.Pr
namespace Go.Proofs.YtgcikpgcoemfnaaGreat.Pr
open Go.RowKit Co
def fz (fds : List Int) : List Int := mk 12 (fun f => ((fds.count ((f : Int) + 1) : Nat) : Int))
theorem eP (fds : List Int) : (fz fds).length = 12 := by simp [fz, mk]
theorem dZ (fds : List Int) {f : Nat} (hf : f < 12) : (fz fds).getD f 0 = ((fds.count ((f : Int) + 1) : Nat) : Int) := by
 unfold fz mk
 rw [List.getD_eq_getElem?_getD, List.getElem?_map, List.getElem?_range hf]
 rfl
theorem ext12 {a b : List Int} (ha : a.length = 12) (hb : b.length = 12) (h : ∀ f, f < 12 → a.getD f 0 = b.getD f 0) : a = b := by
 apply List.ext_getElem (by omega)
 intro f h1 h2
 have := h f (by omega)
 rw [List.getD_eq_getElem?_getD, List.getD_eq_getElem?_getD, List.getElem?_eq_getElem h1, List.getElem?_eq_getElem h2] at this
 simpa using this
theorem iP {fds : List Int} {k : Nat} {fd : Int} (h : fds[k]? = some fd) (x : Int) : (fds.take (k + 1)).count x = (fds.take k).count x + (if fd = x then 1 else 0) := by
 rw [List.take_add_one, h, List.count_append]
 simp [List.count_cons]
theorem cntL_zero {fds : List Int} {k : Nat} (h : fds[k]? = some 0) : fz (fds.take (k + 1)) = fz (fds.take k) := by
 refine ext12 (eP _) (eP _) (fun f hf => ?_)
 rw [dZ _ hf, dZ _ hf, iP h, if_neg (by omega)]
 simp
theorem cntL_succ {fds : List Int} {k j : Nat} (h : fds[k]? = some ((j : Int) + 1)) (hj : j < 12) : fz (fds.take (k + 1)) = (fz (fds.take k)).set j ((fz (fds.take k)).getD j 0 + 1) := by
 refine ext12 (eP _) (by rw [List.length_set]; exact eP _) (fun f hf => ?_)
 rw [dZ _ hf, iP h, List.getD_eq_getElem?_getD, List.getElem?_set]
 by_cases e : j = f
 ·subst e
  rw [if_pos rfl, if_pos rfl, if_pos (by rw [eP]; exact hf), dZ _ hf]
  simp
 ·rw [if_neg (by omega), if_neg e, ← List.getD_eq_getElem?_getD, dZ _ hf]
  simp
def newF (S : Stt) (cn : List Int) (f : Nat) : List Int := [(S.f f).1.getD 0 0, (S.f f).1.getD 1 0, (S.f f).1.getD 2 0 + cn.getD f 0, (S.f f).1.getD 3 0]
def fL (S : Stt) (cn : List Int) (done : List Int) : List (List Int) := mk 12 (fun f => if ((f : Int) + 1) ∈ done then newF S cn f else [0, 0, 0, 0])
theorem eJ (S : Stt) (cn done : List Int) : (fL S cn done).length = 12 := by simp [fL, mk]
theorem jq (S : Stt) (cn done : List Int) : ∀ x ∈ fL S cn done, x.length = 4 := fun x hx => by
 unfold fL mk at hx
 obtain ⟨f, _, rfl⟩ := List.mem_map.1 hx
 split <;> rfl
theorem gw (S : Stt) (cn done : List Int) {f : Nat} (hf : f < 12) : (fL S cn done)[f]? = some (if ((f : Int) + 1) ∈ done then newF S cn f else [0, 0, 0, 0]) := by
 unfold fL mk
 rw [List.getElem?_map, List.getElem?_range hf]
 rfl
theorem kU {fds : List Int} {k : Nat} {fd : Int} (h : fds[k]? = some fd) (x : Int) : x ∈ fds.take (k + 1) ↔ x ∈ fds.take k ∨ x = fd := by
 rw [List.take_add_one, h]
 simp
theorem filL_zero {S : Stt} {cn fds : List Int} {k : Nat} (h : fds[k]? = some 0) : fL S cn (fds.take (k + 1)) = fL S cn (fds.take k) := by
 apply List.ext_getElem?
 intro f
 by_cases hf : f < 12
 ·rw [gw S cn _ hf, gw S cn _ hf]
  have : ((f : Int) + 1 ∈ fds.take (k + 1)) ↔ ((f : Int) + 1 ∈ fds.take k) := by
   rw [kU h]
   constructor
   ·rintro (h | h)
    ·exact h
    ·omega
   ·exact .inl
  simp only [this]
 ·rw [List.getElem?_eq_none (by rw [eJ]; omega), List.getElem?_eq_none (by rw [eJ]; omega)]
theorem filL_succ {S : Stt} {cn fds : List Int} {k j : Nat} (h : fds[k]? = some ((j : Int) + 1)) (hj : j < 12) : fL S cn (fds.take (k + 1)) = (fL S cn (fds.take k)).set j (newF S cn j) := by
 apply List.ext_getElem?
 intro f
 by_cases hf : f < 12
 ·rw [gw S cn _ hf, List.getElem?_set]
  by_cases e : j = f
  ·subst e
   rw [if_pos rfl, if_pos ((kU h _).2 (.inr rfl)), if_pos (by rw [eJ]; exact hf)]
  ·rw [if_neg e, gw S cn _ hf]
   have : ((f : Int) + 1 ∈ fds.take (k + 1)) ↔ ((f : Int) + 1 ∈ fds.take k) := by
    rw [kU h]
    constructor
    ·rintro (h | h)
     ·exact h
     ·omega
    ·exact .inl
   simp only [this]
 ·rw [List.getElem?_eq_none (by rw [eJ]; omega), List.getElem?_eq_none (by rw [List.length_set, eJ]; omega)]
theorem dA {m : Nat} {x : List Int} (hx : x.length = m) : ∀ {l : List (List Int)} {j : Nat}, (∀ y ∈ l, y.length = m) → j < l.length → rows (l.set j x) = splice (rows l) (j * m) (ab x)
 | [], _, _, h => absurd h (by simp)
 | y :: l, 0, hW, _ => by
  have hy := hW y (by simp)
  simp [rows, splice, ab, hx, hy]
 | y :: l, j + 1, hW, h => by
  have hy := hW y (by simp)
  have ih := dA hx (l := l) (j := j) (fun z hz => hW z (by simp [hz])) (by simpa using h)
  have e : rows (y :: l) = ab y ++ rows l := by simp [rows]
  have e2 : rows ((y :: l).set (j + 1) x) = ab y ++ rows (l.set j x) := by simp [rows]
  rw [e2, ih, e]
  have hi : (ab y).length = m := by simp [ab, hy]
  unfold splice
  rw [List.take_append, List.drop_append, hi]
  have h1 : List.take ((j + 1) * m) (ab y) = ab y := List.take_of_length_le (by rw [hi, Nat.add_mul]; omega)
  have h2 : List.drop ((j + 1) * m + (ab x).length) (ab y) = [] := List.drop_eq_nil_of_le (by rw [hi, Nat.add_mul]; omega)
  rw [h1, h2, show (j + 1) * m - m = j * m by rw [Nat.add_mul]; omega, show (j + 1) * m + (ab x).length - m = j * m + (ab x).length by rw [Nat.add_mul]; omega]
  simp
def scan (S : Stt) (cn : List Int) : List Int → Int
 | [] => 0
 | fd :: l => if fd = 0 then scan S cn l else if (S.f (fd - 1)).2 ≠ 1 then 105 else if 64 < (S.f (fd - 1)).1.getD 2 0 + cn.getD (fd - 1).toNat 0 then 123 else scan S cn l
theorem scan_cons (S : Stt) (cn : List Int) (fd : Int) (l : List Int) : scan S cn (fd :: l) = if fd = 0 then scan S cn l else if (S.f (fd - 1)).2 ≠ 1 then 105 else if 64 < (S.f (fd - 1)).1.getD 2 0 + cn.getD (fd - 1).toNat 0 then 123 else scan S cn l := rfl
theorem ku {S : Stt} {cn : List Int} : ∀ {l : List Int}, scan S cn l = 0 → ∀ fd ∈ l, fd ≠ 0 → (S.f (fd - 1)).2 = 1 ∧ (S.f (fd - 1)).1.getD 2 0 + cn.getD (fd - 1).toNat 0 ≤ 64
 | [], _, fd, hm, _ => absurd hm (by simp)
 | x :: l, h, fd, hm, h0 => by
  unfold scan at h
  split at h
  ·rename_i hx
   rcases List.mem_cons.1 hm with rfl | hm
   ·exact absurd hx h0
   ·exact ku h fd hm h0
  ·split at h
   ·cases h
   ·split at h
    ·cases h
    ·rename_i h1 h2
     rcases List.mem_cons.1 hm with rfl | hm
     ·exact ⟨by omega, by omega⟩
     ·exact ku h fd hm h0
def shS (S : Stt) (cn : List Int) : Nat → Stt
 | 0 => S
 | k + 1 => if 0 < cn.getD k 0 then (shS S cn k).setF k (newF S cn k) else shS S cn k
def ep (S : Stt) (fds : List Int) : Stt × Int := if scan S (fz fds) fds = 0 then (shS S (fz fds) 12, 0) else (S, scan S (fz fds) fds)
theorem shS_far (S : Stt) (cn : List Int) : ∀ (k : Nat) (j : Int), (k : Int) ≤ j → (shS S cn k).f j = S.f j
 | 0, _, _ => rfl
 | k + 1, j, h => by
  unfold shS
  split
  ·show upd _ _ _ j = _
   rw [cO (by omega)]
   exact shS_far S cn k j (by omega)
  ·exact shS_far S cn k j (by omega)
theorem flatA12 : cS 186 12 (ab (List.replicate 12 0)) := ⟨⟨_, Tryz.underlying186, rfl⟩, by kernel_rfl, fun W => by go_simp; rfl, rfl⟩
theorem flatF12 : cS 187 48 (ab (List.replicate 48 0)) := ⟨⟨_, Tryz.underlying187, rfl⟩, by kernel_rfl, fun W => by go_simp; rfl, rfl⟩
theorem index12 (f : List Int) (hf : f.length = 12) (k : Nat) (hk : k < 12) (W : World) : (Instr.index 186 (.agg (ab f).toArray) (.int .i64 (k : Int))).run Tryz.prog W = .ok (.int .i64 (f.getD k 0)) W := by
 have hg := Tryz.isAgg3
 have hs := Tryz.sizeOf3
 have h0 : (0 : Int) ≤ (k : Int) := by omega
 have h8 : ((k : Nat) : Int) < ((12 : Nat) : Int) := by omega
 have hc : ((ab f).toArray)[k]? = some (.int .i64 (f.getD k 0)) := by
  rw [List.getElem?_toArray, bg, List.getD_eq_getElem?_getD, List.getElem?_eq_getElem (by omega)]; rfl
 generalize (ab f).toArray = A at *
 simp [Instr.index, asIntOf, run_underlying Tryz.underlying186, Go.part, hg, hs, h8, hc, Sem.run_bind, Result.andThen]
 intro hk2
 omega
theorem jr {ops : Array Oper} {rest : List Oper} {op : Oper} {a : Act} {w : World} {Q : Exit → Act → World → Prop} (hw : Region.wanted op (yielded ops a.tmps) = true) (ty : TypeId) (x : Operand) (ho : op.op = .load ty x)
  (b o : Nat) (hx : a.eval x = .pointer (some ⟨b, o, none⟩)) (cs : List Value) (d : TypeDesc) (hc : w.rangeAt b o cs)
  (hu : Tryz.prog.underlying ty = some d) (hd : d.isRow = true) (hi : (Tryz.prog.info? ty).map (·.size) = some cs.length)
  (h : wpList Tryz.prog ops Q rest (a.put op.dst (.agg cs.toArray)) w) : wpList Tryz.prog ops Q (op :: rest) a w := by
 refine wpList_step fun K hK => ?_
 rw [if_pos hw]
 exact wp_load_mid ty x ho b o hx cs d hc hu hd hi (hK _ _ h)
end Go.Proofs.YtgcikpgcoemfnaaGreat.Pr
