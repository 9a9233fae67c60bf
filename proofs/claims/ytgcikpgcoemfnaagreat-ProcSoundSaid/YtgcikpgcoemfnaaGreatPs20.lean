import Derived.Great.BuildSlice
import Derived.Test.YtgcikpgcoemfnaaGreatPs12
import Derived.Test.YtgcikpgcoemfnaaGreatPs16
set_option maxRecDepth 100000
set_option maxHeartbeats 8000000
set_option linter.unusedVariables false
set_option linter.unusedSimpArgs false
namespace Go.Proofs.YtgcikpgcoemfnaaGreat.Au
open Go.RowKit Co
def rcI (x : Nat × List Int) : List Value := .int .i64 x.1 :: ab x.2
def rcR (x : Nat × Ri.Pp) : List Value := .int .i64 x.1 :: Ri.pc x.2
def rows {α : Type} (f : α → List Value) (l : List α) : List Value := (l.map f).flatten
theorem iX {α : Type} {f : α → List Value} {W : Nat} {l : List α} (hW : ∀ x ∈ l, (f x).length = W) {k j : Nat} {x : α} (h : l[k]? = some x) (hj : j < W) : (rows f l)[k * W + j]? = (f x)[j]? := by
 have hW' : ∀ c ∈ l.map f, c.length = W := fun c hc => by
  obtain ⟨x, hx, rfl⟩ := List.mem_map.1 hc
  exact hW x hx
 have := aE (l.map f) hW' k j hj
 rw [List.getElem?_map, h] at this
 exact this
theorem aZ {α : Type} {f : α → List Value} {W n : Nat} {l : List α} {w : World} {A : Option Addr} (hW : ∀ x ∈ l, (f x).length = W) (h0 : 0 < W) (hx : ae w A (n * W) (rows f l)) {k : Nat} {x : α} (h : l[k]? = some x) (hn : k < n) : ∃ b off, A = some ⟨b, off, none⟩ ∧ w.rangeAt b (off + k * W) (f x) := by
 obtain ⟨b, off, hA, hcl⟩ := hx.lit (Nat.mul_pos (by omega) h0)
 refine ⟨b, off, hA, fun j v hv => ?_⟩
 have hj : j < W := by
  have := (List.getElem?_eq_some_iff.1 hv).1
  rwa [hW x (List.mem_of_getElem? h)] at this
 rw [Nat.add_assoc]
 exact hcl (k * W + j) v (by rw [iX hW h hj]; exact hv)
theorem lenI {n : Nat} {x : Nat × List Int} (h : x.2.length = n) : (rcI x).length = n + 1 := by simp [rcI, ab, h]
theorem lenR {x : Nat × Ri.Pp} (h : x.2.d.length = 32) : (rcR x).length = 37 := by simp [rcR, Ri.bQ h]
theorem gP {n : Nat} {x : Nat × List Int} (h : x.2.length = n) : cE (n + 1) (rcI x) := ⟨lenI h, fun v hv => by
 rcases List.mem_cons.1 hv with rfl | hv
 ·rfl
 ·exact dz _ v hv⟩
theorem cellsRR {x : Nat × Ri.Pp} (h : x.2.d.length = 32) : cE 37 (rcR x) := ⟨lenR h, fun v hv => by
 rcases List.mem_cons.1 hv with rfl | hv
 ·rfl
 ·exact Ri.jl _ v hv⟩
theorem iJ : (Tryz.prog.info? 334).map (·.size) = some 17 := by kernel_rfl
theorem iL : (Tryz.prog.info? 336).map (·.size) = some 5 := by kernel_rfl
theorem info_rR : (Tryz.prog.info? 338).map (·.size) = some 37 := by kernel_rfl
theorem cD {α : Type} {p : α → Bool} {l : List α} {k : Nat} {x : α} (h : l[k]? = some x) (hk : (l.take k).any p = false) (hp : p x = false) : (l.take (k + 1)).any p = false := by
 rw [List.take_add_one, h, List.any_append, hk]
 simpa using hp
theorem fS {α : Type} {p : α → Bool} {l : List α} {k : Nat} {x : α} (h : l[k]? = some x) (hp : p x = true) : l.any p = true := List.any_eq_true.2 ⟨x, List.mem_of_getElem? h, hp⟩
end Go.Proofs.YtgcikpgcoemfnaaGreat.Au
namespace Go.Proofs.YtgcikpgcoemfnaaGreat.Au
open Go.RowKit Co
theorem hasP_cl {w : World} {q : Nat} (i : Int) (hc : w.cell? ⟨q, 0, none⟩ = some (.int .i64 i)) (x : Nat × List Int) :
  Calls Tryz.prog 311 #[.agg (rcI x).toArray, .pointer (some ⟨q, 0, none⟩)] w fun e w' => e = .returned (.bool ((x.1 : Int) == i)) ∧ Keep Nob w w' := by
 have h0 : (rcI x)[0]? = some (.int .i64 x.1) := rfl
 generalize rcI x = cs at *
 go_enter Tryz.func311, Tryz.ntmps311
 go_wp2_with (refine af rfl 334 _ rfl cs.toArray rfl ?_; intro w1 hb k1 hs; clear hs; have c0 : w1.cell? ⟨w.heap.size, 0, none⟩ = some (.int .i64 x.1) := (hb.cell 0).trans h0; have c1 := k1.cell_nob hc; have K1 := aa k1; clear hb k1)
 go_ret
 exact ⟨rfl, K1.out⟩
theorem ixP_has {w : World} {q : Nat} (A : Option Addr) (n c : Nat) (l : List (Nat × List Int)) (hl : l.length = n) (hw : ∀ x ∈ l, x.2.length = 16) (hx : ae w A (n * 17) (rows rcI l)) (hn : n ≤ 1000) (p : Nat × List Int → Bool)
  (hf : ∀ W x, x ∈ l → Keep Nob w W → Calls Tryz.prog 311 #[.agg (rcI x).toArray, .pointer (some ⟨q, 0, none⟩)] W fun e w' => e = .returned (.bool (p x)) ∧ Keep Nob W w') :
  Calls Tryz.prog 310 #[.slice A n c, .func (.func 311) #[] #[.pointer (some ⟨q, 0, none⟩)]] w fun e w' => ∃ k : Int, e = .returned (.int .i64 k) ∧ decide (0 ≤ k) = l.any p ∧ Keep Nob w w' := by
 have HW := aa (show ∀ x ∈ l, (rcI x).length = 17 from fun x hx => lenI (hw x hx))
 have HX := aa hx
 have HL := aa hl
 have HF := aa hf
 have hz := iJ
 have HZ := aa hz
 clear hx hl hf hw hz
 go_enter Tryz.func310, Tryz.ntmps310
 go_wp2_with fail
 go_loopw [8] (fun s8 wx => ∃ k : Nat, k ≤ n ∧ s8 = .int .i64 k ∧ Keep Nob w wx ∧ Hid ((l.take k).any p = false)) (fun s8 _ => n - (intOf s8).toNat)
 case atStart => exact ⟨0, Nat.zero_le _, rfl, Keep.refl _ _, aa rfl⟩
 case round =>
  obtain ⟨k, hk, rfl, hK, HA⟩ := hrel
  by_cases hlt : k < n
  ·obtain ⟨x, hx⟩ : ∃ x, l[k]? = some x := ⟨_, List.getElem?_eq_getElem (by rw [HL.out]; exact hlt)⟩
   obtain ⟨b, off, hA, hm⟩ := aZ HW.out (by decide) (HX.out.nob hK) hx hlt
   have hxm := List.mem_of_getElem? hx
   have hcall := HF.out wr x hxm hK
   have hwx := HW.out x hxm
   have HX' := aa hx
   have HM := aa hm
   have HWX := aa hwx
   obtain ⟨cs, hcs⟩ : ∃ cs, rcI x = cs := ⟨_, rfl⟩
   rw [hcs] at hcall HM HWX
   obtain ⟨v, hv⟩ : ∃ v, p x = v := ⟨_, rfl⟩
   rw [hv] at hcall
   have HV := aa hv
   subst hA
   clear hx hxm hm hwx hcs hv
   go_wp2_with (refine wpList_load_mid rfl 334 _ rfl b (off + k * 17) rfl cs _ HM.out Tryz.underlying334 rfl (by rw [HWX.out]; exact HZ.out) ?_)
   refine hcall.mono ?_; rintro e w1 ⟨rfl, k1⟩
   have hK2 := hK.nobt k1
   clear hcall k1
   cases v with
   | true =>
    go_wp2
    go_ret
    exact ⟨_, rfl, by rw [fS HX'.out HV.out]; simp, hK2⟩
   | false =>
    have HA2 := aa (cD HX'.out HA.out HV.out)
    go_wp2_with fail
    go_roundw
    case rel => exact ⟨k + 1, by omega, by go_num, hK2, HA2⟩
    case measure => simp [intOf]; omega
  ·have hkn : k = n := by omega
   have e : l.any p = false := by
    have := HA.out
    rw [List.take_of_length_le (by rw [HL.out, hkn]; exact Nat.le_refl _)] at this
    exact this
   go_wp2
   go_ret
   exact ⟨_, rfl, by rw [e]; rfl, hK⟩
theorem cfP_has {w : World} {q : Nat} (A : Option Addr) (n c : Nat) (l : List (Nat × List Int)) (hl : l.length = n) (hw : ∀ x ∈ l, x.2.length = 16) (hx : ae w A (n * 17) (rows rcI l)) (hn : n ≤ 1000) (p : Nat × List Int → Bool)
  (hf : ∀ W x, x ∈ l → Keep Nob w W → Calls Tryz.prog 311 #[.agg (rcI x).toArray, .pointer (some ⟨q, 0, none⟩)] W fun e w' => e = .returned (.bool (p x)) ∧ Keep Nob W w') :
  Calls Tryz.prog 237 #[.slice A n c, .func (.func 311) #[] #[.pointer (some ⟨q, 0, none⟩)]] w fun e w' => e = .returned (.bool (l.any p)) ∧ Keep Nob w w' := by
 have hcall := ixP_has A n c l hl hw hx hn p hf
 generalize l.any p = v at *
 clear hx hf hl hw
 go_enter Tryz.func237, Tryz.ntmps237
 go_wp2_with fail
 refine hcall.mono ?_; rintro e w1 ⟨k, rfl, hk, k1⟩
 subst hk
 clear hcall
 go_wp2
 go_ret
 exact ⟨by first | rfl | simp, k1⟩
theorem hasP_is {w : World} (A : Option Addr) (n c : Nat) (l : List (Nat × List Int)) (hl : l.length = n) (hw : ∀ x ∈ l, x.2.length = 16) (hx : ae w A (n * 17) (rows rcI l)) (hn : n ≤ 1000) (i : Int) :
  Calls Tryz.prog 239 #[.slice A n c, .int .i64 i] w fun e w' => e = .returned (.bool (l.any fun x => (x.1 : Int) == i)) ∧ Keep Nob w w' := by
 have ka := (Keep.refl Nob w).alloc (.cells #[.int .i64 i] 3)
 have ca : ∀ W, Keep Nob (w.alloc (.cells #[.int .i64 i] 3)) W → W.cell? ⟨w.heap.size, 0, none⟩ = some (.int .i64 i) := fun W kW => ((Blk.new w 3 [.int .i64 i]).nob kW).cell 0
 have hcall := cfP_has (q := w.heap.size) A n c l hl hw (hx.nob ka) hn (fun x => (x.1 : Int) == i) (fun W x _ kW => hasP_cl i (ca W kW) x)
 generalize (l.any fun x => (x.1 : Int) == i) = v at *
 have KA := aa ka
 clear hx hl hw ca ka
 go_enter Tryz.func239, Tryz.ntmps239
 go_wp2_with fail
 refine hcall.mono ?_; rintro e w1 ⟨rfl, k1⟩
 go_wp2
 go_ret
 exact ⟨rfl, KA.out.nobt k1⟩
theorem hasF_cl {w : World} {q : Nat} (i : Int) (hc : w.cell? ⟨q, 0, none⟩ = some (.int .i64 i)) (x : Nat × List Int) :
  Calls Tryz.prog 313 #[.agg (rcI x).toArray, .pointer (some ⟨q, 0, none⟩)] w fun e w' => e = .returned (.bool ((x.1 : Int) == i)) ∧ Keep Nob w w' := by
 have h0 : (rcI x)[0]? = some (.int .i64 x.1) := rfl
 generalize rcI x = cs at *
 go_enter Tryz.func313, Tryz.ntmps313
 go_wp2_with (refine af rfl 336 _ rfl cs.toArray rfl ?_; intro w1 hb k1 hs; clear hs; have c0 : w1.cell? ⟨w.heap.size, 0, none⟩ = some (.int .i64 x.1) := (hb.cell 0).trans h0; have c1 := k1.cell_nob hc; have K1 := aa k1; clear hb k1)
 go_ret
 exact ⟨rfl, K1.out⟩
theorem ixF_has {w : World} {q : Nat} (A : Option Addr) (n c : Nat) (l : List (Nat × List Int)) (hl : l.length = n) (hw : ∀ x ∈ l, x.2.length = 4) (hx : ae w A (n * 5) (rows rcI l)) (hn : n ≤ 1000) (p : Nat × List Int → Bool)
  (hf : ∀ W x, x ∈ l → Keep Nob w W → Calls Tryz.prog 313 #[.agg (rcI x).toArray, .pointer (some ⟨q, 0, none⟩)] W fun e w' => e = .returned (.bool (p x)) ∧ Keep Nob W w') :
  Calls Tryz.prog 314 #[.slice A n c, .func (.func 313) #[] #[.pointer (some ⟨q, 0, none⟩)]] w fun e w' => ∃ k : Int, e = .returned (.int .i64 k) ∧ decide (0 ≤ k) = l.any p ∧ Keep Nob w w' := by
 have HW := aa (show ∀ x ∈ l, (rcI x).length = 5 from fun x hx => lenI (hw x hx))
 have HX := aa hx
 have HL := aa hl
 have HF := aa hf
 have hz := iL
 have HZ := aa hz
 clear hx hl hf hw hz
 go_enter Tryz.func314, Tryz.ntmps314
 go_wp2_with fail
 go_loopw [8] (fun s8 wx => ∃ k : Nat, k ≤ n ∧ s8 = .int .i64 k ∧ Keep Nob w wx ∧ Hid ((l.take k).any p = false)) (fun s8 _ => n - (intOf s8).toNat)
 case atStart => exact ⟨0, Nat.zero_le _, rfl, Keep.refl _ _, aa rfl⟩
 case round =>
  obtain ⟨k, hk, rfl, hK, HA⟩ := hrel
  by_cases hlt : k < n
  ·obtain ⟨x, hx⟩ : ∃ x, l[k]? = some x := ⟨_, List.getElem?_eq_getElem (by rw [HL.out]; exact hlt)⟩
   obtain ⟨b, off, hA, hm⟩ := aZ HW.out (by decide) (HX.out.nob hK) hx hlt
   have hxm := List.mem_of_getElem? hx
   have hcall := HF.out wr x hxm hK
   have hwx := HW.out x hxm
   have HX' := aa hx
   have HM := aa hm
   have HWX := aa hwx
   obtain ⟨cs, hcs⟩ : ∃ cs, rcI x = cs := ⟨_, rfl⟩
   rw [hcs] at hcall HM HWX
   obtain ⟨v, hv⟩ : ∃ v, p x = v := ⟨_, rfl⟩
   rw [hv] at hcall
   have HV := aa hv
   subst hA
   clear hx hxm hm hwx hcs hv
   go_wp2_with (refine wpList_load_mid rfl 336 _ rfl b (off + k * 5) rfl cs _ HM.out Tryz.underlying336 rfl (by rw [HWX.out]; exact HZ.out) ?_)
   refine hcall.mono ?_; rintro e w1 ⟨rfl, k1⟩
   have hK2 := hK.nobt k1
   clear hcall k1
   cases v with
   | true =>
    go_wp2
    go_ret
    exact ⟨_, rfl, by rw [fS HX'.out HV.out]; simp, hK2⟩
   | false =>
    have HA2 := aa (cD HX'.out HA.out HV.out)
    go_wp2_with fail
    go_roundw
    case rel => exact ⟨k + 1, by omega, by go_num, hK2, HA2⟩
    case measure => simp [intOf]; omega
  ·have hkn : k = n := by omega
   have e : l.any p = false := by
    have := HA.out
    rw [List.take_of_length_le (by rw [HL.out, hkn]; exact Nat.le_refl _)] at this
    exact this
   go_wp2
   go_ret
   exact ⟨_, rfl, by rw [e]; rfl, hK⟩
theorem cfF_has {w : World} {q : Nat} (A : Option Addr) (n c : Nat) (l : List (Nat × List Int)) (hl : l.length = n) (hw : ∀ x ∈ l, x.2.length = 4) (hx : ae w A (n * 5) (rows rcI l)) (hn : n ≤ 1000) (p : Nat × List Int → Bool)
  (hf : ∀ W x, x ∈ l → Keep Nob w W → Calls Tryz.prog 313 #[.agg (rcI x).toArray, .pointer (some ⟨q, 0, none⟩)] W fun e w' => e = .returned (.bool (p x)) ∧ Keep Nob W w') :
  Calls Tryz.prog 244 #[.slice A n c, .func (.func 313) #[] #[.pointer (some ⟨q, 0, none⟩)]] w fun e w' => e = .returned (.bool (l.any p)) ∧ Keep Nob w w' := by
 have hcall := ixF_has A n c l hl hw hx hn p hf
 generalize l.any p = v at *
 clear hx hf hl hw
 go_enter Tryz.func244, Tryz.ntmps244
 go_wp2_with fail
 refine hcall.mono ?_; rintro e w1 ⟨k, rfl, hk, k1⟩
 subst hk
 clear hcall
 go_wp2
 go_ret
 exact ⟨by first | rfl | simp, k1⟩
theorem hasF_is {w : World} (A : Option Addr) (n c : Nat) (l : List (Nat × List Int)) (hl : l.length = n) (hw : ∀ x ∈ l, x.2.length = 4) (hx : ae w A (n * 5) (rows rcI l)) (hn : n ≤ 1000) (i : Int) :
  Calls Tryz.prog 243 #[.slice A n c, .int .i64 i] w fun e w' => e = .returned (.bool (l.any fun x => (x.1 : Int) == i)) ∧ Keep Nob w w' := by
 have ka := (Keep.refl Nob w).alloc (.cells #[.int .i64 i] 3)
 have ca : ∀ W, Keep Nob (w.alloc (.cells #[.int .i64 i] 3)) W → W.cell? ⟨w.heap.size, 0, none⟩ = some (.int .i64 i) := fun W kW => ((Blk.new w 3 [.int .i64 i]).nob kW).cell 0
 have hcall := cfF_has (q := w.heap.size) A n c l hl hw (hx.nob ka) hn (fun x => (x.1 : Int) == i) (fun W x _ kW => hasF_cl i (ca W kW) x)
 generalize (l.any fun x => (x.1 : Int) == i) = v at *
 have KA := aa ka
 clear hx hl hw ca ka
 go_enter Tryz.func243, Tryz.ntmps243
 go_wp2_with fail
 refine hcall.mono ?_; rintro e w1 ⟨rfl, k1⟩
 go_wp2
 go_ret
 exact ⟨rfl, KA.out.nobt k1⟩
theorem hasR_cl {w : World} {q : Nat} (i : Int) (hc : w.cell? ⟨q, 0, none⟩ = some (.int .i64 i)) (x : Nat × Ri.Pp) :
  Calls Tryz.prog 315 #[.agg (rcR x).toArray, .pointer (some ⟨q, 0, none⟩)] w fun e w' => e = .returned (.bool ((x.1 : Int) == i)) ∧ Keep Nob w w' := by
 have h0 : (rcR x)[0]? = some (.int .i64 x.1) := rfl
 generalize rcR x = cs at *
 go_enter Tryz.func315, Tryz.ntmps315
 go_wp2_with (refine af rfl 338 _ rfl cs.toArray rfl ?_; intro w1 hb k1 hs; clear hs; have c0 : w1.cell? ⟨w.heap.size, 0, none⟩ = some (.int .i64 x.1) := (hb.cell 0).trans h0; have c1 := k1.cell_nob hc; have K1 := aa k1; clear hb k1)
 go_ret
 exact ⟨rfl, K1.out⟩
theorem ixR_has {w : World} {q : Nat} (A : Option Addr) (n c : Nat) (l : List (Nat × Ri.Pp)) (hl : l.length = n) (hw : ∀ x ∈ l, x.2.d.length = 32) (hx : ae w A (n * 37) (rows rcR l)) (hn : n ≤ 1000) (p : Nat × Ri.Pp → Bool)
  (hf : ∀ W x, x ∈ l → Keep Nob w W → Calls Tryz.prog 315 #[.agg (rcR x).toArray, .pointer (some ⟨q, 0, none⟩)] W fun e w' => e = .returned (.bool (p x)) ∧ Keep Nob W w') :
  Calls Tryz.prog 316 #[.slice A n c, .func (.func 315) #[] #[.pointer (some ⟨q, 0, none⟩)]] w fun e w' => ∃ k : Int, e = .returned (.int .i64 k) ∧ decide (0 ≤ k) = l.any p ∧ Keep Nob w w' := by
 have HW := aa (show ∀ x ∈ l, (rcR x).length = 37 from fun x hx => lenR (hw x hx))
 have HX := aa hx
 have HL := aa hl
 have HF := aa hf
 have hz := info_rR
 have HZ := aa hz
 clear hx hl hf hw hz
 go_enter Tryz.func316, Tryz.ntmps316
 go_wp2_with fail
 go_loopw [8] (fun s8 wx => ∃ k : Nat, k ≤ n ∧ s8 = .int .i64 k ∧ Keep Nob w wx ∧ Hid ((l.take k).any p = false)) (fun s8 _ => n - (intOf s8).toNat)
 case atStart => exact ⟨0, Nat.zero_le _, rfl, Keep.refl _ _, aa rfl⟩
 case round =>
  obtain ⟨k, hk, rfl, hK, HA⟩ := hrel
  by_cases hlt : k < n
  ·obtain ⟨x, hx⟩ : ∃ x, l[k]? = some x := ⟨_, List.getElem?_eq_getElem (by rw [HL.out]; exact hlt)⟩
   obtain ⟨b, off, hA, hm⟩ := aZ HW.out (by decide) (HX.out.nob hK) hx hlt
   have hxm := List.mem_of_getElem? hx
   have hcall := HF.out wr x hxm hK
   have hwx := HW.out x hxm
   have HX' := aa hx
   have HM := aa hm
   have HWX := aa hwx
   obtain ⟨cs, hcs⟩ : ∃ cs, rcR x = cs := ⟨_, rfl⟩
   rw [hcs] at hcall HM HWX
   obtain ⟨v, hv⟩ : ∃ v, p x = v := ⟨_, rfl⟩
   rw [hv] at hcall
   have HV := aa hv
   subst hA
   clear hx hxm hm hwx hcs hv
   go_wp2_with (refine wpList_load_mid rfl 338 _ rfl b (off + k * 37) rfl cs _ HM.out Tryz.underlying338 rfl (by rw [HWX.out]; exact HZ.out) ?_)
   refine hcall.mono ?_; rintro e w1 ⟨rfl, k1⟩
   have hK2 := hK.nobt k1
   clear hcall k1
   cases v with
   | true =>
    go_wp2
    go_ret
    exact ⟨_, rfl, by rw [fS HX'.out HV.out]; simp, hK2⟩
   | false =>
    have HA2 := aa (cD HX'.out HA.out HV.out)
    go_wp2_with fail
    go_roundw
    case rel => exact ⟨k + 1, by omega, by go_num, hK2, HA2⟩
    case measure => simp [intOf]; omega
  ·have hkn : k = n := by omega
   have e : l.any p = false := by
    have := HA.out
    rw [List.take_of_length_le (by rw [HL.out, hkn]; exact Nat.le_refl _)] at this
    exact this
   go_wp2
   go_ret
   exact ⟨_, rfl, by rw [e]; rfl, hK⟩
theorem cfR_has {w : World} {q : Nat} (A : Option Addr) (n c : Nat) (l : List (Nat × Ri.Pp)) (hl : l.length = n) (hw : ∀ x ∈ l, x.2.d.length = 32) (hx : ae w A (n * 37) (rows rcR l)) (hn : n ≤ 1000) (p : Nat × Ri.Pp → Bool)
  (hf : ∀ W x, x ∈ l → Keep Nob w W → Calls Tryz.prog 315 #[.agg (rcR x).toArray, .pointer (some ⟨q, 0, none⟩)] W fun e w' => e = .returned (.bool (p x)) ∧ Keep Nob W w') :
  Calls Tryz.prog 249 #[.slice A n c, .func (.func 315) #[] #[.pointer (some ⟨q, 0, none⟩)]] w fun e w' => e = .returned (.bool (l.any p)) ∧ Keep Nob w w' := by
 have hcall := ixR_has A n c l hl hw hx hn p hf
 generalize l.any p = v at *
 clear hx hf hl hw
 go_enter Tryz.func249, Tryz.ntmps249
 go_wp2_with fail
 refine hcall.mono ?_; rintro e w1 ⟨k, rfl, hk, k1⟩
 subst hk
 clear hcall
 go_wp2
 go_ret
 exact ⟨by first | rfl | simp, k1⟩
theorem hasR_is {w : World} (A : Option Addr) (n c : Nat) (l : List (Nat × Ri.Pp)) (hl : l.length = n) (hw : ∀ x ∈ l, x.2.d.length = 32) (hx : ae w A (n * 37) (rows rcR l)) (hn : n ≤ 1000) (i : Int) :
  Calls Tryz.prog 248 #[.slice A n c, .int .i64 i] w fun e w' => e = .returned (.bool (l.any fun x => (x.1 : Int) == i)) ∧ Keep Nob w w' := by
 have ka := (Keep.refl Nob w).alloc (.cells #[.int .i64 i] 3)
 have ca : ∀ W, Keep Nob (w.alloc (.cells #[.int .i64 i] 3)) W → W.cell? ⟨w.heap.size, 0, none⟩ = some (.int .i64 i) := fun W kW => ((Blk.new w 3 [.int .i64 i]).nob kW).cell 0
 have hcall := cfR_has (q := w.heap.size) A n c l hl hw (hx.nob ka) hn (fun x => (x.1 : Int) == i) (fun W x _ kW => hasR_cl i (ca W kW) x)
 generalize (l.any fun x => (x.1 : Int) == i) = v at *
 have KA := aa ka
 clear hx hl hw ca ka
 go_enter Tryz.func248, Tryz.ntmps248
 go_wp2_with fail
 refine hcall.mono ?_; rintro e w1 ⟨rfl, k1⟩
 go_wp2
 go_ret
 exact ⟨rfl, KA.out.nobt k1⟩
end Go.Proofs.YtgcikpgcoemfnaaGreat.Au
namespace Go.Proofs.YtgcikpgcoemfnaaGreat.Au
open Go.RowKit Co
structure Ses where
 Ap : Option Addr
 cp : Nat
 P : List (Nat × List Int)
 Af : Option Addr
 cf : Nat
 F : List (Nat × List Int)
 Ar : Option Addr
 cr : Nat
 R : List (Nat × Ri.Pp)
def Ses.cells (S : Ses) : List Value := [.slice S.Ap S.P.length S.cp, .slice S.Af S.F.length S.cf, .slice S.Ar S.R.length S.cr]
def Ses.val (S : Ses) : Value := .agg #[.slice S.Ap S.P.length S.cp, .slice S.Af S.F.length S.cf, .slice S.Ar S.R.length S.cr]
structure dB (w : World) (S : Ses) : Prop where
 p : ae w S.Ap (S.P.length * 17) (rows rcI S.P)
 f : ae w S.Af (S.F.length * 5) (rows rcI S.F)
 r : ae w S.Ar (S.R.length * 37) (rows rcR S.R)
 np : S.P.length ≤ 8
 nf : S.F.length ≤ 12
 nr : S.R.length ≤ 4
 vp : ∀ x ∈ S.P, x.1 < 8 ∧ x.2.length = 16 ∧ ∀ v ∈ x.2, 0 ≤ v ∧ v ≤ 65535
 vf : ∀ x ∈ S.F, x.1 < 12 ∧ x.2.length = 4 ∧ ∀ v ∈ x.2, 0 ≤ v ∧ v ≤ 65535
 vr : ∀ x ∈ S.R, x.1 < 4 ∧ x.2.d.length = 32 ∧ 0 ≤ x.2.r ∧ x.2.r ≤ 65535 ∧ 0 ≤ x.2.s ∧ x.2.s ≤ 65535
theorem dB.nob {w w' : World} {S : Ses} (h : dB w S) (k : Keep Nob w w') : dB w' S := ⟨h.p.nob k, h.f.nob k, h.r.nob k, h.np, h.nf, h.nr, h.vp, h.vf, h.vr⟩
theorem at_small {l : List Int} (h : ∀ v ∈ l, 0 ≤ v ∧ v ≤ 65535) (k : Nat) : 0 ≤ l.getD k 0 ∧ l.getD k 0 ≤ 65535 := by
 rw [List.getD_eq_getElem?_getD]
 cases hk : l[k]? with
 | none => exact ⟨by decide, by decide⟩
 | some v => exact h v (List.mem_of_getElem? hk)
theorem jh {x : Nat × List Int} {n : Nat} (h : x.2.length = n) {k : Nat} (hk : k < n) : (rcI x)[k + 1]? = some (.int .i64 (x.2.getD k 0)) := by
 show (ab x.2)[k]? = _
 rw [bg, List.getD_eq_getElem?_getD, List.getElem?_eq_getElem (by rw [h]; exact hk)]
 rfl
def lpB (P : List (Nat × List Int)) (x : Nat × List Int) : Bool := x.2.getD 1 0 - 1 == (x.1 : Int) || (decide (0 ≤ x.2.getD 1 0 - 1) && !(P.any fun y => (y.1 : Int) == x.2.getD 1 0 - 1))
def lf1B (F : List (Nat × List Int)) (fd : Int) : Bool := decide (0 < fd) && !(F.any fun y => (y.1 : Int) == fd - 1)
def lfB (F : List (Nat × List Int)) (x : Nat × List Int) : Bool := (x.2.drop 8).any (lf1B F)
def cntP (P : List (Nat × List Int)) (i : Int) : Nat := (P.map fun y => ((y.2.drop 8).filter (· == i + 1)).length).sum
def wrB (P : List (Nat × List Int)) (x : Nat × List Int) : Bool := x.2.getD 2 0 != (cntP P x.1 : Int)
def lqB (R : List (Nat × Ri.Pp)) (x : Nat × List Int) : Bool := (x.2.getD 0 0 != 3 && decide (x.2.getD 1 0 < 4)) && !(R.any fun y => (y.1 : Int) == x.2.getD 1 0)
def fg (F : List (Nat × List Int)) (i k : Int) : Nat := (F.filter fun y => y.2.getD 1 0 == i && y.2.getD 0 0 == k).length
def weB (F : List (Nat × List Int)) (x : Nat × Ri.Pp) : Bool := x.2.r != (fg F x.1 1 : Int) || x.2.s != (fg F x.1 2 : Int) || ((fg F x.1 1 : Int) + (fg F x.1 2 : Int) == 0)
section
variable {w : World} {q : Nat} {S : Ses}
theorem lp_is (h : dB w S) (hb : Blk w q 222 S.cells) (x : Nat × List Int) (hx : x ∈ S.P) :
  Calls Tryz.prog 238 #[.agg (rcI x).toArray, .pointer (some ⟨q, 0, none⟩)] w fun e w' => e = .returned (.bool (lpB S.P x)) ∧ Keep Nob w w' := by
 obtain ⟨h1, h2, h3⟩ := h.vp x hx
 have h0 : (rcI x)[0]? = some (.int .i64 x.1) := rfl
 have hp : (rcI x)[2]? = some (.int .i64 (x.2.getD 1 0)) := jh h2 (k := 1) (by decide)
 obtain ⟨a0, a1⟩ := at_small h3 1
 obtain ⟨pr, hpr⟩ : ∃ pr, x.2.getD 1 0 = pr := ⟨_, rfl⟩
 obtain ⟨v, hv⟩ : ∃ v, (S.P.any fun y => (y.1 : Int) == pr - 1) = v := ⟨_, rfl⟩
 have hcall := fun W (k : Keep Nob w W) => hasP_is S.Ap S.P.length S.cp S.P rfl (fun x hx => (h.vp x hx).2.1) (h.p.nob k) (by have := h.np; omega) (pr - 1)
 rw [hv] at hcall
 have e : lpB S.P x = (pr - 1 == (x.1 : Int) || (decide (0 ≤ pr - 1) && !v)) := by unfold lpB; rw [hpr, hv]
 rw [e]
 rw [hpr] at hp a0 a1
 have cq : ∀ W, Keep Nob w W → W.cell? ⟨q, 0, none⟩ = some (.slice S.Ap S.P.length S.cp) := fun W k => (hb.nob k).cell 0
 generalize rcI x = cs at *
 obtain ⟨i, hi⟩ : ∃ i : Nat, x.1 = i := ⟨_, rfl⟩
 rw [hi] at h0 h1 ⊢
 have HC := aa hcall
 have HQ := aa cq
 clear hcall cq hpr hv e hi h3 h2 hx h hb
 rcases (show pr - 1 = (i : Int) ∨ (¬ (pr - 1 = (i : Int)) ∧ pr - 1 < 0) ∨ (¬ (pr - 1 = (i : Int)) ∧ 0 ≤ pr - 1) by omega) with e1 | ⟨e1, e2⟩ | ⟨e1, e2⟩
 ·have e3 : (pr - 1 == (i : Int) || (decide (0 ≤ pr - 1) && !v)) = true := by rw [beq_iff_eq.2 e1]; rfl
  rw [e3]
  clear e3
  go_enter Tryz.func238, Tryz.ntmps238
  go_wp2_with (refine af rfl 334 _ rfl cs.toArray rfl ?_; intro w1 hb k1 hs; clear hs; have c0 : w1.cell? ⟨w.heap.size, 0, none⟩ = some (.int .i64 i) := (hb.cell 0).trans h0; have c2 : w1.cell? ⟨w.heap.size, 2, none⟩ = some (.int .i64 pr) := (hb.cell 2).trans hp; have cq := HQ.out _ k1; have K1 := aa k1; clear hb k1)
  go_ret
  exact ⟨by first | rfl | simp [e1], K1.out⟩
 ·have e3 : (pr - 1 == (i : Int) || (decide (0 ≤ pr - 1) && !v)) = false := by rw [beq_eq_false_iff_ne.2 e1, decide_eq_false (by omega)]; rfl
  rw [e3]
  clear e3
  go_enter Tryz.func238, Tryz.ntmps238
  go_wp2_with (refine af rfl 334 _ rfl cs.toArray rfl ?_; intro w1 hb k1 hs; clear hs; have c0 : w1.cell? ⟨w.heap.size, 0, none⟩ = some (.int .i64 i) := (hb.cell 0).trans h0; have c2 : w1.cell? ⟨w.heap.size, 2, none⟩ = some (.int .i64 pr) := (hb.cell 2).trans hp; have cq := HQ.out _ k1; have K1 := aa k1; clear hb k1)
  go_ret
  exact ⟨by first | rfl | simp [e1], K1.out⟩
 ·have e3 : (pr - 1 == (i : Int) || (decide (0 ≤ pr - 1) && !v)) = !v := by rw [beq_eq_false_iff_ne.2 e1, decide_eq_true (by omega)]; rfl
  rw [e3]
  clear e3
  go_enter Tryz.func238, Tryz.ntmps238
  go_wp2_with (refine af rfl 334 _ rfl cs.toArray rfl ?_; intro w1 hb k1 hs; clear hs; have c0 : w1.cell? ⟨w.heap.size, 0, none⟩ = some (.int .i64 i) := (hb.cell 0).trans h0; have c2 : w1.cell? ⟨w.heap.size, 2, none⟩ = some (.int .i64 pr) := (hb.cell 2).trans hp; have cq := HQ.out _ k1; have K1 := aa k1; clear hb k1)
  refine (HC.out _ K1.out).mono ?_; rintro e w2 ⟨rfl, k2⟩
  have K2 := aa (K1.out.nobt k2)
  clear k2
  go_wp2
  go_ret
  exact ⟨by first | rfl | simp [e1], K2.out⟩
theorem lf1_is (h : dB w S) (hb : Blk w q 222 S.cells) (fd : Int) (h0 : 0 ≤ fd) (h1 : fd ≤ 65535) :
  Calls Tryz.prog 242 #[.int .i64 fd, .pointer (some ⟨q, 0, none⟩)] w fun e w' => e = .returned (.bool (lf1B S.F fd)) ∧ Keep Nob w w' := by
 obtain ⟨v, hv⟩ : ∃ v, (S.F.any fun y => (y.1 : Int) == fd - 1) = v := ⟨_, rfl⟩
 have hcall := hasF_is S.Af S.F.length S.cf S.F rfl (fun x hx => (h.vf x hx).2.1) h.f (by have := h.nf; omega) (fd - 1)
 rw [hv] at hcall
 have e : lf1B S.F fd = (decide (0 < fd) && !v) := by unfold lf1B; rw [hv]
 rw [e]
 have cq : w.cell? ⟨q, 1, none⟩ = some (.slice S.Af S.F.length S.cf) := hb.cell 1
 clear hv e h hb
 by_cases e1 : 0 < fd
 ·rw [decide_eq_true e1]
  go_enter Tryz.func242, Tryz.ntmps242
  go_wp2_with fail
  refine hcall.mono ?_; rintro e w2 ⟨rfl, k2⟩
  go_wp2
  go_ret
  exact ⟨by first | rfl | simp, k2⟩
 ·rw [decide_eq_false e1]
  go_enter Tryz.func242, Tryz.ntmps242
  go_wp2_with fail
  go_ret
  exact ⟨by first | rfl | simp, Keep.refl _ _⟩
theorem ixI_lf (h : dB w S) (hb : Blk w q 222 S.cells) (A : Option Addr) (n c : Nat) (l : List Int) (hl : l.length = n) (hx : ae w A n (ab l)) (hn : n ≤ 1000) (hs : ∀ v ∈ l, 0 ≤ v ∧ v ≤ 65535) :
  Calls Tryz.prog 312 #[.slice A n c, .func (.func 242) #[] #[.pointer (some ⟨q, 0, none⟩)]] w fun e w' => ∃ k : Int, e = .returned (.int .i64 k) ∧ decide (0 ≤ k) = l.any (lf1B S.F) ∧ Keep Nob w w' := by
 have HX := aa hx
 have HL := aa hl
 have HF := aa (show ∀ W x, x ∈ l → Keep Nob w W → Calls Tryz.prog 242 #[.int .i64 x, .pointer (some ⟨q, 0, none⟩)] W fun e w' => e = .returned (.bool (lf1B S.F x)) ∧ Keep Nob W w' from fun W x hm k => lf1_is (h.nob k) (hb.nob k) x (hs x hm).1 (hs x hm).2)
 generalize lf1B S.F = p at *
 clear hx hl h hb hs
 go_enter Tryz.func312, Tryz.ntmps312
 go_wp2_with fail
 go_loopw [8] (fun s8 wx => ∃ k : Nat, k ≤ n ∧ s8 = .int .i64 k ∧ Keep Nob w wx ∧ Hid ((l.take k).any p = false)) (fun s8 _ => n - (intOf s8).toNat)
 case atStart => exact ⟨0, Nat.zero_le _, rfl, Keep.refl _ _, aa rfl⟩
 case round =>
  obtain ⟨k, hk, rfl, hK, HA⟩ := hrel
  by_cases hlt : k < n
  ·obtain ⟨x, hx⟩ : ∃ x, l[k]? = some x := ⟨_, List.getElem?_eq_getElem (by rw [HL.out]; exact hlt)⟩
   obtain ⟨b, off, hA, hm⟩ := (HX.out.nob hK).lit (by omega)
   have hcx := hm k (.int .i64 x) (by rw [bg, hx]; rfl)
   have hcall := HF.out wr x (List.mem_of_getElem? hx) hK
   obtain ⟨v, hv⟩ : ∃ v, p x = v := ⟨_, rfl⟩
   rw [hv] at hcall
   have HX' := aa hx
   have HV := aa hv
   subst hA
   clear hx hm hv
   go_wp2_with fail
   refine hcall.mono ?_; rintro e w1 ⟨rfl, k1⟩
   have hK2 := hK.nobt k1
   clear hcall k1 hcx
   cases v with
   | true =>
    go_wp2
    go_ret
    exact ⟨_, rfl, by rw [fS HX'.out HV.out]; simp, hK2⟩
   | false =>
    have HA2 := aa (cD HX'.out HA.out HV.out)
    go_wp2_with fail
    go_roundw
    case rel => exact ⟨k + 1, by omega, by go_num, hK2, HA2⟩
    case measure => simp [intOf]; omega
  ·have hkn : k = n := by omega
   have e : l.any p = false := by
    have := HA.out
    rw [List.take_of_length_le (by rw [HL.out, hkn]; exact Nat.le_refl _)] at this
    exact this
   go_wp2
   go_ret
   exact ⟨_, rfl, by rw [e]; rfl, hK⟩
theorem cfI_lf (h : dB w S) (hb : Blk w q 222 S.cells) (A : Option Addr) (n c : Nat) (l : List Int) (hl : l.length = n) (hx : ae w A n (ab l)) (hn : n ≤ 1000) (hs : ∀ v ∈ l, 0 ≤ v ∧ v ≤ 65535) :
  Calls Tryz.prog 241 #[.slice A n c, .func (.func 242) #[] #[.pointer (some ⟨q, 0, none⟩)]] w fun e w' => e = .returned (.bool (l.any (lf1B S.F))) ∧ Keep Nob w w' := by
 have hcall := ixI_lf h hb A n c l hl hx hn hs
 generalize l.any (lf1B S.F) = v at *
 clear hx hl h hb hs
 go_enter Tryz.func241, Tryz.ntmps241
 go_wp2_with fail
 refine hcall.mono ?_; rintro e w1 ⟨k, rfl, hk, k1⟩
 subst hk
 clear hcall
 go_wp2
 go_ret
 exact ⟨by first | rfl | simp, k1⟩
theorem lf_is (h : dB w S) (hb : Blk w q 222 S.cells) (x : Nat × List Int) (hx : x ∈ S.P) :
  Calls Tryz.prog 240 #[.agg (rcI x).toArray, .pointer (some ⟨q, 0, none⟩)] w fun e w' => e = .returned (.bool (lfB S.F x)) ∧ Keep Nob w w' := by
 obtain ⟨h1, h2, h3⟩ := h.vp x hx
 have hcall : ∀ W, Keep Nob w W → Blk W w.heap.size 334 (rcI x) → Calls Tryz.prog 241 #[.slice (some ⟨w.heap.size, 9, none⟩) 8 8, .func (.func 242) #[] #[.pointer (some ⟨q, 0, none⟩)]] W fun e w' => e = .returned (.bool (lfB S.F x)) ∧ Keep Nob W w' := fun W k hB => by
  have hr := ae.of_blk (A := some ⟨w.heap.size, 9, none⟩) (off := 9) (n := 8) hB (fun _ => rfl) (by rw [lenI h2]; decide)
  have e : ((rcI x).drop 9).take 8 = ab (x.2.drop 8) := by
   show ((ab x.2).drop 8).take 8 = _
   rw [List.take_of_length_le (by simp [ab, h2])]
   simp [ab]
  rw [e] at hr
  exact cfI_lf (h.nob k) (hb.nob k) _ 8 8 (x.2.drop 8) (by simp [h2]) hr (by decide) (fun v hv => h3 v (List.mem_of_mem_drop hv))
 generalize lfB S.F x = v at *
 have HC := aa hcall
 generalize rcI x = cs at *
 clear hcall h3 h2 h1 hx h hb
 go_enter Tryz.func240, Tryz.ntmps240
 go_wp2_with (refine af rfl 334 _ rfl cs.toArray rfl ?_; intro w1 hB k1 hs; clear hs; have hc := HC.out _ k1 hB; have K1 := aa k1; clear hB k1)
 refine hc.mono ?_; rintro e w2 ⟨rfl, k2⟩
 have K2 := aa (K1.out.nobt k2)
 clear k2 hc
 go_wp2
 go_ret
 exact ⟨rfl, K2.out⟩
end
end Go.Proofs.YtgcikpgcoemfnaaGreat.Au
namespace Go.Proofs.YtgcikpgcoemfnaaGreat.Au
open Go.RowKit Co
theorem al_rP (W : World) : (Instr.alloc 334 true (.tuple #[])).run Tryz.prog W = .ok (.pointer (some ⟨W.heap.size, 0, none⟩)) (W.alloc (.cells (rcI (0, Cd.noP)).toArray 334)) := by
 go_simp
 rfl
theorem al_rF (W : World) : (Instr.alloc 336 true (.tuple #[])).run Tryz.prog W = .ok (.pointer (some ⟨W.heap.size, 0, none⟩)) (W.alloc (.cells (rcI (0, Fi.noP)).toArray 336)) := by
 go_simp
 rfl
theorem flat_rP : cS 334 17 (rcI (0, Cd.noP)) := ⟨⟨_, Tryz.underlying334, rfl⟩, iJ, al_rP, rfl⟩
theorem flat_rF : cS 336 5 (rcI (0, Fi.noP)) := ⟨⟨_, Tryz.underlying336, rfl⟩, iL, al_rF, rfl⟩
theorem info_A8 : (Tryz.prog.info? 35).map (·.size) = some 8 := by kernel_rfl
theorem cntP_take {P : List (Nat × List Int)} {i : Int} {k : Nat} {x : Nat × List Int} (h : P[k]? = some x) : cntP (P.take (k + 1)) i = cntP (P.take k) i + ((x.2.drop 8).filter (· == i + 1)).length := by
 unfold cntP
 rw [List.take_add_one, h]
 simp
theorem iP {l : List Int} {i : Int} {k : Nat} {x : Int} (h : l[k]? = some x) : ((l.take (k + 1)).filter (· == i)).length = ((l.take k).filter (· == i)).length + (if x == i then 1 else 0) := by
 rw [List.take_add_one, h, List.filter_append, List.length_append]
 congr 1
 by_cases e : (x == i) = true
 ·simp [List.filter, e]
 ·simp [List.filter, e]
theorem cntF_take {F : List (Nat × List Int)} {i k : Int} {n : Nat} {x : Nat × List Int} (h : F[n]? = some x) : fg (F.take (n + 1)) i k = fg (F.take n) i k + (if (x.2.getD 1 0 == i && x.2.getD 0 0 == k) = true then 1 else 0) := by
 unfold fg
 rw [List.take_add_one, h, List.filter_append, List.length_append]
 congr 1
 show (List.filter _ [x]).length = _
 by_cases e : (x.2.getD 1 0 == i && x.2.getD 0 0 == k) = true
 ·rw [if_pos e, List.filter_cons, if_pos (show (fun y : Nat × List Int => y.2.getD 1 0 == i && y.2.getD 0 0 == k) x = true from e)]
  rfl
 ·rw [if_neg e, List.filter_cons, if_neg (show ¬ (fun y : Nat × List Int => y.2.getD 1 0 == i && y.2.getD 0 0 == k) x = true from e)]
  rfl
section
variable {w : World} {q : Nat} {S : Ses}
theorem fdsOf_is (h : dB w S) (i : Int) (hi : 0 ≤ i) (hi2 : i ≤ 100) :
  Calls Tryz.prog 246 #[S.val, .int .i64 i] w fun e w' => e = .returned (.int .i64 (cntP S.P i)) ∧ Keep Nob w w' := by
 have ka := (Keep.refl Nob w).alloc (.cells #[.slice S.Ap S.P.length S.cp, .slice S.Af S.F.length S.cf, .slice S.Ar S.R.length S.cr] 222)
 have hb0 := Blk.new w 222 [.slice S.Ap S.P.length S.cp, .slice S.Af S.F.length S.cf, .slice S.Ar S.R.length S.cr]
 have c0 := hb0.cell 0
 simp only [List.getElem?_cons_zero] at c0
 have HV := aa h.vp
 have HX := aa h.p
 have hnp := h.np
 have hw : ∀ x ∈ S.P, (rcI x).length = 17 := fun x hx => lenI (h.vp x hx).2.1
 have HW := aa hw
 have HKA := aa ka
 obtain ⟨np, hnpe⟩ : ∃ np, S.P.length = np := ⟨_, rfl⟩
 have HL := aa hnpe
 have hzr := iJ
 have HZ := aa hzr
 have hza := info_A8
 have HZA := aa hza
 obtain ⟨N, hN⟩ : ∃ N, cntP S.P i = N := ⟨_, rfl⟩
 have HN := aa hN
 unfold Ses.val
 rw [hnpe] at hnp HX c0 HKA ⊢
 rw [hN]
 clear h hw hN hb0 ka hzr hza hnpe
 go_enter Tryz.func246, Tryz.ntmps246
 go_wp2_with fail
 generalize w.alloc (.cells #[.slice S.Ap np S.cp, .slice S.Af S.F.length S.cf, .slice S.Ar S.R.length S.cr] 222) = wa at *
 have H0 := aa HKA.out
 go_loopw [5, 13] (fun s5 s13 wx => ∃ (k : Nat) (c : Nat), k ≤ np ∧ c ≤ 8 * k ∧ s13 = .int .i64 k ∧ s5 = .int .i64 c ∧ Keep Nob w wx ∧ Hid (c = cntP (S.P.take k) i)) (fun _ s13 _ => np - (intOf s13).toNat)
 case atStart => exact ⟨0, 0, Nat.zero_le _, Nat.zero_le _, rfl, rfl, H0.out, aa (by simp [cntP])⟩
 case round =>
  obtain ⟨k, c, hk, hc, rfl, rfl, hK, HCn⟩ := hrel
  clear c0
  by_cases hlt : k < np
  ·obtain ⟨x, hx⟩ : ∃ x, S.P[k]? = some x := ⟨_, List.getElem?_eq_getElem (by rw [HL.out]; exact hlt)⟩
   obtain ⟨b, off, hA, hm⟩ := aZ HW.out (by decide) (HX.out.nob hK) hx hlt
   have hxm := List.mem_of_getElem? hx
   have HXX := aa hx
   have HM := aa hm
   have hl16 := (HV.out x hxm).2.1
   have HC17 := aa (gP hl16)
   have HF8 := aa (show (x.2.drop 8).length = 8 by simp [hl16])
   have hfd : (rcI x).drop 9 = ab (x.2.drop 8) := by
    show (ab x.2).drop 8 = _
    simp [ab]
   have HFd := aa hfd
   obtain ⟨cs, hcs⟩ : ∃ cs, rcI x = cs := ⟨_, rfl⟩
   rw [hcs] at HM HC17 HFd
   clear hx hxm hm hl16 hfd hcs
   rw [hA] at *
   go_wp2_with (first
    | (refine wpList_load_mid rfl 334 _ rfl b (off + k * 17) rfl cs _ HM.out Tryz.underlying334 rfl (by rw [HC17.out.len]; exact HZ.out) ?_)
    | (refine flat_rP.wpList_al rfl rfl ?_; intro w1 hb1 hk1 hs1; clear hs1)
    | (refine flat_rP.wpList_st rfl rfl rfl rfl HC17.out (gP (n := 16) (x := (0, Cd.noP)) rfl) hb1 ?_; intro w2 hb2 hk2 hs2; clear hs2; have K2 := aa ((hK.nobt hk1).trans hk2 (fun x hx e => by have := hK.size; omega)); have hmid : w2.rangeAt wr.heap.size 9 (ab (x.2.drop 8)) := (fun j v hv => (hb2.cell (9 + j)).trans (by rw [← HFd.out, List.getElem?_drop] at hv; exact hv)); have HMid := aa hmid; clear hmid hb1 hb2 hk1 hk2)
    | (refine wpList_load_mid rfl 35 _ rfl wr.heap.size 9 rfl (ab (x.2.drop 8)) _ HMid.out Tryz.underlying35 rfl (by rw [dd, HF8.out]; exact HZA.out) ?_))
   have hstep : cntP (S.P.take (k + 1)) i = c + ((x.2.drop 8).filter (· == i + 1)).length := by rw [cntP_take HXX.out, ← HCn.out]
   have HSt := aa hstep
   generalize hfds : x.2.drop 8 = fds at *
   have hi8 := fun j (hj : j < 8) W => Cd.jt fds HF8.out j hj W
   have HI8 := aa hi8
   clear hstep hfds hi8
   go_loopw [5, 20] (fun s5 s20 wx => ∃ (j d : Nat), j ≤ 8 ∧ d ≤ c + j ∧ s20 = .int .i64 j ∧ s5 = .int .i64 d ∧ Keep Nob w wx ∧ Hid (d = c + ((fds.take j).filter (· == i + 1)).length)) (fun _ s20 _ => 8 - (intOf s20).toNat)
   case atStart => exact ⟨0, c, Nat.zero_le _, Nat.le_refl _, rfl, rfl, K2.out, aa (by simp)⟩
   case round =>
    obtain ⟨j, d, hj, hd, rfl, rfl, hK3, HD⟩ := hrel
    by_cases hl8 : (j : Int) < 8
    ·obtain ⟨y, hy⟩ : ∃ y, fds[j]? = some y := ⟨_, List.getElem?_eq_getElem (by rw [HF8.out]; omega)⟩
     have hix := HI8.out j (by omega)
     rw [List.getD_eq_getElem?_getD, hy] at hix
     simp only [Option.getD_some] at hix
     have hct := iP (i := i + 1) hy
     have HCt := aa hct
     clear hct hy
     by_cases e : y = i + 1
     ·have e2 : d + 1 = c + ((fds.take (j + 1)).filter (· == i + 1)).length := by rw [HCt.out, if_pos (by simp [e]), HD.out]; omega
      have E2 := aa e2
      clear e2
      go_wp2_with fail
      go_roundw
      case rel => exact ⟨j + 1, d + 1, by omega, by omega, by go_num, by go_num, hK3, E2⟩
      case measure => simp [intOf]; omega
     ·have e2 : d = c + ((fds.take (j + 1)).filter (· == i + 1)).length := by rw [HCt.out, if_neg (by simp [e]), HD.out]; omega
      have E2 := aa e2
      clear e2
      go_wp2_with fail
      go_roundw
      case rel => exact ⟨j + 1, d, by omega, by omega, by go_num, by go_num, hK3, E2⟩
      case measure => simp [intOf]; omega
    ·have hj8 : j = 8 := by omega
     have e3 : d = cntP (S.P.take (k + 1)) i := by rw [HSt.out, HD.out, hj8, List.take_of_length_le (by rw [HF8.out]; exact Nat.le_refl _)]
     have E3 := aa e3
     clear e3 hj8
     go_wp2_with fail
     go_roundw
     case rel => exact ⟨k + 1, d, by omega, by omega, by go_num, by go_num, hK3, E3⟩
     case measure => simp [intOf]; omega
  ·have hkn : k = np := by omega
   obtain rfl : c = N := by rw [← HN.out, HCn.out, List.take_of_length_le (by rw [HL.out, hkn]; exact Nat.le_refl _)]
   clear hkn
   go_wp2
   go_ret
   exact ⟨rfl, hK⟩
theorem kK (h : dB w S) (i kd : Int) :
  Calls Tryz.prog 251 #[S.val, .int .i64 i, .int .i64 kd] w fun e w' => e = .returned (.int .i64 (fg S.F i kd)) ∧ Keep Nob w w' := by
 have ka := (Keep.refl Nob w).alloc (.cells #[.slice S.Ap S.P.length S.cp, .slice S.Af S.F.length S.cf, .slice S.Ar S.R.length S.cr] 222)
 have hb0 := Blk.new w 222 [.slice S.Ap S.P.length S.cp, .slice S.Af S.F.length S.cf, .slice S.Ar S.R.length S.cr]
 have c0 := hb0.cell 1
 simp only [List.getElem?_cons_zero, List.getElem?_cons_succ] at c0
 have HV := aa h.vf
 have HX := aa h.f
 have hnp := h.nf
 have hw : ∀ x ∈ S.F, (rcI x).length = 5 := fun x hx => lenI (h.vf x hx).2.1
 have HW := aa hw
 have HKA := aa ka
 obtain ⟨np, hnpe⟩ : ∃ np, S.F.length = np := ⟨_, rfl⟩
 have HL := aa hnpe
 have hzr := iL
 have HZ := aa hzr
 obtain ⟨N, hN⟩ : ∃ N, fg S.F i kd = N := ⟨_, rfl⟩
 have HN := aa hN
 unfold Ses.val
 rw [hnpe] at hnp HX c0 HKA ⊢
 rw [hN]
 clear h hw hb0 ka hzr hnpe hN
 go_enter Tryz.func251, Tryz.ntmps251
 go_wp2_with fail
 generalize w.alloc (.cells #[.slice S.Ap S.P.length S.cp, .slice S.Af np S.cf, .slice S.Ar S.R.length S.cr] 222) = wa at *
 have H0 := aa HKA.out
 go_loopw [7, 13] (fun s7 s13 wx => ∃ (k : Nat) (c : Nat), k ≤ np ∧ c ≤ k ∧ s13 = .int .i64 k ∧ s7 = .int .i64 c ∧ Keep Nob w wx ∧ Hid (c = fg (S.F.take k) i kd)) (fun _ s13 _ => np - (intOf s13).toNat)
 case atStart => exact ⟨0, 0, Nat.zero_le _, Nat.zero_le _, rfl, rfl, H0.out, aa (by simp [fg])⟩
 case round =>
  obtain ⟨k, c, hk, hc, rfl, rfl, hK, HCn⟩ := hrel
  clear c0
  by_cases hlt : k < np
  ·obtain ⟨x, hx⟩ : ∃ x, S.F[k]? = some x := ⟨_, List.getElem?_eq_getElem (by rw [HL.out]; exact hlt)⟩
   obtain ⟨b, off, hA, hm⟩ := aZ HW.out (by decide) (HX.out.nob hK) hx hlt
   have hxm := List.mem_of_getElem? hx
   have hl4 := (HV.out x hxm).2.1
   have hst := cntF_take (i := i) (k := kd) hx
   rw [← HCn.out] at hst
   have HM := aa hm
   have HC5 := aa (gP hl4)
   have H1 := aa (show (rcI x)[1]? = some (.int .i64 (x.2.getD 0 0)) from jh hl4 (k := 0) (by decide))
   have H2 := aa (show (rcI x)[2]? = some (.int .i64 (x.2.getD 1 0)) from jh hl4 (k := 1) (by decide))
   generalize x.2.getD 0 0 = y0 at *
   generalize x.2.getD 1 0 = y1 at *
   obtain ⟨cs, hcs⟩ : ∃ cs, rcI x = cs := ⟨_, rfl⟩
   rw [hcs] at HM HC5 H1 H2
   have HSt := aa hst
   clear hx hxm hm hl4 hcs hst
   rw [hA] at *
   go_upto_region 5 with (first
    | (refine wpList_load_mid rfl 336 _ rfl b (off + k * 5) rfl cs _ HM.out Tryz.underlying336 rfl (by rw [HC5.out.len]; exact HZ.out) ?_)
    | (refine flat_rF.wpList_al rfl rfl ?_; intro w1 hb1 hk1 hs1; clear hs1)
    | (refine flat_rF.wpList_st rfl rfl rfl rfl HC5.out (gP (n := 4) (x := (0, Fi.noP)) rfl) hb1 ?_; intro w2 hb2 hk2 hs2; clear hs2; have K2 := aa ((hK.nobt hk1).trans hk2 (fun x hx e => by have := hK.size; omega)); have z1 : w2.cell? ⟨wr.heap.size, 1, none⟩ = some (.int .i64 y0) := (hb2.cell 1).trans H1.out; have z2 : w2.cell? ⟨wr.heap.size, 2, none⟩ = some (.int .i64 y1) := (hb2.cell 2).trans H2.out; clear hb1 hb2 hk1 hk2))
   by_cases e1 : y1 = i
   ·by_cases e2 : y0 = kd
    ·have e3 : c + 1 = fg (S.F.take (k + 1)) i kd := by rw [HSt.out, if_pos (by simp [e1, e2])]
     have E3 := aa e3
     clear e3
     go_wp2_with fail
     go_roundw
     case rel => exact ⟨k + 1, c + 1, by omega, by omega, by go_num, by go_num, K2.out, E3⟩
     case measure => simp [intOf]; omega
    ·have e3 : c = fg (S.F.take (k + 1)) i kd := by rw [HSt.out, if_neg (by simp [e1, e2])]; omega
     have E3 := aa e3
     clear e3
     go_wp2_with fail
     go_roundw
     case rel => exact ⟨k + 1, c, by omega, by omega, by go_num, by go_num, K2.out, E3⟩
     case measure => simp [intOf]; omega
   ·have e3 : c = fg (S.F.take (k + 1)) i kd := by rw [HSt.out, if_neg (by simp [e1])]; omega
    have E3 := aa e3
    clear e3
    go_wp2_with fail
    go_roundw
    case rel => exact ⟨k + 1, c, by omega, by omega, by go_num, by go_num, K2.out, E3⟩
    case measure => simp [intOf]; omega
  ·have hkn : k = np := by omega
   obtain rfl : c = N := by rw [← HN.out, HCn.out, List.take_of_length_le (by rw [HL.out, hkn]; exact Nat.le_refl _)]
   clear hkn
   go_wp2
   go_ret
   exact ⟨rfl, hK⟩
end
end Go.Proofs.YtgcikpgcoemfnaaGreat.Au
namespace Go.Proofs.YtgcikpgcoemfnaaGreat.Au
open Go.RowKit Co
section
variable {w : World} {q : Nat} {S : Ses}
theorem wr_is (h : dB w S) (hb : Blk w q 222 S.cells) (x : Nat × List Int) (hx : x ∈ S.F) :
  Calls Tryz.prog 245 #[.agg (rcI x).toArray, .pointer (some ⟨q, 0, none⟩)] w fun e w' => e = .returned (.bool (wrB S.P x)) ∧ Keep Nob w w' := by
 obtain ⟨h1, h2, h3⟩ := h.vf x hx
 have h0 : (rcI x)[0]? = some (.int .i64 x.1) := rfl
 have hp : (rcI x)[3]? = some (.int .i64 (x.2.getD 2 0)) := jh h2 (k := 2) (by decide)
 have hcall := fun W (k : Keep Nob w W) => fdsOf_is (h.nob k) (x.1 : Int) (by omega) (by omega)
 have e : wrB S.P x = (x.2.getD 2 0 != (cntP S.P x.1 : Int)) := rfl
 rw [e]
 have cq : ∀ W, Keep Nob w W → W.cell? ⟨q, 0, none⟩ = some (.slice S.Ap S.P.length S.cp) ∧ W.cell? ⟨q, 1, none⟩ = some (.slice S.Af S.F.length S.cf) ∧ W.cell? ⟨q, 2, none⟩ = some (.slice S.Ar S.R.length S.cr) := fun W k => ⟨(hb.nob k).cell 0, (hb.nob k).cell 1, (hb.nob k).cell 2⟩
 unfold Ses.val at hcall
 generalize x.2.getD 2 0 = pr at *
 obtain ⟨i, hi⟩ : ∃ i : Nat, x.1 = i := ⟨_, rfl⟩
 rw [hi] at h0 hcall ⊢
 generalize cntP S.P (i : Int) = N at *
 generalize rcI x = cs at *
 have HC := aa hcall
 have HQ := aa cq
 clear hcall cq e hi h3 h2 hx h hb h1
 go_enter Tryz.func245, Tryz.ntmps245
 go_upto_region 1 with (refine af rfl 336 _ rfl cs.toArray rfl ?_; intro w1 hb k1 hs; clear hs; have K1 := aa k1; have HB := aa hb; clear hb k1)
 have sf : ∀ W, Keep Nob w1 W → W.cell? ⟨w.heap.size, 0, none⟩ = some (.int .i64 i) ∧ W.cell? ⟨w.heap.size, 3, none⟩ = some (.int .i64 pr) ∧ W.cell? ⟨q, 0, none⟩ = some (.slice S.Ap S.P.length S.cp) ∧ W.cell? ⟨q, 1, none⟩ = some (.slice S.Af S.F.length S.cf) ∧ W.cell? ⟨q, 2, none⟩ = some (.slice S.Ar S.R.length S.cr) := fun W k => ⟨((HB.out.nob k).cell 0).trans h0, ((HB.out.nob k).cell 3).trans hp, HQ.out _ (K1.out.nobt k)⟩
 have SF := aa sf
 have s0 := SF.out _ (Keep.nobdrew w1)
 have hcl := HC.out _ (K1.out.nobt (Keep.nobdrew w1))
 clear sf h0 hp
 go_region_held3 (fun w' => w'.cell? ⟨w.heap.size, 0, none⟩ = some (.int .i64 i) ∧ w'.cell? ⟨w.heap.size, 3, none⟩ = some (.int .i64 pr) ∧ w'.cell? ⟨q, 0, none⟩ = some (.slice S.Ap S.P.length S.cp) ∧ w'.cell? ⟨q, 1, none⟩ = some (.slice S.Af S.F.length S.cf) ∧ w'.cell? ⟨q, 2, none⟩ = some (.slice S.Ar S.R.length S.cr))
  (first | exact s0 | exact s1)
  (first | (go_at_call 246; with_reducible_and_instances apply Calls.mono hcl; rintro e w2 ⟨rfl, k2⟩; have s1 := SF.out _ ((Keep.nobdrew w1).nobt k2); have K2 := aa ((K1.out.nobt (Keep.nobdrew w1)).nobt k2)))
 clear s0 s1 hcl k2
 go_wp2
 go_ret
 exact ⟨by first | rfl | simp, K2.out⟩
theorem lq_is (h : dB w S) (hb : Blk w q 222 S.cells) (x : Nat × List Int) (hx : x ∈ S.F) :
  Calls Tryz.prog 247 #[.agg (rcI x).toArray, .pointer (some ⟨q, 0, none⟩)] w fun e w' => e = .returned (.bool (lqB S.R x)) ∧ Keep Nob w w' := by
 obtain ⟨h1, h2, h3⟩ := h.vf x hx
 have hk : (rcI x)[1]? = some (.int .i64 (x.2.getD 0 0)) := jh h2 (k := 0) (by decide)
 have hp : (rcI x)[2]? = some (.int .i64 (x.2.getD 1 0)) := jh h2 (k := 1) (by decide)
 have hcall := fun W (k : Keep Nob w W) => hasR_is S.Ar S.R.length S.cr S.R rfl (fun x hx => (h.vr x hx).2.1) (h.r.nob k) (by have := h.nr; omega) (x.2.getD 1 0)
 have e : lqB S.R x = ((x.2.getD 0 0 != 3 && decide (x.2.getD 1 0 < 4)) && !(S.R.any fun y => (y.1 : Int) == x.2.getD 1 0)) := rfl
 rw [e]
 have cq : ∀ W, Keep Nob w W → W.cell? ⟨q, 2, none⟩ = some (.slice S.Ar S.R.length S.cr) := fun W k => (hb.nob k).cell 2
 generalize x.2.getD 0 0 = kd at *
 generalize x.2.getD 1 0 = pi at *
 generalize (S.R.any fun y => (y.1 : Int) == pi) = v at *
 generalize rcI x = cs at *
 have HC := aa hcall
 have HQ := aa cq
 clear hcall cq e h3 h2 hx h hb h1
 rcases (show kd = 3 ∨ (kd ≠ 3 ∧ ¬ pi < 4) ∨ (kd ≠ 3 ∧ pi < 4) by omega) with e1 | ⟨e1, e2⟩ | ⟨e1, e2⟩
 ·rw [show ((kd != 3 && decide (pi < 4)) && !v) = false by rw [e1]; rfl]
  go_enter Tryz.func247, Tryz.ntmps247
  go_wp2_with (refine af rfl 336 _ rfl cs.toArray rfl ?_; intro w1 hb k1 hs; clear hs; have c1 : w1.cell? ⟨w.heap.size, 1, none⟩ = some (.int .i64 kd) := (hb.cell 1).trans hk; have c2 : w1.cell? ⟨w.heap.size, 2, none⟩ = some (.int .i64 pi) := (hb.cell 2).trans hp; have cq := HQ.out _ k1; have K1 := aa k1; clear hb k1)
  go_ret
  exact ⟨by first | rfl | simp [e1], K1.out⟩
 ·rw [show ((kd != 3 && decide (pi < 4)) && !v) = false by rw [decide_eq_false e2]; simp]
  go_enter Tryz.func247, Tryz.ntmps247
  go_wp2_with (refine af rfl 336 _ rfl cs.toArray rfl ?_; intro w1 hb k1 hs; clear hs; have c1 : w1.cell? ⟨w.heap.size, 1, none⟩ = some (.int .i64 kd) := (hb.cell 1).trans hk; have c2 : w1.cell? ⟨w.heap.size, 2, none⟩ = some (.int .i64 pi) := (hb.cell 2).trans hp; have cq := HQ.out _ k1; have K1 := aa k1; clear hb k1)
  go_ret
  exact ⟨by first | rfl | simp [e1, e2], K1.out⟩
 ·rw [show ((kd != 3 && decide (pi < 4)) && !v) = !v by rw [decide_eq_true e2, bne_iff_ne.2 e1]; rfl]
  go_enter Tryz.func247, Tryz.ntmps247
  go_wp2_with (refine af rfl 336 _ rfl cs.toArray rfl ?_; intro w1 hb k1 hs; clear hs; have c1 : w1.cell? ⟨w.heap.size, 1, none⟩ = some (.int .i64 kd) := (hb.cell 1).trans hk; have c2 : w1.cell? ⟨w.heap.size, 2, none⟩ = some (.int .i64 pi) := (hb.cell 2).trans hp; have cq := HQ.out _ k1; have K1 := aa k1; clear hb k1)
  refine (HC.out _ K1.out).mono ?_; rintro e w2 ⟨rfl, k2⟩
  have K2 := aa (K1.out.nobt k2)
  clear k2
  go_wp2
  go_ret
  exact ⟨by first | rfl | simp [e1, e2], K2.out⟩
theorem we_is (h : dB w S) (hb : Blk w q 222 S.cells) (x : Nat × Ri.Pp) (hx : x ∈ S.R) :
  Calls Tryz.prog 250 #[.agg (rcR x).toArray, .pointer (some ⟨q, 0, none⟩)] w fun e w' => e = .returned (.bool (weB S.F x)) ∧ Keep Nob w w' := by
 obtain ⟨h1, h2, h3, h4, h5, h6⟩ := h.vr x hx
 have h0 : (rcR x)[0]? = some (.int .i64 x.1) := rfl
 have hR : (rcR x)[3]? = some (.int .i64 x.2.r) := rfl
 have hS : (rcR x)[4]? = some (.int .i64 x.2.s) := rfl
 have hcall1 := fun W (k : Keep Nob w W) => kK (h.nob k) (x.1 : Int) 1
 have hcall2 := fun W (k : Keep Nob w W) => kK (h.nob k) (x.1 : Int) 2
 have e : weB S.F x = (x.2.r != (fg S.F x.1 1 : Int) || x.2.s != (fg S.F x.1 2 : Int) || ((fg S.F x.1 1 : Int) + (fg S.F x.1 2 : Int) == 0)) := rfl
 rw [e]
 have hn1 : fg S.F x.1 1 ≤ 12 := Nat.le_trans (List.length_filter_le _ _) h.nf
 have hn2 : fg S.F x.1 2 ≤ 12 := Nat.le_trans (List.length_filter_le _ _) h.nf
 have cq : ∀ W, Keep Nob w W → W.cell? ⟨q, 0, none⟩ = some (.slice S.Ap S.P.length S.cp) ∧ W.cell? ⟨q, 1, none⟩ = some (.slice S.Af S.F.length S.cf) ∧ W.cell? ⟨q, 2, none⟩ = some (.slice S.Ar S.R.length S.cr) := fun W k => ⟨(hb.nob k).cell 0, (hb.nob k).cell 1, (hb.nob k).cell 2⟩
 unfold Ses.val at hcall1 hcall2
 generalize x.2.r = pr at *
 generalize x.2.s = ps at *
 obtain ⟨i, hi⟩ : ∃ i : Nat, x.1 = i := ⟨_, rfl⟩
 rw [hi] at h0 hcall1 hcall2 hn1 hn2 ⊢
 generalize fg S.F (i : Int) 1 = n1 at *
 generalize fg S.F (i : Int) 2 = n2 at *
 generalize rcR x = cs at *
 have HC1 := aa hcall1
 have HC2 := aa hcall2
 have HQ := aa cq
 clear hcall1 hcall2 cq e hi h3 h2 hx h hb h1 h4 h5 h6
 go_enter Tryz.func250, Tryz.ntmps250
 go_upto_region 1 with (refine af rfl 338 _ rfl cs.toArray rfl ?_; intro w1 hb k1 hs; clear hs; have K1 := aa k1; have HB := aa hb; clear hb k1)
 have sf : ∀ W, Keep Nob w1 W → W.cell? ⟨w.heap.size, 0, none⟩ = some (.int .i64 i) ∧ W.cell? ⟨q, 0, none⟩ = some (.slice S.Ap S.P.length S.cp) ∧ W.cell? ⟨q, 1, none⟩ = some (.slice S.Af S.F.length S.cf) ∧ W.cell? ⟨q, 2, none⟩ = some (.slice S.Ar S.R.length S.cr) := fun W k => ⟨((HB.out.nob k).cell 0).trans h0, HQ.out _ (K1.out.nobt k)⟩
 have SF := aa sf
 have SG := aa (show ∀ W, Keep Nob w1 W → W.cell? ⟨w.heap.size, 3, none⟩ = some (.int .i64 pr) ∧ W.cell? ⟨w.heap.size, 4, none⟩ = some (.int .i64 ps) from fun W k => ⟨((HB.out.nob k).cell 3).trans hR, ((HB.out.nob k).cell 4).trans hS⟩)
 have s0 := SF.out _ (Keep.nobdrew w1)
 have hc1 := HC1.out _ (K1.out.nobt (Keep.nobdrew w1))
 clear sf h0 hR hS
 go_region_held3 (fun w' => w'.cell? ⟨w.heap.size, 0, none⟩ = some (.int .i64 i) ∧ w'.cell? ⟨q, 0, none⟩ = some (.slice S.Ap S.P.length S.cp) ∧ w'.cell? ⟨q, 1, none⟩ = some (.slice S.Af S.F.length S.cf) ∧ w'.cell? ⟨q, 2, none⟩ = some (.slice S.Ar S.R.length S.cr))
  (first | exact s2 | exact s1 | exact s0)
  (first | (go_at_call 251; with_reducible_and_instances apply Calls.mono hc1; rintro e w2 ⟨rfl, k2⟩; have s1 := SF.out _ ((Keep.nobdrew w1).nobt k2); have K2 := aa ((Keep.nobdrew w1).nobt k2); have hc2 := HC2.out _ (K1.out.nobt K2.out)) | (go_at_call 251; with_reducible_and_instances apply Calls.mono hc2; rintro e w3 ⟨rfl, k3⟩; have s2 := SF.out _ (K2.out.nobt k3); have K3 := aa (K2.out.nobt k3); have g3 := SG.out _ (K2.out.nobt k3)))
 clear s0 s1 s2 hc1 hc2 k2 k3
 have KK := aa (K1.out.nobt K3.out)
 rcases (show ¬ (pr = (n1 : Int)) ∨ (pr = (n1 : Int) ∧ ¬ (ps = (n2 : Int))) ∨ (pr = (n1 : Int) ∧ ps = (n2 : Int)) by omega) with e1 | ⟨e1, e2⟩ | ⟨e1, e2⟩
 ·go_wp2
  go_ret
  exact ⟨by first | rfl | simp [e1], KK.out⟩
 ·go_wp2
  go_ret
  exact ⟨by first | rfl | simp [e1, e2], KK.out⟩
 ·go_wp2
  go_ret
  exact ⟨by first | rfl | simp [e1, e2] | (simp [e1, e2]; omega), KK.out⟩
end
theorem ixP_lp {w : World} {q : Nat} (A : Option Addr) (n c : Nat) (l : List (Nat × List Int)) (hl : l.length = n) (hw : ∀ x ∈ l, x.2.length = 16) (hx : ae w A (n * 17) (rows rcI l)) (hn : n ≤ 1000) (p : Nat × List Int → Bool)
  (hf : ∀ W x, x ∈ l → Keep Nob w W → Calls Tryz.prog 238 #[.agg (rcI x).toArray, .pointer (some ⟨q, 0, none⟩)] W fun e w' => e = .returned (.bool (p x)) ∧ Keep Nob W w') :
  Calls Tryz.prog 310 #[.slice A n c, .func (.func 238) #[] #[.pointer (some ⟨q, 0, none⟩)]] w fun e w' => ∃ k : Int, e = .returned (.int .i64 k) ∧ decide (0 ≤ k) = l.any p ∧ Keep Nob w w' := by
 have HW := aa (show ∀ x ∈ l, (rcI x).length = 17 from fun x hx => lenI (hw x hx))
 have HX := aa hx
 have HL := aa hl
 have HF := aa hf
 have hz := iJ
 have HZ := aa hz
 clear hx hl hf hw hz
 go_enter Tryz.func310, Tryz.ntmps310
 go_wp2_with fail
 go_loopw [8] (fun s8 wx => ∃ k : Nat, k ≤ n ∧ s8 = .int .i64 k ∧ Keep Nob w wx ∧ Hid ((l.take k).any p = false)) (fun s8 _ => n - (intOf s8).toNat)
 case atStart => exact ⟨0, Nat.zero_le _, rfl, Keep.refl _ _, aa rfl⟩
 case round =>
  obtain ⟨k, hk, rfl, hK, HA⟩ := hrel
  by_cases hlt : k < n
  ·obtain ⟨x, hx⟩ : ∃ x, l[k]? = some x := ⟨_, List.getElem?_eq_getElem (by rw [HL.out]; exact hlt)⟩
   obtain ⟨b, off, hA, hm⟩ := aZ HW.out (by decide) (HX.out.nob hK) hx hlt
   have hxm := List.mem_of_getElem? hx
   have hcall := HF.out wr x hxm hK
   have hwx := HW.out x hxm
   have HX' := aa hx
   have HM := aa hm
   have HWX := aa hwx
   obtain ⟨cs, hcs⟩ : ∃ cs, rcI x = cs := ⟨_, rfl⟩
   rw [hcs] at hcall HM HWX
   obtain ⟨v, hv⟩ : ∃ v, p x = v := ⟨_, rfl⟩
   rw [hv] at hcall
   have HV := aa hv
   subst hA
   clear hx hxm hm hwx hcs hv
   go_wp2_with (refine wpList_load_mid rfl 334 _ rfl b (off + k * 17) rfl cs _ HM.out Tryz.underlying334 rfl (by rw [HWX.out]; exact HZ.out) ?_)
   refine hcall.mono ?_; rintro e w1 ⟨rfl, k1⟩
   have hK2 := hK.nobt k1
   clear hcall k1
   cases v with
   | true =>
    go_wp2
    go_ret
    exact ⟨_, rfl, by rw [fS HX'.out HV.out]; simp, hK2⟩
   | false =>
    have HA2 := aa (cD HX'.out HA.out HV.out)
    go_wp2_with fail
    go_roundw
    case rel => exact ⟨k + 1, by omega, by go_num, hK2, HA2⟩
    case measure => simp [intOf]; omega
  ·have hkn : k = n := by omega
   have e : l.any p = false := by
    have := HA.out
    rw [List.take_of_length_le (by rw [HL.out, hkn]; exact Nat.le_refl _)] at this
    exact this
   go_wp2
   go_ret
   exact ⟨_, rfl, by rw [e]; rfl, hK⟩
theorem cfP_lp {w : World} {q : Nat} (A : Option Addr) (n c : Nat) (l : List (Nat × List Int)) (hl : l.length = n) (hw : ∀ x ∈ l, x.2.length = 16) (hx : ae w A (n * 17) (rows rcI l)) (hn : n ≤ 1000) (p : Nat × List Int → Bool)
  (hf : ∀ W x, x ∈ l → Keep Nob w W → Calls Tryz.prog 238 #[.agg (rcI x).toArray, .pointer (some ⟨q, 0, none⟩)] W fun e w' => e = .returned (.bool (p x)) ∧ Keep Nob W w') :
  Calls Tryz.prog 237 #[.slice A n c, .func (.func 238) #[] #[.pointer (some ⟨q, 0, none⟩)]] w fun e w' => e = .returned (.bool (l.any p)) ∧ Keep Nob w w' := by
 have hcall := ixP_lp A n c l hl hw hx hn p hf
 generalize l.any p = v at *
 clear hx hf hl hw
 go_enter Tryz.func237, Tryz.ntmps237
 go_wp2_with fail
 refine hcall.mono ?_; rintro e w1 ⟨k, rfl, hk, k1⟩
 subst hk
 clear hcall
 go_wp2
 go_ret
 exact ⟨by first | rfl | simp, k1⟩
theorem ixP_lf {w : World} {q : Nat} (A : Option Addr) (n c : Nat) (l : List (Nat × List Int)) (hl : l.length = n) (hw : ∀ x ∈ l, x.2.length = 16) (hx : ae w A (n * 17) (rows rcI l)) (hn : n ≤ 1000) (p : Nat × List Int → Bool)
  (hf : ∀ W x, x ∈ l → Keep Nob w W → Calls Tryz.prog 240 #[.agg (rcI x).toArray, .pointer (some ⟨q, 0, none⟩)] W fun e w' => e = .returned (.bool (p x)) ∧ Keep Nob W w') :
  Calls Tryz.prog 310 #[.slice A n c, .func (.func 240) #[] #[.pointer (some ⟨q, 0, none⟩)]] w fun e w' => ∃ k : Int, e = .returned (.int .i64 k) ∧ decide (0 ≤ k) = l.any p ∧ Keep Nob w w' := by
 have HW := aa (show ∀ x ∈ l, (rcI x).length = 17 from fun x hx => lenI (hw x hx))
 have HX := aa hx
 have HL := aa hl
 have HF := aa hf
 have hz := iJ
 have HZ := aa hz
 clear hx hl hf hw hz
 go_enter Tryz.func310, Tryz.ntmps310
 go_wp2_with fail
 go_loopw [8] (fun s8 wx => ∃ k : Nat, k ≤ n ∧ s8 = .int .i64 k ∧ Keep Nob w wx ∧ Hid ((l.take k).any p = false)) (fun s8 _ => n - (intOf s8).toNat)
 case atStart => exact ⟨0, Nat.zero_le _, rfl, Keep.refl _ _, aa rfl⟩
 case round =>
  obtain ⟨k, hk, rfl, hK, HA⟩ := hrel
  by_cases hlt : k < n
  ·obtain ⟨x, hx⟩ : ∃ x, l[k]? = some x := ⟨_, List.getElem?_eq_getElem (by rw [HL.out]; exact hlt)⟩
   obtain ⟨b, off, hA, hm⟩ := aZ HW.out (by decide) (HX.out.nob hK) hx hlt
   have hxm := List.mem_of_getElem? hx
   have hcall := HF.out wr x hxm hK
   have hwx := HW.out x hxm
   have HX' := aa hx
   have HM := aa hm
   have HWX := aa hwx
   obtain ⟨cs, hcs⟩ : ∃ cs, rcI x = cs := ⟨_, rfl⟩
   rw [hcs] at hcall HM HWX
   obtain ⟨v, hv⟩ : ∃ v, p x = v := ⟨_, rfl⟩
   rw [hv] at hcall
   have HV := aa hv
   subst hA
   clear hx hxm hm hwx hcs hv
   go_wp2_with (refine wpList_load_mid rfl 334 _ rfl b (off + k * 17) rfl cs _ HM.out Tryz.underlying334 rfl (by rw [HWX.out]; exact HZ.out) ?_)
   refine hcall.mono ?_; rintro e w1 ⟨rfl, k1⟩
   have hK2 := hK.nobt k1
   clear hcall k1
   cases v with
   | true =>
    go_wp2
    go_ret
    exact ⟨_, rfl, by rw [fS HX'.out HV.out]; simp, hK2⟩
   | false =>
    have HA2 := aa (cD HX'.out HA.out HV.out)
    go_wp2_with fail
    go_roundw
    case rel => exact ⟨k + 1, by omega, by go_num, hK2, HA2⟩
    case measure => simp [intOf]; omega
  ·have hkn : k = n := by omega
   have e : l.any p = false := by
    have := HA.out
    rw [List.take_of_length_le (by rw [HL.out, hkn]; exact Nat.le_refl _)] at this
    exact this
   go_wp2
   go_ret
   exact ⟨_, rfl, by rw [e]; rfl, hK⟩
theorem cfP_lf {w : World} {q : Nat} (A : Option Addr) (n c : Nat) (l : List (Nat × List Int)) (hl : l.length = n) (hw : ∀ x ∈ l, x.2.length = 16) (hx : ae w A (n * 17) (rows rcI l)) (hn : n ≤ 1000) (p : Nat × List Int → Bool)
  (hf : ∀ W x, x ∈ l → Keep Nob w W → Calls Tryz.prog 240 #[.agg (rcI x).toArray, .pointer (some ⟨q, 0, none⟩)] W fun e w' => e = .returned (.bool (p x)) ∧ Keep Nob W w') :
  Calls Tryz.prog 237 #[.slice A n c, .func (.func 240) #[] #[.pointer (some ⟨q, 0, none⟩)]] w fun e w' => e = .returned (.bool (l.any p)) ∧ Keep Nob w w' := by
 have hcall := ixP_lf A n c l hl hw hx hn p hf
 generalize l.any p = v at *
 clear hx hf hl hw
 go_enter Tryz.func237, Tryz.ntmps237
 go_wp2_with fail
 refine hcall.mono ?_; rintro e w1 ⟨k, rfl, hk, k1⟩
 subst hk
 clear hcall
 go_wp2
 go_ret
 exact ⟨by first | rfl | simp, k1⟩
theorem ixF_wr {w : World} {q : Nat} (A : Option Addr) (n c : Nat) (l : List (Nat × List Int)) (hl : l.length = n) (hw : ∀ x ∈ l, x.2.length = 4) (hx : ae w A (n * 5) (rows rcI l)) (hn : n ≤ 1000) (p : Nat × List Int → Bool)
  (hf : ∀ W x, x ∈ l → Keep Nob w W → Calls Tryz.prog 245 #[.agg (rcI x).toArray, .pointer (some ⟨q, 0, none⟩)] W fun e w' => e = .returned (.bool (p x)) ∧ Keep Nob W w') :
  Calls Tryz.prog 314 #[.slice A n c, .func (.func 245) #[] #[.pointer (some ⟨q, 0, none⟩)]] w fun e w' => ∃ k : Int, e = .returned (.int .i64 k) ∧ decide (0 ≤ k) = l.any p ∧ Keep Nob w w' := by
 have HW := aa (show ∀ x ∈ l, (rcI x).length = 5 from fun x hx => lenI (hw x hx))
 have HX := aa hx
 have HL := aa hl
 have HF := aa hf
 have hz := iL
 have HZ := aa hz
 clear hx hl hf hw hz
 go_enter Tryz.func314, Tryz.ntmps314
 go_wp2_with fail
 go_loopw [8] (fun s8 wx => ∃ k : Nat, k ≤ n ∧ s8 = .int .i64 k ∧ Keep Nob w wx ∧ Hid ((l.take k).any p = false)) (fun s8 _ => n - (intOf s8).toNat)
 case atStart => exact ⟨0, Nat.zero_le _, rfl, Keep.refl _ _, aa rfl⟩
 case round =>
  obtain ⟨k, hk, rfl, hK, HA⟩ := hrel
  by_cases hlt : k < n
  ·obtain ⟨x, hx⟩ : ∃ x, l[k]? = some x := ⟨_, List.getElem?_eq_getElem (by rw [HL.out]; exact hlt)⟩
   obtain ⟨b, off, hA, hm⟩ := aZ HW.out (by decide) (HX.out.nob hK) hx hlt
   have hxm := List.mem_of_getElem? hx
   have hcall := HF.out wr x hxm hK
   have hwx := HW.out x hxm
   have HX' := aa hx
   have HM := aa hm
   have HWX := aa hwx
   obtain ⟨cs, hcs⟩ : ∃ cs, rcI x = cs := ⟨_, rfl⟩
   rw [hcs] at hcall HM HWX
   obtain ⟨v, hv⟩ : ∃ v, p x = v := ⟨_, rfl⟩
   rw [hv] at hcall
   have HV := aa hv
   subst hA
   clear hx hxm hm hwx hcs hv
   go_wp2_with (refine wpList_load_mid rfl 336 _ rfl b (off + k * 5) rfl cs _ HM.out Tryz.underlying336 rfl (by rw [HWX.out]; exact HZ.out) ?_)
   refine hcall.mono ?_; rintro e w1 ⟨rfl, k1⟩
   have hK2 := hK.nobt k1
   clear hcall k1
   cases v with
   | true =>
    go_wp2
    go_ret
    exact ⟨_, rfl, by rw [fS HX'.out HV.out]; simp, hK2⟩
   | false =>
    have HA2 := aa (cD HX'.out HA.out HV.out)
    go_wp2_with fail
    go_roundw
    case rel => exact ⟨k + 1, by omega, by go_num, hK2, HA2⟩
    case measure => simp [intOf]; omega
  ·have hkn : k = n := by omega
   have e : l.any p = false := by
    have := HA.out
    rw [List.take_of_length_le (by rw [HL.out, hkn]; exact Nat.le_refl _)] at this
    exact this
   go_wp2
   go_ret
   exact ⟨_, rfl, by rw [e]; rfl, hK⟩
theorem cfF_wr {w : World} {q : Nat} (A : Option Addr) (n c : Nat) (l : List (Nat × List Int)) (hl : l.length = n) (hw : ∀ x ∈ l, x.2.length = 4) (hx : ae w A (n * 5) (rows rcI l)) (hn : n ≤ 1000) (p : Nat × List Int → Bool)
  (hf : ∀ W x, x ∈ l → Keep Nob w W → Calls Tryz.prog 245 #[.agg (rcI x).toArray, .pointer (some ⟨q, 0, none⟩)] W fun e w' => e = .returned (.bool (p x)) ∧ Keep Nob W w') :
  Calls Tryz.prog 244 #[.slice A n c, .func (.func 245) #[] #[.pointer (some ⟨q, 0, none⟩)]] w fun e w' => e = .returned (.bool (l.any p)) ∧ Keep Nob w w' := by
 have hcall := ixF_wr A n c l hl hw hx hn p hf
 generalize l.any p = v at *
 clear hx hf hl hw
 go_enter Tryz.func244, Tryz.ntmps244
 go_wp2_with fail
 refine hcall.mono ?_; rintro e w1 ⟨k, rfl, hk, k1⟩
 subst hk
 clear hcall
 go_wp2
 go_ret
 exact ⟨by first | rfl | simp, k1⟩
theorem ixF_lq {w : World} {q : Nat} (A : Option Addr) (n c : Nat) (l : List (Nat × List Int)) (hl : l.length = n) (hw : ∀ x ∈ l, x.2.length = 4) (hx : ae w A (n * 5) (rows rcI l)) (hn : n ≤ 1000) (p : Nat × List Int → Bool)
  (hf : ∀ W x, x ∈ l → Keep Nob w W → Calls Tryz.prog 247 #[.agg (rcI x).toArray, .pointer (some ⟨q, 0, none⟩)] W fun e w' => e = .returned (.bool (p x)) ∧ Keep Nob W w') :
  Calls Tryz.prog 314 #[.slice A n c, .func (.func 247) #[] #[.pointer (some ⟨q, 0, none⟩)]] w fun e w' => ∃ k : Int, e = .returned (.int .i64 k) ∧ decide (0 ≤ k) = l.any p ∧ Keep Nob w w' := by
 have HW := aa (show ∀ x ∈ l, (rcI x).length = 5 from fun x hx => lenI (hw x hx))
 have HX := aa hx
 have HL := aa hl
 have HF := aa hf
 have hz := iL
 have HZ := aa hz
 clear hx hl hf hw hz
 go_enter Tryz.func314, Tryz.ntmps314
 go_wp2_with fail
 go_loopw [8] (fun s8 wx => ∃ k : Nat, k ≤ n ∧ s8 = .int .i64 k ∧ Keep Nob w wx ∧ Hid ((l.take k).any p = false)) (fun s8 _ => n - (intOf s8).toNat)
 case atStart => exact ⟨0, Nat.zero_le _, rfl, Keep.refl _ _, aa rfl⟩
 case round =>
  obtain ⟨k, hk, rfl, hK, HA⟩ := hrel
  by_cases hlt : k < n
  ·obtain ⟨x, hx⟩ : ∃ x, l[k]? = some x := ⟨_, List.getElem?_eq_getElem (by rw [HL.out]; exact hlt)⟩
   obtain ⟨b, off, hA, hm⟩ := aZ HW.out (by decide) (HX.out.nob hK) hx hlt
   have hxm := List.mem_of_getElem? hx
   have hcall := HF.out wr x hxm hK
   have hwx := HW.out x hxm
   have HX' := aa hx
   have HM := aa hm
   have HWX := aa hwx
   obtain ⟨cs, hcs⟩ : ∃ cs, rcI x = cs := ⟨_, rfl⟩
   rw [hcs] at hcall HM HWX
   obtain ⟨v, hv⟩ : ∃ v, p x = v := ⟨_, rfl⟩
   rw [hv] at hcall
   have HV := aa hv
   subst hA
   clear hx hxm hm hwx hcs hv
   go_wp2_with (refine wpList_load_mid rfl 336 _ rfl b (off + k * 5) rfl cs _ HM.out Tryz.underlying336 rfl (by rw [HWX.out]; exact HZ.out) ?_)
   refine hcall.mono ?_; rintro e w1 ⟨rfl, k1⟩
   have hK2 := hK.nobt k1
   clear hcall k1
   cases v with
   | true =>
    go_wp2
    go_ret
    exact ⟨_, rfl, by rw [fS HX'.out HV.out]; simp, hK2⟩
   | false =>
    have HA2 := aa (cD HX'.out HA.out HV.out)
    go_wp2_with fail
    go_roundw
    case rel => exact ⟨k + 1, by omega, by go_num, hK2, HA2⟩
    case measure => simp [intOf]; omega
  ·have hkn : k = n := by omega
   have e : l.any p = false := by
    have := HA.out
    rw [List.take_of_length_le (by rw [HL.out, hkn]; exact Nat.le_refl _)] at this
    exact this
   go_wp2
   go_ret
   exact ⟨_, rfl, by rw [e]; rfl, hK⟩
theorem cfF_lq {w : World} {q : Nat} (A : Option Addr) (n c : Nat) (l : List (Nat × List Int)) (hl : l.length = n) (hw : ∀ x ∈ l, x.2.length = 4) (hx : ae w A (n * 5) (rows rcI l)) (hn : n ≤ 1000) (p : Nat × List Int → Bool)
  (hf : ∀ W x, x ∈ l → Keep Nob w W → Calls Tryz.prog 247 #[.agg (rcI x).toArray, .pointer (some ⟨q, 0, none⟩)] W fun e w' => e = .returned (.bool (p x)) ∧ Keep Nob W w') :
  Calls Tryz.prog 244 #[.slice A n c, .func (.func 247) #[] #[.pointer (some ⟨q, 0, none⟩)]] w fun e w' => e = .returned (.bool (l.any p)) ∧ Keep Nob w w' := by
 have hcall := ixF_lq A n c l hl hw hx hn p hf
 generalize l.any p = v at *
 clear hx hf hl hw
 go_enter Tryz.func244, Tryz.ntmps244
 go_wp2_with fail
 refine hcall.mono ?_; rintro e w1 ⟨k, rfl, hk, k1⟩
 subst hk
 clear hcall
 go_wp2
 go_ret
 exact ⟨by first | rfl | simp, k1⟩
theorem ixR_we {w : World} {q : Nat} (A : Option Addr) (n c : Nat) (l : List (Nat × Ri.Pp)) (hl : l.length = n) (hw : ∀ x ∈ l, x.2.d.length = 32) (hx : ae w A (n * 37) (rows rcR l)) (hn : n ≤ 1000) (p : Nat × Ri.Pp → Bool)
  (hf : ∀ W x, x ∈ l → Keep Nob w W → Calls Tryz.prog 250 #[.agg (rcR x).toArray, .pointer (some ⟨q, 0, none⟩)] W fun e w' => e = .returned (.bool (p x)) ∧ Keep Nob W w') :
  Calls Tryz.prog 316 #[.slice A n c, .func (.func 250) #[] #[.pointer (some ⟨q, 0, none⟩)]] w fun e w' => ∃ k : Int, e = .returned (.int .i64 k) ∧ decide (0 ≤ k) = l.any p ∧ Keep Nob w w' := by
 have HW := aa (show ∀ x ∈ l, (rcR x).length = 37 from fun x hx => lenR (hw x hx))
 have HX := aa hx
 have HL := aa hl
 have HF := aa hf
 have hz := info_rR
 have HZ := aa hz
 clear hx hl hf hw hz
 go_enter Tryz.func316, Tryz.ntmps316
 go_wp2_with fail
 go_loopw [8] (fun s8 wx => ∃ k : Nat, k ≤ n ∧ s8 = .int .i64 k ∧ Keep Nob w wx ∧ Hid ((l.take k).any p = false)) (fun s8 _ => n - (intOf s8).toNat)
 case atStart => exact ⟨0, Nat.zero_le _, rfl, Keep.refl _ _, aa rfl⟩
 case round =>
  obtain ⟨k, hk, rfl, hK, HA⟩ := hrel
  by_cases hlt : k < n
  ·obtain ⟨x, hx⟩ : ∃ x, l[k]? = some x := ⟨_, List.getElem?_eq_getElem (by rw [HL.out]; exact hlt)⟩
   obtain ⟨b, off, hA, hm⟩ := aZ HW.out (by decide) (HX.out.nob hK) hx hlt
   have hxm := List.mem_of_getElem? hx
   have hcall := HF.out wr x hxm hK
   have hwx := HW.out x hxm
   have HX' := aa hx
   have HM := aa hm
   have HWX := aa hwx
   obtain ⟨cs, hcs⟩ : ∃ cs, rcR x = cs := ⟨_, rfl⟩
   rw [hcs] at hcall HM HWX
   obtain ⟨v, hv⟩ : ∃ v, p x = v := ⟨_, rfl⟩
   rw [hv] at hcall
   have HV := aa hv
   subst hA
   clear hx hxm hm hwx hcs hv
   go_wp2_with (refine wpList_load_mid rfl 338 _ rfl b (off + k * 37) rfl cs _ HM.out Tryz.underlying338 rfl (by rw [HWX.out]; exact HZ.out) ?_)
   refine hcall.mono ?_; rintro e w1 ⟨rfl, k1⟩
   have hK2 := hK.nobt k1
   clear hcall k1
   cases v with
   | true =>
    go_wp2
    go_ret
    exact ⟨_, rfl, by rw [fS HX'.out HV.out]; simp, hK2⟩
   | false =>
    have HA2 := aa (cD HX'.out HA.out HV.out)
    go_wp2_with fail
    go_roundw
    case rel => exact ⟨k + 1, by omega, by go_num, hK2, HA2⟩
    case measure => simp [intOf]; omega
  ·have hkn : k = n := by omega
   have e : l.any p = false := by
    have := HA.out
    rw [List.take_of_length_le (by rw [HL.out, hkn]; exact Nat.le_refl _)] at this
    exact this
   go_wp2
   go_ret
   exact ⟨_, rfl, by rw [e]; rfl, hK⟩
theorem cfR_we {w : World} {q : Nat} (A : Option Addr) (n c : Nat) (l : List (Nat × Ri.Pp)) (hl : l.length = n) (hw : ∀ x ∈ l, x.2.d.length = 32) (hx : ae w A (n * 37) (rows rcR l)) (hn : n ≤ 1000) (p : Nat × Ri.Pp → Bool)
  (hf : ∀ W x, x ∈ l → Keep Nob w W → Calls Tryz.prog 250 #[.agg (rcR x).toArray, .pointer (some ⟨q, 0, none⟩)] W fun e w' => e = .returned (.bool (p x)) ∧ Keep Nob W w') :
  Calls Tryz.prog 249 #[.slice A n c, .func (.func 250) #[] #[.pointer (some ⟨q, 0, none⟩)]] w fun e w' => e = .returned (.bool (l.any p)) ∧ Keep Nob w w' := by
 have hcall := ixR_we A n c l hl hw hx hn p hf
 generalize l.any p = v at *
 clear hx hf hl hw
 go_enter Tryz.func249, Tryz.ntmps249
 go_wp2_with fail
 refine hcall.mono ?_; rintro e w1 ⟨k, rfl, hk, k1⟩
 subst hk
 clear hcall
 go_wp2
 go_ret
 exact ⟨by first | rfl | simp, k1⟩
theorem hLP_is {w : World} {S : Ses} (h : dB w S) :
  Calls Tryz.prog 144 #[S.val] w fun e w' => e = .returned (.bool (S.P.any (lpB S.P))) ∧ Keep Nob w w' := by
 have ka := (Keep.refl Nob w).alloc (.cells #[.slice S.Ap S.P.length S.cp, .slice S.Af S.F.length S.cf, .slice S.Ar S.R.length S.cr] 222)
 have hb0 := Blk.new w 222 [.slice S.Ap S.P.length S.cp, .slice S.Af S.F.length S.cf, .slice S.Ar S.R.length S.cr]
 have hcall := cfP_lp (q := w.heap.size) S.Ap S.P.length S.cp S.P rfl (fun x hx => (h.vp x hx).2.1) (h.p.nob ka) (by have := h.np; omega) (lpB S.P) (fun W x hx kW => lp_is ((h.nob ka).nob kW) (hb0.nob kW) x hx)
 generalize S.P.any (lpB S.P) = v at *
 have KA := aa ka
 unfold Ses.val
 clear h hb0 ka
 go_enter Tryz.func144, Tryz.ntmps144
 go_wp2_with fail
 refine hcall.mono ?_; rintro e w1 ⟨rfl, k1⟩
 go_wp2
 go_ret
 exact ⟨rfl, KA.out.nobt k1⟩
theorem hLF_is {w : World} {S : Ses} (h : dB w S) :
  Calls Tryz.prog 145 #[S.val] w fun e w' => e = .returned (.bool (S.P.any (lfB S.F))) ∧ Keep Nob w w' := by
 have ka := (Keep.refl Nob w).alloc (.cells #[.slice S.Ap S.P.length S.cp, .slice S.Af S.F.length S.cf, .slice S.Ar S.R.length S.cr] 222)
 have hb0 := Blk.new w 222 [.slice S.Ap S.P.length S.cp, .slice S.Af S.F.length S.cf, .slice S.Ar S.R.length S.cr]
 have hcall := cfP_lf (q := w.heap.size) S.Ap S.P.length S.cp S.P rfl (fun x hx => (h.vp x hx).2.1) (h.p.nob ka) (by have := h.np; omega) (lfB S.F) (fun W x hx kW => lf_is ((h.nob ka).nob kW) (hb0.nob kW) x hx)
 generalize S.P.any (lfB S.F) = v at *
 have KA := aa ka
 unfold Ses.val
 clear h hb0 ka
 go_enter Tryz.func145, Tryz.ntmps145
 go_wp2_with fail
 refine hcall.mono ?_; rintro e w1 ⟨rfl, k1⟩
 go_wp2
 go_ret
 exact ⟨rfl, KA.out.nobt k1⟩
theorem hWR_is {w : World} {S : Ses} (h : dB w S) :
  Calls Tryz.prog 146 #[S.val] w fun e w' => e = .returned (.bool (S.F.any (wrB S.P))) ∧ Keep Nob w w' := by
 have ka := (Keep.refl Nob w).alloc (.cells #[.slice S.Ap S.P.length S.cp, .slice S.Af S.F.length S.cf, .slice S.Ar S.R.length S.cr] 222)
 have hb0 := Blk.new w 222 [.slice S.Ap S.P.length S.cp, .slice S.Af S.F.length S.cf, .slice S.Ar S.R.length S.cr]
 have hcall := cfF_wr (q := w.heap.size) S.Af S.F.length S.cf S.F rfl (fun x hx => (h.vf x hx).2.1) (h.f.nob ka) (by have := h.nf; omega) (wrB S.P) (fun W x hx kW => wr_is ((h.nob ka).nob kW) (hb0.nob kW) x hx)
 generalize S.F.any (wrB S.P) = v at *
 have KA := aa ka
 unfold Ses.val
 clear h hb0 ka
 go_enter Tryz.func146, Tryz.ntmps146
 go_wp2_with fail
 refine hcall.mono ?_; rintro e w1 ⟨rfl, k1⟩
 go_wp2
 go_ret
 exact ⟨rfl, KA.out.nobt k1⟩
theorem hLQ_is {w : World} {S : Ses} (h : dB w S) :
  Calls Tryz.prog 147 #[S.val] w fun e w' => e = .returned (.bool (S.F.any (lqB S.R))) ∧ Keep Nob w w' := by
 have ka := (Keep.refl Nob w).alloc (.cells #[.slice S.Ap S.P.length S.cp, .slice S.Af S.F.length S.cf, .slice S.Ar S.R.length S.cr] 222)
 have hb0 := Blk.new w 222 [.slice S.Ap S.P.length S.cp, .slice S.Af S.F.length S.cf, .slice S.Ar S.R.length S.cr]
 have hcall := cfF_lq (q := w.heap.size) S.Af S.F.length S.cf S.F rfl (fun x hx => (h.vf x hx).2.1) (h.f.nob ka) (by have := h.nf; omega) (lqB S.R) (fun W x hx kW => lq_is ((h.nob ka).nob kW) (hb0.nob kW) x hx)
 generalize S.F.any (lqB S.R) = v at *
 have KA := aa ka
 unfold Ses.val
 clear h hb0 ka
 go_enter Tryz.func147, Tryz.ntmps147
 go_wp2_with fail
 refine hcall.mono ?_; rintro e w1 ⟨rfl, k1⟩
 go_wp2
 go_ret
 exact ⟨rfl, KA.out.nobt k1⟩
theorem hWE_is {w : World} {S : Ses} (h : dB w S) :
  Calls Tryz.prog 148 #[S.val] w fun e w' => e = .returned (.bool (S.R.any (weB S.F))) ∧ Keep Nob w w' := by
 have ka := (Keep.refl Nob w).alloc (.cells #[.slice S.Ap S.P.length S.cp, .slice S.Af S.F.length S.cf, .slice S.Ar S.R.length S.cr] 222)
 have hb0 := Blk.new w 222 [.slice S.Ap S.P.length S.cp, .slice S.Af S.F.length S.cf, .slice S.Ar S.R.length S.cr]
 have hcall := cfR_we (q := w.heap.size) S.Ar S.R.length S.cr S.R rfl (fun x hx => (h.vr x hx).2.1) (h.r.nob ka) (by have := h.nr; omega) (weB S.F) (fun W x hx kW => we_is ((h.nob ka).nob kW) (hb0.nob kW) x hx)
 generalize S.R.any (weB S.F) = v at *
 have KA := aa ka
 unfold Ses.val
 clear h hb0 ka
 go_enter Tryz.func148, Tryz.ntmps148
 go_wp2_with fail
 refine hcall.mono ?_; rintro e w1 ⟨rfl, k1⟩
 go_wp2
 go_ret
 exact ⟨rfl, KA.out.nobt k1⟩
end Go.Proofs.YtgcikpgcoemfnaaGreat.Au
