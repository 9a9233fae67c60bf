/- Texts Aud2, Aud3, Aud4, Aud5, Aud6, packed. -/
import Derived.Deep.MidRow
import Derived.Great.BuildSlice
import Derived.BigQuiet
import Derived.Deep.RegionHeld3
import Derived.Test.YtngchjejmnfanaaGreatPu0
import Derived.Test.YtngchjejmnfanaaGreatPu2
import Derived.Test.YtngchjejmnfanaaGreatPu3
import Derived.Test.YtngchjejmnfanaaGreatPu4
import Derived.Test.YtngchjejmnfanaaGreatPu5
import Derived.Test.YtngchjejmnfanaaGreatPu8
import Derived.Test.YtngchjejmnfanaaGreatPu13
namespace Go.Proofs.YtngchjejmnfanaaGreat.Au
open Go.RowKit Co
set_option linter.unusedVariables false
set_option linter.unusedSimpArgs false
def rcI (x : Nat × List Int) : List Value := .int .i64 x.1 :: ints x.2
def rcR (x : Nat × Ri.Pp) : List Value := .int .i64 x.1 :: Ri.pc x.2
def rows {α : Type} (f : α → List Value) (l : List α) : List Value := (l.map f).flatten
theorem rows_get {α : Type} {f : α → List Value} {W : Nat} {l : List α} (hW : ∀ x ∈ l, (f x).length = W) {k j : Nat} {x : α} (h : l[k]? = some x) (hj : j < W) : (rows f l)[k * W + j]? = (f x)[j]? := by
  have hW' : ∀ c ∈ l.map f, c.length = W := fun c hc => by
    obtain ⟨x, hx, rfl⟩ := List.mem_map.1 hc
    exact hW x hx
  have := flatten_get (l.map f) hW' k j hj
  rw [List.getElem?_map, h] at this
  exact this
theorem rows_mid {α : Type} {f : α → List Value} {W n : Nat} {l : List α} {w : World} {A : Option Addr} (hW : ∀ x ∈ l, (f x).length = W) (h0 : 0 < W) (hx : Reads w A (n * W) (rows f l)) {k : Nat} {x : α} (h : l[k]? = some x) (hn : k < n) : ∃ b off, A = some ⟨b, off, none⟩ ∧ w.rangeAt b (off + k * W) (f x) := by
  obtain ⟨b, off, hA, hcl⟩ := hx.lit (Nat.mul_pos (by omega) h0)
  refine ⟨b, off, hA, fun j v hv => ?_⟩
  have hj : j < W := by
    have := (List.getElem?_eq_some_iff.1 hv).1
    rwa [hW x (List.mem_of_getElem? h)] at this
  rw [Nat.add_assoc]
  exact hcl (k * W + j) v (by rw [rows_get hW h hj]; exact hv)
theorem lenI {n : Nat} {x : Nat × List Int} (h : x.2.length = n) : (rcI x).length = n + 1 := by simp [rcI, ints, h]
theorem lenR {x : Nat × Ri.Pp} (h : x.2.d.length = 32) : (rcR x).length = 37 := by simp [rcR, Ri.pc_len h]
theorem cellsRI {n : Nat} {x : Nat × List Int} (h : x.2.length = n) : Cells (n + 1) (rcI x) := ⟨lenI h, fun v hv => by
  rcases List.mem_cons.1 hv with rfl | hv
  · rfl
  · exact ints_one _ v hv⟩
theorem cellsRR {x : Nat × Ri.Pp} (h : x.2.d.length = 32) : Cells 37 (rcR x) := ⟨lenR h, fun v hv => by
  rcases List.mem_cons.1 hv with rfl | hv
  · rfl
  · exact Ri.pc_one _ v hv⟩
theorem info_rP : (Tryz.prog.info? 262).map (·.size) = some 17 := by kernel_rfl
theorem info_rF : (Tryz.prog.info? 264).map (·.size) = some 5 := by kernel_rfl
theorem info_rR : (Tryz.prog.info? 266).map (·.size) = some 37 := by kernel_rfl
theorem take_any {α : Type} {p : α → Bool} {l : List α} {k : Nat} {x : α} (h : l[k]? = some x) (hk : (l.take k).any p = false) (hp : p x = false) : (l.take (k + 1)).any p = false := by
  rw [List.take_add_one, h, List.any_append, hk]
  simpa using hp
theorem any_at {α : Type} {p : α → Bool} {l : List α} {k : Nat} {x : α} (h : l[k]? = some x) (hp : p x = true) : l.any p = true := List.any_eq_true.2 ⟨x, List.mem_of_getElem? h, hp⟩
end Go.Proofs.YtngchjejmnfanaaGreat.Au
namespace Go.Proofs.YtngchjejmnfanaaGreat.Au
open Go.RowKit Co
set_option linter.unusedVariables false
set_option linter.unusedSimpArgs false
theorem hasP_cl {w : World} {q : Nat} (i : Int) (hc : w.cell? ⟨q, 0, none⟩ = some (.int .i64 i)) (x : Nat × List Int) :
    Calls Tryz.prog 251 #[.agg (rcI x).toArray, .pointer (some ⟨q, 0, none⟩)] w fun e w' => e = .returned (.bool ((x.1 : Int) == i)) ∧ Keep Nob w w' := by
  have h0 : (rcI x)[0]? = some (.int .i64 x.1) := rfl
  generalize rcI x = cs at *
  go_enter Tryz.func251, Tryz.ntmps251
  go_wp2_with (refine wpList_box rfl 262 _ rfl cs.toArray rfl ?_; intro w1 hb k1 hs; clear hs; have c0 : w1.cell? ⟨w.heap.size, 0, none⟩ = some (.int .i64 x.1) := (hb.cell 0).trans h0; have c1 := k1.cell_nob hc; have K1 := Lib.hid k1; clear hb k1)
  go_ret
  exact ⟨rfl, K1.out⟩
set_option maxRecDepth 100000 in
set_option maxHeartbeats 2000000 in
theorem ixP_has {w : World} {q : Nat} (A : Option Addr) (n c : Nat) (l : List (Nat × List Int)) (hl : l.length = n) (hw : ∀ x ∈ l, x.2.length = 16) (hx : Reads w A (n * 17) (rows rcI l)) (hn : n ≤ 1000) (p : Nat × List Int → Bool)
    (hf : ∀ W x, x ∈ l → Keep Nob w W → Calls Tryz.prog 251 #[.agg (rcI x).toArray, .pointer (some ⟨q, 0, none⟩)] W fun e w' => e = .returned (.bool (p x)) ∧ Keep Nob W w') :
    Calls Tryz.prog 250 #[.slice A n c, .func (.func 251) #[] #[.pointer (some ⟨q, 0, none⟩)]] w fun e w' => ∃ k : Int, e = .returned (.int .i64 k) ∧ decide (0 ≤ k) = l.any p ∧ Keep Nob w w' := by
  have HW := Lib.hid (show ∀ x ∈ l, (rcI x).length = 17 from fun x hx => lenI (hw x hx))
  have HX := Lib.hid hx
  have HL := Lib.hid hl
  have HF := Lib.hid hf
  have hz := info_rP
  have HZ := Lib.hid hz
  clear hx hl hf hw hz
  go_enter Tryz.func250, Tryz.ntmps250
  go_wp2_with fail
  go_loopw [8] (fun s8 wx => ∃ k : Nat, k ≤ n ∧ s8 = .int .i64 k ∧ Keep Nob w wx ∧ Hid ((l.take k).any p = false)) (fun s8 _ => n - (intOf s8).toNat)
  case atStart => exact ⟨0, Nat.zero_le _, rfl, Keep.refl _ _, Lib.hid rfl⟩
  case round =>
    obtain ⟨k, hk, rfl, hK, HA⟩ := hrel
    by_cases hlt : k < n
    · obtain ⟨x, hx⟩ : ∃ x, l[k]? = some x := ⟨_, List.getElem?_eq_getElem (by rw [HL.out]; exact hlt)⟩
      obtain ⟨b, off, hA, hm⟩ := rows_mid HW.out (by decide) (HX.out.nob hK) hx hlt
      have hxm := List.mem_of_getElem? hx
      have hcall := HF.out wr x hxm hK
      have hwx := HW.out x hxm
      have HX' := Lib.hid hx
      have HM := Lib.hid hm
      have HWX := Lib.hid hwx
      obtain ⟨cs, hcs⟩ : ∃ cs, rcI x = cs := ⟨_, rfl⟩
      rw [hcs] at hcall HM HWX
      obtain ⟨v, hv⟩ : ∃ v, p x = v := ⟨_, rfl⟩
      rw [hv] at hcall
      have HV := Lib.hid hv
      subst hA
      clear hx hxm hm hwx hcs hv
      go_wp2_with (refine wpList_load_mid rfl 262 _ rfl b (off + k * 17) rfl cs _ HM.out Tryz.underlying262 rfl (by rw [HWX.out]; exact HZ.out) ?_)
      refine hcall.mono ?_; rintro e w1 ⟨rfl, k1⟩
      have hK2 := hK.nobt k1
      clear hcall k1
      cases v with
      | true =>
        go_wp2
        go_ret
        exact ⟨_, rfl, by rw [any_at HX'.out HV.out]; simp, hK2⟩
      | false =>
        have HA2 := Lib.hid (take_any HX'.out HA.out HV.out)
        go_wp2_with fail
        go_roundw
        case rel => exact ⟨k + 1, by omega, by go_num, hK2, HA2⟩
        case measure => simp [intOf]; omega
    · have hkn : k = n := by omega
      have e : l.any p = false := by
        have := HA.out
        rw [List.take_of_length_le (by rw [HL.out, hkn]; exact Nat.le_refl _)] at this
        exact this
      go_wp2
      go_ret
      exact ⟨_, rfl, by rw [e]; rfl, hK⟩
theorem cfP_has {w : World} {q : Nat} (A : Option Addr) (n c : Nat) (l : List (Nat × List Int)) (hl : l.length = n) (hw : ∀ x ∈ l, x.2.length = 16) (hx : Reads w A (n * 17) (rows rcI l)) (hn : n ≤ 1000) (p : Nat × List Int → Bool)
    (hf : ∀ W x, x ∈ l → Keep Nob w W → Calls Tryz.prog 251 #[.agg (rcI x).toArray, .pointer (some ⟨q, 0, none⟩)] W fun e w' => e = .returned (.bool (p x)) ∧ Keep Nob W w') :
    Calls Tryz.prog 164 #[.slice A n c, .func (.func 251) #[] #[.pointer (some ⟨q, 0, none⟩)]] w fun e w' => e = .returned (.bool (l.any p)) ∧ Keep Nob w w' := by
  have hcall := ixP_has A n c l hl hw hx hn p hf
  generalize l.any p = v at *
  clear hx hf hl hw
  go_enter Tryz.func164, Tryz.ntmps164
  go_wp2_with fail
  refine hcall.mono ?_; rintro e w1 ⟨k, rfl, hk, k1⟩
  subst hk
  clear hcall
  go_wp2
  go_ret
  exact ⟨by first | rfl | simp, k1⟩
set_option maxHeartbeats 2000000 in
theorem hasP_is {w : World} (A : Option Addr) (n c : Nat) (l : List (Nat × List Int)) (hl : l.length = n) (hw : ∀ x ∈ l, x.2.length = 16) (hx : Reads w A (n * 17) (rows rcI l)) (hn : n ≤ 1000) (i : Int) :
    Calls Tryz.prog 166 #[.slice A n c, .int .i64 i] w fun e w' => e = .returned (.bool (l.any fun x => (x.1 : Int) == i)) ∧ Keep Nob w w' := by
  have ka := (Keep.refl Nob w).alloc (.cells #[.int .i64 i] 3)
  have ca : ∀ W, Keep Nob (w.alloc (.cells #[.int .i64 i] 3)) W → W.cell? ⟨w.heap.size, 0, none⟩ = some (.int .i64 i) := fun W kW => ((Blk.new w 3 [.int .i64 i]).nob kW).cell 0
  have hcall := cfP_has (q := w.heap.size) A n c l hl hw (hx.nob ka) hn (fun x => (x.1 : Int) == i) (fun W x _ kW => hasP_cl i (ca W kW) x)
  generalize (l.any fun x => (x.1 : Int) == i) = v at *
  have KA := Lib.hid ka
  clear hx hl hw ca ka
  go_enter Tryz.func166, Tryz.ntmps166
  go_wp2_with fail
  refine hcall.mono ?_; rintro e w1 ⟨rfl, k1⟩
  go_wp2
  go_ret
  exact ⟨rfl, KA.out.nobt k1⟩
theorem hasF_cl {w : World} {q : Nat} (i : Int) (hc : w.cell? ⟨q, 0, none⟩ = some (.int .i64 i)) (x : Nat × List Int) :
    Calls Tryz.prog 253 #[.agg (rcI x).toArray, .pointer (some ⟨q, 0, none⟩)] w fun e w' => e = .returned (.bool ((x.1 : Int) == i)) ∧ Keep Nob w w' := by
  have h0 : (rcI x)[0]? = some (.int .i64 x.1) := rfl
  generalize rcI x = cs at *
  go_enter Tryz.func253, Tryz.ntmps253
  go_wp2_with (refine wpList_box rfl 264 _ rfl cs.toArray rfl ?_; intro w1 hb k1 hs; clear hs; have c0 : w1.cell? ⟨w.heap.size, 0, none⟩ = some (.int .i64 x.1) := (hb.cell 0).trans h0; have c1 := k1.cell_nob hc; have K1 := Lib.hid k1; clear hb k1)
  go_ret
  exact ⟨rfl, K1.out⟩
set_option maxRecDepth 100000 in
set_option maxHeartbeats 2000000 in
theorem ixF_has {w : World} {q : Nat} (A : Option Addr) (n c : Nat) (l : List (Nat × List Int)) (hl : l.length = n) (hw : ∀ x ∈ l, x.2.length = 4) (hx : Reads w A (n * 5) (rows rcI l)) (hn : n ≤ 1000) (p : Nat × List Int → Bool)
    (hf : ∀ W x, x ∈ l → Keep Nob w W → Calls Tryz.prog 253 #[.agg (rcI x).toArray, .pointer (some ⟨q, 0, none⟩)] W fun e w' => e = .returned (.bool (p x)) ∧ Keep Nob W w') :
    Calls Tryz.prog 254 #[.slice A n c, .func (.func 253) #[] #[.pointer (some ⟨q, 0, none⟩)]] w fun e w' => ∃ k : Int, e = .returned (.int .i64 k) ∧ decide (0 ≤ k) = l.any p ∧ Keep Nob w w' := by
  have HW := Lib.hid (show ∀ x ∈ l, (rcI x).length = 5 from fun x hx => lenI (hw x hx))
  have HX := Lib.hid hx
  have HL := Lib.hid hl
  have HF := Lib.hid hf
  have hz := info_rF
  have HZ := Lib.hid hz
  clear hx hl hf hw hz
  go_enter Tryz.func254, Tryz.ntmps254
  go_wp2_with fail
  go_loopw [8] (fun s8 wx => ∃ k : Nat, k ≤ n ∧ s8 = .int .i64 k ∧ Keep Nob w wx ∧ Hid ((l.take k).any p = false)) (fun s8 _ => n - (intOf s8).toNat)
  case atStart => exact ⟨0, Nat.zero_le _, rfl, Keep.refl _ _, Lib.hid rfl⟩
  case round =>
    obtain ⟨k, hk, rfl, hK, HA⟩ := hrel
    by_cases hlt : k < n
    · obtain ⟨x, hx⟩ : ∃ x, l[k]? = some x := ⟨_, List.getElem?_eq_getElem (by rw [HL.out]; exact hlt)⟩
      obtain ⟨b, off, hA, hm⟩ := rows_mid HW.out (by decide) (HX.out.nob hK) hx hlt
      have hxm := List.mem_of_getElem? hx
      have hcall := HF.out wr x hxm hK
      have hwx := HW.out x hxm
      have HX' := Lib.hid hx
      have HM := Lib.hid hm
      have HWX := Lib.hid hwx
      obtain ⟨cs, hcs⟩ : ∃ cs, rcI x = cs := ⟨_, rfl⟩
      rw [hcs] at hcall HM HWX
      obtain ⟨v, hv⟩ : ∃ v, p x = v := ⟨_, rfl⟩
      rw [hv] at hcall
      have HV := Lib.hid hv
      subst hA
      clear hx hxm hm hwx hcs hv
      go_wp2_with (refine wpList_load_mid rfl 264 _ rfl b (off + k * 5) rfl cs _ HM.out Tryz.underlying264 rfl (by rw [HWX.out]; exact HZ.out) ?_)
      refine hcall.mono ?_; rintro e w1 ⟨rfl, k1⟩
      have hK2 := hK.nobt k1
      clear hcall k1
      cases v with
      | true =>
        go_wp2
        go_ret
        exact ⟨_, rfl, by rw [any_at HX'.out HV.out]; simp, hK2⟩
      | false =>
        have HA2 := Lib.hid (take_any HX'.out HA.out HV.out)
        go_wp2_with fail
        go_roundw
        case rel => exact ⟨k + 1, by omega, by go_num, hK2, HA2⟩
        case measure => simp [intOf]; omega
    · have hkn : k = n := by omega
      have e : l.any p = false := by
        have := HA.out
        rw [List.take_of_length_le (by rw [HL.out, hkn]; exact Nat.le_refl _)] at this
        exact this
      go_wp2
      go_ret
      exact ⟨_, rfl, by rw [e]; rfl, hK⟩
theorem cfF_has {w : World} {q : Nat} (A : Option Addr) (n c : Nat) (l : List (Nat × List Int)) (hl : l.length = n) (hw : ∀ x ∈ l, x.2.length = 4) (hx : Reads w A (n * 5) (rows rcI l)) (hn : n ≤ 1000) (p : Nat × List Int → Bool)
    (hf : ∀ W x, x ∈ l → Keep Nob w W → Calls Tryz.prog 253 #[.agg (rcI x).toArray, .pointer (some ⟨q, 0, none⟩)] W fun e w' => e = .returned (.bool (p x)) ∧ Keep Nob W w') :
    Calls Tryz.prog 171 #[.slice A n c, .func (.func 253) #[] #[.pointer (some ⟨q, 0, none⟩)]] w fun e w' => e = .returned (.bool (l.any p)) ∧ Keep Nob w w' := by
  have hcall := ixF_has A n c l hl hw hx hn p hf
  generalize l.any p = v at *
  clear hx hf hl hw
  go_enter Tryz.func171, Tryz.ntmps171
  go_wp2_with fail
  refine hcall.mono ?_; rintro e w1 ⟨k, rfl, hk, k1⟩
  subst hk
  clear hcall
  go_wp2
  go_ret
  exact ⟨by first | rfl | simp, k1⟩
set_option maxHeartbeats 2000000 in
theorem hasF_is {w : World} (A : Option Addr) (n c : Nat) (l : List (Nat × List Int)) (hl : l.length = n) (hw : ∀ x ∈ l, x.2.length = 4) (hx : Reads w A (n * 5) (rows rcI l)) (hn : n ≤ 1000) (i : Int) :
    Calls Tryz.prog 170 #[.slice A n c, .int .i64 i] w fun e w' => e = .returned (.bool (l.any fun x => (x.1 : Int) == i)) ∧ Keep Nob w w' := by
  have ka := (Keep.refl Nob w).alloc (.cells #[.int .i64 i] 3)
  have ca : ∀ W, Keep Nob (w.alloc (.cells #[.int .i64 i] 3)) W → W.cell? ⟨w.heap.size, 0, none⟩ = some (.int .i64 i) := fun W kW => ((Blk.new w 3 [.int .i64 i]).nob kW).cell 0
  have hcall := cfF_has (q := w.heap.size) A n c l hl hw (hx.nob ka) hn (fun x => (x.1 : Int) == i) (fun W x _ kW => hasF_cl i (ca W kW) x)
  generalize (l.any fun x => (x.1 : Int) == i) = v at *
  have KA := Lib.hid ka
  clear hx hl hw ca ka
  go_enter Tryz.func170, Tryz.ntmps170
  go_wp2_with fail
  refine hcall.mono ?_; rintro e w1 ⟨rfl, k1⟩
  go_wp2
  go_ret
  exact ⟨rfl, KA.out.nobt k1⟩
theorem hasR_cl {w : World} {q : Nat} (i : Int) (hc : w.cell? ⟨q, 0, none⟩ = some (.int .i64 i)) (x : Nat × Ri.Pp) :
    Calls Tryz.prog 255 #[.agg (rcR x).toArray, .pointer (some ⟨q, 0, none⟩)] w fun e w' => e = .returned (.bool ((x.1 : Int) == i)) ∧ Keep Nob w w' := by
  have h0 : (rcR x)[0]? = some (.int .i64 x.1) := rfl
  generalize rcR x = cs at *
  go_enter Tryz.func255, Tryz.ntmps255
  go_wp2_with (refine wpList_box rfl 266 _ rfl cs.toArray rfl ?_; intro w1 hb k1 hs; clear hs; have c0 : w1.cell? ⟨w.heap.size, 0, none⟩ = some (.int .i64 x.1) := (hb.cell 0).trans h0; have c1 := k1.cell_nob hc; have K1 := Lib.hid k1; clear hb k1)
  go_ret
  exact ⟨rfl, K1.out⟩
set_option maxRecDepth 100000 in
set_option maxHeartbeats 2000000 in
theorem ixR_has {w : World} {q : Nat} (A : Option Addr) (n c : Nat) (l : List (Nat × Ri.Pp)) (hl : l.length = n) (hw : ∀ x ∈ l, x.2.d.length = 32) (hx : Reads w A (n * 37) (rows rcR l)) (hn : n ≤ 1000) (p : Nat × Ri.Pp → Bool)
    (hf : ∀ W x, x ∈ l → Keep Nob w W → Calls Tryz.prog 255 #[.agg (rcR x).toArray, .pointer (some ⟨q, 0, none⟩)] W fun e w' => e = .returned (.bool (p x)) ∧ Keep Nob W w') :
    Calls Tryz.prog 256 #[.slice A n c, .func (.func 255) #[] #[.pointer (some ⟨q, 0, none⟩)]] w fun e w' => ∃ k : Int, e = .returned (.int .i64 k) ∧ decide (0 ≤ k) = l.any p ∧ Keep Nob w w' := by
  have HW := Lib.hid (show ∀ x ∈ l, (rcR x).length = 37 from fun x hx => lenR (hw x hx))
  have HX := Lib.hid hx
  have HL := Lib.hid hl
  have HF := Lib.hid hf
  have hz := info_rR
  have HZ := Lib.hid hz
  clear hx hl hf hw hz
  go_enter Tryz.func256, Tryz.ntmps256
  go_wp2_with fail
  go_loopw [8] (fun s8 wx => ∃ k : Nat, k ≤ n ∧ s8 = .int .i64 k ∧ Keep Nob w wx ∧ Hid ((l.take k).any p = false)) (fun s8 _ => n - (intOf s8).toNat)
  case atStart => exact ⟨0, Nat.zero_le _, rfl, Keep.refl _ _, Lib.hid rfl⟩
  case round =>
    obtain ⟨k, hk, rfl, hK, HA⟩ := hrel
    by_cases hlt : k < n
    · obtain ⟨x, hx⟩ : ∃ x, l[k]? = some x := ⟨_, List.getElem?_eq_getElem (by rw [HL.out]; exact hlt)⟩
      obtain ⟨b, off, hA, hm⟩ := rows_mid HW.out (by decide) (HX.out.nob hK) hx hlt
      have hxm := List.mem_of_getElem? hx
      have hcall := HF.out wr x hxm hK
      have hwx := HW.out x hxm
      have HX' := Lib.hid hx
      have HM := Lib.hid hm
      have HWX := Lib.hid hwx
      obtain ⟨cs, hcs⟩ : ∃ cs, rcR x = cs := ⟨_, rfl⟩
      rw [hcs] at hcall HM HWX
      obtain ⟨v, hv⟩ : ∃ v, p x = v := ⟨_, rfl⟩
      rw [hv] at hcall
      have HV := Lib.hid hv
      subst hA
      clear hx hxm hm hwx hcs hv
      go_wp2_with (refine wpList_load_mid rfl 266 _ rfl b (off + k * 37) rfl cs _ HM.out Tryz.underlying266 rfl (by rw [HWX.out]; exact HZ.out) ?_)
      refine hcall.mono ?_; rintro e w1 ⟨rfl, k1⟩
      have hK2 := hK.nobt k1
      clear hcall k1
      cases v with
      | true =>
        go_wp2
        go_ret
        exact ⟨_, rfl, by rw [any_at HX'.out HV.out]; simp, hK2⟩
      | false =>
        have HA2 := Lib.hid (take_any HX'.out HA.out HV.out)
        go_wp2_with fail
        go_roundw
        case rel => exact ⟨k + 1, by omega, by go_num, hK2, HA2⟩
        case measure => simp [intOf]; omega
    · have hkn : k = n := by omega
      have e : l.any p = false := by
        have := HA.out
        rw [List.take_of_length_le (by rw [HL.out, hkn]; exact Nat.le_refl _)] at this
        exact this
      go_wp2
      go_ret
      exact ⟨_, rfl, by rw [e]; rfl, hK⟩
theorem cfR_has {w : World} {q : Nat} (A : Option Addr) (n c : Nat) (l : List (Nat × Ri.Pp)) (hl : l.length = n) (hw : ∀ x ∈ l, x.2.d.length = 32) (hx : Reads w A (n * 37) (rows rcR l)) (hn : n ≤ 1000) (p : Nat × Ri.Pp → Bool)
    (hf : ∀ W x, x ∈ l → Keep Nob w W → Calls Tryz.prog 255 #[.agg (rcR x).toArray, .pointer (some ⟨q, 0, none⟩)] W fun e w' => e = .returned (.bool (p x)) ∧ Keep Nob W w') :
    Calls Tryz.prog 176 #[.slice A n c, .func (.func 255) #[] #[.pointer (some ⟨q, 0, none⟩)]] w fun e w' => e = .returned (.bool (l.any p)) ∧ Keep Nob w w' := by
  have hcall := ixR_has A n c l hl hw hx hn p hf
  generalize l.any p = v at *
  clear hx hf hl hw
  go_enter Tryz.func176, Tryz.ntmps176
  go_wp2_with fail
  refine hcall.mono ?_; rintro e w1 ⟨k, rfl, hk, k1⟩
  subst hk
  clear hcall
  go_wp2
  go_ret
  exact ⟨by first | rfl | simp, k1⟩
set_option maxHeartbeats 2000000 in
theorem hasR_is {w : World} (A : Option Addr) (n c : Nat) (l : List (Nat × Ri.Pp)) (hl : l.length = n) (hw : ∀ x ∈ l, x.2.d.length = 32) (hx : Reads w A (n * 37) (rows rcR l)) (hn : n ≤ 1000) (i : Int) :
    Calls Tryz.prog 175 #[.slice A n c, .int .i64 i] w fun e w' => e = .returned (.bool (l.any fun x => (x.1 : Int) == i)) ∧ Keep Nob w w' := by
  have ka := (Keep.refl Nob w).alloc (.cells #[.int .i64 i] 3)
  have ca : ∀ W, Keep Nob (w.alloc (.cells #[.int .i64 i] 3)) W → W.cell? ⟨w.heap.size, 0, none⟩ = some (.int .i64 i) := fun W kW => ((Blk.new w 3 [.int .i64 i]).nob kW).cell 0
  have hcall := cfR_has (q := w.heap.size) A n c l hl hw (hx.nob ka) hn (fun x => (x.1 : Int) == i) (fun W x _ kW => hasR_cl i (ca W kW) x)
  generalize (l.any fun x => (x.1 : Int) == i) = v at *
  have KA := Lib.hid ka
  clear hx hl hw ca ka
  go_enter Tryz.func175, Tryz.ntmps175
  go_wp2_with fail
  refine hcall.mono ?_; rintro e w1 ⟨rfl, k1⟩
  go_wp2
  go_ret
  exact ⟨rfl, KA.out.nobt k1⟩
end Go.Proofs.YtngchjejmnfanaaGreat.Au
namespace Go.Proofs.YtngchjejmnfanaaGreat.Au
open Go.RowKit Co
set_option linter.unusedVariables false
set_option linter.unusedSimpArgs false
/-- All that is there of commons. -/
structure Ses where
  Ap : Option Addr
  cp : Nat
  P : List (Nat × List Int)
  Af : Option Addr
  cf : Nat
  F : List (Nat × List Int)
  Ar : Option Addr
  cr : Nat
  R : List (Nat × Ri.Pp)
def Ses.cells (S : Ses) : List Value := [.slice S.Ap S.P.length S.cp, .slice S.Af S.F.length S.cf, .slice S.Ar S.R.length S.cr]
def Ses.val (S : Ses) : Value := .agg #[.slice S.Ap S.P.length S.cp, .slice S.Af S.F.length S.cf, .slice S.Ar S.R.length S.cr]
structure IsSes (w : World) (S : Ses) : Prop where
  p : Reads w S.Ap (S.P.length * 17) (rows rcI S.P)
  f : Reads w S.Af (S.F.length * 5) (rows rcI S.F)
  r : Reads w S.Ar (S.R.length * 37) (rows rcR S.R)
  np : S.P.length ≤ 8
  nf : S.F.length ≤ 12
  nr : S.R.length ≤ 4
  vp : ∀ x ∈ S.P, x.1 < 8 ∧ x.2.length = 16 ∧ ∀ v ∈ x.2, 0 ≤ v ∧ v ≤ 65535
  vf : ∀ x ∈ S.F, x.1 < 12 ∧ x.2.length = 4 ∧ ∀ v ∈ x.2, 0 ≤ v ∧ v ≤ 65535
  vr : ∀ x ∈ S.R, x.1 < 4 ∧ x.2.d.length = 32 ∧ 0 ≤ x.2.r ∧ x.2.r ≤ 65535 ∧ 0 ≤ x.2.s ∧ x.2.s ≤ 65535
theorem IsSes.nob {w w' : World} {S : Ses} (h : IsSes w S) (k : Keep Nob w w') : IsSes w' S := ⟨h.p.nob k, h.f.nob k, h.r.nob k, h.np, h.nf, h.nr, h.vp, h.vf, h.vr⟩
theorem at_small {l : List Int} (h : ∀ v ∈ l, 0 ≤ v ∧ v ≤ 65535) (k : Nat) : 0 ≤ l.getD k 0 ∧ l.getD k 0 ≤ 65535 := by
  rw [List.getD_eq_getElem?_getD]
  cases hk : l[k]? with
  | none => exact ⟨by decide, by decide⟩
  | some v => exact h v (List.mem_of_getElem? hk)
theorem rcI_at {x : Nat × List Int} {n : Nat} (h : x.2.length = n) {k : Nat} (hk : k < n) : (rcI x)[k + 1]? = some (.int .i64 (x.2.getD k 0)) := by
  show (ints x.2)[k]? = _
  rw [ints_get, List.getD_eq_getElem?_getD, List.getElem?_eq_getElem (by rw [h]; exact hk)]
  rfl
/-- A process' Parent is itself, or is not there. -/
def lpB (P : List (Nat × List Int)) (x : Nat × List Int) : Bool := x.2.getD 1 0 - 1 == (x.1 : Int) || (decide (0 ≤ x.2.getD 1 0 - 1) && !(P.any fun y => (y.1 : Int) == x.2.getD 1 0 - 1))
def lf1B (F : List (Nat × List Int)) (fd : Int) : Bool := decide (0 < fd) && !(F.any fun y => (y.1 : Int) == fd - 1)
/-- An Fd names no file that is there. -/
def lfB (F : List (Nat × List Int)) (x : Nat × List Int) : Bool := (x.2.drop 8).any (lf1B F)
/-- How many Fds name a file. -/
def cntP (P : List (Nat × List Int)) (i : Int) : Nat := (P.map fun y => ((y.2.drop 8).filter (· == i + 1)).length).sum
def wrB (P : List (Nat × List Int)) (x : Nat × List Int) : Bool := x.2.getD 2 0 != (cntP P x.1 : Int)
def lqB (R : List (Nat × Ri.Pp)) (x : Nat × List Int) : Bool := (x.2.getD 0 0 != 3 && decide (x.2.getD 1 0 < 4)) && !(R.any fun y => (y.1 : Int) == x.2.getD 1 0)
/-- How many files of a kind name a pipe. -/
def cntF (F : List (Nat × List Int)) (i k : Int) : Nat := (F.filter fun y => y.2.getD 1 0 == i && y.2.getD 0 0 == k).length
def weB (F : List (Nat × List Int)) (x : Nat × Ri.Pp) : Bool := x.2.r != (cntF F x.1 1 : Int) || x.2.s != (cntF F x.1 2 : Int) || ((cntF F x.1 1 : Int) + (cntF F x.1 2 : Int) == 0)
section
variable {w : World} {q : Nat} {S : Ses}
set_option maxRecDepth 100000 in
set_option maxHeartbeats 2000000 in
theorem lp_is (h : IsSes w S) (hb : Blk w q 159 S.cells) (x : Nat × List Int) (hx : x ∈ S.P) :
    Calls Tryz.prog 165 #[.agg (rcI x).toArray, .pointer (some ⟨q, 0, none⟩)] w fun e w' => e = .returned (.bool (lpB S.P x)) ∧ Keep Nob w w' := by
  obtain ⟨h1, h2, h3⟩ := h.vp x hx
  have h0 : (rcI x)[0]? = some (.int .i64 x.1) := rfl
  have hp : (rcI x)[2]? = some (.int .i64 (x.2.getD 1 0)) := rcI_at h2 (k := 1) (by decide)
  obtain ⟨a0, a1⟩ := at_small h3 1
  obtain ⟨pr, hpr⟩ : ∃ pr, x.2.getD 1 0 = pr := ⟨_, rfl⟩
  obtain ⟨v, hv⟩ : ∃ v, (S.P.any fun y => (y.1 : Int) == pr - 1) = v := ⟨_, rfl⟩
  have hcall := fun W (k : Keep Nob w W) => hasP_is S.Ap S.P.length S.cp S.P rfl (fun x hx => (h.vp x hx).2.1) (h.p.nob k) (by have := h.np; omega) (pr - 1)
  rw [hv] at hcall
  have e : lpB S.P x = (pr - 1 == (x.1 : Int) || (decide (0 ≤ pr - 1) && !v)) := by unfold lpB; rw [hpr, hv]
  rw [e]
  rw [hpr] at hp a0 a1
  have cq : ∀ W, Keep Nob w W → W.cell? ⟨q, 0, none⟩ = some (.slice S.Ap S.P.length S.cp) := fun W k => (hb.nob k).cell 0
  generalize rcI x = cs at *
  obtain ⟨i, hi⟩ : ∃ i : Nat, x.1 = i := ⟨_, rfl⟩
  rw [hi] at h0 h1 ⊢
  have HC := Lib.hid hcall
  have HQ := Lib.hid cq
  clear hcall cq hpr hv e hi h3 h2 hx h hb
  rcases (show pr - 1 = (i : Int) ∨ (¬ (pr - 1 = (i : Int)) ∧ pr - 1 < 0) ∨ (¬ (pr - 1 = (i : Int)) ∧ 0 ≤ pr - 1) by omega) with e1 | ⟨e1, e2⟩ | ⟨e1, e2⟩
  · have e3 : (pr - 1 == (i : Int) || (decide (0 ≤ pr - 1) && !v)) = true := by rw [beq_iff_eq.2 e1]; rfl
    rw [e3]
    clear e3
    go_enter Tryz.func165, Tryz.ntmps165
    go_wp2_with (refine wpList_box rfl 262 _ rfl cs.toArray rfl ?_; intro w1 hb k1 hs; clear hs; have c0 : w1.cell? ⟨w.heap.size, 0, none⟩ = some (.int .i64 i) := (hb.cell 0).trans h0; have c2 : w1.cell? ⟨w.heap.size, 2, none⟩ = some (.int .i64 pr) := (hb.cell 2).trans hp; have cq := HQ.out _ k1; have K1 := Lib.hid k1; clear hb k1)
    go_ret
    exact ⟨by first | rfl | simp [e1], K1.out⟩
  · have e3 : (pr - 1 == (i : Int) || (decide (0 ≤ pr - 1) && !v)) = false := by rw [beq_eq_false_iff_ne.2 e1, decide_eq_false (by omega)]; rfl
    rw [e3]
    clear e3
    go_enter Tryz.func165, Tryz.ntmps165
    go_wp2_with (refine wpList_box rfl 262 _ rfl cs.toArray rfl ?_; intro w1 hb k1 hs; clear hs; have c0 : w1.cell? ⟨w.heap.size, 0, none⟩ = some (.int .i64 i) := (hb.cell 0).trans h0; have c2 : w1.cell? ⟨w.heap.size, 2, none⟩ = some (.int .i64 pr) := (hb.cell 2).trans hp; have cq := HQ.out _ k1; have K1 := Lib.hid k1; clear hb k1)
    go_ret
    exact ⟨by first | rfl | simp [e1], K1.out⟩
  · have e3 : (pr - 1 == (i : Int) || (decide (0 ≤ pr - 1) && !v)) = !v := by rw [beq_eq_false_iff_ne.2 e1, decide_eq_true (by omega)]; rfl
    rw [e3]
    clear e3
    go_enter Tryz.func165, Tryz.ntmps165
    go_wp2_with (refine wpList_box rfl 262 _ rfl cs.toArray rfl ?_; intro w1 hb k1 hs; clear hs; have c0 : w1.cell? ⟨w.heap.size, 0, none⟩ = some (.int .i64 i) := (hb.cell 0).trans h0; have c2 : w1.cell? ⟨w.heap.size, 2, none⟩ = some (.int .i64 pr) := (hb.cell 2).trans hp; have cq := HQ.out _ k1; have K1 := Lib.hid k1; clear hb k1)
    refine (HC.out _ K1.out).mono ?_; rintro e w2 ⟨rfl, k2⟩
    have K2 := Lib.hid (K1.out.nobt k2)
    clear k2
    go_wp2
    go_ret
    exact ⟨by first | rfl | simp [e1], K2.out⟩
theorem lf1_is (h : IsSes w S) (hb : Blk w q 159 S.cells) (fd : Int) (h0 : 0 ≤ fd) (h1 : fd ≤ 65535) :
    Calls Tryz.prog 169 #[.int .i64 fd, .pointer (some ⟨q, 0, none⟩)] w fun e w' => e = .returned (.bool (lf1B S.F fd)) ∧ Keep Nob w w' := by
  obtain ⟨v, hv⟩ : ∃ v, (S.F.any fun y => (y.1 : Int) == fd - 1) = v := ⟨_, rfl⟩
  have hcall := hasF_is S.Af S.F.length S.cf S.F rfl (fun x hx => (h.vf x hx).2.1) h.f (by have := h.nf; omega) (fd - 1)
  rw [hv] at hcall
  have e : lf1B S.F fd = (decide (0 < fd) && !v) := by unfold lf1B; rw [hv]
  rw [e]
  have cq : w.cell? ⟨q, 1, none⟩ = some (.slice S.Af S.F.length S.cf) := hb.cell 1
  clear hv e h hb
  by_cases e1 : 0 < fd
  · rw [decide_eq_true e1]
    go_enter Tryz.func169, Tryz.ntmps169
    go_wp2_with fail
    refine hcall.mono ?_; rintro e w2 ⟨rfl, k2⟩
    go_wp2
    go_ret
    exact ⟨by first | rfl | simp, k2⟩
  · rw [decide_eq_false e1]
    go_enter Tryz.func169, Tryz.ntmps169
    go_wp2_with fail
    go_ret
    exact ⟨by first | rfl | simp, Keep.refl _ _⟩
set_option maxHeartbeats 2000000 in
theorem ixI_lf (h : IsSes w S) (hb : Blk w q 159 S.cells) (A : Option Addr) (n c : Nat) (l : List Int) (hl : l.length = n) (hx : Reads w A n (ints l)) (hn : n ≤ 1000) (hs : ∀ v ∈ l, 0 ≤ v ∧ v ≤ 65535) :
    Calls Tryz.prog 252 #[.slice A n c, .func (.func 169) #[] #[.pointer (some ⟨q, 0, none⟩)]] w fun e w' => ∃ k : Int, e = .returned (.int .i64 k) ∧ decide (0 ≤ k) = l.any (lf1B S.F) ∧ Keep Nob w w' := by
  have HX := Lib.hid hx
  have HL := Lib.hid hl
  have HF := Lib.hid (show ∀ W x, x ∈ l → Keep Nob w W → Calls Tryz.prog 169 #[.int .i64 x, .pointer (some ⟨q, 0, none⟩)] W fun e w' => e = .returned (.bool (lf1B S.F x)) ∧ Keep Nob W w' from fun W x hm k => lf1_is (h.nob k) (hb.nob k) x (hs x hm).1 (hs x hm).2)
  generalize lf1B S.F = p at *
  clear hx hl h hb hs
  go_enter Tryz.func252, Tryz.ntmps252
  go_wp2_with fail
  go_loopw [8] (fun s8 wx => ∃ k : Nat, k ≤ n ∧ s8 = .int .i64 k ∧ Keep Nob w wx ∧ Hid ((l.take k).any p = false)) (fun s8 _ => n - (intOf s8).toNat)
  case atStart => exact ⟨0, Nat.zero_le _, rfl, Keep.refl _ _, Lib.hid rfl⟩
  case round =>
    obtain ⟨k, hk, rfl, hK, HA⟩ := hrel
    by_cases hlt : k < n
    · obtain ⟨x, hx⟩ : ∃ x, l[k]? = some x := ⟨_, List.getElem?_eq_getElem (by rw [HL.out]; exact hlt)⟩
      obtain ⟨b, off, hA, hm⟩ := (HX.out.nob hK).lit (by omega)
      have hcx := hm k (.int .i64 x) (by rw [ints_get, hx]; rfl)
      have hcall := HF.out wr x (List.mem_of_getElem? hx) hK
      obtain ⟨v, hv⟩ : ∃ v, p x = v := ⟨_, rfl⟩
      rw [hv] at hcall
      have HX' := Lib.hid hx
      have HV := Lib.hid hv
      subst hA
      clear hx hm hv
      go_wp2_with fail
      refine hcall.mono ?_; rintro e w1 ⟨rfl, k1⟩
      have hK2 := hK.nobt k1
      clear hcall k1 hcx
      cases v with
      | true =>
        go_wp2
        go_ret
        exact ⟨_, rfl, by rw [any_at HX'.out HV.out]; simp, hK2⟩
      | false =>
        have HA2 := Lib.hid (take_any HX'.out HA.out HV.out)
        go_wp2_with fail
        go_roundw
        case rel => exact ⟨k + 1, by omega, by go_num, hK2, HA2⟩
        case measure => simp [intOf]; omega
    · have hkn : k = n := by omega
      have e : l.any p = false := by
        have := HA.out
        rw [List.take_of_length_le (by rw [HL.out, hkn]; exact Nat.le_refl _)] at this
        exact this
      go_wp2
      go_ret
      exact ⟨_, rfl, by rw [e]; rfl, hK⟩
theorem cfI_lf (h : IsSes w S) (hb : Blk w q 159 S.cells) (A : Option Addr) (n c : Nat) (l : List Int) (hl : l.length = n) (hx : Reads w A n (ints l)) (hn : n ≤ 1000) (hs : ∀ v ∈ l, 0 ≤ v ∧ v ≤ 65535) :
    Calls Tryz.prog 168 #[.slice A n c, .func (.func 169) #[] #[.pointer (some ⟨q, 0, none⟩)]] w fun e w' => e = .returned (.bool (l.any (lf1B S.F))) ∧ Keep Nob w w' := by
  have hcall := ixI_lf h hb A n c l hl hx hn hs
  generalize l.any (lf1B S.F) = v at *
  clear hx hl h hb hs
  go_enter Tryz.func168, Tryz.ntmps168
  go_wp2_with fail
  refine hcall.mono ?_; rintro e w1 ⟨k, rfl, hk, k1⟩
  subst hk
  clear hcall
  go_wp2
  go_ret
  exact ⟨by first | rfl | simp, k1⟩
set_option maxHeartbeats 2000000 in
theorem lf_is (h : IsSes w S) (hb : Blk w q 159 S.cells) (x : Nat × List Int) (hx : x ∈ S.P) :
    Calls Tryz.prog 167 #[.agg (rcI x).toArray, .pointer (some ⟨q, 0, none⟩)] w fun e w' => e = .returned (.bool (lfB S.F x)) ∧ Keep Nob w w' := by
  obtain ⟨h1, h2, h3⟩ := h.vp x hx
  have hcall : ∀ W, Keep Nob w W → Blk W w.heap.size 262 (rcI x) → Calls Tryz.prog 168 #[.slice (some ⟨w.heap.size, 9, none⟩) 8 8, .func (.func 169) #[] #[.pointer (some ⟨q, 0, none⟩)]] W fun e w' => e = .returned (.bool (lfB S.F x)) ∧ Keep Nob W w' := fun W k hB => by
    have hr := Reads.of_blk (A := some ⟨w.heap.size, 9, none⟩) (off := 9) (n := 8) hB (fun _ => rfl) (by rw [lenI h2]; decide)
    have e : ((rcI x).drop 9).take 8 = ints (x.2.drop 8) := by
      show ((ints x.2).drop 8).take 8 = _
      rw [List.take_of_length_le (by simp [ints, h2])]
      simp [ints]
    rw [e] at hr
    exact cfI_lf (h.nob k) (hb.nob k) _ 8 8 (x.2.drop 8) (by simp [h2]) hr (by decide) (fun v hv => h3 v (List.mem_of_mem_drop hv))
  generalize lfB S.F x = v at *
  have HC := Lib.hid hcall
  generalize rcI x = cs at *
  clear hcall h3 h2 h1 hx h hb
  go_enter Tryz.func167, Tryz.ntmps167
  go_wp2_with (refine wpList_box rfl 262 _ rfl cs.toArray rfl ?_; intro w1 hB k1 hs; clear hs; have hc := HC.out _ k1 hB; have K1 := Lib.hid k1; clear hB k1)
  refine hc.mono ?_; rintro e w2 ⟨rfl, k2⟩
  have K2 := Lib.hid (K1.out.nobt k2)
  clear k2 hc
  go_wp2
  go_ret
  exact ⟨rfl, K2.out⟩
end
end Go.Proofs.YtngchjejmnfanaaGreat.Au
namespace Go.Proofs.YtngchjejmnfanaaGreat.Au
open Go.RowKit Co
set_option linter.unusedVariables false
set_option linter.unusedSimpArgs false
theorem al_rP (W : World) : (Instr.alloc 262 true (.tuple #[])).run Tryz.prog W = .ok (.pointer (some ⟨W.heap.size, 0, none⟩)) (W.alloc (.cells (rcI (0, Cd.noP)).toArray 262)) := by
  go_simp
  rfl
theorem al_rF (W : World) : (Instr.alloc 264 true (.tuple #[])).run Tryz.prog W = .ok (.pointer (some ⟨W.heap.size, 0, none⟩)) (W.alloc (.cells (rcI (0, Fi.noP)).toArray 264)) := by
  go_simp
  rfl
theorem flat_rP : Flat 262 17 (rcI (0, Cd.noP)) := ⟨⟨_, Tryz.underlying262, rfl⟩, info_rP, al_rP, rfl⟩
theorem flat_rF : Flat 264 5 (rcI (0, Fi.noP)) := ⟨⟨_, Tryz.underlying264, rfl⟩, info_rF, al_rF, rfl⟩
theorem info_A8 : (Tryz.prog.info? 37).map (·.size) = some 8 := by kernel_rfl
theorem cntP_take {P : List (Nat × List Int)} {i : Int} {k : Nat} {x : Nat × List Int} (h : P[k]? = some x) : cntP (P.take (k + 1)) i = cntP (P.take k) i + ((x.2.drop 8).filter (· == i + 1)).length := by
  unfold cntP
  rw [List.take_add_one, h]
  simp
theorem cnt_take {l : List Int} {i : Int} {k : Nat} {x : Int} (h : l[k]? = some x) : ((l.take (k + 1)).filter (· == i)).length = ((l.take k).filter (· == i)).length + (if x == i then 1 else 0) := by
  rw [List.take_add_one, h, List.filter_append, List.length_append]
  congr 1
  by_cases e : (x == i) = true
  · simp [List.filter, e]
  · simp [List.filter, e]
theorem cntF_take {F : List (Nat × List Int)} {i k : Int} {n : Nat} {x : Nat × List Int} (h : F[n]? = some x) : cntF (F.take (n + 1)) i k = cntF (F.take n) i k + (if (x.2.getD 1 0 == i && x.2.getD 0 0 == k) = true then 1 else 0) := by
  unfold cntF
  rw [List.take_add_one, h, List.filter_append, List.length_append]
  congr 1
  show (List.filter _ [x]).length = _
  by_cases e : (x.2.getD 1 0 == i && x.2.getD 0 0 == k) = true
  · rw [if_pos e, List.filter_cons, if_pos (show (fun y : Nat × List Int => y.2.getD 1 0 == i && y.2.getD 0 0 == k) x = true from e)]
    rfl
  · rw [if_neg e, List.filter_cons, if_neg (show ¬ (fun y : Nat × List Int => y.2.getD 1 0 == i && y.2.getD 0 0 == k) x = true from e)]
    rfl
section
variable {w : World} {q : Nat} {S : Ses}
set_option maxRecDepth 100000 in
set_option maxHeartbeats 4000000 in
theorem fdsOf_is (h : IsSes w S) (i : Int) (hi : 0 ≤ i) (hi2 : i ≤ 100) :
    Calls Tryz.prog 173 #[S.val, .int .i64 i] w fun e w' => e = .returned (.int .i64 (cntP S.P i)) ∧ Keep Nob w w' := by
  have ka := (Keep.refl Nob w).alloc (.cells #[.slice S.Ap S.P.length S.cp, .slice S.Af S.F.length S.cf, .slice S.Ar S.R.length S.cr] 159)
  have hb0 := Blk.new w 159 [.slice S.Ap S.P.length S.cp, .slice S.Af S.F.length S.cf, .slice S.Ar S.R.length S.cr]
  have c0 := hb0.cell 0
  simp only [List.getElem?_cons_zero] at c0
  have HV := Lib.hid h.vp
  have HX := Lib.hid h.p
  have hnp := h.np
  have hw : ∀ x ∈ S.P, (rcI x).length = 17 := fun x hx => lenI (h.vp x hx).2.1
  have HW := Lib.hid hw
  have HKA := Lib.hid ka
  obtain ⟨np, hnpe⟩ : ∃ np, S.P.length = np := ⟨_, rfl⟩
  have HL := Lib.hid hnpe
  have hzr := info_rP
  have HZ := Lib.hid hzr
  have hza := info_A8
  have HZA := Lib.hid hza
  obtain ⟨N, hN⟩ : ∃ N, cntP S.P i = N := ⟨_, rfl⟩
  have HN := Lib.hid hN
  unfold Ses.val
  rw [hnpe] at hnp HX c0 HKA ⊢
  rw [hN]
  clear h hw hN hb0 ka hzr hza hnpe
  go_enter Tryz.func173, Tryz.ntmps173
  go_wp2_with fail
  generalize w.alloc (.cells #[.slice S.Ap np S.cp, .slice S.Af S.F.length S.cf, .slice S.Ar S.R.length S.cr] 159) = wa at *
  have H0 := Lib.hid HKA.out
  go_loopw [5, 13] (fun s5 s13 wx => ∃ (k : Nat) (c : Nat), k ≤ np ∧ c ≤ 8 * k ∧ s13 = .int .i64 k ∧ s5 = .int .i64 c ∧ Keep Nob w wx ∧ Hid (c = cntP (S.P.take k) i)) (fun _ s13 _ => np - (intOf s13).toNat)
  case atStart => exact ⟨0, 0, Nat.zero_le _, Nat.zero_le _, rfl, rfl, H0.out, Lib.hid (by simp [cntP])⟩
  case round =>
    obtain ⟨k, c, hk, hc, rfl, rfl, hK, HCn⟩ := hrel
    clear c0
    by_cases hlt : k < np
    · obtain ⟨x, hx⟩ : ∃ x, S.P[k]? = some x := ⟨_, List.getElem?_eq_getElem (by rw [HL.out]; exact hlt)⟩
      obtain ⟨b, off, hA, hm⟩ := rows_mid HW.out (by decide) (HX.out.nob hK) hx hlt
      have hxm := List.mem_of_getElem? hx
      have HXX := Lib.hid hx
      have HM := Lib.hid hm
      have hl16 := (HV.out x hxm).2.1
      have HC17 := Lib.hid (cellsRI hl16)
      have HF8 := Lib.hid (show (x.2.drop 8).length = 8 by simp [hl16])
      have hfd : (rcI x).drop 9 = ints (x.2.drop 8) := by
        show (ints x.2).drop 8 = _
        simp [ints]
      have HFd := Lib.hid hfd
      obtain ⟨cs, hcs⟩ : ∃ cs, rcI x = cs := ⟨_, rfl⟩
      rw [hcs] at HM HC17 HFd
      clear hx hxm hm hl16 hfd hcs
      rw [hA] at *
      go_wp2_with (first
        | (refine wpList_load_mid rfl 262 _ rfl b (off + k * 17) rfl cs _ HM.out Tryz.underlying262 rfl (by rw [HC17.out.len]; exact HZ.out) ?_)
        | (refine flat_rP.wpList_al rfl rfl ?_; intro w1 hb1 hk1 hs1; clear hs1)
        | (refine flat_rP.wpList_st rfl rfl rfl rfl HC17.out (cellsRI (n := 16) (x := (0, Cd.noP)) rfl) hb1 ?_; intro w2 hb2 hk2 hs2; clear hs2; have K2 := Lib.hid ((hK.nobt hk1).trans hk2 (fun x hx e => by have := hK.size; omega)); have hmid : w2.rangeAt wr.heap.size 9 (ints (x.2.drop 8)) := (fun j v hv => (hb2.cell (9 + j)).trans (by rw [← HFd.out, List.getElem?_drop] at hv; exact hv)); have HMid := Lib.hid hmid; clear hmid hb1 hb2 hk1 hk2)
        | (refine wpList_load_mid rfl 37 _ rfl wr.heap.size 9 rfl (ints (x.2.drop 8)) _ HMid.out Tryz.underlying37 rfl (by rw [ints_len, HF8.out]; exact HZA.out) ?_))
      have hstep : cntP (S.P.take (k + 1)) i = c + ((x.2.drop 8).filter (· == i + 1)).length := by rw [cntP_take HXX.out, ← HCn.out]
      have HSt := Lib.hid hstep
      generalize hfds : x.2.drop 8 = fds at *
      have hi8 := fun j (hj : j < 8) W => Cd.index8 fds HF8.out j hj W
      have HI8 := Lib.hid hi8
      clear hstep hfds hi8
      go_loopw [5, 20] (fun s5 s20 wx => ∃ (j d : Nat), j ≤ 8 ∧ d ≤ c + j ∧ s20 = .int .i64 j ∧ s5 = .int .i64 d ∧ Keep Nob w wx ∧ Hid (d = c + ((fds.take j).filter (· == i + 1)).length)) (fun _ s20 _ => 8 - (intOf s20).toNat)
      case atStart => exact ⟨0, c, Nat.zero_le _, Nat.le_refl _, rfl, rfl, K2.out, Lib.hid (by simp)⟩
      case round =>
        obtain ⟨j, d, hj, hd, rfl, rfl, hK3, HD⟩ := hrel
        by_cases hl8 : (j : Int) < 8
        · obtain ⟨y, hy⟩ : ∃ y, fds[j]? = some y := ⟨_, List.getElem?_eq_getElem (by rw [HF8.out]; omega)⟩
          have hix := HI8.out j (by omega)
          rw [List.getD_eq_getElem?_getD, hy] at hix
          simp only [Option.getD_some] at hix
          have hct := cnt_take (i := i + 1) hy
          have HCt := Lib.hid hct
          clear hct hy
          by_cases e : y = i + 1
          · have e2 : d + 1 = c + ((fds.take (j + 1)).filter (· == i + 1)).length := by rw [HCt.out, if_pos (by simp [e]), HD.out]; omega
            have E2 := Lib.hid e2
            clear e2
            go_wp2_with fail
            go_roundw
            case rel => exact ⟨j + 1, d + 1, by omega, by omega, by go_num, by go_num, hK3, E2⟩
            case measure => simp [intOf]; omega
          · have e2 : d = c + ((fds.take (j + 1)).filter (· == i + 1)).length := by rw [HCt.out, if_neg (by simp [e]), HD.out]; omega
            have E2 := Lib.hid e2
            clear e2
            go_wp2_with fail
            go_roundw
            case rel => exact ⟨j + 1, d, by omega, by omega, by go_num, by go_num, hK3, E2⟩
            case measure => simp [intOf]; omega
        · have hj8 : j = 8 := by omega
          have e3 : d = cntP (S.P.take (k + 1)) i := by rw [HSt.out, HD.out, hj8, List.take_of_length_le (by rw [HF8.out]; exact Nat.le_refl _)]
          have E3 := Lib.hid e3
          clear e3 hj8
          go_wp2_with fail
          go_roundw
          case rel => exact ⟨k + 1, d, by omega, by omega, by go_num, by go_num, hK3, E3⟩
          case measure => simp [intOf]; omega
    · have hkn : k = np := by omega
      obtain rfl : c = N := by rw [← HN.out, HCn.out, List.take_of_length_le (by rw [HL.out, hkn]; exact Nat.le_refl _)]
      clear hkn
      go_wp2
      go_ret
      exact ⟨rfl, hK⟩
set_option maxRecDepth 100000 in
set_option maxHeartbeats 4000000 in
theorem filesOf_is (h : IsSes w S) (i kd : Int) :
    Calls Tryz.prog 178 #[S.val, .int .i64 i, .int .i64 kd] w fun e w' => e = .returned (.int .i64 (cntF S.F i kd)) ∧ Keep Nob w w' := by
  have ka := (Keep.refl Nob w).alloc (.cells #[.slice S.Ap S.P.length S.cp, .slice S.Af S.F.length S.cf, .slice S.Ar S.R.length S.cr] 159)
  have hb0 := Blk.new w 159 [.slice S.Ap S.P.length S.cp, .slice S.Af S.F.length S.cf, .slice S.Ar S.R.length S.cr]
  have c0 := hb0.cell 1
  simp only [List.getElem?_cons_zero, List.getElem?_cons_succ] at c0
  have HV := Lib.hid h.vf
  have HX := Lib.hid h.f
  have hnp := h.nf
  have hw : ∀ x ∈ S.F, (rcI x).length = 5 := fun x hx => lenI (h.vf x hx).2.1
  have HW := Lib.hid hw
  have HKA := Lib.hid ka
  obtain ⟨np, hnpe⟩ : ∃ np, S.F.length = np := ⟨_, rfl⟩
  have HL := Lib.hid hnpe
  have hzr := info_rF
  have HZ := Lib.hid hzr
  obtain ⟨N, hN⟩ : ∃ N, cntF S.F i kd = N := ⟨_, rfl⟩
  have HN := Lib.hid hN
  unfold Ses.val
  rw [hnpe] at hnp HX c0 HKA ⊢
  rw [hN]
  clear h hw hb0 ka hzr hnpe hN
  go_enter Tryz.func178, Tryz.ntmps178
  go_wp2_with fail
  generalize w.alloc (.cells #[.slice S.Ap S.P.length S.cp, .slice S.Af np S.cf, .slice S.Ar S.R.length S.cr] 159) = wa at *
  have H0 := Lib.hid HKA.out
  go_loopw [7, 13] (fun s7 s13 wx => ∃ (k : Nat) (c : Nat), k ≤ np ∧ c ≤ k ∧ s13 = .int .i64 k ∧ s7 = .int .i64 c ∧ Keep Nob w wx ∧ Hid (c = cntF (S.F.take k) i kd)) (fun _ s13 _ => np - (intOf s13).toNat)
  case atStart => exact ⟨0, 0, Nat.zero_le _, Nat.zero_le _, rfl, rfl, H0.out, Lib.hid (by simp [cntF])⟩
  case round =>
    obtain ⟨k, c, hk, hc, rfl, rfl, hK, HCn⟩ := hrel
    clear c0
    by_cases hlt : k < np
    · obtain ⟨x, hx⟩ : ∃ x, S.F[k]? = some x := ⟨_, List.getElem?_eq_getElem (by rw [HL.out]; exact hlt)⟩
      obtain ⟨b, off, hA, hm⟩ := rows_mid HW.out (by decide) (HX.out.nob hK) hx hlt
      have hxm := List.mem_of_getElem? hx
      have hl4 := (HV.out x hxm).2.1
      have hst := cntF_take (i := i) (k := kd) hx
      rw [← HCn.out] at hst
      have HM := Lib.hid hm
      have HC5 := Lib.hid (cellsRI hl4)
      have H1 := Lib.hid (show (rcI x)[1]? = some (.int .i64 (x.2.getD 0 0)) from rcI_at hl4 (k := 0) (by decide))
      have H2 := Lib.hid (show (rcI x)[2]? = some (.int .i64 (x.2.getD 1 0)) from rcI_at hl4 (k := 1) (by decide))
      generalize x.2.getD 0 0 = y0 at *
      generalize x.2.getD 1 0 = y1 at *
      obtain ⟨cs, hcs⟩ : ∃ cs, rcI x = cs := ⟨_, rfl⟩
      rw [hcs] at HM HC5 H1 H2
      have HSt := Lib.hid hst
      clear hx hxm hm hl4 hcs hst
      rw [hA] at *
      go_upto_region 5 with (first
        | (refine wpList_load_mid rfl 264 _ rfl b (off + k * 5) rfl cs _ HM.out Tryz.underlying264 rfl (by rw [HC5.out.len]; exact HZ.out) ?_)
        | (refine flat_rF.wpList_al rfl rfl ?_; intro w1 hb1 hk1 hs1; clear hs1)
        | (refine flat_rF.wpList_st rfl rfl rfl rfl HC5.out (cellsRI (n := 4) (x := (0, Fi.noP)) rfl) hb1 ?_; intro w2 hb2 hk2 hs2; clear hs2; have K2 := Lib.hid ((hK.nobt hk1).trans hk2 (fun x hx e => by have := hK.size; omega)); have z1 : w2.cell? ⟨wr.heap.size, 1, none⟩ = some (.int .i64 y0) := (hb2.cell 1).trans H1.out; have z2 : w2.cell? ⟨wr.heap.size, 2, none⟩ = some (.int .i64 y1) := (hb2.cell 2).trans H2.out; clear hb1 hb2 hk1 hk2))
      by_cases e1 : y1 = i
      · by_cases e2 : y0 = kd
        · have e3 : c + 1 = cntF (S.F.take (k + 1)) i kd := by rw [HSt.out, if_pos (by simp [e1, e2])]
          have E3 := Lib.hid e3
          clear e3
          go_wp2_with fail
          go_roundw
          case rel => exact ⟨k + 1, c + 1, by omega, by omega, by go_num, by go_num, K2.out, E3⟩
          case measure => simp [intOf]; omega
        · have e3 : c = cntF (S.F.take (k + 1)) i kd := by rw [HSt.out, if_neg (by simp [e1, e2])]; omega
          have E3 := Lib.hid e3
          clear e3
          go_wp2_with fail
          go_roundw
          case rel => exact ⟨k + 1, c, by omega, by omega, by go_num, by go_num, K2.out, E3⟩
          case measure => simp [intOf]; omega
      · have e3 : c = cntF (S.F.take (k + 1)) i kd := by rw [HSt.out, if_neg (by simp [e1])]; omega
        have E3 := Lib.hid e3
        clear e3
        go_wp2_with fail
        go_roundw
        case rel => exact ⟨k + 1, c, by omega, by omega, by go_num, by go_num, K2.out, E3⟩
        case measure => simp [intOf]; omega
    · have hkn : k = np := by omega
      obtain rfl : c = N := by rw [← HN.out, HCn.out, List.take_of_length_le (by rw [HL.out, hkn]; exact Nat.le_refl _)]
      clear hkn
      go_wp2
      go_ret
      exact ⟨rfl, hK⟩
end
end Go.Proofs.YtngchjejmnfanaaGreat.Au
namespace Go.Proofs.YtngchjejmnfanaaGreat.Au
open Go.RowKit Co
set_option linter.unusedVariables false
set_option linter.unusedSimpArgs false
section
variable {w : World} {q : Nat} {S : Ses}
set_option maxRecDepth 100000 in
set_option maxHeartbeats 4000000 in
theorem wr_is (h : IsSes w S) (hb : Blk w q 159 S.cells) (x : Nat × List Int) (hx : x ∈ S.F) :
    Calls Tryz.prog 172 #[.agg (rcI x).toArray, .pointer (some ⟨q, 0, none⟩)] w fun e w' => e = .returned (.bool (wrB S.P x)) ∧ Keep Nob w w' := by
  obtain ⟨h1, h2, h3⟩ := h.vf x hx
  have h0 : (rcI x)[0]? = some (.int .i64 x.1) := rfl
  have hp : (rcI x)[3]? = some (.int .i64 (x.2.getD 2 0)) := rcI_at h2 (k := 2) (by decide)
  have hcall := fun W (k : Keep Nob w W) => fdsOf_is (h.nob k) (x.1 : Int) (by omega) (by omega)
  have e : wrB S.P x = (x.2.getD 2 0 != (cntP S.P x.1 : Int)) := rfl
  rw [e]
  have cq : ∀ W, Keep Nob w W → W.cell? ⟨q, 0, none⟩ = some (.slice S.Ap S.P.length S.cp) ∧ W.cell? ⟨q, 1, none⟩ = some (.slice S.Af S.F.length S.cf) ∧ W.cell? ⟨q, 2, none⟩ = some (.slice S.Ar S.R.length S.cr) := fun W k => ⟨(hb.nob k).cell 0, (hb.nob k).cell 1, (hb.nob k).cell 2⟩
  unfold Ses.val at hcall
  generalize x.2.getD 2 0 = pr at *
  obtain ⟨i, hi⟩ : ∃ i : Nat, x.1 = i := ⟨_, rfl⟩
  rw [hi] at h0 hcall ⊢
  generalize cntP S.P (i : Int) = N at *
  generalize rcI x = cs at *
  have HC := Lib.hid hcall
  have HQ := Lib.hid cq
  clear hcall cq e hi h3 h2 hx h hb h1
  go_enter Tryz.func172, Tryz.ntmps172
  go_upto_region 1 with (refine wpList_box rfl 264 _ rfl cs.toArray rfl ?_; intro w1 hb k1 hs; clear hs; have K1 := Lib.hid k1; have HB := Lib.hid hb; clear hb k1)
  have sf : ∀ W, Keep Nob w1 W → W.cell? ⟨w.heap.size, 0, none⟩ = some (.int .i64 i) ∧ W.cell? ⟨w.heap.size, 3, none⟩ = some (.int .i64 pr) ∧ W.cell? ⟨q, 0, none⟩ = some (.slice S.Ap S.P.length S.cp) ∧ W.cell? ⟨q, 1, none⟩ = some (.slice S.Af S.F.length S.cf) ∧ W.cell? ⟨q, 2, none⟩ = some (.slice S.Ar S.R.length S.cr) := fun W k => ⟨((HB.out.nob k).cell 0).trans h0, ((HB.out.nob k).cell 3).trans hp, HQ.out _ (K1.out.nobt k)⟩
  have SF := Lib.hid sf
  have s0 := SF.out _ (Keep.nobdrew w1)
  have hcl := HC.out _ (K1.out.nobt (Keep.nobdrew w1))
  clear sf h0 hp
  go_region_held3 (fun w' => w'.cell? ⟨w.heap.size, 0, none⟩ = some (.int .i64 i) ∧ w'.cell? ⟨w.heap.size, 3, none⟩ = some (.int .i64 pr) ∧ w'.cell? ⟨q, 0, none⟩ = some (.slice S.Ap S.P.length S.cp) ∧ w'.cell? ⟨q, 1, none⟩ = some (.slice S.Af S.F.length S.cf) ∧ w'.cell? ⟨q, 2, none⟩ = some (.slice S.Ar S.R.length S.cr))
    (first | exact s0 | exact s1)
    (first | (go_at_call 173; with_reducible_and_instances apply Calls.mono hcl; rintro e w2 ⟨rfl, k2⟩; have s1 := SF.out _ ((Keep.nobdrew w1).nobt k2); have K2 := Lib.hid ((K1.out.nobt (Keep.nobdrew w1)).nobt k2)))
  clear s0 s1 hcl k2
  go_wp2
  go_ret
  exact ⟨by first | rfl | simp, K2.out⟩
set_option maxRecDepth 100000 in
set_option maxHeartbeats 4000000 in
theorem lq_is (h : IsSes w S) (hb : Blk w q 159 S.cells) (x : Nat × List Int) (hx : x ∈ S.F) :
    Calls Tryz.prog 174 #[.agg (rcI x).toArray, .pointer (some ⟨q, 0, none⟩)] w fun e w' => e = .returned (.bool (lqB S.R x)) ∧ Keep Nob w w' := by
  obtain ⟨h1, h2, h3⟩ := h.vf x hx
  have hk : (rcI x)[1]? = some (.int .i64 (x.2.getD 0 0)) := rcI_at h2 (k := 0) (by decide)
  have hp : (rcI x)[2]? = some (.int .i64 (x.2.getD 1 0)) := rcI_at h2 (k := 1) (by decide)
  have hcall := fun W (k : Keep Nob w W) => hasR_is S.Ar S.R.length S.cr S.R rfl (fun x hx => (h.vr x hx).2.1) (h.r.nob k) (by have := h.nr; omega) (x.2.getD 1 0)
  have e : lqB S.R x = ((x.2.getD 0 0 != 3 && decide (x.2.getD 1 0 < 4)) && !(S.R.any fun y => (y.1 : Int) == x.2.getD 1 0)) := rfl
  rw [e]
  have cq : ∀ W, Keep Nob w W → W.cell? ⟨q, 2, none⟩ = some (.slice S.Ar S.R.length S.cr) := fun W k => (hb.nob k).cell 2
  generalize x.2.getD 0 0 = kd at *
  generalize x.2.getD 1 0 = pi at *
  generalize (S.R.any fun y => (y.1 : Int) == pi) = v at *
  generalize rcI x = cs at *
  have HC := Lib.hid hcall
  have HQ := Lib.hid cq
  clear hcall cq e h3 h2 hx h hb h1
  rcases (show kd = 3 ∨ (kd ≠ 3 ∧ ¬ pi < 4) ∨ (kd ≠ 3 ∧ pi < 4) by omega) with e1 | ⟨e1, e2⟩ | ⟨e1, e2⟩
  · rw [show ((kd != 3 && decide (pi < 4)) && !v) = false by rw [e1]; rfl]
    go_enter Tryz.func174, Tryz.ntmps174
    go_wp2_with (refine wpList_box rfl 264 _ rfl cs.toArray rfl ?_; intro w1 hb k1 hs; clear hs; have c1 : w1.cell? ⟨w.heap.size, 1, none⟩ = some (.int .i64 kd) := (hb.cell 1).trans hk; have c2 : w1.cell? ⟨w.heap.size, 2, none⟩ = some (.int .i64 pi) := (hb.cell 2).trans hp; have cq := HQ.out _ k1; have K1 := Lib.hid k1; clear hb k1)
    go_ret
    exact ⟨by first | rfl | simp [e1], K1.out⟩
  · rw [show ((kd != 3 && decide (pi < 4)) && !v) = false by rw [decide_eq_false e2]; simp]
    go_enter Tryz.func174, Tryz.ntmps174
    go_wp2_with (refine wpList_box rfl 264 _ rfl cs.toArray rfl ?_; intro w1 hb k1 hs; clear hs; have c1 : w1.cell? ⟨w.heap.size, 1, none⟩ = some (.int .i64 kd) := (hb.cell 1).trans hk; have c2 : w1.cell? ⟨w.heap.size, 2, none⟩ = some (.int .i64 pi) := (hb.cell 2).trans hp; have cq := HQ.out _ k1; have K1 := Lib.hid k1; clear hb k1)
    go_ret
    exact ⟨by first | rfl | simp [e1, e2], K1.out⟩
  · rw [show ((kd != 3 && decide (pi < 4)) && !v) = !v by rw [decide_eq_true e2, bne_iff_ne.2 e1]; rfl]
    go_enter Tryz.func174, Tryz.ntmps174
    go_wp2_with (refine wpList_box rfl 264 _ rfl cs.toArray rfl ?_; intro w1 hb k1 hs; clear hs; have c1 : w1.cell? ⟨w.heap.size, 1, none⟩ = some (.int .i64 kd) := (hb.cell 1).trans hk; have c2 : w1.cell? ⟨w.heap.size, 2, none⟩ = some (.int .i64 pi) := (hb.cell 2).trans hp; have cq := HQ.out _ k1; have K1 := Lib.hid k1; clear hb k1)
    refine (HC.out _ K1.out).mono ?_; rintro e w2 ⟨rfl, k2⟩
    have K2 := Lib.hid (K1.out.nobt k2)
    clear k2
    go_wp2
    go_ret
    exact ⟨by first | rfl | simp [e1, e2], K2.out⟩
set_option maxRecDepth 100000 in
set_option maxHeartbeats 4000000 in
theorem we_is (h : IsSes w S) (hb : Blk w q 159 S.cells) (x : Nat × Ri.Pp) (hx : x ∈ S.R) :
    Calls Tryz.prog 177 #[.agg (rcR x).toArray, .pointer (some ⟨q, 0, none⟩)] w fun e w' => e = .returned (.bool (weB S.F x)) ∧ Keep Nob w w' := by
  obtain ⟨h1, h2, h3, h4, h5, h6⟩ := h.vr x hx
  have h0 : (rcR x)[0]? = some (.int .i64 x.1) := rfl
  have hR : (rcR x)[3]? = some (.int .i64 x.2.r) := rfl
  have hS : (rcR x)[4]? = some (.int .i64 x.2.s) := rfl
  have hcall1 := fun W (k : Keep Nob w W) => filesOf_is (h.nob k) (x.1 : Int) 1
  have hcall2 := fun W (k : Keep Nob w W) => filesOf_is (h.nob k) (x.1 : Int) 2
  have e : weB S.F x = (x.2.r != (cntF S.F x.1 1 : Int) || x.2.s != (cntF S.F x.1 2 : Int) || ((cntF S.F x.1 1 : Int) + (cntF S.F x.1 2 : Int) == 0)) := rfl
  rw [e]
  have hn1 : cntF S.F x.1 1 ≤ 12 := Nat.le_trans (List.length_filter_le _ _) h.nf
  have hn2 : cntF S.F x.1 2 ≤ 12 := Nat.le_trans (List.length_filter_le _ _) h.nf
  have cq : ∀ W, Keep Nob w W → W.cell? ⟨q, 0, none⟩ = some (.slice S.Ap S.P.length S.cp) ∧ W.cell? ⟨q, 1, none⟩ = some (.slice S.Af S.F.length S.cf) ∧ W.cell? ⟨q, 2, none⟩ = some (.slice S.Ar S.R.length S.cr) := fun W k => ⟨(hb.nob k).cell 0, (hb.nob k).cell 1, (hb.nob k).cell 2⟩
  unfold Ses.val at hcall1 hcall2
  generalize x.2.r = pr at *
  generalize x.2.s = ps at *
  obtain ⟨i, hi⟩ : ∃ i : Nat, x.1 = i := ⟨_, rfl⟩
  rw [hi] at h0 hcall1 hcall2 hn1 hn2 ⊢
  generalize cntF S.F (i : Int) 1 = n1 at *
  generalize cntF S.F (i : Int) 2 = n2 at *
  generalize rcR x = cs at *
  have HC1 := Lib.hid hcall1
  have HC2 := Lib.hid hcall2
  have HQ := Lib.hid cq
  clear hcall1 hcall2 cq e hi h3 h2 hx h hb h1 h4 h5 h6
  go_enter Tryz.func177, Tryz.ntmps177
  go_upto_region 1 with (refine wpList_box rfl 266 _ rfl cs.toArray rfl ?_; intro w1 hb k1 hs; clear hs; have K1 := Lib.hid k1; have HB := Lib.hid hb; clear hb k1)
  have sf : ∀ W, Keep Nob w1 W → W.cell? ⟨w.heap.size, 0, none⟩ = some (.int .i64 i) ∧ W.cell? ⟨q, 0, none⟩ = some (.slice S.Ap S.P.length S.cp) ∧ W.cell? ⟨q, 1, none⟩ = some (.slice S.Af S.F.length S.cf) ∧ W.cell? ⟨q, 2, none⟩ = some (.slice S.Ar S.R.length S.cr) := fun W k => ⟨((HB.out.nob k).cell 0).trans h0, HQ.out _ (K1.out.nobt k)⟩
  have SF := Lib.hid sf
  have SG := Lib.hid (show ∀ W, Keep Nob w1 W → W.cell? ⟨w.heap.size, 3, none⟩ = some (.int .i64 pr) ∧ W.cell? ⟨w.heap.size, 4, none⟩ = some (.int .i64 ps) from fun W k => ⟨((HB.out.nob k).cell 3).trans hR, ((HB.out.nob k).cell 4).trans hS⟩)
  have s0 := SF.out _ (Keep.nobdrew w1)
  have hc1 := HC1.out _ (K1.out.nobt (Keep.nobdrew w1))
  clear sf h0 hR hS
  go_region_held3 (fun w' => w'.cell? ⟨w.heap.size, 0, none⟩ = some (.int .i64 i) ∧ w'.cell? ⟨q, 0, none⟩ = some (.slice S.Ap S.P.length S.cp) ∧ w'.cell? ⟨q, 1, none⟩ = some (.slice S.Af S.F.length S.cf) ∧ w'.cell? ⟨q, 2, none⟩ = some (.slice S.Ar S.R.length S.cr))
    (first | exact s2 | exact s1 | exact s0)
    (first | (go_at_call 178; with_reducible_and_instances apply Calls.mono hc1; rintro e w2 ⟨rfl, k2⟩; have s1 := SF.out _ ((Keep.nobdrew w1).nobt k2); have K2 := Lib.hid ((Keep.nobdrew w1).nobt k2); have hc2 := HC2.out _ (K1.out.nobt K2.out)) | (go_at_call 178; with_reducible_and_instances apply Calls.mono hc2; rintro e w3 ⟨rfl, k3⟩; have s2 := SF.out _ (K2.out.nobt k3); have K3 := Lib.hid (K2.out.nobt k3); have g3 := SG.out _ (K2.out.nobt k3)))
  clear s0 s1 s2 hc1 hc2 k2 k3
  have KK := Lib.hid (K1.out.nobt K3.out)
  rcases (show ¬ (pr = (n1 : Int)) ∨ (pr = (n1 : Int) ∧ ¬ (ps = (n2 : Int))) ∨ (pr = (n1 : Int) ∧ ps = (n2 : Int)) by omega) with e1 | ⟨e1, e2⟩ | ⟨e1, e2⟩
  · go_wp2
    go_ret
    exact ⟨by first | rfl | simp [e1], KK.out⟩
  · go_wp2
    go_ret
    exact ⟨by first | rfl | simp [e1, e2], KK.out⟩
  · go_wp2
    go_ret
    exact ⟨by first | rfl | simp [e1, e2] | (simp [e1, e2]; omega), KK.out⟩
end
set_option maxRecDepth 100000 in
set_option maxHeartbeats 2000000 in
theorem ixP_lp {w : World} {q : Nat} (A : Option Addr) (n c : Nat) (l : List (Nat × List Int)) (hl : l.length = n) (hw : ∀ x ∈ l, x.2.length = 16) (hx : Reads w A (n * 17) (rows rcI l)) (hn : n ≤ 1000) (p : Nat × List Int → Bool)
    (hf : ∀ W x, x ∈ l → Keep Nob w W → Calls Tryz.prog 165 #[.agg (rcI x).toArray, .pointer (some ⟨q, 0, none⟩)] W fun e w' => e = .returned (.bool (p x)) ∧ Keep Nob W w') :
    Calls Tryz.prog 250 #[.slice A n c, .func (.func 165) #[] #[.pointer (some ⟨q, 0, none⟩)]] w fun e w' => ∃ k : Int, e = .returned (.int .i64 k) ∧ decide (0 ≤ k) = l.any p ∧ Keep Nob w w' := by
  have HW := Lib.hid (show ∀ x ∈ l, (rcI x).length = 17 from fun x hx => lenI (hw x hx))
  have HX := Lib.hid hx
  have HL := Lib.hid hl
  have HF := Lib.hid hf
  have hz := info_rP
  have HZ := Lib.hid hz
  clear hx hl hf hw hz
  go_enter Tryz.func250, Tryz.ntmps250
  go_wp2_with fail
  go_loopw [8] (fun s8 wx => ∃ k : Nat, k ≤ n ∧ s8 = .int .i64 k ∧ Keep Nob w wx ∧ Hid ((l.take k).any p = false)) (fun s8 _ => n - (intOf s8).toNat)
  case atStart => exact ⟨0, Nat.zero_le _, rfl, Keep.refl _ _, Lib.hid rfl⟩
  case round =>
    obtain ⟨k, hk, rfl, hK, HA⟩ := hrel
    by_cases hlt : k < n
    · obtain ⟨x, hx⟩ : ∃ x, l[k]? = some x := ⟨_, List.getElem?_eq_getElem (by rw [HL.out]; exact hlt)⟩
      obtain ⟨b, off, hA, hm⟩ := rows_mid HW.out (by decide) (HX.out.nob hK) hx hlt
      have hxm := List.mem_of_getElem? hx
      have hcall := HF.out wr x hxm hK
      have hwx := HW.out x hxm
      have HX' := Lib.hid hx
      have HM := Lib.hid hm
      have HWX := Lib.hid hwx
      obtain ⟨cs, hcs⟩ : ∃ cs, rcI x = cs := ⟨_, rfl⟩
      rw [hcs] at hcall HM HWX
      obtain ⟨v, hv⟩ : ∃ v, p x = v := ⟨_, rfl⟩
      rw [hv] at hcall
      have HV := Lib.hid hv
      subst hA
      clear hx hxm hm hwx hcs hv
      go_wp2_with (refine wpList_load_mid rfl 262 _ rfl b (off + k * 17) rfl cs _ HM.out Tryz.underlying262 rfl (by rw [HWX.out]; exact HZ.out) ?_)
      refine hcall.mono ?_; rintro e w1 ⟨rfl, k1⟩
      have hK2 := hK.nobt k1
      clear hcall k1
      cases v with
      | true =>
        go_wp2
        go_ret
        exact ⟨_, rfl, by rw [any_at HX'.out HV.out]; simp, hK2⟩
      | false =>
        have HA2 := Lib.hid (take_any HX'.out HA.out HV.out)
        go_wp2_with fail
        go_roundw
        case rel => exact ⟨k + 1, by omega, by go_num, hK2, HA2⟩
        case measure => simp [intOf]; omega
    · have hkn : k = n := by omega
      have e : l.any p = false := by
        have := HA.out
        rw [List.take_of_length_le (by rw [HL.out, hkn]; exact Nat.le_refl _)] at this
        exact this
      go_wp2
      go_ret
      exact ⟨_, rfl, by rw [e]; rfl, hK⟩
theorem cfP_lp {w : World} {q : Nat} (A : Option Addr) (n c : Nat) (l : List (Nat × List Int)) (hl : l.length = n) (hw : ∀ x ∈ l, x.2.length = 16) (hx : Reads w A (n * 17) (rows rcI l)) (hn : n ≤ 1000) (p : Nat × List Int → Bool)
    (hf : ∀ W x, x ∈ l → Keep Nob w W → Calls Tryz.prog 165 #[.agg (rcI x).toArray, .pointer (some ⟨q, 0, none⟩)] W fun e w' => e = .returned (.bool (p x)) ∧ Keep Nob W w') :
    Calls Tryz.prog 164 #[.slice A n c, .func (.func 165) #[] #[.pointer (some ⟨q, 0, none⟩)]] w fun e w' => e = .returned (.bool (l.any p)) ∧ Keep Nob w w' := by
  have hcall := ixP_lp A n c l hl hw hx hn p hf
  generalize l.any p = v at *
  clear hx hf hl hw
  go_enter Tryz.func164, Tryz.ntmps164
  go_wp2_with fail
  refine hcall.mono ?_; rintro e w1 ⟨k, rfl, hk, k1⟩
  subst hk
  clear hcall
  go_wp2
  go_ret
  exact ⟨by first | rfl | simp, k1⟩
set_option maxRecDepth 100000 in
set_option maxHeartbeats 2000000 in
theorem ixP_lf {w : World} {q : Nat} (A : Option Addr) (n c : Nat) (l : List (Nat × List Int)) (hl : l.length = n) (hw : ∀ x ∈ l, x.2.length = 16) (hx : Reads w A (n * 17) (rows rcI l)) (hn : n ≤ 1000) (p : Nat × List Int → Bool)
    (hf : ∀ W x, x ∈ l → Keep Nob w W → Calls Tryz.prog 167 #[.agg (rcI x).toArray, .pointer (some ⟨q, 0, none⟩)] W fun e w' => e = .returned (.bool (p x)) ∧ Keep Nob W w') :
    Calls Tryz.prog 250 #[.slice A n c, .func (.func 167) #[] #[.pointer (some ⟨q, 0, none⟩)]] w fun e w' => ∃ k : Int, e = .returned (.int .i64 k) ∧ decide (0 ≤ k) = l.any p ∧ Keep Nob w w' := by
  have HW := Lib.hid (show ∀ x ∈ l, (rcI x).length = 17 from fun x hx => lenI (hw x hx))
  have HX := Lib.hid hx
  have HL := Lib.hid hl
  have HF := Lib.hid hf
  have hz := info_rP
  have HZ := Lib.hid hz
  clear hx hl hf hw hz
  go_enter Tryz.func250, Tryz.ntmps250
  go_wp2_with fail
  go_loopw [8] (fun s8 wx => ∃ k : Nat, k ≤ n ∧ s8 = .int .i64 k ∧ Keep Nob w wx ∧ Hid ((l.take k).any p = false)) (fun s8 _ => n - (intOf s8).toNat)
  case atStart => exact ⟨0, Nat.zero_le _, rfl, Keep.refl _ _, Lib.hid rfl⟩
  case round =>
    obtain ⟨k, hk, rfl, hK, HA⟩ := hrel
    by_cases hlt : k < n
    · obtain ⟨x, hx⟩ : ∃ x, l[k]? = some x := ⟨_, List.getElem?_eq_getElem (by rw [HL.out]; exact hlt)⟩
      obtain ⟨b, off, hA, hm⟩ := rows_mid HW.out (by decide) (HX.out.nob hK) hx hlt
      have hxm := List.mem_of_getElem? hx
      have hcall := HF.out wr x hxm hK
      have hwx := HW.out x hxm
      have HX' := Lib.hid hx
      have HM := Lib.hid hm
      have HWX := Lib.hid hwx
      obtain ⟨cs, hcs⟩ : ∃ cs, rcI x = cs := ⟨_, rfl⟩
      rw [hcs] at hcall HM HWX
      obtain ⟨v, hv⟩ : ∃ v, p x = v := ⟨_, rfl⟩
      rw [hv] at hcall
      have HV := Lib.hid hv
      subst hA
      clear hx hxm hm hwx hcs hv
      go_wp2_with (refine wpList_load_mid rfl 262 _ rfl b (off + k * 17) rfl cs _ HM.out Tryz.underlying262 rfl (by rw [HWX.out]; exact HZ.out) ?_)
      refine hcall.mono ?_; rintro e w1 ⟨rfl, k1⟩
      have hK2 := hK.nobt k1
      clear hcall k1
      cases v with
      | true =>
        go_wp2
        go_ret
        exact ⟨_, rfl, by rw [any_at HX'.out HV.out]; simp, hK2⟩
      | false =>
        have HA2 := Lib.hid (take_any HX'.out HA.out HV.out)
        go_wp2_with fail
        go_roundw
        case rel => exact ⟨k + 1, by omega, by go_num, hK2, HA2⟩
        case measure => simp [intOf]; omega
    · have hkn : k = n := by omega
      have e : l.any p = false := by
        have := HA.out
        rw [List.take_of_length_le (by rw [HL.out, hkn]; exact Nat.le_refl _)] at this
        exact this
      go_wp2
      go_ret
      exact ⟨_, rfl, by rw [e]; rfl, hK⟩
theorem cfP_lf {w : World} {q : Nat} (A : Option Addr) (n c : Nat) (l : List (Nat × List Int)) (hl : l.length = n) (hw : ∀ x ∈ l, x.2.length = 16) (hx : Reads w A (n * 17) (rows rcI l)) (hn : n ≤ 1000) (p : Nat × List Int → Bool)
    (hf : ∀ W x, x ∈ l → Keep Nob w W → Calls Tryz.prog 167 #[.agg (rcI x).toArray, .pointer (some ⟨q, 0, none⟩)] W fun e w' => e = .returned (.bool (p x)) ∧ Keep Nob W w') :
    Calls Tryz.prog 164 #[.slice A n c, .func (.func 167) #[] #[.pointer (some ⟨q, 0, none⟩)]] w fun e w' => e = .returned (.bool (l.any p)) ∧ Keep Nob w w' := by
  have hcall := ixP_lf A n c l hl hw hx hn p hf
  generalize l.any p = v at *
  clear hx hf hl hw
  go_enter Tryz.func164, Tryz.ntmps164
  go_wp2_with fail
  refine hcall.mono ?_; rintro e w1 ⟨k, rfl, hk, k1⟩
  subst hk
  clear hcall
  go_wp2
  go_ret
  exact ⟨by first | rfl | simp, k1⟩
set_option maxRecDepth 100000 in
set_option maxHeartbeats 2000000 in
theorem ixF_wr {w : World} {q : Nat} (A : Option Addr) (n c : Nat) (l : List (Nat × List Int)) (hl : l.length = n) (hw : ∀ x ∈ l, x.2.length = 4) (hx : Reads w A (n * 5) (rows rcI l)) (hn : n ≤ 1000) (p : Nat × List Int → Bool)
    (hf : ∀ W x, x ∈ l → Keep Nob w W → Calls Tryz.prog 172 #[.agg (rcI x).toArray, .pointer (some ⟨q, 0, none⟩)] W fun e w' => e = .returned (.bool (p x)) ∧ Keep Nob W w') :
    Calls Tryz.prog 254 #[.slice A n c, .func (.func 172) #[] #[.pointer (some ⟨q, 0, none⟩)]] w fun e w' => ∃ k : Int, e = .returned (.int .i64 k) ∧ decide (0 ≤ k) = l.any p ∧ Keep Nob w w' := by
  have HW := Lib.hid (show ∀ x ∈ l, (rcI x).length = 5 from fun x hx => lenI (hw x hx))
  have HX := Lib.hid hx
  have HL := Lib.hid hl
  have HF := Lib.hid hf
  have hz := info_rF
  have HZ := Lib.hid hz
  clear hx hl hf hw hz
  go_enter Tryz.func254, Tryz.ntmps254
  go_wp2_with fail
  go_loopw [8] (fun s8 wx => ∃ k : Nat, k ≤ n ∧ s8 = .int .i64 k ∧ Keep Nob w wx ∧ Hid ((l.take k).any p = false)) (fun s8 _ => n - (intOf s8).toNat)
  case atStart => exact ⟨0, Nat.zero_le _, rfl, Keep.refl _ _, Lib.hid rfl⟩
  case round =>
    obtain ⟨k, hk, rfl, hK, HA⟩ := hrel
    by_cases hlt : k < n
    · obtain ⟨x, hx⟩ : ∃ x, l[k]? = some x := ⟨_, List.getElem?_eq_getElem (by rw [HL.out]; exact hlt)⟩
      obtain ⟨b, off, hA, hm⟩ := rows_mid HW.out (by decide) (HX.out.nob hK) hx hlt
      have hxm := List.mem_of_getElem? hx
      have hcall := HF.out wr x hxm hK
      have hwx := HW.out x hxm
      have HX' := Lib.hid hx
      have HM := Lib.hid hm
      have HWX := Lib.hid hwx
      obtain ⟨cs, hcs⟩ : ∃ cs, rcI x = cs := ⟨_, rfl⟩
      rw [hcs] at hcall HM HWX
      obtain ⟨v, hv⟩ : ∃ v, p x = v := ⟨_, rfl⟩
      rw [hv] at hcall
      have HV := Lib.hid hv
      subst hA
      clear hx hxm hm hwx hcs hv
      go_wp2_with (refine wpList_load_mid rfl 264 _ rfl b (off + k * 5) rfl cs _ HM.out Tryz.underlying264 rfl (by rw [HWX.out]; exact HZ.out) ?_)
      refine hcall.mono ?_; rintro e w1 ⟨rfl, k1⟩
      have hK2 := hK.nobt k1
      clear hcall k1
      cases v with
      | true =>
        go_wp2
        go_ret
        exact ⟨_, rfl, by rw [any_at HX'.out HV.out]; simp, hK2⟩
      | false =>
        have HA2 := Lib.hid (take_any HX'.out HA.out HV.out)
        go_wp2_with fail
        go_roundw
        case rel => exact ⟨k + 1, by omega, by go_num, hK2, HA2⟩
        case measure => simp [intOf]; omega
    · have hkn : k = n := by omega
      have e : l.any p = false := by
        have := HA.out
        rw [List.take_of_length_le (by rw [HL.out, hkn]; exact Nat.le_refl _)] at this
        exact this
      go_wp2
      go_ret
      exact ⟨_, rfl, by rw [e]; rfl, hK⟩
theorem cfF_wr {w : World} {q : Nat} (A : Option Addr) (n c : Nat) (l : List (Nat × List Int)) (hl : l.length = n) (hw : ∀ x ∈ l, x.2.length = 4) (hx : Reads w A (n * 5) (rows rcI l)) (hn : n ≤ 1000) (p : Nat × List Int → Bool)
    (hf : ∀ W x, x ∈ l → Keep Nob w W → Calls Tryz.prog 172 #[.agg (rcI x).toArray, .pointer (some ⟨q, 0, none⟩)] W fun e w' => e = .returned (.bool (p x)) ∧ Keep Nob W w') :
    Calls Tryz.prog 171 #[.slice A n c, .func (.func 172) #[] #[.pointer (some ⟨q, 0, none⟩)]] w fun e w' => e = .returned (.bool (l.any p)) ∧ Keep Nob w w' := by
  have hcall := ixF_wr A n c l hl hw hx hn p hf
  generalize l.any p = v at *
  clear hx hf hl hw
  go_enter Tryz.func171, Tryz.ntmps171
  go_wp2_with fail
  refine hcall.mono ?_; rintro e w1 ⟨k, rfl, hk, k1⟩
  subst hk
  clear hcall
  go_wp2
  go_ret
  exact ⟨by first | rfl | simp, k1⟩
set_option maxRecDepth 100000 in
set_option maxHeartbeats 2000000 in
theorem ixF_lq {w : World} {q : Nat} (A : Option Addr) (n c : Nat) (l : List (Nat × List Int)) (hl : l.length = n) (hw : ∀ x ∈ l, x.2.length = 4) (hx : Reads w A (n * 5) (rows rcI l)) (hn : n ≤ 1000) (p : Nat × List Int → Bool)
    (hf : ∀ W x, x ∈ l → Keep Nob w W → Calls Tryz.prog 174 #[.agg (rcI x).toArray, .pointer (some ⟨q, 0, none⟩)] W fun e w' => e = .returned (.bool (p x)) ∧ Keep Nob W w') :
    Calls Tryz.prog 254 #[.slice A n c, .func (.func 174) #[] #[.pointer (some ⟨q, 0, none⟩)]] w fun e w' => ∃ k : Int, e = .returned (.int .i64 k) ∧ decide (0 ≤ k) = l.any p ∧ Keep Nob w w' := by
  have HW := Lib.hid (show ∀ x ∈ l, (rcI x).length = 5 from fun x hx => lenI (hw x hx))
  have HX := Lib.hid hx
  have HL := Lib.hid hl
  have HF := Lib.hid hf
  have hz := info_rF
  have HZ := Lib.hid hz
  clear hx hl hf hw hz
  go_enter Tryz.func254, Tryz.ntmps254
  go_wp2_with fail
  go_loopw [8] (fun s8 wx => ∃ k : Nat, k ≤ n ∧ s8 = .int .i64 k ∧ Keep Nob w wx ∧ Hid ((l.take k).any p = false)) (fun s8 _ => n - (intOf s8).toNat)
  case atStart => exact ⟨0, Nat.zero_le _, rfl, Keep.refl _ _, Lib.hid rfl⟩
  case round =>
    obtain ⟨k, hk, rfl, hK, HA⟩ := hrel
    by_cases hlt : k < n
    · obtain ⟨x, hx⟩ : ∃ x, l[k]? = some x := ⟨_, List.getElem?_eq_getElem (by rw [HL.out]; exact hlt)⟩
      obtain ⟨b, off, hA, hm⟩ := rows_mid HW.out (by decide) (HX.out.nob hK) hx hlt
      have hxm := List.mem_of_getElem? hx
      have hcall := HF.out wr x hxm hK
      have hwx := HW.out x hxm
      have HX' := Lib.hid hx
      have HM := Lib.hid hm
      have HWX := Lib.hid hwx
      obtain ⟨cs, hcs⟩ : ∃ cs, rcI x = cs := ⟨_, rfl⟩
      rw [hcs] at hcall HM HWX
      obtain ⟨v, hv⟩ : ∃ v, p x = v := ⟨_, rfl⟩
      rw [hv] at hcall
      have HV := Lib.hid hv
      subst hA
      clear hx hxm hm hwx hcs hv
      go_wp2_with (refine wpList_load_mid rfl 264 _ rfl b (off + k * 5) rfl cs _ HM.out Tryz.underlying264 rfl (by rw [HWX.out]; exact HZ.out) ?_)
      refine hcall.mono ?_; rintro e w1 ⟨rfl, k1⟩
      have hK2 := hK.nobt k1
      clear hcall k1
      cases v with
      | true =>
        go_wp2
        go_ret
        exact ⟨_, rfl, by rw [any_at HX'.out HV.out]; simp, hK2⟩
      | false =>
        have HA2 := Lib.hid (take_any HX'.out HA.out HV.out)
        go_wp2_with fail
        go_roundw
        case rel => exact ⟨k + 1, by omega, by go_num, hK2, HA2⟩
        case measure => simp [intOf]; omega
    · have hkn : k = n := by omega
      have e : l.any p = false := by
        have := HA.out
        rw [List.take_of_length_le (by rw [HL.out, hkn]; exact Nat.le_refl _)] at this
        exact this
      go_wp2
      go_ret
      exact ⟨_, rfl, by rw [e]; rfl, hK⟩
theorem cfF_lq {w : World} {q : Nat} (A : Option Addr) (n c : Nat) (l : List (Nat × List Int)) (hl : l.length = n) (hw : ∀ x ∈ l, x.2.length = 4) (hx : Reads w A (n * 5) (rows rcI l)) (hn : n ≤ 1000) (p : Nat × List Int → Bool)
    (hf : ∀ W x, x ∈ l → Keep Nob w W → Calls Tryz.prog 174 #[.agg (rcI x).toArray, .pointer (some ⟨q, 0, none⟩)] W fun e w' => e = .returned (.bool (p x)) ∧ Keep Nob W w') :
    Calls Tryz.prog 171 #[.slice A n c, .func (.func 174) #[] #[.pointer (some ⟨q, 0, none⟩)]] w fun e w' => e = .returned (.bool (l.any p)) ∧ Keep Nob w w' := by
  have hcall := ixF_lq A n c l hl hw hx hn p hf
  generalize l.any p = v at *
  clear hx hf hl hw
  go_enter Tryz.func171, Tryz.ntmps171
  go_wp2_with fail
  refine hcall.mono ?_; rintro e w1 ⟨k, rfl, hk, k1⟩
  subst hk
  clear hcall
  go_wp2
  go_ret
  exact ⟨by first | rfl | simp, k1⟩
set_option maxRecDepth 100000 in
set_option maxHeartbeats 2000000 in
theorem ixR_we {w : World} {q : Nat} (A : Option Addr) (n c : Nat) (l : List (Nat × Ri.Pp)) (hl : l.length = n) (hw : ∀ x ∈ l, x.2.d.length = 32) (hx : Reads w A (n * 37) (rows rcR l)) (hn : n ≤ 1000) (p : Nat × Ri.Pp → Bool)
    (hf : ∀ W x, x ∈ l → Keep Nob w W → Calls Tryz.prog 177 #[.agg (rcR x).toArray, .pointer (some ⟨q, 0, none⟩)] W fun e w' => e = .returned (.bool (p x)) ∧ Keep Nob W w') :
    Calls Tryz.prog 256 #[.slice A n c, .func (.func 177) #[] #[.pointer (some ⟨q, 0, none⟩)]] w fun e w' => ∃ k : Int, e = .returned (.int .i64 k) ∧ decide (0 ≤ k) = l.any p ∧ Keep Nob w w' := by
  have HW := Lib.hid (show ∀ x ∈ l, (rcR x).length = 37 from fun x hx => lenR (hw x hx))
  have HX := Lib.hid hx
  have HL := Lib.hid hl
  have HF := Lib.hid hf
  have hz := info_rR
  have HZ := Lib.hid hz
  clear hx hl hf hw hz
  go_enter Tryz.func256, Tryz.ntmps256
  go_wp2_with fail
  go_loopw [8] (fun s8 wx => ∃ k : Nat, k ≤ n ∧ s8 = .int .i64 k ∧ Keep Nob w wx ∧ Hid ((l.take k).any p = false)) (fun s8 _ => n - (intOf s8).toNat)
  case atStart => exact ⟨0, Nat.zero_le _, rfl, Keep.refl _ _, Lib.hid rfl⟩
  case round =>
    obtain ⟨k, hk, rfl, hK, HA⟩ := hrel
    by_cases hlt : k < n
    · obtain ⟨x, hx⟩ : ∃ x, l[k]? = some x := ⟨_, List.getElem?_eq_getElem (by rw [HL.out]; exact hlt)⟩
      obtain ⟨b, off, hA, hm⟩ := rows_mid HW.out (by decide) (HX.out.nob hK) hx hlt
      have hxm := List.mem_of_getElem? hx
      have hcall := HF.out wr x hxm hK
      have hwx := HW.out x hxm
      have HX' := Lib.hid hx
      have HM := Lib.hid hm
      have HWX := Lib.hid hwx
      obtain ⟨cs, hcs⟩ : ∃ cs, rcR x = cs := ⟨_, rfl⟩
      rw [hcs] at hcall HM HWX
      obtain ⟨v, hv⟩ : ∃ v, p x = v := ⟨_, rfl⟩
      rw [hv] at hcall
      have HV := Lib.hid hv
      subst hA
      clear hx hxm hm hwx hcs hv
      go_wp2_with (refine wpList_load_mid rfl 266 _ rfl b (off + k * 37) rfl cs _ HM.out Tryz.underlying266 rfl (by rw [HWX.out]; exact HZ.out) ?_)
      refine hcall.mono ?_; rintro e w1 ⟨rfl, k1⟩
      have hK2 := hK.nobt k1
      clear hcall k1
      cases v with
      | true =>
        go_wp2
        go_ret
        exact ⟨_, rfl, by rw [any_at HX'.out HV.out]; simp, hK2⟩
      | false =>
        have HA2 := Lib.hid (take_any HX'.out HA.out HV.out)
        go_wp2_with fail
        go_roundw
        case rel => exact ⟨k + 1, by omega, by go_num, hK2, HA2⟩
        case measure => simp [intOf]; omega
    · have hkn : k = n := by omega
      have e : l.any p = false := by
        have := HA.out
        rw [List.take_of_length_le (by rw [HL.out, hkn]; exact Nat.le_refl _)] at this
        exact this
      go_wp2
      go_ret
      exact ⟨_, rfl, by rw [e]; rfl, hK⟩
theorem cfR_we {w : World} {q : Nat} (A : Option Addr) (n c : Nat) (l : List (Nat × Ri.Pp)) (hl : l.length = n) (hw : ∀ x ∈ l, x.2.d.length = 32) (hx : Reads w A (n * 37) (rows rcR l)) (hn : n ≤ 1000) (p : Nat × Ri.Pp → Bool)
    (hf : ∀ W x, x ∈ l → Keep Nob w W → Calls Tryz.prog 177 #[.agg (rcR x).toArray, .pointer (some ⟨q, 0, none⟩)] W fun e w' => e = .returned (.bool (p x)) ∧ Keep Nob W w') :
    Calls Tryz.prog 176 #[.slice A n c, .func (.func 177) #[] #[.pointer (some ⟨q, 0, none⟩)]] w fun e w' => e = .returned (.bool (l.any p)) ∧ Keep Nob w w' := by
  have hcall := ixR_we A n c l hl hw hx hn p hf
  generalize l.any p = v at *
  clear hx hf hl hw
  go_enter Tryz.func176, Tryz.ntmps176
  go_wp2_with fail
  refine hcall.mono ?_; rintro e w1 ⟨k, rfl, hk, k1⟩
  subst hk
  clear hcall
  go_wp2
  go_ret
  exact ⟨by first | rfl | simp, k1⟩
set_option maxHeartbeats 2000000 in
theorem hLP_is {w : World} {S : Ses} (h : IsSes w S) :
    Calls Tryz.prog 80 #[S.val] w fun e w' => e = .returned (.bool (S.P.any (lpB S.P))) ∧ Keep Nob w w' := by
  have ka := (Keep.refl Nob w).alloc (.cells #[.slice S.Ap S.P.length S.cp, .slice S.Af S.F.length S.cf, .slice S.Ar S.R.length S.cr] 159)
  have hb0 := Blk.new w 159 [.slice S.Ap S.P.length S.cp, .slice S.Af S.F.length S.cf, .slice S.Ar S.R.length S.cr]
  have hcall := cfP_lp (q := w.heap.size) S.Ap S.P.length S.cp S.P rfl (fun x hx => (h.vp x hx).2.1) (h.p.nob ka) (by have := h.np; omega) (lpB S.P) (fun W x hx kW => lp_is ((h.nob ka).nob kW) (hb0.nob kW) x hx)
  generalize S.P.any (lpB S.P) = v at *
  have KA := Lib.hid ka
  unfold Ses.val
  clear h hb0 ka
  go_enter Tryz.func80, Tryz.ntmps80
  go_wp2_with fail
  refine hcall.mono ?_; rintro e w1 ⟨rfl, k1⟩
  go_wp2
  go_ret
  exact ⟨rfl, KA.out.nobt k1⟩
set_option maxHeartbeats 2000000 in
theorem hLF_is {w : World} {S : Ses} (h : IsSes w S) :
    Calls Tryz.prog 81 #[S.val] w fun e w' => e = .returned (.bool (S.P.any (lfB S.F))) ∧ Keep Nob w w' := by
  have ka := (Keep.refl Nob w).alloc (.cells #[.slice S.Ap S.P.length S.cp, .slice S.Af S.F.length S.cf, .slice S.Ar S.R.length S.cr] 159)
  have hb0 := Blk.new w 159 [.slice S.Ap S.P.length S.cp, .slice S.Af S.F.length S.cf, .slice S.Ar S.R.length S.cr]
  have hcall := cfP_lf (q := w.heap.size) S.Ap S.P.length S.cp S.P rfl (fun x hx => (h.vp x hx).2.1) (h.p.nob ka) (by have := h.np; omega) (lfB S.F) (fun W x hx kW => lf_is ((h.nob ka).nob kW) (hb0.nob kW) x hx)
  generalize S.P.any (lfB S.F) = v at *
  have KA := Lib.hid ka
  unfold Ses.val
  clear h hb0 ka
  go_enter Tryz.func81, Tryz.ntmps81
  go_wp2_with fail
  refine hcall.mono ?_; rintro e w1 ⟨rfl, k1⟩
  go_wp2
  go_ret
  exact ⟨rfl, KA.out.nobt k1⟩
set_option maxHeartbeats 2000000 in
theorem hWR_is {w : World} {S : Ses} (h : IsSes w S) :
    Calls Tryz.prog 82 #[S.val] w fun e w' => e = .returned (.bool (S.F.any (wrB S.P))) ∧ Keep Nob w w' := by
  have ka := (Keep.refl Nob w).alloc (.cells #[.slice S.Ap S.P.length S.cp, .slice S.Af S.F.length S.cf, .slice S.Ar S.R.length S.cr] 159)
  have hb0 := Blk.new w 159 [.slice S.Ap S.P.length S.cp, .slice S.Af S.F.length S.cf, .slice S.Ar S.R.length S.cr]
  have hcall := cfF_wr (q := w.heap.size) S.Af S.F.length S.cf S.F rfl (fun x hx => (h.vf x hx).2.1) (h.f.nob ka) (by have := h.nf; omega) (wrB S.P) (fun W x hx kW => wr_is ((h.nob ka).nob kW) (hb0.nob kW) x hx)
  generalize S.F.any (wrB S.P) = v at *
  have KA := Lib.hid ka
  unfold Ses.val
  clear h hb0 ka
  go_enter Tryz.func82, Tryz.ntmps82
  go_wp2_with fail
  refine hcall.mono ?_; rintro e w1 ⟨rfl, k1⟩
  go_wp2
  go_ret
  exact ⟨rfl, KA.out.nobt k1⟩
set_option maxHeartbeats 2000000 in
theorem hLQ_is {w : World} {S : Ses} (h : IsSes w S) :
    Calls Tryz.prog 83 #[S.val] w fun e w' => e = .returned (.bool (S.F.any (lqB S.R))) ∧ Keep Nob w w' := by
  have ka := (Keep.refl Nob w).alloc (.cells #[.slice S.Ap S.P.length S.cp, .slice S.Af S.F.length S.cf, .slice S.Ar S.R.length S.cr] 159)
  have hb0 := Blk.new w 159 [.slice S.Ap S.P.length S.cp, .slice S.Af S.F.length S.cf, .slice S.Ar S.R.length S.cr]
  have hcall := cfF_lq (q := w.heap.size) S.Af S.F.length S.cf S.F rfl (fun x hx => (h.vf x hx).2.1) (h.f.nob ka) (by have := h.nf; omega) (lqB S.R) (fun W x hx kW => lq_is ((h.nob ka).nob kW) (hb0.nob kW) x hx)
  generalize S.F.any (lqB S.R) = v at *
  have KA := Lib.hid ka
  unfold Ses.val
  clear h hb0 ka
  go_enter Tryz.func83, Tryz.ntmps83
  go_wp2_with fail
  refine hcall.mono ?_; rintro e w1 ⟨rfl, k1⟩
  go_wp2
  go_ret
  exact ⟨rfl, KA.out.nobt k1⟩
set_option maxHeartbeats 2000000 in
theorem hWE_is {w : World} {S : Ses} (h : IsSes w S) :
    Calls Tryz.prog 84 #[S.val] w fun e w' => e = .returned (.bool (S.R.any (weB S.F))) ∧ Keep Nob w w' := by
  have ka := (Keep.refl Nob w).alloc (.cells #[.slice S.Ap S.P.length S.cp, .slice S.Af S.F.length S.cf, .slice S.Ar S.R.length S.cr] 159)
  have hb0 := Blk.new w 159 [.slice S.Ap S.P.length S.cp, .slice S.Af S.F.length S.cf, .slice S.Ar S.R.length S.cr]
  have hcall := cfR_we (q := w.heap.size) S.Ar S.R.length S.cr S.R rfl (fun x hx => (h.vr x hx).2.1) (h.r.nob ka) (by have := h.nr; omega) (weB S.F) (fun W x hx kW => we_is ((h.nob ka).nob kW) (hb0.nob kW) x hx)
  generalize S.R.any (weB S.F) = v at *
  have KA := Lib.hid ka
  unfold Ses.val
  clear h hb0 ka
  go_enter Tryz.func84, Tryz.ntmps84
  go_wp2_with fail
  refine hcall.mono ?_; rintro e w1 ⟨rfl, k1⟩
  go_wp2
  go_ret
  exact ⟨rfl, KA.out.nobt k1⟩
end Go.Proofs.YtngchjejmnfanaaGreat.Au
