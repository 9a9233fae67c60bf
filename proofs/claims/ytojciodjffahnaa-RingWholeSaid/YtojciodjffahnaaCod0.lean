/- Package codec: its plain functions (Sum, Blank, hasTwo, Put2, Get2), bytes.Clone, and the document's own (Sum, Blank, Within, Two). -/
import Derived.Test.YtojciodjffahnaaRows
import Derived.Test.YtojciodjffahnaaTab0
import Derived.Test.YtojciodjffahnaaRead
import Derived.BigQuiet
namespace Go.Proofs.Ytojciodjffahnaa
open Go.RowKit
set_option linter.unusedVariables false
set_option linter.unusedSimpArgs false
theorem Try.info5 : (Try.prog.info? 5).map (fun i => (i.zero, i.size, i.bytes)) = some (some (.int .u8 0), 1, 1) := by kernel_rfl
theorem Try.size5 : (Try.prog.info? 5).map (·.size) = some 1 := by kernel_rfl
theorem u8_lt (a : UInt8) : 0 ≤ (a.toNat : Int) ∧ (a.toNat : Int) < 256 := by have := a.toNat_lt; omega
/-- How many the first k of them are, and their sum. -/
def part (l : List UInt8) (k : Nat) : Nat := l.length + ((l.take k).map (·.toNat)).sum
def tot (l : List UInt8) : Nat := l.length + (l.map (·.toNat)).sum
theorem part_zero (l : List UInt8) : part l 0 = l.length := by simp [part]
theorem part_all (l : List UInt8) : part l l.length = tot l := by simp [part, tot]
theorem part_succ {l : List UInt8} {k : Nat} (h : k < l.length) : part l (k + 1) = part l k + (l.getD k 0).toNat := by
  unfold part
  rw [List.take_succ_eq_append_getElem h, List.map_append, List.sum_append, List.getD_eq_getElem?_getD, List.getElem?_eq_getElem h]
  simp
  omega
theorem part_le (l : List UInt8) : ∀ k, k ≤ l.length → part l k ≤ l.length + 255 * k
  | 0, _ => by simp [part]
  | k + 1, h => by
    have := part_le l k (by omega)
    have := (u8_lt (l.getD k 0)).2
    rw [part_succ (by omega)]
    omega
set_option maxHeartbeats 1000000 in
theorem sum_is {w : World} {A : Option Addr} {n c : Nat} {l : List UInt8} (h : Reads w A n (bytes l)) (hn : n ≤ 100000) (v : Int) (hv : ((tot l % 256 : Nat) : Int) = v) :
    Calls Try.prog 35 #[.slice A n c] w fun e w' => e = .returned (.int .u8 v) ∧ w = w' := by
  have hl : l.length = n := by simpa using h.1
  have HX := Lib.hid h
  have HL := Lib.hid hl
  have HV := Lib.hid hv
  clear h hl hv
  go_enter Try.func35, Try.ntmps35
  go_wp2_with fail
  go_loop [3, 11] (fun s3 s11 => ∃ (k : Nat) (x : Int), k ≤ n ∧ s11 = .int .i64 k ∧ s3 = .int .u8 x ∧ x = ((part l k % 256 : Nat) : Int)) (fun _ s11 => n - (intOf s11).toNat)
  case atStart => exact ⟨0, _, Nat.zero_le _, rfl, rfl, by rw [part_zero, HL.out]; omega⟩
  case round =>
    obtain ⟨k, x, hk, rfl, rfl, hx⟩ := hrel
    have HX2 := Lib.hid hx
    clear hx
    by_cases hlt : k < n
    · obtain ⟨b, off, hA, hcl⟩ := HX.out.lit (by omega)
      have hkl : k < l.length := by rw [HL.out]; exact hlt
      have hck := hcl k _ (bytes_getD hkl)
      have hs := Lib.hid (part_succ hkl)
      have hu := u8_lt (l.getD k 0)
      generalize l.getD k 0 = u at *
      subst hA
      clear hcl hkl
      go_wp2_with fail
      go_round
      case rel => exact ⟨k + 1, _, by omega, by go_num, rfl, by rw [hs.out]; have := HX2.out; simp [IntKind.wrap, IntKind.bits, IntKind.signed] at *; omega⟩
      case measure => simp [intOf]; omega
    · obtain rfl : k = n := by omega
      obtain rfl : x = v := by rw [HX2.out, ← HV.out, ← HL.out, part_all]
      go_wp2
      go_ret
      exact ⟨rfl, rfl⟩
set_option maxHeartbeats 1000000 in
theorem rsum_is {w : World} {l : List UInt8} (hn : l.length ≤ 100000) (v : Int) (hv : ((tot l % 256 : Nat) : Int) = v) :
    Calls Try.prog 27 #[.string (str l)] w fun e w' => e = .returned (.int .u8 v) ∧ w = w' := by
  have hs := str_size l
  have hz : ∀ k (hk : k < (str l).size), (str l)[k] = l.getD k 0 := by
    intro k hk
    have hk' : k < l.length := by omega
    rw [List.getD_eq_getElem?_getD, List.getElem?_eq_getElem hk']
    show l.toArray[k] = l[k]
    simp
  generalize str l = s at hs hz
  have hsl : s.size ≤ 100000 := by omega
  have HZ := Lib.hid hz
  have HL := Lib.hid hs
  have HV := Lib.hid hv
  clear hs hz hv hn
  go_enter Try.func27, Try.ntmps27
  go_wp2_with fail
  go_loop [3, 4] (fun s3 s4 => ∃ (k : Nat) (x : Int), k ≤ s.size ∧ s4 = .int .i64 k ∧ s3 = .int .i64 x ∧ x = ((part l k : Nat) : Int)) (fun _ s4 => s.size - (intOf s4).toNat)
  case atStart => exact ⟨0, _, Nat.zero_le _, rfl, rfl, by rw [part_zero, HL.out]⟩
  case round =>
    obtain ⟨k, x, hk, rfl, rfl, hx⟩ := hrel
    have hle := part_le l k (by rw [← HL.out]; exact hk)
    have hx0 : 0 ≤ x := by omega
    have hx1 : x ≤ 100000 + 255 * 100000 := by have := HL.out; omega
    have HX2 := Lib.hid hx
    clear hx hle
    by_cases hlt : k < s.size
    · have hzk := HZ.out k hlt
      have hs := Lib.hid (part_succ (l := l) (k := k) (by rw [← HL.out]; exact hlt))
      have hu := u8_lt (l.getD k 0)
      generalize l.getD k 0 = u at *
      go_wp2_with fail
      go_round
      case rel => exact ⟨k + 1, _, by omega, by go_num, rfl, by rw [hs.out]; have := HX2.out; go_num⟩
      case measure => simp [intOf]; omega
    · obtain rfl : k = s.size := by omega
      go_wp2
      go_ret
      exact ⟨by rw [← HV.out, ← part_all, HX2.out, HL.out]; simp [IntKind.wrap, IntKind.bits, IntKind.signed], rfl⟩
def allNought (l : List UInt8) : Bool := l.all (· == 0)
theorem nought_take {l : List UInt8} {k : Nat} (h : k < l.length) : allNought (l.take (k + 1)) = (allNought (l.take k) && l.getD k 0 == 0) := by
  unfold allNought
  rw [List.take_succ_eq_append_getElem h, List.all_append, List.getD_eq_getElem?_getD, List.getElem?_eq_getElem h]
  simp
theorem nought_off {l : List UInt8} {k : Nat} (h : k < l.length) (hu : l.getD k 0 ≠ 0) : allNought l = false := by
  unfold allNought
  rw [List.all_eq_false]
  refine ⟨l[k], List.getElem_mem h, ?_⟩
  rw [List.getD_eq_getElem?_getD, List.getElem?_eq_getElem h] at hu
  simpa using hu
set_option maxHeartbeats 1000000 in
theorem blank_is {w : World} {A : Option Addr} {n c : Nat} {l : List UInt8} (h : Reads w A n (bytes l)) (hn : n ≤ 100000) (v : Bool) (hv : allNought l = v) :
    Calls Try.prog 28 #[.slice A n c] w fun e w' => e = .returned (.bool v) ∧ w = w' := by
  have hl : l.length = n := by simpa using h.1
  have HX := Lib.hid h
  have HL := Lib.hid hl
  have HV := Lib.hid hv
  clear h hl hv
  go_enter Try.func28, Try.ntmps28
  go_wp2_with fail
  go_loop [7] (fun s7 => ∃ (k : Nat), k ≤ n ∧ s7 = .int .i64 k ∧ allNought (l.take k) = true) (fun s7 => n - (intOf s7).toNat)
  case atStart => exact ⟨0, Nat.zero_le _, rfl, rfl⟩
  case round =>
    obtain ⟨k, hk, rfl, hx⟩ := hrel
    have HX2 := Lib.hid hx
    clear hx
    by_cases hlt : k < n
    · obtain ⟨b, off, hA, hcl⟩ := HX.out.lit (by omega)
      have hkl : k < l.length := by rw [HL.out]; exact hlt
      have hck := hcl k _ (bytes_getD hkl)
      by_cases hu0 : l.getD k 0 = 0
      · have hs := Lib.hid (nought_take hkl)
        rw [hu0] at hs hck
        subst hA
        clear hcl hkl
        go_wp2_with fail
        go_round
        case rel => exact ⟨k + 1, by omega, by go_num, by rw [hs.out, HX2.out]; rfl⟩
        case measure => simp [intOf]; omega
      · have hs := Lib.hid (nought_off hkl hu0)
        have hne : ((l.getD k 0).toNat : Int) ≠ 0 := fun e => hu0 (UInt8.toNat_inj.1 (by rw [show (l.getD k 0).toNat = 0 from by omega]; rfl))
        have hne2 : ((((l.getD k 0).toNat : Int)) != 0) = true := by simpa using hne
        generalize l.getD k 0 = u at *
        subst hA
        clear hcl hkl
        go_wp2_with fail
        go_ret
        obtain rfl : v = false := by rw [← HV.out, hs.out]
        exact ⟨rfl, rfl⟩
    · obtain rfl : k = n := by omega
      obtain rfl : v = true := by rw [← HV.out, ← HX2.out, List.take_of_length_le (by rw [HL.out]; exact Nat.le_refl _)]
      go_wp2
      go_ret
      exact ⟨rfl, rfl⟩
set_option maxHeartbeats 1000000 in
theorem rblank_is {w : World} {l : List UInt8} (hn : l.length ≤ 100000) (v : Bool) (hv : allNought l = v) :
    Calls Try.prog 30 #[.string (str l)] w fun e w' => e = .returned (.bool v) ∧ w = w' := by
  have hs := str_size l
  have hz : ∀ k (hk : k < (str l).size), (str l)[k] = l.getD k 0 := by
    intro k hk
    have hk' : k < l.length := by omega
    rw [List.getD_eq_getElem?_getD, List.getElem?_eq_getElem hk']
    show l.toArray[k] = l[k]
    simp
  generalize str l = s at hs hz
  have hsl : s.size ≤ 100000 := by omega
  have HZ := Lib.hid hz
  have HL := Lib.hid hs
  have HV := Lib.hid hv
  clear hs hz hv hn
  go_enter Try.func30, Try.ntmps30
  go_wp2_with fail
  go_loop [3] (fun s3 => ∃ (k : Nat), k ≤ s.size ∧ s3 = .int .i64 k ∧ allNought (l.take k) = true) (fun s3 => s.size - (intOf s3).toNat)
  case atStart => exact ⟨0, Nat.zero_le _, rfl, rfl⟩
  case round =>
    obtain ⟨k, hk, rfl, hx⟩ := hrel
    have HX2 := Lib.hid hx
    clear hx
    by_cases hlt : k < s.size
    · have hzk := HZ.out k hlt
      have hkl : k < l.length := by rw [← HL.out]; exact hlt
      by_cases hu0 : l.getD k 0 = 0
      · have hs := Lib.hid (nought_take hkl)
        rw [hu0] at hs hzk
        clear hkl
        go_wp2_with fail
        go_round
        case rel => exact ⟨k + 1, by omega, by go_num, by rw [hs.out, HX2.out]; rfl⟩
        case measure => simp [intOf]; omega
      · have hs := Lib.hid (nought_off hkl hu0)
        have hne : ((l.getD k 0).toNat : Int) ≠ 0 := fun e => hu0 (UInt8.toNat_inj.1 (by rw [show (l.getD k 0).toNat = 0 from by omega]; rfl))
        have hne2 : ((((l.getD k 0).toNat : Int)) != 0) = true := by simpa using hne
        generalize l.getD k 0 = u at *
        clear hkl
        obtain rfl : v = false := by rw [← HV.out, hs.out]
        go_wp2_with fail
        go_ret
        exact ⟨rfl, rfl⟩
    · obtain rfl : k = s.size := by omega
      obtain rfl : v = true := by rw [← HV.out, ← HX2.out, List.take_of_length_le (by rw [HL.out]; exact Nat.le_refl _)]
      go_wp2
      go_ret
      exact ⟨rfl, rfl⟩
/-- Two bytes of a number, the higher one first. -/
def two (n : Int) : List UInt8 := [UInt8.ofNat (n / 256 % 256).toNat, UInt8.ofNat (n % 256).toNat]
theorem two_len (n : Int) : (two n).length = 2 := rfl
theorem byte_back (m : Int) : (((UInt8.ofNat (m % 256).toNat).toNat : Nat) : Int) = m % 256 := by
  have h : (m % 256).toNat < 256 := by omega
  rw [UInt8.toNat_ofNat', Nat.mod_eq_of_lt h]; omega
theorem two_cells (n : Int) : bytes (two n) = [.int .u8 (n / 256 % 256), .int .u8 (n % 256)] := by
  simp only [two, bytes, List.map_cons, List.map_nil, byte_back]
theorem two_cells2 {n : Int} (h0 : 0 ≤ n) (h1 : n ≤ 65535) : bytes (two n) = [.int .u8 (n / 256), .int .u8 (n % 256)] := by
  rw [two_cells, show n / 256 % 256 = n / 256 from by omega]
theorem set_two (L : List Value) (a : Nat) (x y : Value) (h : a + 2 ≤ L.length) : (L.set a x).set (a + 1) y = splice L a [x, y] := by
  apply List.ext_getElem?
  intro i
  rw [splice_get L a [x, y] (by simpa using h), List.getElem?_set, List.getElem?_set]
  simp only [List.length_set, List.length_cons, List.length_nil]
  by_cases h1 : i = a
  · subst h1
    rw [if_neg (by omega), if_pos rfl, if_pos (by omega), if_pos (by omega), Nat.sub_self]; rfl
  · by_cases h2 : i = a + 1
    · subst h2
      rw [if_pos rfl, if_pos (by omega), if_pos (by omega), show a + 1 - a = 1 from by omega]; rfl
    · rw [if_neg (by omega), if_neg (by omega), if_neg (by omega)]
theorem wrap_small_i64 (n : Int) (h₀ : 0 ≤ n) (h₁ : n < 2 ^ 32) : IntKind.i64.wrap n = n := by
  simp [IntKind.wrap, IntKind.bits, IntKind.signed]
  omega
theorem or_two (x y : UInt8) : bits .or .i64 ((x.toNat : Int) * 256) (y.toNat : Int) = (x.toNat : Int) * 256 + (y.toNat : Int) := by
  have hx := u8_lt x
  have hy := u8_lt y
  exact bits_join .i64 32 (by decide) wrap_small_i64 8 _ _ (by omega) (by omega) (by omega) (by omega) (by omega) (by omega)
/-- The number that two bytes are. -/
def num (l : List UInt8) (a : Nat) : Int := ((l.getD a 0).toNat : Int) * 256 + ((l.getD (a + 1) 0).toNat : Int)
theorem nil_or (A : Option Addr) (n c : Nat) (w : World) : (binOp .eql 22 (.slice A n c) (.slice none 0 0)).run Try.prog w = .ok (.bool A.isNone) w := by
  have := Try.underlying22
  cases A <;> rfl
theorem bytes_set (l : List UInt8) (k : Nat) (y : UInt8) (v : Int) (hv : ((y.toNat : Nat) : Int) = v) : (bytes l).set k (.int .u8 v) = bytes (l.set k y) := by
  subst hv
  simp [bytes, List.map_set]
theorem str_ext (l : List UInt8) (i j : Nat) : (str l).extract i j = str ((l.take j).drop i) := by
  apply ByteArray.ext
  simp [str, ByteArray.data_extract, List.extract_toArray]
  exact List.drop_take.symm
theorem str_take (l : List UInt8) (a : Nat) (h : a ≤ l.length) (W : World) : (Instr.slice 9 (.string (str l)) none (some (.int .i64 (a : Int))) none).run Try.prog W = .ok (.string (str (l.take a))) W := by
  rw [run_slice_string_h W 9 (str l) Try.underlying9 .i64 (a : Int) (by omega) (by rw [str_size]; omega), str_ext, Int.toNat_natCast, List.drop_zero]
theorem str_drop (l : List UInt8) (a : Nat) (k : Int) (hk : k = a) (h : a ≤ l.length) (W : World) : (Instr.slice 9 (.string (str l)) (some (.int .i64 k)) none none).run Try.prog W = .ok (.string (str (l.drop a))) W := by
  subst hk
  rw [run_slice_string_l W 9 (str l) Try.underlying9 .i64 (a : Int) (by omega) (by rw [str_size]; omega), str_ext, Int.toNat_natCast, str_size, List.take_length]
theorem str_add (x y : List UInt8) (h : x.length + y.length ≤ 100000) (W : World) : (Op.stringOp .add (str x) (str y)).run Try.prog W = .ok (.string (str (x ++ y))) W :=
  run_string_add_lists W x y (by omega) (by omega)
theorem str_at (l : List UInt8) (k : Nat) (h : k < (str l).size) : (str l)[k] = l.getD k 0 := by
  have hk' : k < l.length := by rw [← str_size]; exact h
  rw [List.getD_eq_getElem?_getD, List.getElem?_eq_getElem hk']
  show l.toArray[k] = l[k]
  simp
/-- What append([]byte, b...) to a new row leaves. -/
theorem ap_new {w w2 : World} {A : Option Addr} {n cap : Nat} {l : List UInt8} (hv2 : Vec w2 5 1 A (0 + n) cap ([] ++ bytes l)) (hk2 : Keep (Own (some ⟨w.heap.size, 0, none⟩)) (w.alloc (.cells #[] 5)) w2)
    (ho2 : ∀ g, Own A g → Own (some ⟨w.heap.size, 0, none⟩) g ∨ g = (w.alloc (.cells #[] 5)).heap.size) : Vec w2 5 1 A n cap (bytes l) ∧ Keep Nob w w2 ∧ (∀ g, Own A g → w.heap.size ≤ g) := by
  refine ⟨by rw [Nat.zero_add, List.nil_append] at hv2; exact hv2, ((Keep.refl Nob w).alloc _).trans hk2 (fun k hk ⟨a, h1, h2⟩ => ?_), fun g hg => ?_⟩
  · cases h1
    have h3 : w.heap.size = k := h2
    omega
  · rcases ho2 g hg with ⟨a, h1, h2⟩ | h
    · cases h1
      exact Nat.le_of_eq h2
    · rw [h]; simp
set_option maxHeartbeats 1000000 in
theorem clone_is (A : Option Addr) (n c : Nat) (l : List UInt8) (w : World) (hr : Reads w A n (bytes l)) (hn : n ≤ 100000) :
    Calls Try.prog 34 #[.slice A n c] w fun e w' => ∃ A' c', e = .returned (.slice A' n c') ∧ Vec w' 5 1 A' n c' (bytes l) ∧ Keep Nob w w' ∧ (∀ g, Own A' g → w.heap.size ≤ g) := by
  cases A with
  | none =>
    have hl : l.length = n := by simpa using hr.1
    obtain rfl : n = 0 := by
      rcases Nat.eq_zero_or_pos n with h | h
      · exact h
      · obtain ⟨ad, h2, _⟩ := hr.2 h; cases h2
    obtain rfl : l = [] := List.eq_nil_of_length_eq_zero hl
    have hnil := nil_or none 0 c w
    go_enter Try.func34, Try.ntmps34
    go_wp2
    go_ret
    exact ⟨none, 0, rfl, Vec.nil _ _ _, Keep.refl _ _, fun g ⟨a, h, _⟩ => by cases h⟩
  | some ad =>
    have hnil := nil_or (some ad) n c w
    go_enter Try.func34, Try.ntmps34
    go_wp2_with (at_builtin; go_loud (refine wpList_ap rfl _ _ 22 rfl 5 1 1 (.int .u8 0) Try.underlying22 Try.info5 rfl (by decide) (some ⟨w.heap.size, 0, none⟩) 0 0 [] rfl (Vec.of_blk (Blk.new w 5 []) rfl (by decide)) (some ad) n c (bytes l) rfl _ (Nat.mul_one _) (hr.nob ((Keep.refl Nob w).alloc _)) (bytes_one l) (by unfold maxLen; omega) (by omega) ?_); intro A' cap' w2 hv2 hk2 ho2)
    obtain ⟨h1, h2, h3⟩ := ap_new hv2 hk2 ho2
    go_ret
    exact ⟨A', cap', rfl, h1, h2, h3⟩
end Go.Proofs.Ytojciodjffahnaa
