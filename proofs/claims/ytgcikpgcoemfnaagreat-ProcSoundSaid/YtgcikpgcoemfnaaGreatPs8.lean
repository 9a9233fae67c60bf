import Derived.Test.YtgcikpgcoemfnaaGreatRows
import Derived.BigQuiet
import Derived.Test.YtgcikpgcoemfnaaGreatPs3
set_option maxRecDepth 100000
set_option maxHeartbeats 8000000
set_option linter.unusedVariables false
set_option linter.unusedSimpArgs false
namespace Go.Proofs.YtgcikpgcoemfnaaGreat.Cd
open Go.RowKit
theorem Tryz.info5 : (Tryz.prog.info? 5).map (fun i => (i.zero, i.size, i.bytes)) = some (some (.int .u8 0), 1, 1) := by kernel_rfl
theorem Tryz.size5 : (Tryz.prog.info? 5).map (·.size) = some 1 := by kernel_rfl
theorem cz (a : UInt8) : 0 ≤ (a.toNat : Int) ∧ (a.toNat : Int) < 256 := by have := a.toNat_lt; omega
def part (l : List UInt8) (k : Nat) : Nat := l.length + ((l.take k).map (·.toNat)).sum
def tot (l : List UInt8) : Nat := l.length + (l.map (·.toNat)).sum
theorem part_zero (l : List UInt8) : part l 0 = l.length := by simp [part]
theorem part_all (l : List UInt8) : part l l.length = tot l := by simp [part, tot]
theorem ji {l : List UInt8} {k : Nat} (h : k < l.length) : part l (k + 1) = part l k + (l.getD k 0).toNat := by
 unfold part
 rw [List.take_succ_eq_append_getElem h, List.map_append, List.sum_append, List.getD_eq_getElem?_getD, List.getElem?_eq_getElem h]
 simp
 omega
theorem part_le (l : List UInt8) : ∀ k, k ≤ l.length → part l k ≤ l.length + 255 * k
 | 0, _ => by simp [part]
 | k + 1, h => by
  have := part_le l k (by omega)
  have := (cz (l.getD k 0)).2
  rw [ji (by omega)]
  omega
theorem sum_is {w : World} {A : Option Addr} {n c : Nat} {l : List UInt8} (h : ae w A n (bytes l)) (hn : n ≤ 100000) (v : Int) (hv : ((tot l % 256 : Nat) : Int) = v) :
  Calls Tryz.prog 290 #[.slice A n c] w fun e w' => e = .returned (.int .u8 v) ∧ w = w' := by
 have hl : l.length = n := by simpa using h.1
 have HX := aa h
 have HL := aa hl
 have HV := aa hv
 clear h hl hv
 go_enter Tryz.func290, Tryz.ntmps290
 go_wp2_with fail
 go_loop [3, 11] (fun s3 s11 => ∃ (k : Nat) (x : Int), k ≤ n ∧ s11 = .int .i64 k ∧ s3 = .int .u8 x ∧ x = ((part l k % 256 : Nat) : Int)) (fun _ s11 => n - (intOf s11).toNat)
 case atStart => exact ⟨0, _, Nat.zero_le _, rfl, rfl, by rw [part_zero, HL.out]; omega⟩
 case round =>
  obtain ⟨k, x, hk, rfl, rfl, hx⟩ := hrel
  have HX2 := aa hx
  clear hx
  by_cases hlt : k < n
  ·obtain ⟨b, off, hA, hcl⟩ := HX.out.lit (by omega)
   have hkl : k < l.length := by rw [HL.out]; exact hlt
   have hck := hcl k _ (aB hkl)
   have hs := aa (ji hkl)
   have hu := cz (l.getD k 0)
   generalize l.getD k 0 = u at *
   subst hA
   clear hcl hkl
   go_wp2_with fail
   go_round
   case rel => exact ⟨k + 1, _, by omega, by go_num, rfl, by rw [hs.out]; have := HX2.out; simp [IntKind.wrap, IntKind.bits, IntKind.signed] at *; omega⟩
   case measure => simp [intOf]; omega
  ·obtain rfl : k = n := by omega
   obtain rfl : x = v := by rw [HX2.out, ← HV.out, ← HL.out, part_all]
   go_wp2
   go_ret
   exact ⟨rfl, rfl⟩
theorem jV {w : World} {l : List UInt8} (hn : l.length ≤ 100000) (v : Int) (hv : ((tot l % 256 : Nat) : Int) = v) :
  Calls Tryz.prog 51 #[.string (str l)] w fun e w' => e = .returned (.int .u8 v) ∧ w = w' := by
 have hs := gy l
 have hz : ∀ k (hk : k < (str l).size), (str l)[k] = l.getD k 0 := by
  intro k hk
  have hk' : k < l.length := by omega
  rw [List.getD_eq_getElem?_getD, List.getElem?_eq_getElem hk']
  show l.toArray[k] = l[k]
  simp
 generalize str l = s at hs hz
 have hsl : s.size ≤ 100000 := by omega
 have HZ := aa hz
 have HL := aa hs
 have HV := aa hv
 clear hs hz hv hn
 go_enter Tryz.func51, Tryz.ntmps51
 go_wp2_with fail
 go_loop [3, 4] (fun s3 s4 => ∃ (k : Nat) (x : Int), k ≤ s.size ∧ s4 = .int .i64 k ∧ s3 = .int .i64 x ∧ x = ((part l k : Nat) : Int)) (fun _ s4 => s.size - (intOf s4).toNat)
 case atStart => exact ⟨0, _, Nat.zero_le _, rfl, rfl, by rw [part_zero, HL.out]⟩
 case round =>
  obtain ⟨k, x, hk, rfl, rfl, hx⟩ := hrel
  have hle := part_le l k (by rw [← HL.out]; exact hk)
  have hx0 : 0 ≤ x := by omega
  have hx1 : x ≤ 100000 + 255 * 100000 := by have := HL.out; omega
  have HX2 := aa hx
  clear hx hle
  by_cases hlt : k < s.size
  ·have hzk := HZ.out k hlt
   have hs := aa (ji (l := l) (k := k) (by rw [← HL.out]; exact hlt))
   have hu := cz (l.getD k 0)
   generalize l.getD k 0 = u at *
   go_wp2_with fail
   go_round
   case rel => exact ⟨k + 1, _, by omega, by go_num, rfl, by rw [hs.out]; have := HX2.out; go_num⟩
   case measure => simp [intOf]; omega
  ·obtain rfl : k = s.size := by omega
   go_wp2
   go_ret
   exact ⟨by rw [← HV.out, ← part_all, HX2.out, HL.out]; simp [IntKind.wrap, IntKind.bits, IntKind.signed], rfl⟩
def aA (l : List UInt8) : Bool := l.all (· == 0)
theorem nought_take {l : List UInt8} {k : Nat} (h : k < l.length) : aA (l.take (k + 1)) = (aA (l.take k) && l.getD k 0 == 0) := by
 unfold aA
 rw [List.take_succ_eq_append_getElem h, List.all_append, List.getD_eq_getElem?_getD, List.getElem?_eq_getElem h]
 simp
theorem nought_off {l : List UInt8} {k : Nat} (h : k < l.length) (hu : l.getD k 0 ≠ 0) : aA l = false := by
 unfold aA
 rw [List.all_eq_false]
 refine ⟨l[k], List.getElem_mem h, ?_⟩
 rw [List.getD_eq_getElem?_getD, List.getElem?_eq_getElem h] at hu
 simpa using hu
theorem kY {w : World} {A : Option Addr} {n c : Nat} {l : List UInt8} (h : ae w A n (bytes l)) (hn : n ≤ 100000) (v : Bool) (hv : aA l = v) :
  Calls Tryz.prog 108 #[.slice A n c] w fun e w' => e = .returned (.bool v) ∧ w = w' := by
 have hl : l.length = n := by simpa using h.1
 have HX := aa h
 have HL := aa hl
 have HV := aa hv
 clear h hl hv
 go_enter Tryz.func108, Tryz.ntmps108
 go_wp2_with fail
 go_loop [7] (fun s7 => ∃ (k : Nat), k ≤ n ∧ s7 = .int .i64 k ∧ aA (l.take k) = true) (fun s7 => n - (intOf s7).toNat)
 case atStart => exact ⟨0, Nat.zero_le _, rfl, rfl⟩
 case round =>
  obtain ⟨k, hk, rfl, hx⟩ := hrel
  have HX2 := aa hx
  clear hx
  by_cases hlt : k < n
  ·obtain ⟨b, off, hA, hcl⟩ := HX.out.lit (by omega)
   have hkl : k < l.length := by rw [HL.out]; exact hlt
   have hck := hcl k _ (aB hkl)
   by_cases hu0 : l.getD k 0 = 0
   ·have hs := aa (nought_take hkl)
    rw [hu0] at hs hck
    subst hA
    clear hcl hkl
    go_wp2_with fail
    go_round
    case rel => exact ⟨k + 1, by omega, by go_num, by rw [hs.out, HX2.out]; rfl⟩
    case measure => simp [intOf]; omega
   ·have hs := aa (nought_off hkl hu0)
    have hne : ((l.getD k 0).toNat : Int) ≠ 0 := fun e => hu0 (UInt8.toNat_inj.1 (by rw [show (l.getD k 0).toNat = 0 from by omega]; rfl))
    have hne2 : ((((l.getD k 0).toNat : Int)) != 0) = true := by simpa using hne
    generalize l.getD k 0 = u at *
    subst hA
    clear hcl hkl
    go_wp2_with fail
    go_ret
    obtain rfl : v = false := by rw [← HV.out, hs.out]
    exact ⟨rfl, rfl⟩
  ·obtain rfl : k = n := by omega
   obtain rfl : v = true := by rw [← HV.out, ← HX2.out, List.take_of_length_le (by rw [HL.out]; exact Nat.le_refl _)]
   go_wp2
   go_ret
   exact ⟨rfl, rfl⟩
theorem within_any (a n z : Int) (w : World) (hz0 : 0 ≤ z) (hz : z ≤ 1000000) : Calls Tryz.prog 189 #[.int .i64 a, .int .i64 n, .int .i64 z] w fun e w' => e = .returned (.bool (decide (0 ≤ a ∧ 0 ≤ n ∧ a + n ≤ z))) ∧ w = w' := by
 by_cases h0 : 0 ≤ a
 ·by_cases h1 : 0 ≤ n
  ·by_cases h2 : a ≤ z
   all_goals
    go_enter Tryz.func189, Tryz.ntmps189
    go_wp2
    go_ret
    exact ⟨by simp [*]; try omega, rfl⟩
  ·go_enter Tryz.func189, Tryz.ntmps189
   go_wp2
   go_ret
   exact ⟨by simp; try omega, rfl⟩
 ·go_enter Tryz.func189, Tryz.ntmps189
  go_wp2
  go_ret
  exact ⟨by simp; try omega, rfl⟩
theorem jy (v : Bool) (a n z : Int) (w : World) (hz0 : 0 ≤ z) (hz : z ≤ 1000000) (hv : decide (0 ≤ a ∧ 0 ≤ n ∧ a + n ≤ z) = v) : Calls Tryz.prog 189 #[.int .i64 a, .int .i64 n, .int .i64 z] w fun e w' => e = .returned (.bool v) ∧ w = w' := by
 subst hv
 exact within_any a n z w hz0 hz
theorem has_yes (A : Option Addr) (n c : Nat) (a : Int) (w : World) (hn : n ≤ 100000) (h0 : 0 ≤ a) (h1 : a + 2 ≤ n) : Calls Tryz.prog 333 #[.slice A n c, .int .i64 a] w fun e w' => e = .returned (.bool true) ∧ w = w' := by
 have h2 : a ≤ (n : Int) - 2 := by omega
 go_enter Tryz.func333, Tryz.ntmps333
 go_wp2
 go_ret
 exact ⟨rfl, rfl⟩
theorem has_no (A : Option Addr) (n c : Nat) (a : Int) (w : World) (hn : n ≤ 100000) (h : ¬ (0 ≤ a ∧ a + 2 ≤ n)) : Calls Tryz.prog 333 #[.slice A n c, .int .i64 a] w fun e w' => e = .returned (.bool false) ∧ w = w' := by
 rcases (show a < 0 ∨ (0 ≤ a ∧ (n : Int) - 2 < a) from by omega) with h0 | ⟨h0, h2⟩
 all_goals
  clear h
  go_enter Tryz.func333, Tryz.ntmps333
  go_wp2
  go_ret
  exact ⟨by simp; try omega, rfl⟩
def two (n : Int) : List UInt8 := [UInt8.ofNat (n / 256 % 256).toNat, UInt8.ofNat (n % 256).toNat]
theorem cj (m : Int) : (((UInt8.ofNat (m % 256).toNat).toNat : Nat) : Int) = m % 256 := by
 have h : (m % 256).toNat < 256 := by omega
 rw [UInt8.toNat_ofNat', Nat.mod_eq_of_lt h]; omega
theorem two_cells (n : Int) : bytes (two n) = [.int .u8 (n / 256 % 256), .int .u8 (n % 256)] := by
 simp only [two, bytes, List.map_cons, List.map_nil, cj]
theorem kn {n : Int} (h0 : 0 ≤ n) (h1 : n ≤ 65535) : bytes (two n) = [.int .u8 (n / 256), .int .u8 (n % 256)] := by
 rw [two_cells, show n / 256 % 256 = n / 256 from by omega]
theorem set_two (L : List Value) (a : Nat) (x y : Value) (h : a + 2 ≤ L.length) : (L.set a x).set (a + 1) y = splice L a [x, y] := by
 apply List.ext_getElem?
 intro i
 rw [eW L a [x, y] (by simpa using h), List.getElem?_set, List.getElem?_set]
 simp only [List.length_set, List.length_cons, List.length_nil]
 by_cases h1 : i = a
 ·subst h1
  rw [if_neg (by omega), if_pos rfl, if_pos (by omega), if_pos (by omega), Nat.sub_self]; rfl
 ·by_cases h2 : i = a + 1
  ·subst h2
   rw [if_pos rfl, if_pos (by omega), if_pos (by omega), show a + 1 - a = 1 from by omega]; rfl
  ·rw [if_neg (by omega), if_neg (by omega), if_neg (by omega)]
theorem ax (n : Int) (h₀ : 0 ≤ n) (h₁ : n < 2 ^ 32) : IntKind.i64.wrap n = n := by
 simp [IntKind.wrap, IntKind.bits, IntKind.signed]
 omega
theorem or_two (x y : UInt8) : bits .or .i64 ((x.toNat : Int) * 256) (y.toNat : Int) = (x.toNat : Int) * 256 + (y.toNat : Int) := by
 have hx := cz x
 have hy := cz y
 exact bits_join .i64 32 (by decide) ax 8 _ _ (by omega) (by omega) (by omega) (by omega) (by omega) (by omega)
theorem jX (n : Int) (w : World) (h0 : 0 ≤ n) (h1 : n ≤ 65535) : Calls Tryz.prog 50 #[.int .i64 n] w fun e w' => e = .returned (.string (str (two n))) ∧ Keep Nob w w' := by
 have hs : ∀ (g c : Nat) (W : World), Blk W g 5 [.int .u8 (n / 256), .int .u8 (n % 256)] → (convert 28 9 (.slice (some ⟨g, 0, none⟩) 2 c)).run Tryz.prog W = .ok (.string (str (two n))) W := fun g c W hb =>
  cw (P := Tryz.prog) W 28 9 5 (some ⟨g, 0, none⟩) 2 c _ Tryz.underlying28 Tryz.underlying5 Tryz.underlying9 (by rw [kn h0 h1]; exact aj hb rfl)
 have hs1 := fun c => hs w.heap.size c _ (Blk.new w 5 [.int .u8 (n / 256), .int .u8 (n % 256)])
 go_enter Tryz.func50, Tryz.ntmps50
 go_wp2
 go_ret
 exact ⟨rfl, (Keep.refl _ w).alloc _⟩
theorem put_no (A : Option Addr) (n c : Nat) (a v : Int) (w : World) (hn : n ≤ 100000) (h : ¬ (0 ≤ a ∧ a + 2 ≤ n ∧ 0 ≤ v ∧ v ≤ 65535)) :
  Calls Tryz.prog 289 #[.slice A n c, .int .i64 a, .int .i64 v] w fun e w' => e = .returned (.bool false) ∧ w = w' := by
 by_cases h1 : 0 ≤ a ∧ a + 2 ≤ n
 ·rcases (show v < 0 ∨ (0 ≤ v ∧ 65535 < v) from by omega) with h2 | ⟨h2, h3⟩
  all_goals
   clear h
   go_enter Tryz.func289, Tryz.ntmps289
   go_wp2_with fail
   refine (has_yes A n c a w hn h1.1 h1.2).mono ?_; rintro e w1 ⟨rfl, rfl⟩
   go_wp2
   go_ret
   exact ⟨rfl, rfl⟩
 ·clear h
  go_enter Tryz.func289, Tryz.ntmps289
  go_wp2_with fail
  refine (has_no A n c a w hn h1).mono ?_; rintro e w1 ⟨rfl, rfl⟩
  go_wp2
  go_ret
  exact ⟨rfl, rfl⟩
theorem put_yes (A : Option Addr) (n c a : Nat) (v : Int) (l : List UInt8) (w : World) (hb : Vec w 5 1 A n c (bytes l)) (hn : n ≤ 100000) (ha : a + 2 ≤ n) (h0 : 0 ≤ v) (h1 : v ≤ 65535) :
  Calls Tryz.prog 289 #[.slice A n c, .int .i64 (a : Int), .int .i64 v] w fun e w' => e = .returned (.bool true) ∧ Vec w' 5 1 A n c (bytes (splice l a (two v))) ∧ Keep (Own A) w w' := by
 have hl : l.length = n := by simpa using hb.len
 obtain ⟨g, cur, rfl, hcur, hid, hcl, hct⟩ := hb.at_ (by omega)
 rw [Nat.mul_one] at hct
 have hcc : ∀ k, k < n → w.cell? ⟨g, k, none⟩ = some (.int .u8 ((l.getD k 0).toNat : Int)) := fun k hk => by
  rw [hcur.cell, ← aB (by omega), ← hct, List.getElem?_take, if_pos hk]
 have hc1 := hcc a (by omega)
 have hc2 := hcc (a + 1) (by omega)
 have hf1 := hcur.frozen a
 have hf2 := hcur.frozen (a + 1)
 have HL := aa hl
 clear hl hcc hid hcl hct hcur
 go_enter Tryz.func289, Tryz.ntmps289
 go_wp2_with fail
 refine (has_yes (some ⟨g, 0, none⟩) n c a w hn (by omega) (by omega)).mono ?_; rintro e w1 ⟨rfl, rfl⟩
 go_wp2
 go_ret
 have ho : Own (some (⟨g, 0, none⟩ : Addr)) g := ⟨_, rfl, rfl⟩
 refine ⟨rfl, ?_, ((Keep.refl (Own (some ⟨g, 0, none⟩)) w).setCell ⟨g, a, none⟩ _ (fun _ => ho)).setCell ⟨g, a + 1, none⟩ _ (fun _ => ho)⟩
 rw [← ev, kn h0 h1, ← set_two _ _ _ _ (by rw [am, HL.out]; exact ha)]
 exact (hb.setCell a _).setCell (a + 1) _
theorem get_no (A : Option Addr) (n c : Nat) (a : Int) (w : World) (hn : n ≤ 100000) (h : ¬ (0 ≤ a ∧ a + 2 ≤ n)) :
  Calls Tryz.prog 291 #[.slice A n c, .int .i64 a] w fun e w' => e = .returned (.tuple #[.int .i64 0, .bool false]) ∧ w = w' := by
 go_enter Tryz.func291, Tryz.ntmps291
 go_wp2_with fail
 refine (has_no A n c a w hn h).mono ?_; rintro e w1 ⟨rfl, rfl⟩
 go_wp2
 go_ret2
 exact ⟨rfl, rfl⟩
def num (l : List UInt8) (a : Nat) : Int := ((l.getD a 0).toNat : Int) * 256 + ((l.getD (a + 1) 0).toNat : Int)
theorem get_yes (A : Option Addr) (n c a : Nat) (l : List UInt8) (w : World) (hr : ae w A n (bytes l)) (hn : n ≤ 100000) (ha : a + 2 ≤ n) (v : Int) (hv : num l a = v) :
  Calls Tryz.prog 291 #[.slice A n c, .int .i64 (a : Int)] w fun e w' => e = .returned (.tuple #[.int .i64 v, .bool true]) ∧ Keep Nob w w' := by
 have hl : l.length = n := by simpa using hr.1
 obtain ⟨b, off, rfl, hc⟩ := hr.lit (by omega)
 have hc1 := hc a _ (aB (by omega))
 have hc2 := hc (a + 1) _ (aB (by omega))
 have hor := or_two (l.getD a 0) (l.getD (a + 1) 0)
 have hx := cz (l.getD a 0)
 have hy := cz (l.getD (a + 1) 0)
 unfold num at hv
 rw [hv] at hor
 have HV := aa hv
 clear hv hl hc hr
 generalize (l.getD a 0).toNat = x at *
 generalize (l.getD (a + 1) 0).toNat = y at *
 go_enter Tryz.func291, Tryz.ntmps291
 go_wp2_with fail
 refine (has_yes (some ⟨b, off, none⟩) n c a w hn (by omega) (by omega)).mono ?_; rintro e w1 ⟨rfl, rfl⟩
 go_wp2
 go_quiet (fail)
 go_wp2
 go_ret2
 exact ⟨rfl, (Keep.refl Nob w).drewN _⟩
theorem nil_or (A : Option Addr) (n c : Nat) (w : World) : (binOp .eql 28 (.slice A n c) (.slice none 0 0)).run Tryz.prog w = .ok (.bool A.isNone) w := by
 have := Tryz.underlying28
 cases A <;> rfl
theorem put_is (A : Option Addr) (n c : Nat) (a v : Int) (l l' : List UInt8) (w : World) (hb : Vec w 5 1 A n c (bytes l)) (hn : n ≤ 100000) (good : Bool) (hg : decide (0 ≤ a ∧ a + 2 ≤ n ∧ 0 ≤ v ∧ v ≤ 65535) = good)
  (hl : (if good then splice l a.toNat (two v) else l) = l') :
  Calls Tryz.prog 289 #[.slice A n c, .int .i64 a, .int .i64 v] w fun e w' => e = .returned (.bool good) ∧ Vec w' 5 1 A n c (bytes l') ∧ Keep (Own A) w w' := by
 cases good with
 | true =>
  obtain ⟨h0, h1, h2, h3⟩ := of_decide_eq_true hg
  have := put_yes A n c a.toNat v l w hb hn (by omega) h2 h3
  rw [show ((a.toNat : Nat) : Int) = a from by omega] at this
  rw [if_pos rfl] at hl
  rw [← hl]
  exact this
 | false =>
  rw [if_neg (by simp)] at hl
  subst hl
  exact (put_no A n c a v w hn (of_decide_eq_false hg)).mono fun e w' ⟨he, hw⟩ => ⟨he, hw ▸ hb, hw ▸ Keep.refl _ _⟩
theorem get_is (A : Option Addr) (n c : Nat) (a : Int) (l : List UInt8) (w : World) (hr : ae w A n (bytes l)) (hn : n ≤ 100000) (inn : Bool) (hg : decide (0 ≤ a ∧ a + 2 ≤ n) = inn) (v : Int) (hv : (if inn then num l a.toNat else 0) = v) :
  Calls Tryz.prog 291 #[.slice A n c, .int .i64 a] w fun e w' => e = .returned (.tuple #[.int .i64 v, .bool inn]) ∧ Keep Nob w w' := by
 cases inn with
 | true =>
  obtain ⟨h0, h1⟩ := of_decide_eq_true hg
  rw [if_pos rfl] at hv
  have := get_yes A n c a.toNat l w hr hn (by omega) v hv
  rwa [show ((a.toNat : Nat) : Int) = a from by omega] at this
 | false =>
  rw [if_neg (by simp)] at hv
  subst hv
  exact (get_no A n c a w hn (of_decide_eq_false hg)).mono fun e w' ⟨he, hw⟩ => ⟨he, hw ▸ Keep.refl _ _⟩
theorem cm (l : List UInt8) (k : Nat) (y : UInt8) (v : Int) (hv : ((y.toNat : Nat) : Int) = v) : (bytes l).set k (.int .u8 v) = bytes (l.set k y) := by
 subst hv
 simp [bytes, List.map_set]
theorem cT (x y : List UInt8) (h : x.length + y.length ≤ 100000) (W : World) : (Op.stringOp .add (str x) (str y)).run Tryz.prog W = .ok (.string (str (x ++ y))) W :=
 run_string_add_lists W x y (by omega) (by omega)
theorem ap_new {w w2 : World} {A : Option Addr} {n cap : Nat} {l : List UInt8} (hv2 : Vec w2 5 1 A (0 + n) cap ([] ++ bytes l)) (hk2 : Keep (Own (some ⟨w.heap.size, 0, none⟩)) (w.alloc (.cells #[] 5)) w2)
  (ho2 : ∀ g, Own A g → Own (some ⟨w.heap.size, 0, none⟩) g ∨ g = (w.alloc (.cells #[] 5)).heap.size) : Vec w2 5 1 A n cap (bytes l) ∧ Keep Nob w w2 ∧ (∀ g, Own A g → w.heap.size ≤ g) := by
 refine ⟨by rw [Nat.zero_add, List.nil_append] at hv2; exact hv2, ((Keep.refl Nob w).alloc _).trans hk2 (fun k hk ⟨a, h1, h2⟩ => ?_), fun g hg => ?_⟩
 ·cases h1
  have h3 : w.heap.size = k := h2
  omega
 ·rcases ho2 g hg with ⟨a, h1, h2⟩ | h
  ·cases h1
   exact Nat.le_of_eq h2
  ·rw [h]; simp
theorem clone_is (A : Option Addr) (n c : Nat) (l : List UInt8) (w : World) (hr : ae w A n (bytes l)) (hn : n ≤ 100000) :
  Calls Tryz.prog 205 #[.slice A n c] w fun e w' => ∃ A' c', e = .returned (.slice A' n c') ∧ Vec w' 5 1 A' n c' (bytes l) ∧ Keep Nob w w' ∧ (∀ g, Own A' g → w.heap.size ≤ g) := by
 cases A with
 | none =>
  have hl : l.length = n := by simpa using hr.1
  obtain rfl : n = 0 := by
   rcases Nat.eq_zero_or_pos n with h | h
   ·exact h
   ·obtain ⟨ad, h2, _⟩ := hr.2 h; cases h2
  obtain rfl : l = [] := List.eq_nil_of_length_eq_zero hl
  have hnil := nil_or none 0 c w
  go_enter Tryz.func205, Tryz.ntmps205
  go_wp2
  go_ret
  exact ⟨none, 0, rfl, Vec.nil _ _ _, Keep.refl _ _, fun g ⟨a, h, _⟩ => by cases h⟩
 | some ad =>
  have hnil := nil_or (some ad) n c w
  go_enter Tryz.func205, Tryz.ntmps205
  go_wp2_with (at_builtin; go_loud (refine aN rfl _ _ 28 rfl 5 1 1 (.int .u8 0) Tryz.underlying28 Tryz.info5 rfl (by decide) (some ⟨w.heap.size, 0, none⟩) 0 0 [] rfl (Vec.of_blk (Blk.new w 5 []) rfl (by decide)) (some ad) n c (bytes l) rfl _ (Nat.mul_one _) (hr.nob ((Keep.refl Nob w).alloc _)) (dX l) (by unfold maxLen; omega) (by omega) ?_); intro A' cap' w2 hv2 hk2 ho2)
  obtain ⟨h1, h2, h3⟩ := ap_new hv2 hk2 ho2
  go_ret
  exact ⟨A', cap', rfl, h1, h2, h3⟩
end Go.Proofs.YtgcikpgcoemfnaaGreat.Cd
namespace Go.Proofs.YtgcikpgcoemfnaaGreat.Cd
open Go.RowKit
theorem or_i64 (a b : Int) : bits .or .i64 a b = (BitVec.ofInt 64 a ||| BitVec.ofInt 64 b).toInt := fX _
theorem ey (a b : Int) : bits .andNot .i64 a b = (BitVec.ofInt 64 a &&& ~~~ BitVec.ofInt 64 b).toInt := fX _
theorem eB (x : BitVec 64) : x.toInt = 0 ↔ x = 0#64 := by
 constructor
 ·intro h; exact BitVec.eq_of_toInt_eq (by rw [h]; rfl)
 ·intro h; rw [h]; rfl
theorem bv_or_and (a b c : BitVec 64) : (a ||| b) &&& c = 0#64 ↔ a &&& c = 0#64 ∧ b &&& c = 0#64 := by
 constructor
 ·intro h
  constructor
  ·apply BitVec.eq_of_getLsbD_eq
   intro i hi
   have := congrArg (fun x => x.getLsbD i) h
   simp at this ⊢
   intro ha
   exact this (.inl ha)
  ·apply BitVec.eq_of_getLsbD_eq
   intro i hi
   have := congrArg (fun x => x.getLsbD i) h
   simp at this ⊢
   intro ha
   exact this (.inr ha)
 ·rintro ⟨h1, h2⟩
  apply BitVec.eq_of_getLsbD_eq
  intro i hi
  have t1 := congrArg (fun x => x.getLsbD i) h1
  have t2 := congrArg (fun x => x.getLsbD i) h2
  simp at t1 t2 ⊢
  rintro (h | h)
  ·exact t1 h
  ·exact t2 h
def Wf (n : Int) : Prop := -9223372036854775808 ≤ n ∧ n ≤ 9223372036854775807
theorem wf_of {n : Int} (h : (Lit.int .i64 n).wf = true) : Wf n := by
 simp [Lit.wf, IntKind.min, IntKind.max, IntKind.signed, IntKind.bits] at h
 exact ⟨by omega, by omega⟩
theorem fN (op : BinOp) (a b : Int) : Wf (bits op .i64 a b) := ⟨bits_lo_i64 op a b, bits_hi_i64 op a b⟩
theorem toInt_wf {n : Int} (h : Wf n) : (BitVec.ofInt 64 n).toInt = n := by
 rw [BitVec.toInt_ofInt]
 exact Int.bmod_eq_of_le (by have := h.1; simp; omega) (by have := h.2; simp; omega)
def sig (n : Int) : Bool := decide (0 ≤ n ∧ n ≤ 65535) && bits .andNot .i64 n 65534 == 0
theorem gL {n : Int} (h : Wf n) : (bits .andNot .i64 n 65534 == 0) = sig n := by
 unfold sig
 by_cases h0 : bits .andNot .i64 n 65534 = 0
 ·rw [ey, eB] at h0
  have h1 : BitVec.ofInt 64 n = BitVec.ofInt 64 n &&& BitVec.ofInt 64 65534 := by
   apply BitVec.eq_of_getLsbD_eq
   intro i hi
   have := congrArg (fun x => x.getLsbD i) h0
   simp only [BitVec.getLsbD_and, BitVec.getLsbD_not, hi, decide_true, Bool.true_and, BitVec.getLsbD_zero, Bool.and_eq_false_iff, Bool.not_eq_false'] at this ⊢
   rcases this with t | t
   ·rw [t]; rfl
   ·rw [t, Bool.and_true]
  have h2 : (BitVec.ofInt 64 n).toNat ≤ 65534 := by
   rw [h1, BitVec.toNat_and]
   exact Nat.le_trans Nat.and_le_right (by decide)
  have h3 := toInt_wf h
  rw [BitVec.toInt_eq_toNat_of_lt (by omega)] at h3
  have h4 : decide (0 ≤ n ∧ n ≤ 65535) = true := decide_eq_true ⟨by omega, by omega⟩
  rw [h4, Bool.true_and]
 ·have h1 : (bits .andNot .i64 n 65534 == 0) = false := by simpa using h0
  rw [h1, Bool.and_false]
theorem eX {n : Int} (h : sig n = true) : 0 ≤ n ∧ n ≤ 65535 := by
 unfold sig at h
 rw [Bool.and_eq_true] at h
 exact of_decide_eq_true h.1
theorem sig_or {a b : Int} (ha : Wf a) (hb : Wf b) : sig (bits .or .i64 a b) = (sig a && sig b) := by
 rw [← gL (fN _ _ _), ← gL ha, ← gL hb, Bool.eq_iff_iff, Bool.and_eq_true, beq_iff_eq, beq_iff_eq, beq_iff_eq]
 rw [ey, ey, ey, eB, eB, eB, or_i64, BitVec.ofInt_toInt]
 exact bv_or_and _ _ _
def inn (n lo hi : Int) : Bool := decide (lo ≤ n ∧ n ≤ hi)
theorem bi {n lo hi : Int} (h : inn n lo hi = true) : lo ≤ n ∧ n ≤ hi := of_decide_eq_true h
def ruled (m i c : Int) : Int := bits .or .i64 (bits .or .i64 m i) c
def eK (pe m i c : Int) : Bool := sig pe && sig m && sig i && sig c && bits .and .i64 (ruled m i c) 16896 == 0 && bits .and .i64 i c == 0
theorem setsOk_is {pe m i c : Int} (h1 : Wf pe) (h2 : Wf m) (h3 : Wf i) (h4 : Wf c) :
  (bits .andNot .i64 (bits .or .i64 pe (ruled m i c)) 65534 == 0 && bits .and .i64 (ruled m i c) 16896 == 0 && bits .and .i64 i c == 0) = eK pe m i c := by
 have hr : sig (ruled m i c) = (sig m && sig i && sig c) := by rw [ruled, sig_or (fN _ _ _) h4, sig_or h2 h3]
 unfold eK
 rw [gL (fN _ _ _), sig_or h1 (by unfold ruled; exact fN _ _ _), hr]
 simp only [Bool.and_assoc]
def fA (f : List Int) : Bool := f.all (inn · 0 12)
def fm (f : List Int) : Bool := f.all (· == 0)
def okd (p : List Int) : Bool :=
 inn (p.getD 0 0) 1 3 && inn (p.getD 1 0) 0 8 && inn (p.getD 2 0) 0 7 && inn (p.getD 3 0) 0 255 && eK (p.getD 4 0) (p.getD 5 0) (p.getD 6 0) (p.getD 7 0) && fA (p.drop 8) &&
  (if p.getD 0 0 == 2 then fm (p.drop 8) && p.getD 4 0 == 0 else p.getD 3 0 == 0)
def byt (n : Int) : UInt8 := UInt8.ofNat (n % 256).toNat
def pre (p : List Int) : List UInt8 :=
 [byt (p.getD 0 0), byt (p.getD 1 0), byt (p.getD 2 0), byt (p.getD 3 0)] ++ two (p.getD 4 0) ++ two (p.getD 5 0) ++ two (p.getD 6 0) ++ two (p.getD 7 0) ++ (p.drop 8).map byt ++ [167]
def bK (l : List UInt8) : UInt8 := UInt8.ofNat (tot l % 256)
def enc (p : List Int) : List UInt8 := pre p ++ [bK (pre p), 0, 0]
def rd (l : List UInt8) : List Int :=
 [((l.getD 0 0).toNat : Int), ((l.getD 1 0).toNat : Int), ((l.getD 2 0).toNat : Int), ((l.getD 3 0).toNat : Int), num l 4, num l 6, num l 8, num l 10] ++ ((l.drop 12).take 8).map fun b => (b.toNat : Int)
def gd (l : List UInt8) : Bool := okd (rd l) && enc (rd l) == l
def noP : List Int := List.replicate 16 0
def dcd (l : List UInt8) : List Int × Int := if l.length = 24 then (if aA l then (noP, 0) else if gd l then (rd l, 1) else (noP, 2)) else (noP, 2)
theorem aD {p : List Int} (h : p.length = 16) : ∃ a0 a1 a2 a3 a4 a5 a6 a7 f0 f1 f2 f3 f4 f5 f6 f7, p = [a0, a1, a2, a3, a4, a5, a6, a7, f0, f1, f2, f3, f4, f5, f6, f7] := by
 match p, h with
 | [a0, a1, a2, a3, a4, a5, a6, a7, f0, f1, f2, f3, f4, f5, f6, f7], _ => exact ⟨_, _, _, _, _, _, _, _, _, _, _, _, _, _, _, _, rfl⟩
theorem split24 {l : List UInt8} (h : l.length = 24) : ∃ a0 a1 a2 a3 a4 a5 a6 a7 a8 a9 b0 b1 b2 b3 b4 b5 b6 b7 b8 b9 c0 c1 c2 c3, l = [a0, a1, a2, a3, a4, a5, a6, a7, a8, a9, b0, b1, b2, b3, b4, b5, b6, b7, b8, b9, c0, c1, c2, c3] := by
 match l, h with
 | [a0, a1, a2, a3, a4, a5, a6, a7, a8, a9, b0, b1, b2, b3, b4, b5, b6, b7, b8, b9, c0, c1, c2, c3], _ => exact ⟨_, _, _, _, _, _, _, _, _, _, _, _, _, _, _, _, _, _, _, _, _, _, _, _, rfl⟩
theorem iV {p : List Int} (h : p.length = 16) : (pre p).length = 21 := by simp [pre, two, h]
theorem aJ {p : List Int} (h : p.length = 16) : (enc p).length = 24 := by simp [enc, iV h]
theorem cY {l : List UInt8} (h : l.length = 24) : (rd l).length = 16 := by simp [rd, h]
theorem bm {n : Int} (h0 : 0 ≤ n) (h1 : n ≤ 255) : (((byt n).toNat : Nat) : Int) = n := by
 unfold byt
 rw [cj]; omega
theorem iI {n : Int} (h0 : 0 ≤ n) (h1 : n ≤ 65535) : (((UInt8.ofNat (n / 256 % 256).toNat).toNat : Nat) : Int) * 256 + (((UInt8.ofNat (n % 256).toNat).toNat : Nat) : Int) = n := by
 rw [cj, cj]; omega
structure ft (p : List Int) : Prop where
 s : 1 ≤ p.getD 0 0 ∧ p.getD 0 0 ≤ 3
 pa : 0 ≤ p.getD 1 0 ∧ p.getD 1 0 ≤ 8
 g : 0 ≤ p.getD 2 0 ∧ p.getD 2 0 ≤ 7
 c : 0 ≤ p.getD 3 0 ∧ p.getD 3 0 ≤ 255
 pe : 0 ≤ p.getD 4 0 ∧ p.getD 4 0 ≤ 65535
 m : 0 ≤ p.getD 5 0 ∧ p.getD 5 0 ≤ 65535
 i : 0 ≤ p.getD 6 0 ∧ p.getD 6 0 ≤ 65535
 ca : 0 ≤ p.getD 7 0 ∧ p.getD 7 0 ≤ 65535
 f : ∀ x ∈ p.drop 8, 0 ≤ x ∧ x ≤ 12
theorem aH {p : List Int} (h : okd p = true) : ft p := by
 unfold okd eK at h
 simp only [Bool.and_eq_true] at h
 obtain ⟨⟨⟨⟨⟨⟨h1, h2⟩, h3⟩, h4⟩, ⟨⟨⟨⟨h5, h6⟩, h7⟩, h8⟩, _⟩, _⟩, h9⟩, _⟩ := h
 refine ⟨bi h1, bi h2, bi h3, bi h4, eX h5, eX h6, eX h7, eX h8, fun x hx => ?_⟩
 unfold fA at h9
 exact bi (List.all_eq_true.1 h9 x hx)
theorem rd_enc {p : List Int} (hl : p.length = 16) (h : okd p = true) : rd (enc p) = p := by
 have B := aH h
 clear h
 obtain ⟨a0, a1, a2, a3, a4, a5, a6, a7, f0, f1, f2, f3, f4, f5, f6, f7, rfl⟩ := aD hl
 have e0 := bm (n := a0) (by have := B.s.1; simp at this; omega) (by have := B.s.2; simp at this; omega)
 have e1 := bm (n := a1) (by have := B.pa.1; simp at this; omega) (by have := B.pa.2; simp at this; omega)
 have e2 := bm (n := a2) (by have := B.g.1; simp at this; omega) (by have := B.g.2; simp at this; omega)
 have e3 := bm (n := a3) (by have := B.c.1; simp at this; omega) (by have := B.c.2; simp at this; omega)
 have e4 := iI (n := a4) (by have := B.pe.1; simp at this; omega) (by have := B.pe.2; simp at this; omega)
 have e5 := iI (n := a5) (by have := B.m.1; simp at this; omega) (by have := B.m.2; simp at this; omega)
 have e6 := iI (n := a6) (by have := B.i.1; simp at this; omega) (by have := B.i.2; simp at this; omega)
 have e7 := iI (n := a7) (by have := B.ca.1; simp at this; omega) (by have := B.ca.2; simp at this; omega)
 have ef : ∀ x ∈ [f0, f1, f2, f3, f4, f5, f6, f7], (((byt x).toNat : Nat) : Int) = x := fun x hx => by
  have := B.f x hx
  exact bm (by omega) (by omega)
 have d0 := ef f0 (by simp)
 have d1 := ef f1 (by simp)
 have d2 := ef f2 (by simp)
 have d3 := ef f3 (by simp)
 have d4 := ef f4 (by simp)
 have d5 := ef f5 (by simp)
 have d6 := ef f6 (by simp)
 have d7 := ef f7 (by simp)
 show [(((byt a0).toNat : Nat) : Int), (((byt a1).toNat : Nat) : Int), (((byt a2).toNat : Nat) : Int), (((byt a3).toNat : Nat) : Int), _ * 256 + _, _ * 256 + _, _ * 256 + _, _ * 256 + _, (((byt f0).toNat : Nat) : Int), (((byt f1).toNat : Nat) : Int), (((byt f2).toNat : Nat) : Int), (((byt f3).toNat : Nat) : Int), (((byt f4).toNat : Nat) : Int), (((byt f5).toNat : Nat) : Int), (((byt f6).toNat : Nat) : Int), (((byt f7).toNat : Nat) : Int)] = _
 rw [e0, e1, e2, e3, d0, d1, d2, d3, d4, d5, d6, d7]
 simp only [List.cons.injEq, and_true, true_and]
 exact ⟨e4, e5, e6, e7⟩
theorem kr {p : List Int} (hp : p.length = 16) : (enc p).getD 20 0 = 167 := by
 obtain ⟨a0, a1, a2, a3, a4, a5, a6, a7, f0, f1, f2, f3, f4, f5, f6, f7, rfl⟩ := aD hp
 rfl
theorem ei {l : List UInt8} (h : aA l = true) (k : Nat) : l.getD k 0 = 0 := by
 rw [List.getD_eq_getElem?_getD]
 rcases Nat.lt_or_ge k l.length with h1 | h1
 ·rw [List.getElem?_eq_getElem h1]
  have := List.all_eq_true.1 h l[k] (List.getElem_mem h1)
  simpa using this
 ·rw [List.getElem?_eq_none h1]; rfl
theorem gG {p : List Int} (hp : p.length = 16) : aA (enc p) = false := by
 cases h : aA (enc p)
 ·rfl
 ·have := ei h 20
  rw [kr hp] at this
  exact absurd this (by decide)
theorem gQ {p : List Int} (hp : p.length = 16) (op : okd p = true) : dcd (enc p) = (p, 1) := by
 unfold dcd gd
 rw [if_pos (aJ hp), gG hp, if_neg (by simp), rd_enc hp op, op, if_pos (by simp)]
theorem gD {l : List UInt8} {v : List Int} (h : dcd l = (v, 1)) : v.length = 16 ∧ okd v = true ∧ enc v = l := by
 unfold dcd at h
 split at h
 ·rename_i hl
  split at h
  ·cases h
  ·split at h
   ·rename_i hg
    cases h
    unfold gd at hg
    simp only [Bool.and_eq_true, beq_iff_eq] at hg
    exact ⟨cY hl, hg.1, hg.2⟩
   ·cases h
 ·cases h
theorem di (l : List UInt8) : (dcd l).1.length = 16 := by
 unfold dcd
 split
 ·rename_i hl
  split
  ·rfl
  ·split
   ·exact cY hl
   ·rfl
 ·rfl
end Go.Proofs.YtgcikpgcoemfnaaGreat.Cd
namespace Go.Proofs.YtgcikpgcoemfnaaGreat.Fi
open Go.RowKit Cd
def inn (n lo hi : Int) : Bool := decide (lo ≤ n ∧ n ≤ hi)
theorem bi {n lo hi : Int} (h : inn n lo hi = true) : lo ≤ n ∧ n ≤ hi := of_decide_eq_true h
def last (n : Int) : Int := if n = 3 then 0 else 7
def okd (p : List Int) : Bool :=
 inn (p.getD 0 0) 1 3 && inn (p.getD 1 0) 0 (last (p.getD 0 0)) && inn (p.getD 2 0) 1 64 && inn (p.getD 3 0) 0 1
def byt (n : Int) : UInt8 := UInt8.ofNat (n % 256).toNat
def pre (p : List Int) : List UInt8 := [byt (p.getD 0 0), byt (p.getD 1 0), byt (p.getD 2 0), byt (p.getD 3 0), 179]
def bK (l : List UInt8) : UInt8 := UInt8.ofNat (tot l % 256)
def enc (p : List Int) : List UInt8 := pre p ++ [bK (pre p), 0, 0]
def rd (l : List UInt8) : List Int := [((l.getD 0 0).toNat : Int), ((l.getD 1 0).toNat : Int), ((l.getD 2 0).toNat : Int), ((l.getD 3 0).toNat : Int)]
def gd (l : List UInt8) : Bool := okd (rd l) && enc (rd l) == l
def noP : List Int := List.replicate 4 0
def dcd (l : List UInt8) : List Int × Int := if l.length = 8 then (if aA l then (noP, 0) else if gd l then (rd l, 1) else (noP, 2)) else (noP, 2)
theorem gA {p : List Int} (h : p.length = 4) : ∃ a0 a1 a2 a3, p = [a0, a1, a2, a3] := by
 match p, h with
 | [a0, a1, a2, a3], _ => exact ⟨_, _, _, _, rfl⟩
theorem iV (p : List Int) : (pre p).length = 5 := rfl
theorem aJ (p : List Int) : (enc p).length = 8 := rfl
theorem cY (l : List UInt8) : (rd l).length = 4 := rfl
theorem bm {n : Int} (h0 : 0 ≤ n) (h1 : n ≤ 255) : (((byt n).toNat : Nat) : Int) = n := by
 unfold byt
 rw [cj]; omega
structure ft (p : List Int) : Prop where
 k : 1 ≤ p.getD 0 0 ∧ p.getD 0 0 ≤ 3
 pi : 0 ≤ p.getD 1 0 ∧ p.getD 1 0 ≤ 7
 r : 1 ≤ p.getD 2 0 ∧ p.getD 2 0 ≤ 64
 f : 0 ≤ p.getD 3 0 ∧ p.getD 3 0 ≤ 1
theorem aH {p : List Int} (h : okd p = true) : ft p := by
 unfold okd at h
 simp only [Bool.and_eq_true] at h
 obtain ⟨⟨⟨h1, h2⟩, h3⟩, h4⟩ := h
 have h2 := bi h2
 refine ⟨bi h1, ⟨h2.1, ?_⟩, bi h3, bi h4⟩
 have := h2.2
 unfold last at this
 split at this <;> omega
theorem rd_enc {p : List Int} (hl : p.length = 4) (h : okd p = true) : rd (enc p) = p := by
 have B := aH h
 clear h
 obtain ⟨a0, a1, a2, a3, rfl⟩ := gA hl
 have b0 := B.k; have b1 := B.pi; have b2 := B.r; have b3 := B.f
 simp only [List.getD_cons_succ, List.getD_cons_zero] at b0 b1 b2 b3
 have e0 := bm (n := a0) (by omega) (by omega)
 have e1 := bm (n := a1) (by omega) (by omega)
 have e2 := bm (n := a2) (by omega) (by omega)
 have e3 := bm (n := a3) (by omega) (by omega)
 show [(((byt a0).toNat : Nat) : Int), (((byt a1).toNat : Nat) : Int), (((byt a2).toNat : Nat) : Int), (((byt a3).toNat : Nat) : Int)] = _
 rw [e0, e1, e2, e3]
theorem kr (p : List Int) : (enc p).getD 4 0 = 179 := rfl
theorem ei {l : List UInt8} (h : aA l = true) (k : Nat) : l.getD k 0 = 0 := by
 rw [List.getD_eq_getElem?_getD]
 rcases Nat.lt_or_ge k l.length with h1 | h1
 ·rw [List.getElem?_eq_getElem h1]
  have := List.all_eq_true.1 h l[k] (List.getElem_mem h1)
  simpa using this
 ·rw [List.getElem?_eq_none h1]; rfl
theorem gG (p : List Int) : aA (enc p) = false := by
 cases h : aA (enc p)
 ·rfl
 ·have := ei h 4
  rw [kr p] at this
  exact absurd this (by decide)
theorem gQ {p : List Int} (hp : p.length = 4) (op : okd p = true) : dcd (enc p) = (p, 1) := by
 unfold dcd gd
 rw [if_pos (aJ p), gG p, if_neg (by simp), rd_enc hp op, op, if_pos (by simp)]
theorem gD {l : List UInt8} {v : List Int} (h : dcd l = (v, 1)) : v.length = 4 ∧ okd v = true ∧ enc v = l := by
 unfold dcd at h
 split at h
 ·split at h
  ·cases h
  ·split at h
   ·rename_i hg
    cases h
    unfold gd at hg
    simp only [Bool.and_eq_true, beq_iff_eq] at hg
    exact ⟨rfl, hg.1, hg.2⟩
   ·cases h
 ·cases h
theorem di (l : List UInt8) : (dcd l).1.length = 4 := by
 unfold dcd
 split
 ·split
  ·rfl
  ·split <;> rfl
 ·rfl
end Go.Proofs.YtgcikpgcoemfnaaGreat.Fi
namespace Go.Proofs.YtgcikpgcoemfnaaGreat.Ri
open Go.RowKit Cd
def inn (n lo hi : Int) : Bool := decide (lo ≤ n ∧ n ≤ hi)
theorem bi {n lo hi : Int} (h : inn n lo hi = true) : lo ≤ n ∧ n ≤ hi := of_decide_eq_true h
structure Pp where
 h : Int
 c : Int
 r : Int
 s : Int
 d : List UInt8
def pc (p : Pp) : List Value := .int .i64 p.h :: .int .i64 p.c :: .int .i64 p.r :: .int .i64 p.s :: bytes p.d
def pv (p : Pp) : Value := .agg (pc p).toArray
theorem bQ {p : Pp} (h : p.d.length = 32) : (pc p).length = 36 := by simp [pc, h]
theorem jl (p : Pp) : ∀ v ∈ pc p, v.oneCell' = true := by
 intro v hv
 unfold pc at hv
 simp only [List.mem_cons] at hv
 rcases hv with rfl | rfl | rfl | rfl | hv
 ·rfl
 ·rfl
 ·rfl
 ·rfl
 ·exact dX _ v hv
def okd (p : Pp) : Bool := inn p.h 0 31 && (inn p.c 0 32 && (inn p.r 0 8 && inn p.s 0 8))
def byt (n : Int) : UInt8 := UInt8.ofNat (n % 256).toNat
def pre (p : Pp) : List UInt8 := [1, byt p.h, byt p.c, byt p.r, byt p.s, 197]
def bK (l : List UInt8) : UInt8 := UInt8.ofNat (tot l % 256)
def enc (p : Pp) : List UInt8 := pre p ++ [bK (pre p), 0] ++ p.d
def rd (l : List UInt8) : Pp := ⟨((l.getD 1 0).toNat : Int), ((l.getD 2 0).toNat : Int), ((l.getD 3 0).toNat : Int), ((l.getD 4 0).toNat : Int), l.drop 8⟩
def gd (l : List UInt8) : Bool := okd (rd l) && enc (rd l) == l
def nod : List UInt8 := List.replicate 32 0
def noP : Pp := ⟨0, 0, 0, 0, nod⟩
def dcd (l : List UInt8) : Pp × Int := if l.length = 40 then (if aA l then (noP, 0) else if gd l then (rd l, 1) else (noP, 2)) else (noP, 2)
theorem iV (p : Pp) : (pre p).length = 6 := rfl
theorem aJ {p : Pp} (h : p.d.length = 32) : (enc p).length = 40 := by
 show (pre p ++ [bK (pre p), 0] ++ p.d).length = 40
 rw [List.length_append, h]; rfl
theorem cY {l : List UInt8} (h : l.length = 40) : (rd l).d.length = 32 := by simp [rd, h]
theorem bm {n : Int} (h0 : 0 ≤ n) (h1 : n ≤ 255) : (((byt n).toNat : Nat) : Int) = n := by
 unfold byt
 rw [cj]; omega
structure ft (p : Pp) : Prop where
 h : 0 ≤ p.h ∧ p.h ≤ 31
 c : 0 ≤ p.c ∧ p.c ≤ 32
 r : 0 ≤ p.r ∧ p.r ≤ 8
 s : 0 ≤ p.s ∧ p.s ≤ 8
theorem aH {p : Pp} (h : okd p = true) : ft p := by
 unfold okd at h
 simp only [Bool.and_eq_true] at h
 obtain ⟨h1, h2, h3, h4⟩ := h
 exact ⟨bi h1, bi h2, bi h3, bi h4⟩
theorem ft.ok {p : Pp} (h : ft p) : okd p = true := by
 unfold okd inn
 simp only [Bool.and_eq_true, decide_eq_true_iff]
 exact ⟨h.h, h.c, h.r, h.s⟩
theorem rd_enc {p : Pp} (h : okd p = true) : rd (enc p) = p := by
 have B := aH h
 clear h
 obtain ⟨a, b, c, d, e⟩ := p
 have b0 := B.h; have b1 := B.c; have b2 := B.r; have b3 := B.s
 simp only at b0 b1 b2 b3
 have e0 := bm (n := a) (by omega) (by omega)
 have e1 := bm (n := b) (by omega) (by omega)
 have e2 := bm (n := c) (by omega) (by omega)
 have e3 := bm (n := d) (by omega) (by omega)
 show Pp.mk (((byt a).toNat : Nat) : Int) (((byt b).toNat : Nat) : Int) (((byt c).toNat : Nat) : Int) (((byt d).toNat : Nat) : Int) e = _
 rw [e0, e1, e2, e3]
theorem ei {l : List UInt8} (h : aA l = true) (k : Nat) : l.getD k 0 = 0 := by
 rw [List.getD_eq_getElem?_getD]
 rcases Nat.lt_or_ge k l.length with h1 | h1
 ·rw [List.getElem?_eq_getElem h1]
  have := List.all_eq_true.1 h l[k] (List.getElem_mem h1)
  simpa using this
 ·rw [List.getElem?_eq_none h1]; rfl
theorem gG (p : Pp) : aA (enc p) = false := by
 cases h : aA (enc p)
 ·rfl
 ·have := ei h 0
  exact absurd this (show ¬ ((1 : UInt8) = 0) by decide)
theorem gQ {p : Pp} (hl : p.d.length = 32) (op : okd p = true) : dcd (enc p) = (p, 1) := by
 unfold dcd gd
 rw [if_pos (aJ hl), gG p, if_neg (by simp), rd_enc op, op, if_pos (by simp)]
theorem di (l : List UInt8) : (dcd l).1.d.length = 32 := by
 unfold dcd
 split
 ·rename_i h
  split
  ·rfl
  ·split
   ·exact cY h
   ·rfl
 ·rfl
end Go.Proofs.YtgcikpgcoemfnaaGreat.Ri
namespace Go.Proofs.YtgcikpgcoemfnaaGreat.Cd
open Go.RowKit
def pv (p : List Int) : Value := .agg (ab p).toArray
theorem eq_arr8 (n : Nat) (a0 a1 a2 a3 a4 a5 a6 a7 b0 b1 b2 b3 b4 b5 b6 b7 : Int) (W : World) :
  (Op.equalIn (n + 2) 35 (.agg #[.int .i64 a0, .int .i64 a1, .int .i64 a2, .int .i64 a3, .int .i64 a4, .int .i64 a5, .int .i64 a6, .int .i64 a7]) (.agg #[.int .i64 b0, .int .i64 b1, .int .i64 b2, .int .i64 b3, .int .i64 b4, .int .i64 b5, .int .i64 b6, .int .i64 b7])).run Tryz.prog W
   = .ok (a0 == b0 && (a1 == b1 && (a2 == b2 && (a3 == b3 && (a4 == b4 && (a5 == b5 && (a6 == b6 && (a7 == b7)))))))) W := by
 have hi := Tryz.underlying3
 have hg := Tryz.isAgg3
 have hs := Tryz.sizeOf3
 unfold Op.equalIn
 simp only [run_underlying Tryz.underlying35, Sem.run_bind, Result.andThen_ok]
 by_cases h0 : a0 = b0
 rotate_left
 ·have e0 : (a0 == b0) = false := by simpa using h0
  go_simp
  rw [show List.range' 0 8 = [0, 1, 2, 3, 4, 5, 6, 7] from rfl]
  simp only [List.forIn_cons, List.forIn_nil]
  go_simp
 subst h0
 by_cases h1 : a1 = b1
 rotate_left
 ·have e1 : (a1 == b1) = false := by simpa using h1
  go_simp
  rw [show List.range' 0 8 = [0, 1, 2, 3, 4, 5, 6, 7] from rfl]
  simp only [List.forIn_cons, List.forIn_nil]
  go_simp
 subst h1
 by_cases h2 : a2 = b2
 rotate_left
 ·have e2 : (a2 == b2) = false := by simpa using h2
  go_simp
  rw [show List.range' 0 8 = [0, 1, 2, 3, 4, 5, 6, 7] from rfl]
  simp only [List.forIn_cons, List.forIn_nil]
  go_simp
 subst h2
 by_cases h3 : a3 = b3
 rotate_left
 ·have e3 : (a3 == b3) = false := by simpa using h3
  go_simp
  rw [show List.range' 0 8 = [0, 1, 2, 3, 4, 5, 6, 7] from rfl]
  simp only [List.forIn_cons, List.forIn_nil]
  go_simp
 subst h3
 by_cases h4 : a4 = b4
 rotate_left
 ·have e4 : (a4 == b4) = false := by simpa using h4
  go_simp
  rw [show List.range' 0 8 = [0, 1, 2, 3, 4, 5, 6, 7] from rfl]
  simp only [List.forIn_cons, List.forIn_nil]
  go_simp
 subst h4
 by_cases h5 : a5 = b5
 rotate_left
 ·have e5 : (a5 == b5) = false := by simpa using h5
  go_simp
  rw [show List.range' 0 8 = [0, 1, 2, 3, 4, 5, 6, 7] from rfl]
  simp only [List.forIn_cons, List.forIn_nil]
  go_simp
 subst h5
 by_cases h6 : a6 = b6
 rotate_left
 ·have e6 : (a6 == b6) = false := by simpa using h6
  go_simp
  rw [show List.range' 0 8 = [0, 1, 2, 3, 4, 5, 6, 7] from rfl]
  simp only [List.forIn_cons, List.forIn_nil]
  go_simp
 subst h6
 by_cases h7 : a7 = b7
 rotate_left
 ·have e7 : (a7 == b7) = false := by simpa using h7
  go_simp
  rw [show List.range' 0 8 = [0, 1, 2, 3, 4, 5, 6, 7] from rfl]
  simp only [List.forIn_cons, List.forIn_nil]
  go_simp
 subst h7
 go_simp
 rw [show List.range' 0 8 = [0, 1, 2, 3, 4, 5, 6, 7] from rfl]
 simp only [List.forIn_cons, List.forIn_nil]
 go_simp
theorem eq_fds (f : List Int) (hf : f.length = 8) (W : World) : (binOp .eql 35 (.agg (ab f).toArray) (.agg #[.int .i64 0, .int .i64 0, .int .i64 0, .int .i64 0, .int .i64 0, .int .i64 0, .int .i64 0, .int .i64 0])).run Tryz.prog W = .ok (.bool (fm f)) W := by
 match f, hf with
 | [a0, a1, a2, a3, a4, a5, a6, a7], _ =>
  have h := fun n => eq_arr8 n a0 a1 a2 a3 a4 a5 a6 a7 0 0 0 0 0 0 0 0 W
  have e : fm [a0, a1, a2, a3, a4, a5, a6, a7] = (a0 == 0 && (a1 == 0 && (a2 == 0 && (a3 == 0 && (a4 == 0 && (a5 == 0 && (a6 == 0 && a7 == 0))))))) := by
   simp only [fm, List.all_cons, List.all_nil, Bool.and_true]
  rw [e]
  generalize (a0 == 0 && (a1 == 0 && (a2 == 0 && (a3 == 0 && (a4 == 0 && (a5 == 0 && (a6 == 0 && a7 == 0))))))) = d at *
  have hu := Tryz.underlying35
  simp only [ab, List.map_cons, List.map_nil]
  have h9 := h 9998
  go_simp
end Go.Proofs.YtgcikpgcoemfnaaGreat.Cd
namespace Go.Proofs.YtgcikpgcoemfnaaGreat.Cd
open Go.RowKit
theorem bz : (Tryz.prog.info? 37).map (·.size) = some 16 := by kernel_rfl
theorem results_pair {fn : Func} {p u : Tmp} (h : fn.results = #[.cell p 37, .tmp u]) (tmps : Array Value) (w : World) (g : Nat) (q : List Int) (hq : q.length = 16)
  (hp : tmps.getD p undef = .pointer (some ⟨g, 0, none⟩)) (hg : Blk w g 37 (ab q)) (v : Value) (hv : tmps.getD u undef = v) :
  (results fn tmps).run Tryz.prog w = .ok (.tuple #[.agg (ab q).toArray, v]) w := by
 rw [results_cell_tmp h, hp, hv]
 have := run_loadVar_row (P := Tryz.prog) w g 37 37 (ab q).toArray (0, 0) _ hg Tryz.underlying37 rfl (by rw [bz]; simp [hq])
 simp [asAddr, Result.andThen, this]
theorem df (W : World) (l : List UInt8) (cs : List Value) (n c : Nat) (hcs : cs = bytes l) (hn : l.length = n) :
  (convert 28 9 (.slice (some ⟨W.heap.size, 0, none⟩) n c)).run Tryz.prog (W.alloc (.cells cs.toArray 5)) = .ok (.string (str l)) (W.alloc (.cells cs.toArray 5)) := by
 subst hcs
 exact cw (P := Tryz.prog) _ 28 9 5 _ n c _ Tryz.underlying28 Tryz.underlying5 Tryz.underlying9 (aj (Blk.new W 5 (bytes l)) (by rw [am, hn]))
theorem gC (l : List UInt8) : (str l).toList = l := by
 rw [ByteArray.toList_eq]; simp [str]
def rpt (l : List UInt8) (j : Nat) : List Int := (rd l).take j ++ List.replicate (16 - j) 0
theorem rpt_len {l : List UInt8} (h : l.length = 24) {j : Nat} (hj : j ≤ 16) : (rpt l j).length = 16 := by
 simp [rpt, cY h]; omega
theorem rpt_all {l : List UInt8} (h : l.length = 24) : rpt l 16 = rd l := by
 rw [rpt, List.take_of_length_le (by rw [cY h]; exact Nat.le_refl _)]; simp
theorem rpt_set {l : List UInt8} (h : l.length = 24) {k : Nat} (hk : k < 16) : (rpt l k).set k ((rd l).getD k 0) = rpt l (k + 1) := by
 obtain ⟨x0, x1, x2, x3, x4, x5, x6, x7, x8, x9, y0, y1, y2, y3, y4, y5, y6, y7, y8, y9, z0, z1, z2, z3, rfl⟩ := split24 h
 rcases (show k = 0 ∨ k = 1 ∨ k = 2 ∨ k = 3 ∨ k = 4 ∨ k = 5 ∨ k = 6 ∨ k = 7 ∨ k = 8 ∨ k = 9 ∨ k = 10 ∨ k = 11 ∨ k = 12 ∨ k = 13 ∨ k = 14 ∨ k = 15 from by omega) with rfl | rfl | rfl | rfl | rfl | rfl | rfl | rfl | rfl | rfl | rfl | rfl | rfl | rfl | rfl | rfl <;> rfl
theorem dF (l : List Int) (k : Nat) (x : Int) : (ab l).set k (.int .i64 x) = ab (l.set k x) := by
 simp [ab, List.map_set]
theorem rd_two {l : List UInt8} (k : Nat) (hk : k < 4) : (rd l).getD (4 + k) 0 = num l (4 + 2 * k) := by
 rcases (show k = 0 ∨ k = 1 ∨ k = 2 ∨ k = 3 from by omega) with rfl | rfl | rfl | rfl <;> rfl
theorem rd_fds {l : List UInt8} (h : l.length = 24) (k : Nat) (hk : k < 8) : (rd l).getD (8 + k) 0 = ((l.getD (12 + k) 0).toNat : Int) := by
 obtain ⟨x0, x1, x2, x3, x4, x5, x6, x7, x8, x9, y0, y1, y2, y3, y4, y5, y6, y7, y8, y9, z0, z1, z2, z3, rfl⟩ := split24 h
 rcases (show k = 0 ∨ k = 1 ∨ k = 2 ∨ k = 3 ∨ k = 4 ∨ k = 5 ∨ k = 6 ∨ k = 7 from by omega) with rfl | rfl | rfl | rfl | rfl | rfl | rfl | rfl <;> rfl
theorem rd_wf {l : List UInt8} (h : l.length = 24) : ∀ x ∈ rd l, Wf x := by
 intro x hx
 have hn : ∀ a, Wf (num l a) := fun a => by
  have := cz (l.getD a 0)
  have := cz (l.getD (a + 1) 0)
  exact ⟨by unfold num; omega, by unfold num; omega⟩
 have hb : ∀ b : UInt8, Wf ((b.toNat : Int)) := fun b => by
  have := cz b
  exact ⟨by omega, by omega⟩
 unfold rd at hx
 simp only [List.mem_append, List.mem_cons, List.not_mem_nil, or_false, List.mem_map] at hx
 rcases hx with (rfl | rfl | rfl | rfl | rfl | rfl | rfl | rfl) | ⟨b, _, rfl⟩
 ·exact hb _
 ·exact hb _
 ·exact hb _
 ·exact hb _
 ·exact hn _
 ·exact hn _
 ·exact hn _
 ·exact hn _
 ·exact hb _
end Go.Proofs.YtgcikpgcoemfnaaGreat.Cd
namespace Go.Proofs.YtgcikpgcoemfnaaGreat.Fi
open Go.RowKit Cd
def pv (p : List Int) : Value := .agg (ab p).toArray
end Go.Proofs.YtgcikpgcoemfnaaGreat.Fi
namespace Go.Proofs.YtgcikpgcoemfnaaGreat.Fi
open Go.RowKit Cd
theorem bz : (Tryz.prog.info? 64).map (·.size) = some 4 := by kernel_rfl
theorem results_pair {fn : Func} {p u : Tmp} (h : fn.results = #[.cell p 64, .tmp u]) (tmps : Array Value) (w : World) (g : Nat) (q : List Int) (hq : q.length = 4)
  (hp : tmps.getD p undef = .pointer (some ⟨g, 0, none⟩)) (hg : Blk w g 64 (ab q)) (v : Value) (hv : tmps.getD u undef = v) :
  (results fn tmps).run Tryz.prog w = .ok (.tuple #[.agg (ab q).toArray, v]) w := by
 rw [results_cell_tmp h, hp, hv]
 have := run_loadVar_row (P := Tryz.prog) w g 64 64 (ab q).toArray (0, 0) _ hg Tryz.underlying64 rfl (by rw [bz]; simp [hq])
 simp [asAddr, Result.andThen, this]
theorem df (W : World) (l : List UInt8) (cs : List Value) (n c : Nat) (hcs : cs = bytes l) (hn : l.length = n) :
  (convert 28 9 (.slice (some ⟨W.heap.size, 0, none⟩) n c)).run Tryz.prog (W.alloc (.cells cs.toArray 5)) = .ok (.string (str l)) (W.alloc (.cells cs.toArray 5)) := by
 subst hcs
 exact cw (P := Tryz.prog) _ 28 9 5 _ n c _ Tryz.underlying28 Tryz.underlying5 Tryz.underlying9 (aj (Blk.new W 5 (bytes l)) (by rw [am, hn]))
theorem gC (l : List UInt8) : (str l).toList = l := by
 rw [ByteArray.toList_eq]; simp [str]
theorem eH (n : Int) : IntKind.u8.wrap n = ((byt n).toNat : Int) := by
 rw [byt, cj, IntKind.wrap_u8']
section
variable {ρ : Operand → Value} {o : Oper} {x y : Operand} {w : World} {g : Nat} {q old : List Int}
theorem aG (ho : o.op = .load 64 x) (hx : ρ x = .pointer (some ⟨g, 0, none⟩)) (hq : q.length = 4) (hb : Blk w g 64 (ab q)) : (execOp ρ o).run Tryz.prog w = .ok (.value (.agg (ab q).toArray)) w := by
 have := run_loadVar_row (P := Tryz.prog) w g 64 64 (ab q).toArray (0, 0) _ hb Tryz.underlying64 rfl (by rw [bz]; simp [hq])
 simp [execOp, ho, hx, Instr.loadAt, Instr.sureAddr, this, Result.andThen]
theorem ea (ho : o.op = .store 64 x y) (hx : ρ x = .pointer (some ⟨g, 0, none⟩)) (hy : ρ y = .agg (ab q).toArray) (hq : q.length = 4) (hd : old.length = 4) (hb : Blk w g 64 (ab old)) :
  (execOp ρ o).run Tryz.prog w = .ok .skip (w.setRow g (ab q).toArray) := by
 have := run_storeVar_row (P := Tryz.prog) w g 64 64 (ab old).toArray (ab q).toArray hb (by rw [bz]; simp [hq]) (by simp [hq, hd]) (by rw [Array.all_eq_true_iff_forall_mem]; intro v hv; exact dz q v (by simpa using hv))
 simp [execOp, ho, hx, hy, Instr.storeAt, Instr.sureAddr, this, Result.andThen]
theorem aU {a : Act} {K : Act → World → Prop} {Q : Exit → Act → World → Prop} (ho : o.op = .store 64 x y) (hx : a.eval x = .pointer (some ⟨g, 0, none⟩)) (hy : a.eval y = .agg (ab q).toArray) (hq : q.length = 4) (hd : old.length = 4) (hb : Blk w g 64 (ab old))
  (h : K (a.put o.dst undef) (w.setRow g (ab q).toArray)) : Oper.wp Tryz.prog o a w K Q := by
 unfold Oper.wp
 rw [ea ho hx hy hq hd hb]
 exact h
end
section
variable {ops : Array Oper} {rest : List Oper} {o : Oper} {a : Act} {Q : Exit → Act → World → Prop} {w : World}
theorem wpList_st (hgd : o.guard = none) (x y : Operand) (ho : o.op = .store 64 x y) (g : Nat) (q old : List Int) (hx : a.eval x = .pointer (some ⟨g, 0, none⟩)) (hy : a.eval y = .agg (ab q).toArray) (hq : q.length = 4) (hd : old.length = 4) (hb : Blk w g 64 (ab old))
  (h : ∀ w', Blk w' g 64 (ab q) → Keep (· = g) w w' → w'.heap.size = w.heap.size → wpList Tryz.prog ops Q rest (a.put o.dst undef) w') : wpList Tryz.prog ops Q (o :: rest) a w := by
 refine wpList_plain hgd fun K hK => ?_
 have hrun := run_storeVar_row (P := Tryz.prog) w g 64 64 (ab old).toArray (ab q).toArray hb (by rw [bz]; simp [hq]) (by simp [hq, hd]) (by rw [Array.all_eq_true_iff_forall_mem]; intro v hv; exact dz q v (by simpa using hv))
 have hh := h (w.setRow g (ab q).toArray) (hb.setRow _) ((Keep.refl _ w).setRow g _ (fun _ => rfl)) (by simp)
 unfold Oper.wp
 simp [execOp, ho, hx, hy, Instr.storeAt, Instr.sureAddr, hrun, Result.andThen]
 exact hK _ _ hh
theorem wpList_ld (hgd : o.guard = none) (x : Operand) (ho : o.op = .load 64 x) (g : Nat) (q : List Int) (hx : a.eval x = .pointer (some ⟨g, 0, none⟩)) (hq : q.length = 4) (hb : Blk w g 64 (ab q))
  (h : wpList Tryz.prog ops Q rest (a.put o.dst (.agg (ab q).toArray)) w) : wpList Tryz.prog ops Q (o :: rest) a w := by
 refine wpList_plain hgd fun K hK => ?_
 have hrun := run_loadVar_row (P := Tryz.prog) w g 64 64 (ab q).toArray (0, 0) _ hb Tryz.underlying64 rfl (by rw [bz]; simp [hq])
 unfold Oper.wp
 simp [execOp, ho, hx, Instr.loadAt, Instr.sureAddr, hrun, Result.andThen]
 exact hK _ _ h
end
theorem aW {w : World} {g n : Nat} {l : List UInt8} (hr : ae w (some ⟨g, 0, none⟩) n (bytes l)) {k : Nat} (hk : k < n) : w.cell? ⟨g, k, none⟩ = some (.int .u8 ((l.getD k 0).toNat : Int)) := by
 have hl : l.length = n := by simpa using hr.1
 obtain ⟨ad, h1, h2⟩ := hr.2 (by omega)
 cases h1
 have := h2 k _ (aB (by omega))
 rwa [cR, Nat.zero_add] at this
theorem fR (A B : Option Addr) (n m c d : Nat) (x y : List UInt8) (w : World) (hx : ae w A n (bytes x)) (hy : ae w B m (bytes y)) (v : Bool) (hv : (x == y) = v) :
  Calls Tryz.prog 292 #[.slice A n c, .slice B m d] w fun e w' => e = .returned (.bool v) ∧ w = w' := by
 have s1 := fun c => cw (P := Tryz.prog) w 28 9 5 A n c x Tryz.underlying28 Tryz.underlying5 Tryz.underlying9 hx
 have s2 := fun c => cw (P := Tryz.prog) w 28 9 5 B m c y Tryz.underlying28 Tryz.underlying5 Tryz.underlying9 hy
 have s3 : ((str x).toList == (str y).toList) = v := by rw [gC, gC, hv]
 clear hv hx hy
 generalize str x = X at *
 generalize str y = Y at *
 go_enter Tryz.func292, Tryz.ntmps292
 go_wp2
 go_ret
 exact ⟨rfl, rfl⟩
end Go.Proofs.YtgcikpgcoemfnaaGreat.Fi
