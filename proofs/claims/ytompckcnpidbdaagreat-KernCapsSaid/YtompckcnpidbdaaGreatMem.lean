/- Contracts of package mem (layer 1): what each call answers, and what becomes of the two blocks that make a Mem. -/
import Derived.Test.YtompckcnpidbdaaGreatRows
import Derived.Test.YtompckcnpidbdaaGreatBase
import Derived.Deep.QuietTactic
import Derived.BigQuiet
import Derived.WalkLawsBesides
import Derived.Outline
namespace Go.Proofs.YtompckcnpidbdaaGreat
open Go.RowKit
set_option linter.unusedVariables false
set_option linter.unusedSimpArgs false

/-- p points at a Mem with the bytes xs, which lie in block r. -/
structure IsMem (w : World) (p r : Nat) (xs : List UInt8) : Prop where
  obj : Blk w p 128 [.slice (some ⟨r, 0, none⟩) xs.length xs.length]
  row : Blk w r 5 (bytes xs)
  len : xs.length ≤ 16384
theorem IsMem.cell {w : World} {p r : Nat} {xs : List UInt8} (h : IsMem w p r xs) : w.cell? ⟨p, 0, none⟩ = some (.slice (some ⟨r, 0, none⟩) xs.length xs.length) := h.obj.cell 0
theorem IsMem.keep {M : Nat → Prop} {w w' : World} {p r : Nat} {xs : List UInt8} (h : IsMem w p r xs) (k : Keep M w w') (hp : ¬ M p) (hr : ¬ M r) : IsMem w' p r xs := ⟨h.obj.keep k hp, h.row.keep k hr, h.len⟩
theorem IsMem.ne_ {w : World} {p r : Nat} {xs : List UInt8} (h : IsMem w p r xs) : p ≠ r := h.obj.ne_ h.row (by decide)
theorem Tryz.info5 : (Tryz.prog.info? 5).map (fun i => (i.zero, i.size, i.bytes)) = some (some (.int .u8 0), 1, 1) := by kernel_rfl
theorem Tryz.size5 : (Tryz.prog.info? 5).map (·.size) = some 1 := by kernel_rfl

set_option maxHeartbeats 400000 in
theorem has_yes (p : Nat) (a : Option Addr) (len cap : Nat) (at' n : Int) (w : World) (hl : len ≤ 16384) (hc : w.cell? ⟨p, 0, none⟩ = some (.slice a len cap)) (h : 0 ≤ at' ∧ 0 ≤ n ∧ at' + n ≤ len) :
    Calls Tryz.prog 83 #[.pointer (some ⟨p, 0, none⟩), .int .i64 at', .int .i64 n] w fun e w' => e = .returned (.bool true) ∧ w = w' := by
  obtain ⟨h0, h1, h2⟩ := h
  have h3 : at' ≤ len := by omega
  have h4 : n ≤ len - at' := by omega
  go_enter Tryz.func83, Tryz.ntmps83
  go_wp2
  go_ret
  exact ⟨by simp [*], rfl⟩
set_option maxHeartbeats 400000 in
theorem has_no (p : Nat) (a : Option Addr) (len cap : Nat) (at' n : Int) (w : World) (hl : len ≤ 16384) (hc : w.cell? ⟨p, 0, none⟩ = some (.slice a len cap)) (h : ¬ (0 ≤ at' ∧ 0 ≤ n ∧ at' + n ≤ len)) :
    Calls Tryz.prog 83 #[.pointer (some ⟨p, 0, none⟩), .int .i64 at', .int .i64 n] w fun e w' => e = .returned (.bool false) ∧ w = w' := by
  have H := Lib.hid h
  clear h
  go_enter Tryz.func83, Tryz.ntmps83
  go_wp2
  all_goals (go_ret; exact ⟨by have := H.out; simp; try omega, rfl⟩)

/-- k frames of 64 bytes, all 0. -/
def zeros (k : Nat) : List UInt8 := List.replicate (64 * k) 0
theorem zeros_len (k : Nat) : (zeros k).length = 64 * k := by simp [zeros]
def Made (k : Nat) (w : World) (e : Ending) (w' : World) : Prop := ∃ p r, e = .returned (.pointer (some ⟨p, 0, none⟩)) ∧ IsMem w' p r (zeros k) ∧ w.heap.size ≤ p ∧ w.heap.size ≤ r ∧ Keep Nob w w'
theorem made_of (k : Nat) (hk : k ≤ 256) (w : World) :
    Made k w (.returned (.pointer (some ⟨w.heap.size + 1, 0, none⟩))) ((w.alloc (.cells (madeCells #[.int .u8 0] (64 * k)) 5)).alloc (.cells #[.slice (some ⟨w.heap.size, 0, none⟩) (64 * k) (64 * k)] 128)) := by
  refine ⟨w.heap.size + 1, w.heap.size, rfl, ⟨?_, ?_, by simp [zeros]; omega⟩, by omega, by omega, ((Keep.refl _ w).alloc _).alloc _⟩
  · rw [zeros_len]
    have := Blk.new (w.alloc (.cells (madeCells #[.int .u8 0] (64 * k)) 5)) 128 [.slice (some ⟨w.heap.size, 0, none⟩) (64 * k) (64 * k)]
    simpa using this
  · refine Blk.alloc ?_ _
    have := Blk.new w 5 (madeCells #[.int .u8 0] (64 * k)).toList
    rw [Array.toArray_toList, toList_madeCells_one] at this
    rw [zeros, bytes_replicate]
    exact this
set_option maxHeartbeats 400000 in
theorem new_low (n : Int) (w : World) (h : n < 0) : Calls Tryz.prog 27 #[.int .i64 n] w (Made 0 w) := by
  have hm : ∀ wx : World, (Instr.makeSlice 33 (.int .i64 0) (.int .i64 0)).run Tryz.prog wx = _ := fun wx => run_make_row' (P := Tryz.prog) 33 5 (.int .u8 0) 1 Tryz.underlying33 Tryz.info5 rfl .i64 .i64 0 (by omega) (by omega) wx
  have fin := made_of 0 (by omega) w
  go_enter Tryz.func27, Tryz.ntmps27
  go_wp2
  go_ret
  exact fin
set_option maxHeartbeats 400000 in
theorem new_mid (n : Nat) (w : World) (h : n ≤ 256) : Calls Tryz.prog 27 #[.int .i64 n] w (Made n w) := by
  have hm := fun wx => run_make_row' (P := Tryz.prog) 33 5 (.int .u8 0) 1 Tryz.underlying33 Tryz.info5 rfl .i64 .i64 (64 * n) (by omega) (by omega) wx
  have e1 : (((64 * n : Nat)) : Int) = (n : Int) * 64 := by omega
  rw [e1] at hm
  clear e1
  have fin := made_of n h w
  go_enter Tryz.func27, Tryz.ntmps27
  go_wp2
  go_ret
  exact fin
set_option maxHeartbeats 400000 in
theorem new_high (n : Int) (w : World) (h : 256 < n) : Calls Tryz.prog 27 #[.int .i64 n] w (Made 256 w) := by
  have hm : ∀ wx : World, (Instr.makeSlice 33 (.int .i64 16384) (.int .i64 16384)).run Tryz.prog wx = _ := fun wx => run_make_row' (P := Tryz.prog) 33 5 (.int .u8 0) 1 Tryz.underlying33 Tryz.info5 rfl .i64 .i64 16384 (by omega) (by omega) wx
  have fin := made_of 256 (by omega) w
  go_enter Tryz.func27, Tryz.ntmps27
  go_wp2
  go_ret
  exact fin
/-- mem.New: as many frames as are told, below 0 as 0, above 256 as that. -/
theorem new_any (n : Int) (w : World) : Calls Tryz.prog 27 #[.int .i64 n] w (Made (min (max n 0) 256).toNat w) := by
  rcases (show n < 0 ∨ 256 < n ∨ (0 ≤ n ∧ n ≤ 256) from by omega) with h | h | ⟨h, h'⟩
  · rw [show (min (max n 0) 256).toNat = 0 from by omega]; exact new_low n w h
  · rw [show (min (max n 0) 256).toNat = 256 from by omega]; exact new_high n w h
  · obtain ⟨k, rfl⟩ := Int.eq_ofNat_of_zero_le h
    rw [show (min (max (k : Int) 0) 256).toNat = k from by omega]; exact new_mid k w (by omega)

def GotBytes (xs : List UInt8) (w : World) (e : Ending) (w' : World) : Prop := ∃ g, e = .returned (.tuple #[.slice (some ⟨g, 0, none⟩) xs.length xs.length, .int .i64 0]) ∧ Blk w' g 5 (bytes xs) ∧ w.heap.size ≤ g ∧ Keep Nob w w'
set_option maxHeartbeats 400000 in
theorem load_yes (p r at' n : Nat) (xs : List UInt8) (w : World) (h : IsMem w p r xs) (h1 : at' + n ≤ xs.length) :
    Calls Tryz.prog 60 #[.pointer (some ⟨p, 0, none⟩), .int .i64 at', .int .i64 n] w (GotBytes ((xs.drop at').take n) w) := by
  have hc := h.cell
  have hl := h.len
  have hn : (n : Int) ≤ (xs.length : Int) - (at' : Int) := by omega
  have ha : at' ≤ xs.length := by omega
  have fin : ∀ w1 w2 : World, Keep Nob w w1 → w1.heap.size = w.heap.size + 1 → Blk w2 w.heap.size 5 (splice (List.replicate n (Value.int .u8 0)) 0 ((((bytes xs).drop at').take (xs.length - at')).take n)) → Keep (· = w.heap.size) w1 w2 →
      GotBytes ((xs.drop at').take n) w (.returned (.tuple #[.slice (some ⟨w.heap.size, 0, none⟩) n n, .int .i64 0])) w2 := by
    intro w1 w2 k1 hs b2 k2
    have e : ((xs.drop at').take n).length = n := by simp; omega
    refine ⟨w.heap.size, by rw [e], ?_, Nat.le_refl _, k1.trans k2 (fun k hk e => by omega)⟩
    have e2 : splice (List.replicate n (Value.int .u8 0)) 0 ((((bytes xs).drop at').take (xs.length - at')).take n) = bytes ((xs.drop at').take n) := by
      rw [List.take_take, Nat.min_eq_left (by omega)]
      have : (((bytes xs).drop at').take n).length = n := by simp; omega
      rw [splice, this]
      simp [bytes_take, bytes_drop]
    rw [e2] at b2
    exact b2
  go_enter Tryz.func60, Tryz.ntmps60
  go_wp2_with (first | (go_at_call 83; refine (has_yes _ _ _ _ _ _ _ hl hc (by omega)).mono ?_; rintro e w' ⟨rfl, rfl⟩) | (refine wpList_mk rfl _ _ 33 rfl 5 (.int .u8 0) 1 Tryz.underlying33 Tryz.info5 rfl .i64 .i64 n _ rfl rfl rfl (by omega) (by omega) ?_; intro w1 hb1 hk1 hs1; have hm1 := h.keep hk1 (fun f => f) (fun f => f); have hc1 := hm1.cell) | (refine wpList_cut_l rfl 33 _ _ rfl 5 1 Tryz.underlying33 Tryz.size5 _ _ _ at' .i64 rfl rfl ha ?_; intro A' hA'; have hR : Reads w1 A' (xs.length - at') (((bytes xs).drop at').take (xs.length - at')) := Reads.of_blk (off := at') hm1.row (fun h0 => by rw [hA' (by omega)]; simp [add_lit]) (by simp; omega)) | (refine wpList_cp rfl _ _ 33 33 rfl 5 Tryz.underlying33 Tryz.size5 _ _ _ _ _ _ rfl rfl w.heap.size 0 _ 5 hb1 _ hR (fun _ => rfl) (by simp) (fun v hv => bytes_one _ v (List.mem_of_mem_drop (List.mem_of_mem_take hv))) ?_; intro w2 hb2 hk2 hs2))
  go_ret2
  exact fin w1 w2 hk1 hs1 hb2 hk2
set_option maxHeartbeats 400000 in
theorem load_no (p r : Nat) (at' n : Int) (xs : List UInt8) (w : World) (h : IsMem w p r xs) (h1 : ¬ (0 ≤ at' ∧ 0 ≤ n ∧ at' + n ≤ xs.length)) :
    Calls Tryz.prog 60 #[.pointer (some ⟨p, 0, none⟩), .int .i64 at', .int .i64 n] w fun e w' => e = .returned (.tuple #[.slice none 0 0, .int .i64 1]) ∧ w = w' := by
  have hc := h.cell
  have hl := h.len
  have H1 := Lib.hid h1
  clear h1
  go_enter Tryz.func60, Tryz.ntmps60
  go_wp2_with (first | (go_at_call 83; refine (has_no _ _ _ _ _ _ _ hl hc H1.out).mono ?_; rintro e w' ⟨rfl, rfl⟩))
  go_ret2
  exact ⟨rfl, rfl⟩

def Stored (p r at' : Nat) (xs bs : List UInt8) (w : World) (e : Ending) (w' : World) : Prop := e = .returned (.int .i64 0) ∧ IsMem w' p r (splice xs at' bs) ∧ Keep (· = r) w w' ∧ w'.heap.size = w.heap.size
theorem splice_len (xs bs : List UInt8) (at' : Nat) (h : at' + bs.length ≤ xs.length) : (splice xs at' bs).length = xs.length := length_splice xs at' bs h
set_option maxHeartbeats 400000 in
theorem store_yes (p r at' n cap : Nat) (A : Option Addr) (xs bs : List UInt8) (w : World) (h : IsMem w p r xs) (hn : bs.length = n) (hb : Reads w A n (bytes bs)) (h1 : at' + n ≤ xs.length) :
    Calls Tryz.prog 61 #[.pointer (some ⟨p, 0, none⟩), .int .i64 at', .slice A n cap] w (Stored p r at' xs bs w) := by
  have hc := h.cell
  have hl := h.len
  have hn' : (n : Int) ≤ (xs.length : Int) - (at' : Int) := by omega
  have ha : at' ≤ xs.length := by omega
  have fin : ∀ w2 : World, w2.heap.size = w.heap.size → Blk w2 r 5 (splice (bytes xs) at' ((bytes bs).take (xs.length - at'))) → Keep (· = r) w w2 → Stored p r at' xs bs w (.returned (.int .i64 0)) w2 := by
    intro w2 hs b2 k2
    have e : (bytes bs).take (xs.length - at') = bytes bs := List.take_of_length_le (by simp; omega)
    rw [e, splice_bytes] at b2
    have e2 := splice_len xs bs at' (by omega)
    have hp := h.obj.keep k2 h.ne_
    exact ⟨rfl, ⟨by rw [e2]; exact hp, b2, by rw [e2]; exact hl⟩, k2, hs⟩
  have HN := Lib.hid hn
  clear hn
  go_enter Tryz.func61, Tryz.ntmps61
  go_wp2_with (first | (go_at_call 83; refine (has_yes _ _ _ _ _ _ _ hl hc (by omega)).mono ?_; rintro e w' ⟨rfl, rfl⟩) | (refine wpList_cut_l rfl 33 _ _ rfl 5 1 Tryz.underlying33 Tryz.size5 _ _ _ at' .i64 rfl rfl ha ?_; intro A' hA'; have hA2 : 0 < xs.length - at' → A' = some ⟨r, at', none⟩ := fun h0 => by rw [hA' (by omega)]; simp [add_lit]) | (refine wpList_cp rfl _ _ 33 33 rfl 5 Tryz.underlying33 Tryz.size5 _ _ _ _ _ _ rfl rfl r at' _ 5 h.row _ hb hA2 (by simp; omega) (bytes_one _) ?_; intro w2 hb2 hk2 hs2))
  go_ret
  exact fin w2 hs2 hb2 hk2
set_option maxHeartbeats 400000 in
theorem store_no (p r : Nat) (at' : Int) (n cap : Nat) (A : Option Addr) (xs : List UInt8) (w : World) (h : IsMem w p r xs) (h1 : ¬ (0 ≤ at' ∧ at' + n ≤ xs.length)) :
    Calls Tryz.prog 61 #[.pointer (some ⟨p, 0, none⟩), .int .i64 at', .slice A n cap] w fun e w' => e = .returned (.int .i64 1) ∧ w = w' := by
  have hc := h.cell
  have hl := h.len
  have H1 := Lib.hid h1
  clear h1
  go_enter Tryz.func61, Tryz.ntmps61
  go_wp2_with (first | (go_at_call 83; refine (has_no _ _ _ _ _ _ _ hl hc (by have := H1.out; omega)).mono ?_; rintro e w' ⟨rfl, rfl⟩))
  go_ret
  exact ⟨rfl, rfl⟩
theorem size_any (p r : Nat) (xs : List UInt8) (w : World) (h : IsMem w p r xs) :
    Calls Tryz.prog 79 #[.pointer (some ⟨p, 0, none⟩)] w fun e w' => e = .returned (.int .i64 xs.length) ∧ w = w' := by
  have hc := h.cell
  go_enter Tryz.func79, Tryz.ntmps79
  go_wp2
  go_ret
  exact ⟨rfl, rfl⟩
theorem wrap_small_u32 (n : Int) (h₀ : 0 ≤ n) (h₁ : n < 2 ^ 32) : IntKind.u32.wrap n = n := by
  have : IntKind.u32.wrap n = n % 4294967296 := by simp [IntKind.wrap, IntKind.bits, IntKind.signed]
  rw [this]; omega
theorem or_u32 (i : Nat) (x y : Int) (hx0 : 0 ≤ x) (hx : x % 2 ^ i = 0) (hx1 : x < 2 ^ 32) (hy0 : 0 ≤ y) (hy : y < 2 ^ i) (hy1 : y < 2 ^ 32) : bits .or .u32 x y = x + y :=
  bits_join .u32 32 (by decide) wrap_small_u32 i x y hx0 hx hx1 hy0 hy hy1
/-- A word is its four bytes, the highest first. -/
def wordOf (a b c d : UInt8) : Int := (a.toNat : Int) * 16777216 + (b.toNat : Int) * 65536 + (c.toNat : Int) * 256 + (d.toNat : Int)
def wordBytes (n : Int) : List UInt8 := [UInt8.ofNat (n / 16777216 % 256).toNat, UInt8.ofNat (n / 65536 % 256).toNat, UInt8.ofNat (n / 256 % 256).toNat, UInt8.ofNat (n % 256).toNat]
theorem byte_back (m : Int) : (((UInt8.ofNat (m % 256).toNat).toNat : Nat) : Int) = m % 256 := by
  have h : (m % 256).toNat < 256 := by omega
  rw [UInt8.toNat_ofNat', Nat.mod_eq_of_lt h]; omega
theorem wordBytes_cells (n : Int) : bytes (wordBytes n) = [.int .u8 (n / 16777216 % 256), .int .u8 (n / 65536 % 256), .int .u8 (n / 256 % 256), .int .u8 (n % 256)] := by
  simp only [wordBytes, bytes, List.map_cons, List.map_nil, byte_back]
theorem u8_lt (a : UInt8) : 0 ≤ (a.toNat : Int) ∧ (a.toNat : Int) < 256 := by have := a.toNat_lt; omega
theorem join_bits (a b c d : UInt8) : bits BinOp.or IntKind.u32 (bits BinOp.or IntKind.u32 (bits BinOp.or IntKind.u32 ((a.toNat : Int) % 4294967296 * 16777216 % 4294967296) ((b.toNat : Int) % 4294967296 * 65536 % 4294967296)) ((c.toNat : Int) % 4294967296 * 256 % 4294967296)) ((d.toNat : Int) % 4294967296) = wordOf a b c d := by
  have ha := u8_lt a
  have hb := u8_lt b
  have hc := u8_lt c
  have hd := u8_lt d
  rw [show (a.toNat : Int) % 4294967296 * 16777216 % 4294967296 = (a.toNat : Int) * 16777216 from by omega, show (b.toNat : Int) % 4294967296 * 65536 % 4294967296 = (b.toNat : Int) * 65536 from by omega,
    show (c.toNat : Int) % 4294967296 * 256 % 4294967296 = (c.toNat : Int) * 256 from by omega, show (d.toNat : Int) % 4294967296 = (d.toNat : Int) from by omega,
    or_u32 24 ((a.toNat : Int) * 16777216) _ (by omega) (by omega) (by omega) (by omega) (by omega) (by omega), or_u32 16 ((a.toNat : Int) * 16777216 + (b.toNat : Int) * 65536) _ (by omega) (by omega) (by omega) (by omega) (by omega) (by omega),
    or_u32 8 ((a.toNat : Int) * 16777216 + (b.toNat : Int) * 65536 + (c.toNat : Int) * 256) _ (by omega) (by omega) (by omega) (by omega) (by omega) (by omega), wordOf]
theorem IsMem.alloc {w : World} {p r : Nat} {xs : List UInt8} (h : IsMem w p r xs) (o : Obj) : IsMem (w.alloc o) p r xs := h.keep ((Keep.refl Nob w).alloc o) (fun f => f) (fun f => f)
theorem IsMem.row_lt {w : World} {p r : Nat} {xs : List UInt8} (h : IsMem w p r xs) : r < w.heap.size := h.row.lt
end Go.Proofs.YtompckcnpidbdaaGreat
