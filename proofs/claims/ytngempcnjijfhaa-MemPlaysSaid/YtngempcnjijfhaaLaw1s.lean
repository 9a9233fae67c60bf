/- The switch in MemPlays: any one step of a script over a Mem and over the document's own bytes is answered alike. -/
import Derived.Test.YtngempcnjijfhaaLaw1b
import Derived.Test.YtngempcnjijfhaaRef1
import Derived.Deep.DeepCutAuto
import Derived.Deep.CutBlock
import Derived.Deep.RegionHeld3
namespace Go.Proofs.Ytngempcnjijfhaa
open Go.RowKit
theorem IsMem.drew {w : World} {p r : Nat} {xs : List UInt8} (h : IsMem w p r xs) : IsMem w.drew p r xs := h.nob (Keep.refl Nob w).drew
theorem Keep.nobdrew (w : World) : Keep Nob w w.drew := (Keep.refl Nob w).drew
theorem rload_is (a n : Int) (q i m z : Nat) (ha : a = i) (hn : n = m) (xs ys : List UInt8) (w : World) (hb : Blk w q 5 (bytes xs)) (hx : xs.length = z) (hz : z ≤ 16384) (h1 : i + m ≤ z) (hy : (xs.drop i).take m = ys) :
    Calls Try.prog 17 #[.slice (some ⟨q, 0, none⟩) z z, .int .i64 a, .int .i64 n] w fun e w' => e = .returned (.tuple #[.string (str ys), .int .i64 0]) ∧ w = w' := by
  subst ha hn hy
  exact rload_yes q i m z xs w hb hx hz h1
theorem take_four (l : List UInt8) (i : Nat) (h : i + 4 ≤ l.length) : (l.drop i).take 4 = [l.getD i 0, l.getD (i + 1) 0, l.getD (i + 2) 0, l.getD (i + 3) 0] := by
  apply List.ext_getElem?
  intro j
  rw [List.getElem?_take, List.getElem?_drop]
  rcases (show j = 0 ∨ j = 1 ∨ j = 2 ∨ j = 3 ∨ 4 ≤ j from by omega) with rfl | rfl | rfl | rfl | hj
  · simp [List.getElem?_eq_getElem (show i < l.length by omega)]
  · simp [List.getElem?_eq_getElem (show i + 1 < l.length by omega)]
  · simp [List.getElem?_eq_getElem (show i + 2 < l.length by omega)]
  · simp [List.getElem?_eq_getElem (show i + 3 < l.length by omega)]
  · rw [if_neg (by omega), List.getElem?_eq_none (by simp; omega)]
theorem splice_zero (ys : List UInt8) (o k : Nat) (h : o + k < ys.length) : (bytes (splice ys o (List.replicate k 0))).set (o + k) (.int .u8 0) = bytes (splice ys o (List.replicate (k + 1) 0)) := by
  have e : (Value.int .u8 0) = (fun b : UInt8 => Value.int .u8 (b.toNat : Int)) 0 := rfl
  unfold bytes
  rw [e, ← List.map_set]
  congr 1
  apply List.ext_getElem?
  intro i
  rw [List.getElem?_set, splice_get _ _ _ (by rw [List.length_replicate]; omega), splice_get _ _ _ (by rw [List.length_replicate]; omega), splice_len _ _ _ (by rw [List.length_replicate]; omega), List.length_replicate, List.length_replicate]
  by_cases hi : o + k = i
  · subst hi
    rw [if_pos rfl, if_pos h, if_pos (by omega), List.getElem?_replicate, if_pos (by omega)]
  · rw [if_neg hi]
    by_cases hin : o ≤ i ∧ i < o + k
    · rw [if_pos hin, if_pos (by omega), List.getElem?_replicate, List.getElem?_replicate, if_pos (by omega), if_pos (by omega)]
    · rw [if_neg hin, if_neg (by omega)]
def pre4 (a b c d : UInt8) : Nat → Int
  | 0 => 0
  | 1 => (a.toNat : Int)
  | 2 => (a.toNat : Int) * 256 + (b.toNat : Int)
  | 3 => (a.toNat : Int) * 65536 + (b.toNat : Int) * 256 + (c.toNat : Int)
  | _ => wordOf a b c d
theorem str_at4 (a b c d : UInt8) : ∀ k (h : k < (str [a, b, c, d]).size), ((str [a, b, c, d])[k]) = [a, b, c, d].getD k 0 := by
  intro k h
  have hk : k < 4 := by simpa [str_size] using h
  match k, hk with
  | 0, _ => rfl
  | 1, _ => rfl
  | 2, _ => rfl
  | 3, _ => rfl
abbrev OpTy : Ty := .pair (.int .i64) (.pair (.int .i64) (.pair (.int .i64) (.pair (.int .u32) (.pair (.sl 1 .byte) .unit))))
theorem op_cells {w : World} {x : OpTy.den} {cs : List Value} (h : Holds w OpTy x cs) :
    ∃ (kind at' n wv : Int) (B : Option Addr) (c : Nat) (bs : List UInt8), cs = [.int .i64 kind, .int .i64 at', .int .i64 n, .int .u32 wv, .slice B bs.length c] ∧ Reads w B bs.length (bytes bs) ∧ (Lit.int .u32 wv).wf = true := by
  obtain ⟨c1, d1, rfl, ⟨rfl, _⟩, c2, d2, rfl, ⟨rfl, _⟩, c3, d3, rfl, ⟨rfl, _⟩, c4, d4, rfl, ⟨rfl, hw⟩, c5, d5, rfl, h5, h6⟩ := h
  simp only [Holds] at h6
  subst h6
  have h5' := h5
  obtain ⟨A, cap, rfl, _⟩ := h5'
  obtain ⟨_, hr, _⟩ := holds_bytes h5
  exact ⟨_, _, _, _, A, cap, _, rfl, hr, hw⟩
theorem Keep.cell_from {w0 w : World} (h : Keep (From w0.heap.size) w0 w) {a : Addr} {v : Value} (hc : w0.cell? a = some v) : w.cell? a = some v := by
  rw [← hc]
  have hlt := block_lt_of_cell hc
  exact World.cell?_of_block (w := w0) (h.block _ hlt (fun m => by have : w0.heap.size ≤ a.block := m; omega))
/-- The block of a number in a function's code. -/
def blkOf (n : Nat) : Code → Option Code
  | .block id c => if id = n then some (.block id c) else blkOf n c
  | .seq a b => match blkOf n a with
    | some c => some c
    | none => blkOf n b
  | .cond _ a b => match blkOf n a with
    | some c => some c
    | none => blkOf n b
  | .loop c => blkOf n c
  | _ => none
noncomputable def sw1 : Code := ((Try.f5.body.bind (blkOf 2)).getD .skip)
def Sw1P (w : World) (p r q f : Nat) (w' : World) : Prop := ∃ ys' : List UInt8, IsMem w' p r ys' ∧ Blk w' q 5 (bytes ys') ∧ ys'.length = 64 * f ∧ Keep (From w.heap.size) w w'
set_option maxRecDepth 1000000 in
def Sw1Rel (w : World) (p r q f go : Nat) (kind : Int) (x1 x2 x3 x7 x23 x24 x25 x26 x27 x28 x29 x30 x31 x32 x33 x34 x35 x36 x37 x38 x39 x40 x41 x42 x43 x44 x45 x46 x47 x48 x49 x50 x51 x52 x53 x54 x55 x56 x57 x58 x59 x60 x61 x62 x63 x64 x65 x66 x67 x68 x69 x230 x231 x232 x233 x234 x235 x236 x237 x238 x239 x240 x241 x242 x243 x244 x245 : Value) (a' : Act) (w' : World) : Prop := ∃ u4 u9 u10 u11 u12 u13 u14 u15 u16 u17 u18 u19 u20 u21 u22 u71 u72 u73 u74 u75 u76 u77 u78 u79 u80 u81 u82 u83 u84 u85 u86 u87 u88 u89 u90 u91 u92 u93 u94 u95 u96 u97 u98 u99 u100 u101 u102 u103 u104 u105 u106 u107 u108 u109 u110 u111 u112 u113 u114 u115 u116 u117 u118 u119 u120 u121 u122 u123 u124 u125 u126 u127 u128 u129 u130 u131 u132 u133 u134 u135 u136 u137 u138 u139 u140 u141 u142 u143 u144 u145 u146 u147 u148 u149 u150 u151 u152 u153 u154 u155 u156 u157 u158 u159 u160 u161 u162 u163 u164 u165 u166 u167 u168 u169 u170 u171 u172 u173 u174 u175 u176 u177 u178 u179 u180 u181 u182 u183 u184 u185 u186 u187 u188 u189 u190 u191 u192 u193 u194 u195 u196 u197 u198 u199 u200 u201 u202 u203 u204 u205 u206 u207 u208 u209 u210 u211 u212 u213 u214 u215 u216 u217 u218 u219 u220 u221 u222 u223 u224 u225 u226 u227 u228 u229 : Value, Sw1P w p r q f w' ∧ a' = ⟨#[.int .i64 f, x1, x2, x3, u4, .pointer (some ⟨p, 0, none⟩), .slice (some ⟨q, 0, none⟩) (64 * f) (64 * f), x7, .pointer (some ⟨go, 0, none⟩), u9, u10, u11, u12, u13, u14, u15, u16, u17, u18, u19, u20, u21, u22, x23, x24, x25, x26, x27, x28, x29, x30, x31, x32, x33, x34, x35, x36, x37, x38, x39, x40, x41, x42, x43, x44, x45, x46, x47, x48, x49, x50, x51, x52, x53, x54, x55, x56, x57, x58, x59, x60, x61, x62, x63, x64, x65, x66, x67, x68, x69, .int .i64 kind, u71, u72, u73, u74, u75, u76, u77, u78, u79, u80, u81, u82, u83, u84, u85, u86, u87, u88, u89, u90, u91, u92, u93, u94, u95, u96, u97, u98, u99, u100, u101, u102, u103, u104, u105, u106, u107, u108, u109, u110, u111, u112, u113, u114, u115, u116, u117, u118, u119, u120, u121, u122, u123, u124, u125, u126, u127, u128, u129, u130, u131, u132, u133, u134, u135, u136, u137, u138, u139, u140, u141, u142, u143, u144, u145, u146, u147, u148, u149, u150, u151, u152, u153, u154, u155, u156, u157, u158, u159, u160, u161, u162, u163, u164, u165, u166, u167, u168, u169, u170, u171, u172, u173, u174, u175, u176, u177, u178, u179, u180, u181, u182, u183, u184, u185, u186, u187, u188, u189, u190, u191, u192, u193, u194, u195, u196, u197, u198, u199, u200, u201, u202, u203, u204, u205, u206, u207, u208, u209, u210, u211, u212, u213, u214, u215, u216, u217, u218, u219, u220, u221, u222, u223, u224, u225, u226, u227, u228, u229, x230, x231, x232, x233, x234, x235, x236, x237, x238, x239, x240, x241, x242, x243, x244, x245], []⟩
end Go.Proofs.Ytngempcnjijfhaa
