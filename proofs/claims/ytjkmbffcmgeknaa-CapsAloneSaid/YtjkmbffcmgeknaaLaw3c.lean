/- The walk of CapsLess: a row of grants, each of the one ahead; one of them revoked. -/
import Derived.Test.YtjkmbffcmgeknaaLaw3b
import Derived.Deep.DeepCutAuto
import Derived.Deep.CutBlock
namespace Go.Proofs.Ytjkmbffcmgeknaa
open Go.RowKit
set_option linter.unusedVariables false
set_option linter.unusedSimpArgs false
/-- The type of a script's steps, as the reader has it. -/
def OpTy3 : Ty := .pair (.int .i64) (.pair (.int .i64) (.pair (.int .i64) (.pair (.int .i64) (.pair (.int .i64) (.pair (.int .i64) (.pair (.pair (.int .i64) (.pair (.int .i64) .unit)) (.pair (.pair (.int .i64) (.pair (.int .i64) (.pair (.int .i64) (.pair (.int .i64) (.pair (.pair (.int .i64) (.pair (.int .i64) .unit)) .unit))))) .unit)))))))
theorem op3_cells {w : World} {x : OpTy3.den} {cs : List Value} (h : Holds w OpTy3 x cs) : ∃ a0 a1 a2 a3 a4 a5 a6 a7 a8 a9 a10 a11 a12 a13 : Int, cs = [.int .i64 a0, .int .i64 a1, .int .i64 a2, .int .i64 a3, .int .i64 a4, .int .i64 a5, .int .i64 a6, .int .i64 a7, .int .i64 a8, .int .i64 a9, .int .i64 a10, .int .i64 a11, .int .i64 a12, .int .i64 a13] := by
  obtain ⟨_, _, rfl, ⟨rfl, _⟩, _, _, rfl, ⟨rfl, _⟩, _, _, rfl, ⟨rfl, _⟩, _, _, rfl, ⟨rfl, _⟩, _, _, rfl, ⟨rfl, _⟩, _, _, rfl, ⟨rfl, _⟩, _, _, rfl, ⟨_, _, rfl, ⟨rfl, _⟩, _, _, rfl, ⟨rfl, _⟩, rfl⟩, _, _, rfl,
    ⟨_, _, rfl, ⟨rfl, _⟩, _, _, rfl, ⟨rfl, _⟩, _, _, rfl, ⟨rfl, _⟩, _, _, rfl, ⟨rfl, _⟩, _, _, rfl, ⟨_, _, rfl, ⟨rfl, _⟩, _, _, rfl, ⟨rfl, _⟩, rfl⟩, rfl⟩, rfl⟩ := h
  exact ⟨_, _, _, _, _, _, _, _, _, _, _, _, _, _, rfl⟩
theorem Sp0.farV {w0 w w' : World} {s B n : Nat} {p r : Nat → Nat} {T : St} {e sz m cap : Nat} {A : Option Addr} {xs : List Value} (h : Sp0 w0 w s B n p r T) (hv : Vec w e sz A m cap xs)
    (h1 : 51 ≠ e) (h2 : 52 ≠ e) (h3 : 66 ≠ e) (h4 : 68 ≠ e) (hA : ∀ g, Own A g → w0.heap.size ≤ g) (k : Keep (Own A) w w') : Sp0 w0 w' s B n p r T := by
  have no : ∀ {g : Nat} {t : TypeId} {cs : List Value}, Blk w g t cs → t ≠ e → ¬ Own A g := fun hb ht ho => by
    obtain ⟨cur, hc⟩ := hv.blk ho
    exact hb.ne_ hc ht rfl
  exact ⟨h.sp.keep k (no h.sp.obj h1) (no h.sp.row h2) (fun i hi => ⟨no (h.sp.tab i hi).obj h3, no (h.sp.tab i hi).row h4⟩), h.inv, h.lor, h.keep.from_ k hA⟩
/-- What a round of CapsLess knows. -/
structure LessAt (w wx : World) (s B : Nat) (p r : Nat → Nat) (T : St) (L : List (Rf × Cp)) (g cap : Nat) : Prop where
  S : Sp0 w wx s B 5 p r T
  ch : Chain T 5 L
  pos : 1 ≤ L.length
  obj : ∀ x ∈ L, x.2.obj = 9
  v : Vec wx 27 2 (some ⟨g, 0, none⟩) L.length cap (refs (L.map (·.1)))
  own : w.heap.size ≤ g
theorem gbit {x : Int} (h : 0 ≤ x ∧ x ≤ 7) (hs : sub 4 x = true) : bits .and .i64 x 4 = 4 := by
  rcases (show x = 0 ∨ x = 1 ∨ x = 2 ∨ x = 3 ∨ x = 4 ∨ x = 5 ∨ x = 6 ∨ x = 7 by omega) with rfl | rfl | rfl | rfl | rfl | rfl | rfl | rfl <;> first | rfl | (exact absurd hs (by decide))
theorem sub_zero {a b : Int} (h : sub a b = true) : bits .andNot .i64 a b = 0 := by
  unfold sub at h
  simpa using h
noncomputable def bd3 : Code := ((Try.f5.body.bind (blkOf 1)).getD .skip)
set_option maxRecDepth 1000000 in
def Bd3Rel (w : World) (s B : Nat) (p r : Nat → Nat) (l n0 c0 b0 off i : Nat) (x1 x2 x3 x6 x7 x20 x21 x22 x23 x24 x25 x26 x27 x28 x29 x30 x31 x32 x33 x34 x35 x36 x37 x38 x39 x40 x41 x42 x43 x44 x45 x46 x47 x48 x49 x50 x51 x159 x160 x161 x162 x163 x164 x165 x166 x167 x168 x169 x170 x171 x172 x173 x174 x175 x176 x177 x178 x179 x180 x181 x182 x183 x184 x185 x186 x187 x188 x189 x190 x191 x192 x193 x194 x195 x196 x197 x198 x199 x200 x201 x202 x203 x204 x205 x206 x207 x208 x209 x210 x211 x212 x213 x214 x215 x216 x217 x218 x219 x220 x221 x222 x223 x224 x225 x226 x227 x228 x229 x230 x231 x232 x233 x234 x235 x236 x237 x238 x239 x240 x241 x242 : Value) (a' : Act) (w' : World) : Prop :=
  ∃ u4 u10 u11 u12 u13 u14 u15 u16 u17 u18 u19 u52 u53 u54 u55 u56 u57 u58 u59 u60 u61 u62 u63 u64 u65 u66 u67 u68 u69 u70 u71 u72 u73 u74 u75 u76 u77 u78 u79 u80 u81 u82 u83 u84 u85 u86 u87 u88 u89 u90 u91 u92 u93 u94 u95 u96 u97 u98 u99 u100 u101 u102 u103 u104 u105 u106 u107 u108 u109 u110 u111 u112 u113 u114 u115 u116 u117 u118 u119 u120 u121 u122 u123 u124 u125 u126 u127 u128 u129 u130 u131 u132 u133 u134 u135 u136 u137 u138 u139 u140 u141 u142 u143 u144 u145 u146 u147 u148 u149 u150 u151 u152 u153 u154 u155 u156 u157 u158 : Value, ∃ (T2 : St) (L2 : List (Rf × Cp)) (g2 cap2 : Nat), L2.length ≤ l + 2 ∧ LessAt w w' s B p r T2 L2 g2 cap2 ∧ a' = ⟨#[.slice (some ⟨b0, off, none⟩) n0 c0, x1, x2, x3, u4, .pointer (some ⟨s, 0, none⟩), x6, x7, .slice (some ⟨g2, 0, none⟩) L2.length cap2, .int .i64 i, u10, u11, u12, u13, u14, u15, u16, u17, u18, u19, x20, x21, x22, x23, x24, x25, x26, x27, x28, x29, x30, x31, x32, x33, x34, x35, x36, x37, x38, x39, x40, x41, x42, x43, x44, x45, x46, x47, x48, x49, x50, x51, u52, u53, u54, u55, u56, u57, u58, u59, u60, u61, u62, u63, u64, u65, u66, u67, u68, u69, u70, u71, u72, u73, u74, u75, u76, u77, u78, u79, u80, u81, u82, u83, u84, u85, u86, u87, u88, u89, u90, u91, u92, u93, u94, u95, u96, u97, u98, u99, u100, u101, u102, u103, u104, u105, u106, u107, u108, u109, u110, u111, u112, u113, u114, u115, u116, u117, u118, u119, u120, u121, u122, u123, u124, u125, u126, u127, u128, u129, u130, u131, u132, u133, u134, u135, u136, u137, u138, u139, u140, u141, u142, u143, u144, u145, u146, u147, u148, u149, u150, u151, u152, u153, u154, u155, u156, u157, u158, x159, x160, x161, x162, x163, x164, x165, x166, x167, x168, x169, x170, x171, x172, x173, x174, x175, x176, x177, x178, x179, x180, x181, x182, x183, x184, x185, x186, x187, x188, x189, x190, x191, x192, x193, x194, x195, x196, x197, x198, x199, x200, x201, x202, x203, x204, x205, x206, x207, x208, x209, x210, x211, x212, x213, x214, x215, x216, x217, x218, x219, x220, x221, x222, x223, x224, x225, x226, x227, x228, x229, x230, x231, x232, x233, x234, x235, x236, x237, x238, x239, x240, x241, x242], []⟩
set_option maxRecDepth 1000000 in
set_option maxHeartbeats 16000000 in
theorem bd3_any (w wr : World) (s B : Nat) (p r : Nat → Nat) (T : St) (L : List (Rf × Cp)) (g cap l n0 c0 b0 off i : Nat) (o0 o1 o2 o3 o4 o5 o6 o7 o8 o9 o10 o11 o12 o13 : Int) (H : LessAt w wr s B p r T L g cap) (hl : L.length = l + 1) (hl2 : l ≤ 30) (hin : i < n0) (f0 : wr.cell? ⟨b0, off + i * 14, none⟩ = some (.int .i64 o0)) (f1 : wr.cell? ⟨b0, off + i * 14 + 1, none⟩ = some (.int .i64 o1)) (f2 : wr.cell? ⟨b0, off + i * 14 + 2, none⟩ = some (.int .i64 o2)) (f3 : wr.cell? ⟨b0, off + i * 14 + 3, none⟩ = some (.int .i64 o3)) (f4 : wr.cell? ⟨b0, off + i * 14 + 4, none⟩ = some (.int .i64 o4)) (f5 : wr.cell? ⟨b0, off + i * 14 + 5, none⟩ = some (.int .i64 o5)) (f6 : wr.cell? ⟨b0, off + i * 14 + 6, none⟩ = some (.int .i64 o6)) (f7 : wr.cell? ⟨b0, off + i * 14 + 7, none⟩ = some (.int .i64 o7)) (f8 : wr.cell? ⟨b0, off + i * 14 + 8, none⟩ = some (.int .i64 o8)) (f9 : wr.cell? ⟨b0, off + i * 14 + 9, none⟩ = some (.int .i64 o9)) (f10 : wr.cell? ⟨b0, off + i * 14 + 10, none⟩ = some (.int .i64 o10)) (f11 : wr.cell? ⟨b0, off + i * 14 + 11, none⟩ = some (.int .i64 o11)) (f12 : wr.cell? ⟨b0, off + i * 14 + 12, none⟩ = some (.int .i64 o12)) (f13 : wr.cell? ⟨b0, off + i * 14 + 13, none⟩ = some (.int .i64 o13))
    (x1 x2 x3 x4 x6 x7 x10 x11 x12 x13 x14 x15 x16 x17 x18 x19 x20 x21 x22 x23 x24 x25 x26 x27 x28 x29 x30 x31 x32 x33 x34 x35 x36 x37 x38 x39 x40 x41 x42 x43 x44 x45 x46 x47 x48 x49 x50 x51 x52 x53 x54 x55 x56 x57 x58 x59 x60 x61 x62 x63 x64 x65 x66 x67 x68 x69 x70 x71 x72 x73 x74 x75 x76 x77 x78 x79 x80 x81 x82 x83 x84 x85 x86 x87 x88 x89 x90 x91 x92 x93 x94 x95 x96 x97 x98 x99 x100 x101 x102 x103 x104 x105 x106 x107 x108 x109 x110 x111 x112 x113 x114 x115 x116 x117 x118 x119 x120 x121 x122 x123 x124 x125 x126 x127 x128 x129 x130 x131 x132 x133 x134 x135 x136 x137 x138 x139 x140 x141 x142 x143 x144 x145 x146 x147 x148 x149 x150 x151 x152 x153 x154 x155 x156 x157 x158 x159 x160 x161 x162 x163 x164 x165 x166 x167 x168 x169 x170 x171 x172 x173 x174 x175 x176 x177 x178 x179 x180 x181 x182 x183 x184 x185 x186 x187 x188 x189 x190 x191 x192 x193 x194 x195 x196 x197 x198 x199 x200 x201 x202 x203 x204 x205 x206 x207 x208 x209 x210 x211 x212 x213 x214 x215 x216 x217 x218 x219 x220 x221 x222 x223 x224 x225 x226 x227 x228 x229 x230 x231 x232 x233 x234 x235 x236 x237 x238 x239 x240 x241 x242 : Value) (Q0 : Exit → Act → World → Prop) (hQ : ∀ a' w', Bd3Rel w s B p r l n0 c0 b0 off i x1 x2 x3 x6 x7 x20 x21 x22 x23 x24 x25 x26 x27 x28 x29 x30 x31 x32 x33 x34 x35 x36 x37 x38 x39 x40 x41 x42 x43 x44 x45 x46 x47 x48 x49 x50 x51 x159 x160 x161 x162 x163 x164 x165 x166 x167 x168 x169 x170 x171 x172 x173 x174 x175 x176 x177 x178 x179 x180 x181 x182 x183 x184 x185 x186 x187 x188 x189 x190 x191 x192 x193 x194 x195 x196 x197 x198 x199 x200 x201 x202 x203 x204 x205 x206 x207 x208 x209 x210 x211 x212 x213 x214 x215 x216 x217 x218 x219 x220 x221 x222 x223 x224 x225 x226 x227 x228 x229 x230 x231 x232 x233 x234 x235 x236 x237 x238 x239 x240 x241 x242 a' w' → Q0 .normal a' w') :
    Code.wp Try.prog bd3 Q0 ⟨#[.slice (some ⟨b0, off, none⟩) n0 c0, x1, x2, x3, x4, .pointer (some ⟨s, 0, none⟩), x6, x7, .slice (some ⟨g, 0, none⟩) (l + 1) cap, .int .i64 i, x10, x11, x12, x13, x14, x15, x16, x17, x18, x19, x20, x21, x22, x23, x24, x25, x26, x27, x28, x29, x30, x31, x32, x33, x34, x35, x36, x37, x38, x39, x40, x41, x42, x43, x44, x45, x46, x47, x48, x49, x50, x51, x52, x53, x54, x55, x56, x57, x58, x59, x60, x61, x62, x63, x64, x65, x66, x67, x68, x69, x70, x71, x72, x73, x74, x75, x76, x77, x78, x79, x80, x81, x82, x83, x84, x85, x86, x87, x88, x89, x90, x91, x92, x93, x94, x95, x96, x97, x98, x99, x100, x101, x102, x103, x104, x105, x106, x107, x108, x109, x110, x111, x112, x113, x114, x115, x116, x117, x118, x119, x120, x121, x122, x123, x124, x125, x126, x127, x128, x129, x130, x131, x132, x133, x134, x135, x136, x137, x138, x139, x140, x141, x142, x143, x144, x145, x146, x147, x148, x149, x150, x151, x152, x153, x154, x155, x156, x157, x158, x159, x160, x161, x162, x163, x164, x165, x166, x167, x168, x169, x170, x171, x172, x173, x174, x175, x176, x177, x178, x179, x180, x181, x182, x183, x184, x185, x186, x187, x188, x189, x190, x191, x192, x193, x194, x195, x196, x197, x198, x199, x200, x201, x202, x203, x204, x205, x206, x207, x208, x209, x210, x211, x212, x213, x214, x215, x216, x217, x218, x219, x220, x221, x222, x223, x224, x225, x226, x227, x228, x229, x230, x231, x232, x233, x234, x235, x236, x237, x238, x239, x240, x241, x242], []⟩ wr := by
  conv => arg 2; whnf
  obtain ⟨⟨⟨xe, xn⟩, ⟨co, cr, cl, cn, ⟨r1, r2⟩⟩⟩, hx⟩ : ∃ x, L[l]? = some x := ⟨_, List.getElem?_eq_getElem (by omega)⟩
  obtain rfl : co = 9 := H.obj _ (List.mem_of_getElem? hx)
  have hxr : (L.map (·.1))[l]? = some (xe, xn) := by rw [List.getElem?_map, hx]; rfl
  obtain ⟨g', hg', e0, e1⟩ := H.v.rf hxr
  cases hg'
  simp only at e0 e1
  have hxc : Has T 5 (xe, xn) ⟨9, cr, cl, cn, (r1, r2)⟩ := (H.ch.has _ _).2 (List.mem_of_getElem? hx)
  have hcap := H.S.inv.cap _ _ hxc
  simp only at hcap
  have hgl := H.v.lt g ⟨_, rfl, rfl⟩
  have HL := Lib.hid hl
  clear hl hxr
  go_wp2_with fail
  have kO := (Keep.refl Nob wr).alloc (.cells #[.int .i64 o0, .int .i64 o1, .int .i64 o2, .int .i64 o3, .int .i64 o4, .int .i64 o5, .int .i64 o6, .int .i64 o7, .int .i64 o8, .int .i64 o9, .int .i64 o10, .int .i64 o11, .int .i64 o12, .int .i64 o13] 31)
  have bO : Blk (wr.alloc (.cells #[.int .i64 o0, .int .i64 o1, .int .i64 o2, .int .i64 o3, .int .i64 o4, .int .i64 o5, .int .i64 o6, .int .i64 o7, .int .i64 o8, .int .i64 o9, .int .i64 o10, .int .i64 o11, .int .i64 o12, .int .i64 o13] 31)) wr.heap.size 31 [.int .i64 o0, .int .i64 o1, .int .i64 o2, .int .i64 o3, .int .i64 o4, .int .i64 o5, .int .i64 o6, .int .i64 o7, .int .i64 o8, .int .i64 o9, .int .i64 o10, .int .i64 o11, .int .i64 o12, .int .i64 o13] := Blk.new wr _ [.int .i64 o0, .int .i64 o1, .int .i64 o2, .int .i64 o3, .int .i64 o4, .int .i64 o5, .int .i64 o6, .int .i64 o7, .int .i64 o8, .int .i64 o9, .int .i64 o10, .int .i64 o11, .int .i64 o12, .int .i64 o13]
  have kP := kO.alloc (.cells #[.int .i64 xe, .int .i64 xn] 27)
  have bO2 := bO.alloc (.cells #[.int .i64 xe, .int .i64 xn] 27)
  have bP : Blk ((wr.alloc (.cells #[.int .i64 o0, .int .i64 o1, .int .i64 o2, .int .i64 o3, .int .i64 o4, .int .i64 o5, .int .i64 o6, .int .i64 o7, .int .i64 o8, .int .i64 o9, .int .i64 o10, .int .i64 o11, .int .i64 o12, .int .i64 o13] 31)).alloc (.cells #[.int .i64 xe, .int .i64 xn] 27)) (wr.heap.size + 1) 27 [.int .i64 xe, .int .i64 xn] := by
    have := Blk.new (wr.alloc (.cells #[.int .i64 o0, .int .i64 o1, .int .i64 o2, .int .i64 o3, .int .i64 o4, .int .i64 o5, .int .i64 o6, .int .i64 o7, .int .i64 o8, .int .i64 o9, .int .i64 o10, .int .i64 o11, .int .i64 o12, .int .i64 o13] 31)) 27 [.int .i64 xe, .int .i64 xn]
    simpa using this
  have SP := H.S.nob kP
  have vP := H.v.nob kP
  refine (SP.get _ hxc).mono ?_; rintro e w3 ⟨rfl, S3, k3⟩
  unfold cval
  go_wp2_with fail
  have kC := (Keep.refl Nob w3).alloc (.cells #[.int .i64 9, .int .i64 cr, .int .i64 cl, .int .i64 cn, .int .i64 r1, .int .i64 r2] 29)
  have bC : Blk (w3.alloc (.cells #[.int .i64 9, .int .i64 cr, .int .i64 cl, .int .i64 cn, .int .i64 r1, .int .i64 r2] 29)) w3.heap.size 29 [.int .i64 9, .int .i64 cr, .int .i64 cl, .int .i64 cn, .int .i64 r1, .int .i64 r2] := Blk.new w3 _ [.int .i64 9, .int .i64 cr, .int .i64 cl, .int .i64 cn, .int .i64 r1, .int .i64 r2]
  have S4 := S3.nob kC
  have v4 := (vP.nob k3).nob kC
  have bO4 := (bO2.nob k3).nob kC
  have bP4 := (bP.nob k3).nob kC
  clear f0 f1 f2 f3 f4 f5 f6 f7 f8 f9 f10 f11 f12 f13 e0 e1 kO bO bO2 bP SP vP S3 k3 kC
  generalize hV : w3.alloc (.cells #[.int .i64 9, .int .i64 cr, .int .i64 cl, .int .i64 cn, .int .i64 r1, .int .i64 r2] 29) = V at bC S4 v4 bO4 bP4 ⊢
  generalize w3.heap.size = gC at bC ⊢
  clear hV
  have q2 := bO4.cell 2
  have q4 := bO4.cell 4
  simp only [List.getElem?_cons_zero, List.getElem?_cons_succ] at q2 q4
  obtain ⟨tv, htv⟩ : ∃ tv : Nat, bits .and .i64 o2 255 = tv := ⟨(o2 % 256).toNat, by rw [i64_and255]; omega⟩
  have hm5 : (tv : Int).tmod 5 = ((tv % 5 : Nat) : Int) := by rw [Int.tmod_eq_emod_of_nonneg (by omega)]; omega
  obtain ⟨lo, hlo⟩ : ∃ lo, bits .and .i64 o4 63 = lo := ⟨_, rfl⟩
  have hlor : 0 ≤ lo ∧ lo ≤ 63 := by rw [← hlo, i64_and63]; omega
  have hf5 : tv % 5 < 5 := Nat.mod_lt _ (by decide)
  generalize tv % 5 = f at hm5 hf5
  go_quiet (fail)
  have kq : Keep Nob V (V.drewN nq) := (Keep.refl Nob V).drewN nq
  have S5 := S4.nob kq
  have v5 := v4.nob kq
  have bO5 := bO4.nob kq
  have bP5 := bP4.nob kq
  have bC5 := bC.nob kq
  clear S4 v4 bO4 bP4 bC q2 q4 htv hm5 hlo kq
  generalize V.drewN nq = V2 at S5 v5 bO5 bP5 bC5 ⊢
  have p0 := bP5.cell 0
  have p1 := bP5.cell 1
  have q3 := bO5.cell 3
  have q5 := bO5.cell 5
  simp only [List.getElem?_cons_zero, List.getElem?_cons_succ] at p0 p1 q3 q5
  obtain ⟨rt, hrt⟩ : ∃ rt, bits .and .i64 o3 7 = rt := ⟨_, rfl⟩
  have hrtr : 0 ≤ rt ∧ rt ≤ 7 := by rw [← hrt, i64_and7]; omega
  obtain ⟨m, hm⟩ : ∃ m, bits .and .i64 o5 1023 = m := ⟨_, rfl⟩
  have hmr : 0 ≤ m ∧ m ≤ 1023 := by rw [← hm, i64_and1023]; omega
  have hown := H.own
  have hpos := H.pos
  go_wp2_with fail
  by_cases hright : sub 4 cr = true ∧ sub rt cr = true
  · obtain ⟨h4, h5⟩ := hright
    by_cases hpart : m ≤ cn ∧ lo ≤ cn - m
    · refine (S5.grant f hf5 _ hxc h4 h5 hrtr (by dsimp only; omega)).mono ?_; rintro e w6 ⟨nm, er, T', rfl, hA, S6, k6⟩
      have v6 := S5.offV v5 (by decide) k6
      rcases hA.has S5.inv hf5 with ⟨rfl, rfl, rfl, _⟩ | ⟨rfl, hnew, hhas⟩
      · clear p0 p1 q3 q5 hrt hm hA h4 h5
        go_wp2_with fail
        exact ⟨_, _, _, _, _, _, _, _, _, _, _, _, _, _, _, _, _, _, _, _, _, _, _, _, _, _, _, _, _, _, _, _, _, _, _, _, _, _, _, _, _, _, _, _, _, _, _, _, _, _, _, _, _, _, _, _, _, _, _, _, _, _, _, _, _, _, _, _, _, _, _, _, _, _, _, _, _, _, _, _, _, _, _, _, _, _, _, _, _, _, _, _, _, _, _, _, _, _, _, _, _, _, _, _, _, _, _, _, _, _, _, _, _, _, _, _, _, _, _, L, g, cap, by have := HL.out; omega, ⟨S6, H.ch, H.pos, H.obj, v6, hown⟩, by rw [HL.out]⟩
      · have bP6 := S5.off bP5 (by decide) k6
        have bC6 := S5.off bC5 (by decide) k6
        have hd : Has T' 5 ((f : Int), nm) ⟨9, rt, cl + lo, m, (xe, xn)⟩ := (hhas _ _).2 (.inr ⟨rfl, rfl⟩)
        have ch' := H.ch.add HL.out hx hnew hhas rfl
        clear p0 p1 q3 q5 hrt hm hA k6 S5 v5 bO5 bP5 bC5
        go_wp2_with fail
        refine (S6.get _ hd).mono ?_; rintro e w7 ⟨rfl, S7, k7⟩
        have v7 := v6.nob k7
        have bP7 := bP6.nob k7
        have bC7 := bC6.nob k7
        unfold cval
        have kD := (Keep.refl Nob w7).alloc (.cells #[.int .i64 9, .int .i64 rt, .int .i64 (cl + lo), .int .i64 m, .int .i64 xe, .int .i64 xn] 29)
        have S8 := S7.nob kD
        have v8 := v7.nob kD
        have bP8 := bP7.nob kD
        have bC8 := bC7.nob kD
        have c0_ := bC8.cell 0
        have c1_ := bC8.cell 1
        have c2_ := bC8.cell 2
        have c3_ := bC8.cell 3
        have p0 := bP8.cell 0
        have p1 := bP8.cell 1
        simp only [List.getElem?_cons_zero, List.getElem?_cons_succ] at p0 p1 c0_ c1_ c2_ c3_
        have z1 := sub_zero h5
        have z2 := gbit ⟨hcap.1, hcap.2.1⟩ h4
        have req : ∀ W, (Op.equalIn 10000 27 (.agg #[.int .i64 xe, .int .i64 xn]) (.agg #[.int .i64 xe, .int .i64 xn])).run Try.prog W = .ok true W := fun W => ref_same 9998 _ _ W
        clear h4 h5 S6 v6 bP6 bC6 S7 v7 bP7 bC7 bP8 bC8 k7
        have hgB : ∀ g', Own (some ⟨g, 0, none⟩) g' → w.heap.size ≤ g' := fun g' ⟨a, ha, hb⟩ => by cases ha; simp at hb; omega
        have v9 := v8.nob ((Keep.refl Nob _).alloc (.cells #[.int .i64 f, .int .i64 nm] 27))
        have S9 := S8.nob ((Keep.refl Nob _).alloc (.cells #[.int .i64 f, .int .i64 nm] 27))
        rw [HL.out] at v9
        have bN : Blk ((w7.alloc (.cells #[.int .i64 9, .int .i64 rt, .int .i64 (cl + lo), .int .i64 m, .int .i64 xe, .int .i64 xn] 29)).alloc (.cells #[.int .i64 f, .int .i64 nm] 27)) (w7.heap.size + 1) 27 [.int .i64 f, .int .i64 nm] := by
          have h9 := Blk.new (w7.alloc (.cells #[.int .i64 9, .int .i64 rt, .int .i64 (cl + lo), .int .i64 m, .int .i64 xe, .int .i64 xn] 29)) 27 [.int .i64 f, .int .i64 nm]
          simpa using h9
        have BN := Lib.hid bN
        clear bN v8 S8
        go_wp2_with (at_builtin; go_loud (refine wpList_ap rfl _ _ 43 rfl 27 2 16 (.agg #[.int .i64 0, .int .i64 0]) Try.underlying43 infoRef rfl (by decide) (some ⟨g, 0, none⟩) (l + 1) cap _ rfl v9 (some ⟨w7.heap.size + 1, 0, none⟩) 1 1 [.int .i64 f, .int .i64 nm] rfl 2 rfl (reads_all BN.out rfl) (by simp [Value.oneCell']) (by unfold maxLen; omega) (by omega) ?_); intro A2 c2 w10 hv2 hk2 ho2)
        have hlt9 := v9.lt g ⟨_, rfl, rfl⟩
        have hks := S9.keep.size
        obtain ⟨g2, _, hA2, _⟩ := hv2.at_ (Nat.succ_pos _)
        subst hA2
        have hg2 : w.heap.size ≤ g2 := by
          rcases ho2 g2 ⟨_, rfl, rfl⟩ with ⟨a, ha, hb2⟩ | h1
          · cases ha; simp at hb2; omega
          · rw [h1]; exact hks
        have S10 := S9.farV v9 (by decide) (by decide) (by decide) (by decide) hgB hk2
        have hv10 : Vec w10 27 2 (some ⟨g2, 0, none⟩) (L ++ [(((f : Int), nm), (⟨9, rt, cl + lo, m, (xe, xn)⟩ : Cp))]).length c2 (refs ((L ++ [(((f : Int), nm), (⟨9, rt, cl + lo, m, (xe, xn)⟩ : Cp))]).map (·.1))) := by
          rw [List.length_append, List.map_append, refs_append, HL.out]
          exact hv2
        exact ⟨_, _, _, _, _, _, _, _, _, _, _, _, _, _, _, _, _, _, _, _, _, _, _, _, _, _, _, _, _, _, _, _, _, _, _, _, _, _, _, _, _, _, _, _, _, _, _, _, _, _, _, _, _, _, _, _, _, _, _, _, _, _, _, _, _, _, _, _, _, _, _, _, _, _, _, _, _, _, _, _, _, _, _, _, _, _, _, _, _, _, _, _, _, _, _, _, _, _, _, _, _, _, _, _, _, _, _, _, _, _, _, _, _, _, _, _, _, _, T', _, g2, c2, by have := HL.out; simp; omega, ⟨S10, ch', by simp, fun y hy => by
          rcases List.mem_append.1 hy with hy | hy
          · exact H.obj y hy
          · simp at hy; rw [hy], hv10, hg2⟩, by rw [List.length_append, HL.out]; rfl⟩
    · refine (S5.grant_nopart _ hxc h4 h5 (fun ⟨_, _, _, _, q1, q2⟩ => hpart ⟨q1, q2⟩)).mono ?_; rintro e w6 ⟨rfl, S6, k6⟩
      have v6 := v5.nob k6
      clear p0 p1 q3 q5 hrt hm h4 h5
      go_wp2_with fail
      exact ⟨_, _, _, _, _, _, _, _, _, _, _, _, _, _, _, _, _, _, _, _, _, _, _, _, _, _, _, _, _, _, _, _, _, _, _, _, _, _, _, _, _, _, _, _, _, _, _, _, _, _, _, _, _, _, _, _, _, _, _, _, _, _, _, _, _, _, _, _, _, _, _, _, _, _, _, _, _, _, _, _, _, _, _, _, _, _, _, _, _, _, _, _, _, _, _, _, _, _, _, _, _, _, _, _, _, _, _, _, _, _, _, _, _, _, _, _, _, _, T, L, g, cap, by have := HL.out; omega, ⟨S6, H.ch, H.pos, H.obj, v6, hown⟩, by rw [HL.out]⟩
  · refine (S5.grant_noright _ hxc hright).mono ?_; rintro e w6 ⟨rfl, S6, k6⟩
    have v6 := v5.nob k6
    clear p0 p1 q3 q5 hrt hm hright
    go_wp2_with fail
    exact ⟨_, _, _, _, _, _, _, _, _, _, _, _, _, _, _, _, _, _, _, _, _, _, _, _, _, _, _, _, _, _, _, _, _, _, _, _, _, _, _, _, _, _, _, _, _, _, _, _, _, _, _, _, _, _, _, _, _, _, _, _, _, _, _, _, _, _, _, _, _, _, _, _, _, _, _, _, _, _, _, _, _, _, _, _, _, _, _, _, _, _, _, _, _, _, _, _, _, _, _, _, _, _, _, _, _, _, _, _, _, _, _, _, _, _, _, _, _, _, T, L, g, cap, by have := HL.out; omega, ⟨S6, H.ch, H.pos, H.obj, v6, hown⟩, by rw [HL.out]⟩
end Go.Proofs.Ytjkmbffcmgeknaa
