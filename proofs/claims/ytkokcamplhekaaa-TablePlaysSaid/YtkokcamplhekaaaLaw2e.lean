/- TablePlays: one step of a script, whole. -/
import Derived.Test.YtkokcamplhekaaaLaw2s0
import Derived.Test.YtkokcamplhekaaaLaw2s1
import Derived.Test.YtkokcamplhekaaaLaw2s2
import Derived.Test.YtkokcamplhekaaaLaw2s3
namespace Go.Proofs.Ytkokcamplhekaaa
open Go.RowKit
set_option maxRecDepth 1000000 in
theorem sw2_any (w W0 : World) (n p1 r1 p2 r2 q : Nat) (A : Option Addr) (cA gv : Nat) (B : Option Addr) (cB k : Nat) (g : Nat → Nat) (o : Nat → Bool) (y : Nat → Int) (all : List Int) (go : Nat) (kind opH opR opV nm : Int) (th : Bool) (hn : n ≤ 256) (hr1 : w.heap.size ≤ r1) (hr2 : w.heap.size ≤ r2) (hA : ∀ b, Own A b → w.heap.size ≤ b) (hgv : w.heap.size ≤ gv)
    (h : PS w W0 n p1 r1 p2 r2 q A cA gv B cB k g o y all) (hB : ∀ b, Own B b → gv < b) (hk : k ≤ 100) (hop : Blk W0 go 48 [.int .i64 kind, .int .i64 opH, .int .i64 opR, .int .i64 opV]) (hth : Th n g o nm th)
    (x0 x1 x2 x3 x4 x10 x14 x15 x16 x17 x18 x19 x20 x21 x22 x23 x24 x25 x26 x27 x28 x29 x30 x31 x32 x33 x34 x35 x36 x37 x38 x39 x40 x41 x42 x43 x44 x45 x46 x47 x48 x49 x50 x51 x52 x53 x54 x55 x56 x57 x58 x59 x60 x61 x62 x63 x64 x65 x66 x67 x68 x69 x70 x71 x72 x73 x74 x75 x76 x77 x78 x79 x80 x81 x82 x83 x85 x86 x87 x88 x89 x90 x91 x92 x93 x94 x95 x96 x97 x98 x99 x100 x101 x102 x103 x104 x105 x106 x107 x108 x109 x110 x111 x112 x113 x114 x115 x116 x117 x118 x119 x120 x121 x122 x123 x124 x125 x126 x127 x128 x129 x130 x131 x132 x133 x134 x135 x136 x137 x138 x139 x140 x141 x142 x143 x144 x145 x146 x147 x148 x149 x150 x151 x152 x153 x154 x155 x156 x157 x158 x159 x160 x161 x162 x163 x164 x165 x166 x167 x168 x169 x170 x171 x172 x173 x174 x175 x176 x177 x178 x179 x180 x181 x182 x183 x184 x185 x186 x187 x188 x189 x190 x191 x192 x193 x194 x195 x196 x197 x198 x199 x200 x201 x202 x203 x204 x205 x206 x207 x208 x209 x210 x211 x212 x213 x214 x215 x216 x217 x218 x219 x220 x221 x222 x223 x224 x225 x226 x227 x228 x229 x230 x231 x232 x233 x234 x235 x236 x237 x238 x239 x240 x241 x242 x243 x244 x245 x246 x247 x248 x249 x250 x251 x252 x253 x254 x255 x256 x257 x258 x259 x260 x261 x262 x263 x264 : Value) (Q0 : Exit → Act → World → Prop) (hQ : ∀ a' w', Sw2Rel w n p1 r1 p2 r2 q A cA gv k go nm th kind x0 x1 x2 x3 x10 x24 x25 x26 x27 x28 x29 x30 x31 x32 x33 x34 x35 x36 x37 x38 x39 x40 x41 x42 x43 x44 x45 x46 x47 x48 x49 x50 x51 x52 x53 x54 x55 x56 x57 x58 x59 x60 x61 x62 x63 x64 x65 x66 x67 x68 x69 x70 x71 x72 x73 x74 x75 x76 x77 x78 x79 x80 x81 x82 x83 x243 x244 x245 x246 x247 x248 x249 x250 x251 x252 x253 x254 x255 x256 x257 x258 x259 x260 x261 x262 x263 x264 a' w' → Q0 .normal a' w') :
    Code.wp Try.prog sw2 Q0 ⟨#[x0, x1, x2, x3, x4, .pointer (some ⟨p1, 0, none⟩), .pointer (some ⟨p2, 0, none⟩), .pointer (some ⟨q, 0, none⟩), .slice (some ⟨gv, 0, none⟩) 256 256, .slice B all.length cB, x10, .pointer (some ⟨go, 0, none⟩), .int .i64 nm, .bool th, x14, x15, x16, x17, x18, x19, x20, x21, x22, x23, x24, x25, x26, x27, x28, x29, x30, x31, x32, x33, x34, x35, x36, x37, x38, x39, x40, x41, x42, x43, x44, x45, x46, x47, x48, x49, x50, x51, x52, x53, x54, x55, x56, x57, x58, x59, x60, x61, x62, x63, x64, x65, x66, x67, x68, x69, x70, x71, x72, x73, x74, x75, x76, x77, x78, x79, x80, x81, x82, x83, .int .i64 kind, x85, x86, x87, x88, x89, x90, x91, x92, x93, x94, x95, x96, x97, x98, x99, x100, x101, x102, x103, x104, x105, x106, x107, x108, x109, x110, x111, x112, x113, x114, x115, x116, x117, x118, x119, x120, x121, x122, x123, x124, x125, x126, x127, x128, x129, x130, x131, x132, x133, x134, x135, x136, x137, x138, x139, x140, x141, x142, x143, x144, x145, x146, x147, x148, x149, x150, x151, x152, x153, x154, x155, x156, x157, x158, x159, x160, x161, x162, x163, x164, x165, x166, x167, x168, x169, x170, x171, x172, x173, x174, x175, x176, x177, x178, x179, x180, x181, x182, x183, x184, x185, x186, x187, x188, x189, x190, x191, x192, x193, x194, x195, x196, x197, x198, x199, x200, x201, x202, x203, x204, x205, x206, x207, x208, x209, x210, x211, x212, x213, x214, x215, x216, x217, x218, x219, x220, x221, x222, x223, x224, x225, x226, x227, x228, x229, x230, x231, x232, x233, x234, x235, x236, x237, x238, x239, x240, x241, x242, x243, x244, x245, x246, x247, x248, x249, x250, x251, x252, x253, x254, x255, x256, x257, x258, x259, x260, x261, x262, x263, x264], []⟩ W0 := by
  rcases (show kind = 0 ∨ kind = 1 ∨ kind = 2 ∨ (kind ≠ 0 ∧ kind ≠ 1 ∧ kind ≠ 2) from by omega) with rfl | rfl | rfl | ⟨h0, h1, h2⟩
  · exact sw2_0 w W0 n p1 r1 p2 r2 q A cA gv B cB k g o y all go opH opR opV nm th hn hr1 hr2 hA hgv h hB hk hop hth x0 x1 x2 x3 x4 x10 x14 x15 x16 x17 x18 x19 x20 x21 x22 x23 x24 x25 x26 x27 x28 x29 x30 x31 x32 x33 x34 x35 x36 x37 x38 x39 x40 x41 x42 x43 x44 x45 x46 x47 x48 x49 x50 x51 x52 x53 x54 x55 x56 x57 x58 x59 x60 x61 x62 x63 x64 x65 x66 x67 x68 x69 x70 x71 x72 x73 x74 x75 x76 x77 x78 x79 x80 x81 x82 x83 x85 x86 x87 x88 x89 x90 x91 x92 x93 x94 x95 x96 x97 x98 x99 x100 x101 x102 x103 x104 x105 x106 x107 x108 x109 x110 x111 x112 x113 x114 x115 x116 x117 x118 x119 x120 x121 x122 x123 x124 x125 x126 x127 x128 x129 x130 x131 x132 x133 x134 x135 x136 x137 x138 x139 x140 x141 x142 x143 x144 x145 x146 x147 x148 x149 x150 x151 x152 x153 x154 x155 x156 x157 x158 x159 x160 x161 x162 x163 x164 x165 x166 x167 x168 x169 x170 x171 x172 x173 x174 x175 x176 x177 x178 x179 x180 x181 x182 x183 x184 x185 x186 x187 x188 x189 x190 x191 x192 x193 x194 x195 x196 x197 x198 x199 x200 x201 x202 x203 x204 x205 x206 x207 x208 x209 x210 x211 x212 x213 x214 x215 x216 x217 x218 x219 x220 x221 x222 x223 x224 x225 x226 x227 x228 x229 x230 x231 x232 x233 x234 x235 x236 x237 x238 x239 x240 x241 x242 x243 x244 x245 x246 x247 x248 x249 x250 x251 x252 x253 x254 x255 x256 x257 x258 x259 x260 x261 x262 x263 x264 Q0 hQ
  · exact sw2_1 w W0 n p1 r1 p2 r2 q A cA gv B cB k g o y all go opH opR opV nm th hn hr1 hr2 hA hgv h hB hk hop hth x0 x1 x2 x3 x4 x10 x14 x15 x16 x17 x18 x19 x20 x21 x22 x23 x24 x25 x26 x27 x28 x29 x30 x31 x32 x33 x34 x35 x36 x37 x38 x39 x40 x41 x42 x43 x44 x45 x46 x47 x48 x49 x50 x51 x52 x53 x54 x55 x56 x57 x58 x59 x60 x61 x62 x63 x64 x65 x66 x67 x68 x69 x70 x71 x72 x73 x74 x75 x76 x77 x78 x79 x80 x81 x82 x83 x85 x86 x87 x88 x89 x90 x91 x92 x93 x94 x95 x96 x97 x98 x99 x100 x101 x102 x103 x104 x105 x106 x107 x108 x109 x110 x111 x112 x113 x114 x115 x116 x117 x118 x119 x120 x121 x122 x123 x124 x125 x126 x127 x128 x129 x130 x131 x132 x133 x134 x135 x136 x137 x138 x139 x140 x141 x142 x143 x144 x145 x146 x147 x148 x149 x150 x151 x152 x153 x154 x155 x156 x157 x158 x159 x160 x161 x162 x163 x164 x165 x166 x167 x168 x169 x170 x171 x172 x173 x174 x175 x176 x177 x178 x179 x180 x181 x182 x183 x184 x185 x186 x187 x188 x189 x190 x191 x192 x193 x194 x195 x196 x197 x198 x199 x200 x201 x202 x203 x204 x205 x206 x207 x208 x209 x210 x211 x212 x213 x214 x215 x216 x217 x218 x219 x220 x221 x222 x223 x224 x225 x226 x227 x228 x229 x230 x231 x232 x233 x234 x235 x236 x237 x238 x239 x240 x241 x242 x243 x244 x245 x246 x247 x248 x249 x250 x251 x252 x253 x254 x255 x256 x257 x258 x259 x260 x261 x262 x263 x264 Q0 hQ
  · exact sw2_2 w W0 n p1 r1 p2 r2 q A cA gv B cB k g o y all go opH opR opV nm th hn hr1 hr2 hA hgv h hB hk hop hth x0 x1 x2 x3 x4 x10 x14 x15 x16 x17 x18 x19 x20 x21 x22 x23 x24 x25 x26 x27 x28 x29 x30 x31 x32 x33 x34 x35 x36 x37 x38 x39 x40 x41 x42 x43 x44 x45 x46 x47 x48 x49 x50 x51 x52 x53 x54 x55 x56 x57 x58 x59 x60 x61 x62 x63 x64 x65 x66 x67 x68 x69 x70 x71 x72 x73 x74 x75 x76 x77 x78 x79 x80 x81 x82 x83 x85 x86 x87 x88 x89 x90 x91 x92 x93 x94 x95 x96 x97 x98 x99 x100 x101 x102 x103 x104 x105 x106 x107 x108 x109 x110 x111 x112 x113 x114 x115 x116 x117 x118 x119 x120 x121 x122 x123 x124 x125 x126 x127 x128 x129 x130 x131 x132 x133 x134 x135 x136 x137 x138 x139 x140 x141 x142 x143 x144 x145 x146 x147 x148 x149 x150 x151 x152 x153 x154 x155 x156 x157 x158 x159 x160 x161 x162 x163 x164 x165 x166 x167 x168 x169 x170 x171 x172 x173 x174 x175 x176 x177 x178 x179 x180 x181 x182 x183 x184 x185 x186 x187 x188 x189 x190 x191 x192 x193 x194 x195 x196 x197 x198 x199 x200 x201 x202 x203 x204 x205 x206 x207 x208 x209 x210 x211 x212 x213 x214 x215 x216 x217 x218 x219 x220 x221 x222 x223 x224 x225 x226 x227 x228 x229 x230 x231 x232 x233 x234 x235 x236 x237 x238 x239 x240 x241 x242 x243 x244 x245 x246 x247 x248 x249 x250 x251 x252 x253 x254 x255 x256 x257 x258 x259 x260 x261 x262 x263 x264 Q0 hQ
  · exact sw2_3 w W0 n p1 r1 p2 r2 q A cA gv B cB k g o y all go opH opR opV nm th kind hn hr1 hr2 hA hgv h hB hk hop hth (by rw [beq_eq_false_iff_ne]; exact h0) (by rw [beq_eq_false_iff_ne]; exact h1) (by rw [beq_eq_false_iff_ne]; exact h2) x0 x1 x2 x3 x4 x10 x14 x15 x16 x17 x18 x19 x20 x21 x22 x23 x24 x25 x26 x27 x28 x29 x30 x31 x32 x33 x34 x35 x36 x37 x38 x39 x40 x41 x42 x43 x44 x45 x46 x47 x48 x49 x50 x51 x52 x53 x54 x55 x56 x57 x58 x59 x60 x61 x62 x63 x64 x65 x66 x67 x68 x69 x70 x71 x72 x73 x74 x75 x76 x77 x78 x79 x80 x81 x82 x83 x85 x86 x87 x88 x89 x90 x91 x92 x93 x94 x95 x96 x97 x98 x99 x100 x101 x102 x103 x104 x105 x106 x107 x108 x109 x110 x111 x112 x113 x114 x115 x116 x117 x118 x119 x120 x121 x122 x123 x124 x125 x126 x127 x128 x129 x130 x131 x132 x133 x134 x135 x136 x137 x138 x139 x140 x141 x142 x143 x144 x145 x146 x147 x148 x149 x150 x151 x152 x153 x154 x155 x156 x157 x158 x159 x160 x161 x162 x163 x164 x165 x166 x167 x168 x169 x170 x171 x172 x173 x174 x175 x176 x177 x178 x179 x180 x181 x182 x183 x184 x185 x186 x187 x188 x189 x190 x191 x192 x193 x194 x195 x196 x197 x198 x199 x200 x201 x202 x203 x204 x205 x206 x207 x208 x209 x210 x211 x212 x213 x214 x215 x216 x217 x218 x219 x220 x221 x222 x223 x224 x225 x226 x227 x228 x229 x230 x231 x232 x233 x234 x235 x236 x237 x238 x239 x240 x241 x242 x243 x244 x245 x246 x247 x248 x249 x250 x251 x252 x253 x254 x255 x256 x257 x258 x259 x260 x261 x262 x263 x264 Q0 hQ
abbrev OpTy2 : Ty := .pair (.int .i64) (.pair (.int .i64) (.pair (.int .i64) (.pair (.int .i64) .unit)))
theorem op2_cells {w : World} {x : OpTy2.den} {cs : List Value} (h : Holds w OpTy2 x cs) : ∃ kind opH opR opV : Int, cs = [.int .i64 kind, .int .i64 opH, .int .i64 opR, .int .i64 opV] := by
  obtain ⟨c1, d1, rfl, ⟨rfl, _⟩, c2, d2, rfl, ⟨rfl, _⟩, c3, d3, rfl, ⟨rfl, _⟩, c4, d4, rfl, ⟨rfl, _⟩, h6⟩ := h
  simp only [Holds] at h6
  subst h6
  exact ⟨_, _, _, _, rfl⟩
theorem has_th {w : World} {q n : Nat} {A : Option Addr} {cA : Nat} {g : Nat → Nat} {o : Nat → Bool} {nm : Int} {th : Bool} (h : Ref.IsNames w q A cA (mk n (pN g o))) (hth : Th n g o nm th) :
    Calls Try.prog 22 #[.pointer (some ⟨q, 0, none⟩), .int .i64 nm] w fun e w' => e = .returned (.bool th) ∧ w = w' := by
  rcases hth with ⟨rfl, i, hi, ho, hv⟩ | ⟨rfl, hno⟩
  · exact Ref.has_yes h (mk_get hi) ho hv
  · exact Ref.has_no h (noN hno)
theorem names_like {n : Nat} {f f' : Nat → Pl} (h : ∀ i, i < n → (f i).on = (f' i).on ∧ (f i).gen = (f' i).gen) : ∀ k, k ≤ n → names (mk n f) k = names (mk n f') k
  | 0, _ => rfl
  | k + 1, hk => by
    obtain ⟨h1, h2⟩ := h k (by omega)
    rw [names, names, mk_get (by omega), mk_get (by omega), names_like h k (by omega)]
    dsimp only
    rw [h1, h2]
theorem namesT {p r : Nat} {L : List Pl} {w : World} (N : List Int) (h : TabI.Tab w p r L) (hN : names L L.length = N) :
    Calls Try.prog 36 #[.pointer (some ⟨p, 0, none⟩)] w fun e w' => ∃ A cap, e = .returned (.slice A N.length cap) ∧ Vec w' 3 1 A N.length cap (ints N) ∧ Keep Nob w w' := by
  subst hN
  exact TabI.names_is h
theorem namesU {p r : Nat} {L : List Pl} {w : World} (N : List Int) (h : TabS.Tab w p r L) (hN : names L L.length = N) :
    Calls Try.prog 37 #[.pointer (some ⟨p, 0, none⟩)] w fun e w' => ∃ A cap, e = .returned (.slice A N.length cap) ∧ Vec w' 3 1 A N.length cap (ints N) ∧ Keep Nob w w' := by
  subst hN
  exact TabS.names_is h
theorem namesN {q : Nat} {A : Option Addr} {cap : Nat} {L : List Pl} {w : World} (N : List Int) (h : Ref.IsNames w q A cap L) (hN : names L L.length = N) :
    Calls Try.prog 34 #[.pointer (some ⟨q, 0, none⟩)] w fun e w' => ∃ B c, e = .returned (.slice B N.length c) ∧ Vec w' 3 1 B N.length c (ints N) ∧ Keep Nob w w' := by
  subst hN
  exact Ref.all_is h
noncomputable def bd2 : Code := ((Try.f4.body.bind (blkOf 1)).getD .skip)
set_option maxRecDepth 1000000 in
def Bd2Rel (w : World) (n p1 r1 p2 r2 q : Nat) (A : Option Addr) (cA gv k n1 c1 b0 off : Nat) (x0 x2 x3 x24 x25 x26 x27 x28 x29 x30 x31 x32 x33 x34 x35 x36 x37 x38 x39 x40 x41 x42 x43 x44 x45 x46 x47 x48 x49 x50 x51 x52 x53 x54 : Value) (a' : Act) (w' : World) : Prop :=
  ∃ u4 u11 u12 u13 u14 u15 u16 u17 u18 u19 u20 u21 u22 u23 u55 u56 u57 u58 u59 u60 u61 u62 u63 u64 u65 u66 u67 u68 u69 u70 u71 u72 u73 u74 u75 u76 u77 u78 u79 u80 u81 u82 u83 u84 u85 u86 u87 u88 u89 u90 u91 u92 u93 u94 u95 u96 u97 u98 u99 u100 u101 u102 u103 u104 u105 u106 u107 u108 u109 u110 u111 u112 u113 u114 u115 u116 u117 u118 u119 u120 u121 u122 u123 u124 u125 u126 u127 u128 u129 u130 u131 u132 u133 u134 u135 u136 u137 u138 u139 u140 u141 u142 u143 u144 u145 u146 u147 u148 u149 u150 u151 u152 u153 u154 u155 u156 u157 u158 u159 u160 u161 u162 u163 u164 u165 u166 u167 u168 u169 u170 u171 u172 u173 u174 u175 u176 u177 u178 u179 u180 u181 u182 u183 u184 u185 u186 u187 u188 u189 u190 u191 u192 u193 u194 u195 u196 u197 u198 u199 u200 u201 u202 u203 u204 u205 u206 u207 u208 u209 u210 u211 u212 u213 u214 u215 u216 u217 u218 u219 u220 u221 u222 u223 u224 u225 u226 u227 u228 u229 u230 u231 u232 u233 u234 u235 u236 u237 u238 u239 u240 u241 u242 u243 u244 u245 u246 u247 u248 u249 u250 u251 u252 u253 u254 u255 u256 u257 u258 u259 u260 u261 u262 u263 u264 : Value, ∃ (B2 : Option Addr) (cB2 : Nat) (g2 : Nat → Nat) (o2 : Nat → Bool) (y2 : Nat → Int) (all2 : List Int), PS w w' n p1 r1 p2 r2 q A cA gv B2 cB2 (k + 1) g2 o2 y2 all2 ∧ (∀ b, Own B2 b → gv < b) ∧ a' = ⟨#[x0, .slice (some ⟨b0, off, none⟩) n1 c1, x2, x3, u4, .pointer (some ⟨p1, 0, none⟩), .pointer (some ⟨p2, 0, none⟩), .pointer (some ⟨q, 0, none⟩), .slice (some ⟨gv, 0, none⟩) 256 256, .slice B2 all2.length cB2, .int .i64 k, u11, u12, u13, u14, u15, u16, u17, u18, u19, u20, u21, u22, u23, x24, x25, x26, x27, x28, x29, x30, x31, x32, x33, x34, x35, x36, x37, x38, x39, x40, x41, x42, x43, x44, x45, x46, x47, x48, x49, x50, x51, x52, x53, x54, u55, u56, u57, u58, u59, u60, u61, u62, u63, u64, u65, u66, u67, u68, u69, u70, u71, u72, u73, u74, u75, u76, u77, u78, u79, u80, u81, u82, u83, u84, u85, u86, u87, u88, u89, u90, u91, u92, u93, u94, u95, u96, u97, u98, u99, u100, u101, u102, u103, u104, u105, u106, u107, u108, u109, u110, u111, u112, u113, u114, u115, u116, u117, u118, u119, u120, u121, u122, u123, u124, u125, u126, u127, u128, u129, u130, u131, u132, u133, u134, u135, u136, u137, u138, u139, u140, u141, u142, u143, u144, u145, u146, u147, u148, u149, u150, u151, u152, u153, u154, u155, u156, u157, u158, u159, u160, u161, u162, u163, u164, u165, u166, u167, u168, u169, u170, u171, u172, u173, u174, u175, u176, u177, u178, u179, u180, u181, u182, u183, u184, u185, u186, u187, u188, u189, u190, u191, u192, u193, u194, u195, u196, u197, u198, u199, u200, u201, u202, u203, u204, u205, u206, u207, u208, u209, u210, u211, u212, u213, u214, u215, u216, u217, u218, u219, u220, u221, u222, u223, u224, u225, u226, u227, u228, u229, u230, u231, u232, u233, u234, u235, u236, u237, u238, u239, u240, u241, u242, u243, u244, u245, u246, u247, u248, u249, u250, u251, u252, u253, u254, u255, u256, u257, u258, u259, u260, u261, u262, u263, u264], []⟩
set_option maxRecDepth 1000000 in
set_option maxHeartbeats 16000000 in
theorem bd2_any (w wr : World) (n p1 r1 p2 r2 q : Nat) (A : Option Addr) (cA gv : Nat) (B : Option Addr) (cB k : Nat) (g : Nat → Nat) (o : Nat → Bool) (y : Nat → Int) (all : List Int) (n1 c1 b0 off : Nat) (kind opH opR opV : Int) (hn256 : n ≤ 256) (hr1 : w.heap.size ≤ r1) (hr2' : w.heap.size ≤ r2) (hA' : ∀ b, Own A b → w.heap.size ≤ b) (hgv : w.heap.size ≤ gv)
    (h : PS w wr n p1 r1 p2 r2 q A cA gv B cB k g o y all) (hB : ∀ b, Own B b → gv < b) (hk1 : k < n1) (hk2 : k < 100)
    (f0 : wr.cell? ⟨b0, off + k * 4, none⟩ = some (.int .i64 kind)) (f1 : wr.cell? ⟨b0, off + k * 4 + 1, none⟩ = some (.int .i64 opH)) (f2 : wr.cell? ⟨b0, off + k * 4 + 2, none⟩ = some (.int .i64 opR)) (f3 : wr.cell? ⟨b0, off + k * 4 + 3, none⟩ = some (.int .i64 opV))
    (x0 x2 x3 x4 x11 x12 x13 x14 x15 x16 x17 x18 x19 x20 x21 x22 x23 x24 x25 x26 x27 x28 x29 x30 x31 x32 x33 x34 x35 x36 x37 x38 x39 x40 x41 x42 x43 x44 x45 x46 x47 x48 x49 x50 x51 x52 x53 x54 x55 x56 x57 x58 x59 x60 x61 x62 x63 x64 x65 x66 x67 x68 x69 x70 x71 x72 x73 x74 x75 x76 x77 x78 x79 x80 x81 x82 x83 x84 x85 x86 x87 x88 x89 x90 x91 x92 x93 x94 x95 x96 x97 x98 x99 x100 x101 x102 x103 x104 x105 x106 x107 x108 x109 x110 x111 x112 x113 x114 x115 x116 x117 x118 x119 x120 x121 x122 x123 x124 x125 x126 x127 x128 x129 x130 x131 x132 x133 x134 x135 x136 x137 x138 x139 x140 x141 x142 x143 x144 x145 x146 x147 x148 x149 x150 x151 x152 x153 x154 x155 x156 x157 x158 x159 x160 x161 x162 x163 x164 x165 x166 x167 x168 x169 x170 x171 x172 x173 x174 x175 x176 x177 x178 x179 x180 x181 x182 x183 x184 x185 x186 x187 x188 x189 x190 x191 x192 x193 x194 x195 x196 x197 x198 x199 x200 x201 x202 x203 x204 x205 x206 x207 x208 x209 x210 x211 x212 x213 x214 x215 x216 x217 x218 x219 x220 x221 x222 x223 x224 x225 x226 x227 x228 x229 x230 x231 x232 x233 x234 x235 x236 x237 x238 x239 x240 x241 x242 x243 x244 x245 x246 x247 x248 x249 x250 x251 x252 x253 x254 x255 x256 x257 x258 x259 x260 x261 x262 x263 x264 : Value) (Q0 : Exit → Act → World → Prop) (hQ : ∀ a' w', Bd2Rel w n p1 r1 p2 r2 q A cA gv k n1 c1 b0 off x0 x2 x3 x24 x25 x26 x27 x28 x29 x30 x31 x32 x33 x34 x35 x36 x37 x38 x39 x40 x41 x42 x43 x44 x45 x46 x47 x48 x49 x50 x51 x52 x53 x54 a' w' → Q0 .normal a' w') :
    Code.wp Try.prog bd2 Q0 ⟨#[x0, .slice (some ⟨b0, off, none⟩) n1 c1, x2, x3, x4, .pointer (some ⟨p1, 0, none⟩), .pointer (some ⟨p2, 0, none⟩), .pointer (some ⟨q, 0, none⟩), .slice (some ⟨gv, 0, none⟩) 256 256, .slice B all.length cB, .int .i64 k, x11, x12, x13, x14, x15, x16, x17, x18, x19, x20, x21, x22, x23, x24, x25, x26, x27, x28, x29, x30, x31, x32, x33, x34, x35, x36, x37, x38, x39, x40, x41, x42, x43, x44, x45, x46, x47, x48, x49, x50, x51, x52, x53, x54, x55, x56, x57, x58, x59, x60, x61, x62, x63, x64, x65, x66, x67, x68, x69, x70, x71, x72, x73, x74, x75, x76, x77, x78, x79, x80, x81, x82, x83, x84, x85, x86, x87, x88, x89, x90, x91, x92, x93, x94, x95, x96, x97, x98, x99, x100, x101, x102, x103, x104, x105, x106, x107, x108, x109, x110, x111, x112, x113, x114, x115, x116, x117, x118, x119, x120, x121, x122, x123, x124, x125, x126, x127, x128, x129, x130, x131, x132, x133, x134, x135, x136, x137, x138, x139, x140, x141, x142, x143, x144, x145, x146, x147, x148, x149, x150, x151, x152, x153, x154, x155, x156, x157, x158, x159, x160, x161, x162, x163, x164, x165, x166, x167, x168, x169, x170, x171, x172, x173, x174, x175, x176, x177, x178, x179, x180, x181, x182, x183, x184, x185, x186, x187, x188, x189, x190, x191, x192, x193, x194, x195, x196, x197, x198, x199, x200, x201, x202, x203, x204, x205, x206, x207, x208, x209, x210, x211, x212, x213, x214, x215, x216, x217, x218, x219, x220, x221, x222, x223, x224, x225, x226, x227, x228, x229, x230, x231, x232, x233, x234, x235, x236, x237, x238, x239, x240, x241, x242, x243, x244, x245, x246, x247, x248, x249, x250, x251, x252, x253, x254, x255, x256, x257, x258, x259, x260, x261, x262, x263, x264], []⟩ wr := by
  conv => arg 2; whnf
  go_upto_region 14 with fail
  have hop := Blk.new wr 48 [.int .i64 kind, .int .i64 opH, .int .i64 opR, .int .i64 opV]
  have h1 := h.nob ((Keep.refl Nob wr).alloc (.cells #[.int .i64 kind, .int .i64 opH, .int .i64 opR, .int .i64 opV] 48))
  generalize hW : wr.alloc (.cells #[.int .i64 kind, .int .i64 opH, .int .i64 opR, .int .i64 opV] 48) = W0 at h1 hop ⊢
  generalize wr.heap.size = go at hop ⊢
  clear hW f0 f1 f2 f3 h
  have op1 : W0.cell? ⟨go, 1, none⟩ = some (.int .i64 opH) := hop.cell 1
  have op2 : W0.cell? ⟨go, 2, none⟩ = some (.int .i64 opR) := hop.cell 2
  go_cut [69] from 61 to 69 (fun s69 wx => (∃ bb : Bool, s69 = .bool bb ∧ (bb = true → 0 < all.length)) ∧ wx = W0)
  case first =>
    by_cases hl : 0 < all.length
    · have hl' : (0 : Int) < (all.length : Int) := by omega
      obtain ⟨m7, hm7⟩ : ∃ m : Nat, bits .and .i64 opH 7 = m := ⟨(opH % 8).toNat, by rw [i64_and7]; omega⟩
      go_wp2_with fail
      go_meet
      exact ⟨⟨_, rfl, fun _ => hl⟩, rfl⟩
    · have hl' : ¬ (0 : Int) < (all.length : Int) := by omega
      have hl2 : decide ((0 : Int) < (all.length : Int)) = false := decide_eq_false hl'
      go_wp2_with fail
      go_meet
      exact ⟨⟨false, rfl, fun h => by cases h⟩, rfl⟩
  case rest =>
  obtain ⟨⟨bb, rfl, hbb⟩, hw⟩ := hcut
  have hw := hw.symm
  subst hw
  go_upto_if 69 with fail
  go_cut [12] from 70 to 79 (fun s12 wx => (∃ nm : Int, s12 = .int .i64 nm) ∧ wx = W0)
  case first =>
    cases bb with
    | false =>
      go_wp2_with fail
      go_meet
      exact ⟨⟨_, rfl⟩, rfl⟩
    | true =>
      have hl := hbb rfl
      have hl' : (0 : Int) < (all.length : Int) := by omega
      obtain ⟨m, hm⟩ : ∃ m : Nat, bits .and .i64 (opH / 8) 65535 = m := ⟨(opH / 8 % 65536).toNat, by rw [i64_and65535]; omega⟩
      obtain ⟨d, hd⟩ : ∃ d : Nat, m % all.length = d := ⟨_, rfl⟩
      have hdl : d < all.length := by rw [← hd]; exact Nat.mod_lt _ hl
      have hd1 : (m : Int) % (all.length : Int) = d := by rw [← hd]; exact (Int.natCast_emod m all.length).symm
      have hd2 : (m : Int).tmod (all.length : Int) = d := by rw [Int.tmod_eq_emod_of_nonneg (by omega)]; exact hd1
      obtain ⟨ga, rfl, hca, _⟩ := h1.aa.at1 hdl
      obtain ⟨v, hv⟩ : ∃ v, all[d]? = some v := ⟨_, List.getElem?_eq_getElem hdl⟩
      rw [ints_get, hv] at hca
      have hca' : W0.cell? ⟨ga, d, none⟩ = some (.int .i64 v) := hca
      clear hca hd
      go_wp2_with fail
      go_meet
      exact ⟨⟨_, rfl⟩, rfl⟩
  case rest =>
    obtain ⟨⟨nm, rfl⟩, hw⟩ := hcut
    have hw := hw.symm
    subst hw
    obtain ⟨th, hth⟩ : ∃ th, Th n g o nm th := by
      by_cases hex : ∃ i, i < n ∧ o i = true ∧ nm = (i : Int) + 256 * (g i : Int)
      · exact ⟨true, .inl ⟨rfl, hex⟩⟩
      · exact ⟨false, .inr ⟨rfl, fun i hi ho e => hex ⟨i, hi, ho, e⟩⟩⟩
    go_wp2_with fail
    refine (has_th h1.nn hth).mono ?_; rintro e w' ⟨rfl, rfl⟩
    clear op1 op2 hbb
    have op0 : W0.cell? ⟨go, 0, none⟩ = some (.int .i64 kind) := hop.cell 0
    go_upto_block 2 with fail
    clear op0
    refine sw2_any w W0 n p1 r1 p2 r2 q A cA gv B cB k g o y all go kind opH opR opV nm th hn256 hr1 hr2' hA' hgv h1 hB (by omega) hop hth _ _ _ _ _ _ _ _ _ _ _ _ _ _ _ _ _ _ _ _ _ _ _ _ _ _ _ _ _ _ _ _ _ _ _ _ _ _ _ _ _ _ _ _ _ _ _ _ _ _ _ _ _ _ _ _ _ _ _ _ _ _ _ _ _ _ _ _ _ _ _ _ _ _ _ _ _ _ _ _ _ _ _ _ _ _ _ _ _ _ _ _ _ _ _ _ _ _ _ _ _ _ _ _ _ _ _ _ _ _ _ _ _ _ _ _ _ _ _ _ _ _ _ _ _ _ _ _ _ _ _ _ _ _ _ _ _ _ _ _ _ _ _ _ _ _ _ _ _ _ _ _ _ _ _ _ _ _ _ _ _ _ _ _ _ _ _ _ _ _ _ _ _ _ _ _ _ _ _ _ _ _ _ _ _ _ _ _ _ _ _ _ _ _ _ _ _ _ _ _ _ _ _ _ _ _ _ _ _ _ _ _ _ _ _ _ _ _ _ _ _ _ _ _ _ _ _ _ _ _ _ _ _ _ _ _ _ _ _ _ _ _ _ _ _ _ _ _ _ _ _ _ _ _ _ _ _ ?_
    intro a' w' h
    obtain ⟨u4, h⟩ := h
    obtain ⟨u14, h⟩ := h
    obtain ⟨u15, h⟩ := h
    obtain ⟨u16, h⟩ := h
    obtain ⟨u17, h⟩ := h
    obtain ⟨u18, h⟩ := h
    obtain ⟨u19, h⟩ := h
    obtain ⟨u20, h⟩ := h
    obtain ⟨u21, h⟩ := h
    obtain ⟨u22, h⟩ := h
    obtain ⟨u23, h⟩ := h
    obtain ⟨u85, h⟩ := h
    obtain ⟨u86, h⟩ := h
    obtain ⟨u87, h⟩ := h
    obtain ⟨u88, h⟩ := h
    obtain ⟨u89, h⟩ := h
    obtain ⟨u90, h⟩ := h
    obtain ⟨u91, h⟩ := h
    obtain ⟨u92, h⟩ := h
    obtain ⟨u93, h⟩ := h
    obtain ⟨u94, h⟩ := h
    obtain ⟨u95, h⟩ := h
    obtain ⟨u96, h⟩ := h
    obtain ⟨u97, h⟩ := h
    obtain ⟨u98, h⟩ := h
    obtain ⟨u99, h⟩ := h
    obtain ⟨u100, h⟩ := h
    obtain ⟨u101, h⟩ := h
    obtain ⟨u102, h⟩ := h
    obtain ⟨u103, h⟩ := h
    obtain ⟨u104, h⟩ := h
    obtain ⟨u105, h⟩ := h
    obtain ⟨u106, h⟩ := h
    obtain ⟨u107, h⟩ := h
    obtain ⟨u108, h⟩ := h
    obtain ⟨u109, h⟩ := h
    obtain ⟨u110, h⟩ := h
    obtain ⟨u111, h⟩ := h
    obtain ⟨u112, h⟩ := h
    obtain ⟨u113, h⟩ := h
    obtain ⟨u114, h⟩ := h
    obtain ⟨u115, h⟩ := h
    obtain ⟨u116, h⟩ := h
    obtain ⟨u117, h⟩ := h
    obtain ⟨u118, h⟩ := h
    obtain ⟨u119, h⟩ := h
    obtain ⟨u120, h⟩ := h
    obtain ⟨u121, h⟩ := h
    obtain ⟨u122, h⟩ := h
    obtain ⟨u123, h⟩ := h
    obtain ⟨u124, h⟩ := h
    obtain ⟨u125, h⟩ := h
    obtain ⟨u126, h⟩ := h
    obtain ⟨u127, h⟩ := h
    obtain ⟨u128, h⟩ := h
    obtain ⟨u129, h⟩ := h
    obtain ⟨u130, h⟩ := h
    obtain ⟨u131, h⟩ := h
    obtain ⟨u132, h⟩ := h
    obtain ⟨u133, h⟩ := h
    obtain ⟨u134, h⟩ := h
    obtain ⟨u135, h⟩ := h
    obtain ⟨u136, h⟩ := h
    obtain ⟨u137, h⟩ := h
    obtain ⟨u138, h⟩ := h
    obtain ⟨u139, h⟩ := h
    obtain ⟨u140, h⟩ := h
    obtain ⟨u141, h⟩ := h
    obtain ⟨u142, h⟩ := h
    obtain ⟨u143, h⟩ := h
    obtain ⟨u144, h⟩ := h
    obtain ⟨u145, h⟩ := h
    obtain ⟨u146, h⟩ := h
    obtain ⟨u147, h⟩ := h
    obtain ⟨u148, h⟩ := h
    obtain ⟨u149, h⟩ := h
    obtain ⟨u150, h⟩ := h
    obtain ⟨u151, h⟩ := h
    obtain ⟨u152, h⟩ := h
    obtain ⟨u153, h⟩ := h
    obtain ⟨u154, h⟩ := h
    obtain ⟨u155, h⟩ := h
    obtain ⟨u156, h⟩ := h
    obtain ⟨u157, h⟩ := h
    obtain ⟨u158, h⟩ := h
    obtain ⟨u159, h⟩ := h
    obtain ⟨u160, h⟩ := h
    obtain ⟨u161, h⟩ := h
    obtain ⟨u162, h⟩ := h
    obtain ⟨u163, h⟩ := h
    obtain ⟨u164, h⟩ := h
    obtain ⟨u165, h⟩ := h
    obtain ⟨u166, h⟩ := h
    obtain ⟨u167, h⟩ := h
    obtain ⟨u168, h⟩ := h
    obtain ⟨u169, h⟩ := h
    obtain ⟨u170, h⟩ := h
    obtain ⟨u171, h⟩ := h
    obtain ⟨u172, h⟩ := h
    obtain ⟨u173, h⟩ := h
    obtain ⟨u174, h⟩ := h
    obtain ⟨u175, h⟩ := h
    obtain ⟨u176, h⟩ := h
    obtain ⟨u177, h⟩ := h
    obtain ⟨u178, h⟩ := h
    obtain ⟨u179, h⟩ := h
    obtain ⟨u180, h⟩ := h
    obtain ⟨u181, h⟩ := h
    obtain ⟨u182, h⟩ := h
    obtain ⟨u183, h⟩ := h
    obtain ⟨u184, h⟩ := h
    obtain ⟨u185, h⟩ := h
    obtain ⟨u186, h⟩ := h
    obtain ⟨u187, h⟩ := h
    obtain ⟨u188, h⟩ := h
    obtain ⟨u189, h⟩ := h
    obtain ⟨u190, h⟩ := h
    obtain ⟨u191, h⟩ := h
    obtain ⟨u192, h⟩ := h
    obtain ⟨u193, h⟩ := h
    obtain ⟨u194, h⟩ := h
    obtain ⟨u195, h⟩ := h
    obtain ⟨u196, h⟩ := h
    obtain ⟨u197, h⟩ := h
    obtain ⟨u198, h⟩ := h
    obtain ⟨u199, h⟩ := h
    obtain ⟨u200, h⟩ := h
    obtain ⟨u201, h⟩ := h
    obtain ⟨u202, h⟩ := h
    obtain ⟨u203, h⟩ := h
    obtain ⟨u204, h⟩ := h
    obtain ⟨u205, h⟩ := h
    obtain ⟨u206, h⟩ := h
    obtain ⟨u207, h⟩ := h
    obtain ⟨u208, h⟩ := h
    obtain ⟨u209, h⟩ := h
    obtain ⟨u210, h⟩ := h
    obtain ⟨u211, h⟩ := h
    obtain ⟨u212, h⟩ := h
    obtain ⟨u213, h⟩ := h
    obtain ⟨u214, h⟩ := h
    obtain ⟨u215, h⟩ := h
    obtain ⟨u216, h⟩ := h
    obtain ⟨u217, h⟩ := h
    obtain ⟨u218, h⟩ := h
    obtain ⟨u219, h⟩ := h
    obtain ⟨u220, h⟩ := h
    obtain ⟨u221, h⟩ := h
    obtain ⟨u222, h⟩ := h
    obtain ⟨u223, h⟩ := h
    obtain ⟨u224, h⟩ := h
    obtain ⟨u225, h⟩ := h
    obtain ⟨u226, h⟩ := h
    obtain ⟨u227, h⟩ := h
    obtain ⟨u228, h⟩ := h
    obtain ⟨u229, h⟩ := h
    obtain ⟨u230, h⟩ := h
    obtain ⟨u231, h⟩ := h
    obtain ⟨u232, h⟩ := h
    obtain ⟨u233, h⟩ := h
    obtain ⟨u234, h⟩ := h
    obtain ⟨u235, h⟩ := h
    obtain ⟨u236, h⟩ := h
    obtain ⟨u237, h⟩ := h
    obtain ⟨u238, h⟩ := h
    obtain ⟨u239, h⟩ := h
    obtain ⟨u240, h⟩ := h
    obtain ⟨u241, h⟩ := h
    obtain ⟨u242, h⟩ := h
    obtain ⟨B2, cB2, g2, o2, y2, all2, hp, hb, rfl⟩ := h
    dsimp only
    clear h1 hop hth
    obtain ⟨N, hN⟩ : ∃ N, Hid (names (mk n (pN g2 o2)) n = N) := ⟨_, rfl⟩
    have eT : names (mk n (pT g2 o2 y2)) (mk n (pT g2 o2 y2)).length = N := by rw [mk_len, ← hN.out]; exact names_like (f := pT g2 o2 y2) (f' := pN g2 o2) (fun i hi => ⟨rfl, rfl⟩) n (Nat.le_refl _)
    have eU : names (mk n (pU g2 o2 y2)) (mk n (pU g2 o2 y2)).length = N := by rw [mk_len, ← hN.out]; exact names_like (f := pU g2 o2 y2) (f' := pN g2 o2) (fun i hi => ⟨rfl, rfl⟩) n (Nat.le_refl _)
    have eN : names (mk n (pN g2 o2)) (mk n (pN g2 o2)).length = N := by rw [mk_len]; exact hN.out
    have lN : N.length ≤ 1000000 := by have := names_le (mk n (pN g2 o2)) n; rw [hN.out] at this; omega
    have ET := Lib.hid eT
    have EU := Lib.hid eU
    have EN := Lib.hid eN
    clear eT eU eN hN
    go_wp2_with fail
    refine (TabI.len_is (N.length : Int) hp.tt (by rw [ET.out])).mono ?_; rintro e v1 ⟨rfl, rfl⟩
    go_wp2_with fail
    refine (namesN N hp.nn EN.out).mono ?_; rintro e v1 ⟨B3, c3, rfl, -, j1⟩
    have hp1 := hp.nob j1
    clear hp j1
    go_wp2_with fail
    refine (namesT N hp1.tt ET.out).mono ?_; rintro e v2 ⟨B4, c4, rfl, va, j2⟩
    have hp2 := hp1.nob j2
    clear hp1 j2
    go_wp2_with fail
    refine (namesN N hp2.nn EN.out).mono ?_; rintro e v3 ⟨B5, c5, rfl, vb, j3⟩
    have hp3 := hp2.nob j3
    have va3 := va.nob j3
    clear hp2 j3 va
    go_wp2_with fail
    refine (Ref.same_yes va3 vb lN).mono ?_; rintro e v4 ⟨rfl, j4⟩
    have hp4 := hp3.nob j4
    clear hp3 j4 va3 vb
    go_wp2_with fail
    refine (namesU N hp4.uu EU.out).mono ?_; rintro e v5 ⟨B6, c6, rfl, vc, j5⟩
    have hp5 := hp4.nob j5
    clear hp4 j5
    go_wp2_with fail
    refine (namesN N hp5.nn EN.out).mono ?_; rintro e v6 ⟨B7, c7, rfl, vd, j6⟩
    have hp6 := hp5.nob j6
    have vc6 := vc.nob j6
    clear hp5 j6 vc
    go_wp2_with fail
    refine (Ref.same_yes vc6 vd lN).mono ?_; rintro e v7 ⟨rfl, j7⟩
    have hp7 := hp6.nob j7
    clear hp6 j7 vc6 vd
    go_wp2_with fail
    exact ⟨_, _, _, _, _, _, _, _, _, _, _, _, _, _, _, _, _, _, _, _, _, _, _, _, _, _, _, _, _, _, _, _, _, _, _, _, _, _, _, _, _, _, _, _, _, _, _, _, _, _, _, _, _, _, _, _, _, _, _, _, _, _, _, _, _, _, _, _, _, _, _, _, _, _, _, _, _, _, _, _, _, _, _, _, _, _, _, _, _, _, _, _, _, _, _, _, _, _, _, _, _, _, _, _, _, _, _, _, _, _, _, _, _, _, _, _, _, _, _, _, _, _, _, _, _, _, _, _, _, _, _, _, _, _, _, _, _, _, _, _, _, _, _, _, _, _, _, _, _, _, _, _, _, _, _, _, _, _, _, _, _, _, _, _, _, _, _, _, _, _, _, _, _, _, _, _, _, _, _, _, _, _, _, _, _, _, _, _, _, _, _, _, _, _, _, _, _, _, _, _, _, _, _, _, _, _, _, _, _, _, _, _, _, _, _, _, _, _, _, _, _, _, _, _, B2, cB2, g2, o2, y2, all2, hp7, hb, rfl⟩
end Go.Proofs.Ytkokcamplhekaaa
