/- The walk of MemPlays: any script over a Mem and over the document's own bytes is answered alike. -/
import Derived.Test.YtngempcnjijfhaaLaw1s0
import Derived.Test.YtngempcnjijfhaaLaw1s1
import Derived.Test.YtngempcnjijfhaaLaw1s2
import Derived.Test.YtngempcnjijfhaaLaw1s3
import Derived.Test.YtngempcnjijfhaaLaw1s4
import Derived.Test.YtngempcnjijfhaaLaw1s5
namespace Go.Proofs.Ytngempcnjijfhaa
open Go.RowKit
set_option maxRecDepth 1000000 in
theorem sw1_any (w W0 : World) (p r q f go : Nat) (kind at' n wv : Int) (B : Option Addr) (cb : Nat) (bs ys : List UInt8) (hf : f < 4) (hpq : p < q) (hrq : r < q) (hgq : q < go) (hwr : w.heap.size ≤ r) (hwq : w.heap.size ≤ q)
    (hmW : IsMem W0 p r ys) (hbW : Blk W0 q 5 (bytes ys)) (HY : Hid (ys.length = 64 * f)) (hKW : Keep (From w.heap.size) w W0) (hbo' : Blk W0 go 40 [.int .i64 kind, .int .i64 at', .int .i64 n, .int .u32 wv, .slice B bs.length cb])
    (hbs : Reads w B bs.length (bytes bs)) (hl2 : (bs.length : Int) ≤ 300) (hwv : (Lit.int .u32 wv).wf = true)
    (x1 x2 x3 x4 x7 x9 x10 x11 x12 x13 x14 x15 x16 x17 x18 x19 x20 x21 x22 x23 x24 x25 x26 x27 x28 x29 x30 x31 x32 x33 x34 x35 x36 x37 x38 x39 x40 x41 x42 x43 x44 x45 x46 x47 x48 x49 x50 x51 x52 x53 x54 x55 x56 x57 x58 x59 x60 x61 x62 x63 x64 x65 x66 x67 x68 x69 x71 x72 x73 x74 x75 x76 x77 x78 x79 x80 x81 x82 x83 x84 x85 x86 x87 x88 x89 x90 x91 x92 x93 x94 x95 x96 x97 x98 x99 x100 x101 x102 x103 x104 x105 x106 x107 x108 x109 x110 x111 x112 x113 x114 x115 x116 x117 x118 x119 x120 x121 x122 x123 x124 x125 x126 x127 x128 x129 x130 x131 x132 x133 x134 x135 x136 x137 x138 x139 x140 x141 x142 x143 x144 x145 x146 x147 x148 x149 x150 x151 x152 x153 x154 x155 x156 x157 x158 x159 x160 x161 x162 x163 x164 x165 x166 x167 x168 x169 x170 x171 x172 x173 x174 x175 x176 x177 x178 x179 x180 x181 x182 x183 x184 x185 x186 x187 x188 x189 x190 x191 x192 x193 x194 x195 x196 x197 x198 x199 x200 x201 x202 x203 x204 x205 x206 x207 x208 x209 x210 x211 x212 x213 x214 x215 x216 x217 x218 x219 x220 x221 x222 x223 x224 x225 x226 x227 x228 x229 x230 x231 x232 x233 x234 x235 x236 x237 x238 x239 x240 x241 x242 x243 x244 x245 : Value) (Q0 : Exit → Act → World → Prop) (hQ : ∀ a' w', Sw1Rel w p r q f go kind x1 x2 x3 x7 x23 x24 x25 x26 x27 x28 x29 x30 x31 x32 x33 x34 x35 x36 x37 x38 x39 x40 x41 x42 x43 x44 x45 x46 x47 x48 x49 x50 x51 x52 x53 x54 x55 x56 x57 x58 x59 x60 x61 x62 x63 x64 x65 x66 x67 x68 x69 x230 x231 x232 x233 x234 x235 x236 x237 x238 x239 x240 x241 x242 x243 x244 x245 a' w' → Q0 .normal a' w') :
    Code.wp Try.prog sw1 Q0 ⟨#[.int .i64 f, x1, x2, x3, x4, .pointer (some ⟨p, 0, none⟩), .slice (some ⟨q, 0, none⟩) (64 * f) (64 * f), x7, .pointer (some ⟨go, 0, none⟩), x9, x10, x11, x12, x13, x14, x15, x16, x17, x18, x19, x20, x21, x22, x23, x24, x25, x26, x27, x28, x29, x30, x31, x32, x33, x34, x35, x36, x37, x38, x39, x40, x41, x42, x43, x44, x45, x46, x47, x48, x49, x50, x51, x52, x53, x54, x55, x56, x57, x58, x59, x60, x61, x62, x63, x64, x65, x66, x67, x68, x69, .int .i64 kind, x71, x72, x73, x74, x75, x76, x77, x78, x79, x80, x81, x82, x83, x84, x85, x86, x87, x88, x89, x90, x91, x92, x93, x94, x95, x96, x97, x98, x99, x100, x101, x102, x103, x104, x105, x106, x107, x108, x109, x110, x111, x112, x113, x114, x115, x116, x117, x118, x119, x120, x121, x122, x123, x124, x125, x126, x127, x128, x129, x130, x131, x132, x133, x134, x135, x136, x137, x138, x139, x140, x141, x142, x143, x144, x145, x146, x147, x148, x149, x150, x151, x152, x153, x154, x155, x156, x157, x158, x159, x160, x161, x162, x163, x164, x165, x166, x167, x168, x169, x170, x171, x172, x173, x174, x175, x176, x177, x178, x179, x180, x181, x182, x183, x184, x185, x186, x187, x188, x189, x190, x191, x192, x193, x194, x195, x196, x197, x198, x199, x200, x201, x202, x203, x204, x205, x206, x207, x208, x209, x210, x211, x212, x213, x214, x215, x216, x217, x218, x219, x220, x221, x222, x223, x224, x225, x226, x227, x228, x229, x230, x231, x232, x233, x234, x235, x236, x237, x238, x239, x240, x241, x242, x243, x244, x245], []⟩ W0 := by
  rcases (show kind = 0 ∨ kind = 1 ∨ kind = 2 ∨ kind = 3 ∨ kind = 4 ∨ (kind ≠ 0 ∧ kind ≠ 1 ∧ kind ≠ 2 ∧ kind ≠ 3 ∧ kind ≠ 4) from by omega) with rfl | rfl | rfl | rfl | rfl | hne
  · exact sw1_0 w W0 p r q f go at' n wv B cb bs ys hf hpq hrq hgq hwr hwq hmW hbW HY hKW hbo' hbs hl2 hwv x1 x2 x3 x4 x7 x9 x10 x11 x12 x13 x14 x15 x16 x17 x18 x19 x20 x21 x22 x23 x24 x25 x26 x27 x28 x29 x30 x31 x32 x33 x34 x35 x36 x37 x38 x39 x40 x41 x42 x43 x44 x45 x46 x47 x48 x49 x50 x51 x52 x53 x54 x55 x56 x57 x58 x59 x60 x61 x62 x63 x64 x65 x66 x67 x68 x69 x71 x72 x73 x74 x75 x76 x77 x78 x79 x80 x81 x82 x83 x84 x85 x86 x87 x88 x89 x90 x91 x92 x93 x94 x95 x96 x97 x98 x99 x100 x101 x102 x103 x104 x105 x106 x107 x108 x109 x110 x111 x112 x113 x114 x115 x116 x117 x118 x119 x120 x121 x122 x123 x124 x125 x126 x127 x128 x129 x130 x131 x132 x133 x134 x135 x136 x137 x138 x139 x140 x141 x142 x143 x144 x145 x146 x147 x148 x149 x150 x151 x152 x153 x154 x155 x156 x157 x158 x159 x160 x161 x162 x163 x164 x165 x166 x167 x168 x169 x170 x171 x172 x173 x174 x175 x176 x177 x178 x179 x180 x181 x182 x183 x184 x185 x186 x187 x188 x189 x190 x191 x192 x193 x194 x195 x196 x197 x198 x199 x200 x201 x202 x203 x204 x205 x206 x207 x208 x209 x210 x211 x212 x213 x214 x215 x216 x217 x218 x219 x220 x221 x222 x223 x224 x225 x226 x227 x228 x229 x230 x231 x232 x233 x234 x235 x236 x237 x238 x239 x240 x241 x242 x243 x244 x245 Q0 hQ
  · exact sw1_1 w W0 p r q f go at' n wv B cb bs ys hf hpq hrq hgq hwr hwq hmW hbW HY hKW hbo' hbs hl2 hwv x1 x2 x3 x4 x7 x9 x10 x11 x12 x13 x14 x15 x16 x17 x18 x19 x20 x21 x22 x23 x24 x25 x26 x27 x28 x29 x30 x31 x32 x33 x34 x35 x36 x37 x38 x39 x40 x41 x42 x43 x44 x45 x46 x47 x48 x49 x50 x51 x52 x53 x54 x55 x56 x57 x58 x59 x60 x61 x62 x63 x64 x65 x66 x67 x68 x69 x71 x72 x73 x74 x75 x76 x77 x78 x79 x80 x81 x82 x83 x84 x85 x86 x87 x88 x89 x90 x91 x92 x93 x94 x95 x96 x97 x98 x99 x100 x101 x102 x103 x104 x105 x106 x107 x108 x109 x110 x111 x112 x113 x114 x115 x116 x117 x118 x119 x120 x121 x122 x123 x124 x125 x126 x127 x128 x129 x130 x131 x132 x133 x134 x135 x136 x137 x138 x139 x140 x141 x142 x143 x144 x145 x146 x147 x148 x149 x150 x151 x152 x153 x154 x155 x156 x157 x158 x159 x160 x161 x162 x163 x164 x165 x166 x167 x168 x169 x170 x171 x172 x173 x174 x175 x176 x177 x178 x179 x180 x181 x182 x183 x184 x185 x186 x187 x188 x189 x190 x191 x192 x193 x194 x195 x196 x197 x198 x199 x200 x201 x202 x203 x204 x205 x206 x207 x208 x209 x210 x211 x212 x213 x214 x215 x216 x217 x218 x219 x220 x221 x222 x223 x224 x225 x226 x227 x228 x229 x230 x231 x232 x233 x234 x235 x236 x237 x238 x239 x240 x241 x242 x243 x244 x245 Q0 hQ
  · exact sw1_2 w W0 p r q f go at' n wv B cb bs ys hf hpq hrq hgq hwr hwq hmW hbW HY hKW hbo' hbs hl2 hwv x1 x2 x3 x4 x7 x9 x10 x11 x12 x13 x14 x15 x16 x17 x18 x19 x20 x21 x22 x23 x24 x25 x26 x27 x28 x29 x30 x31 x32 x33 x34 x35 x36 x37 x38 x39 x40 x41 x42 x43 x44 x45 x46 x47 x48 x49 x50 x51 x52 x53 x54 x55 x56 x57 x58 x59 x60 x61 x62 x63 x64 x65 x66 x67 x68 x69 x71 x72 x73 x74 x75 x76 x77 x78 x79 x80 x81 x82 x83 x84 x85 x86 x87 x88 x89 x90 x91 x92 x93 x94 x95 x96 x97 x98 x99 x100 x101 x102 x103 x104 x105 x106 x107 x108 x109 x110 x111 x112 x113 x114 x115 x116 x117 x118 x119 x120 x121 x122 x123 x124 x125 x126 x127 x128 x129 x130 x131 x132 x133 x134 x135 x136 x137 x138 x139 x140 x141 x142 x143 x144 x145 x146 x147 x148 x149 x150 x151 x152 x153 x154 x155 x156 x157 x158 x159 x160 x161 x162 x163 x164 x165 x166 x167 x168 x169 x170 x171 x172 x173 x174 x175 x176 x177 x178 x179 x180 x181 x182 x183 x184 x185 x186 x187 x188 x189 x190 x191 x192 x193 x194 x195 x196 x197 x198 x199 x200 x201 x202 x203 x204 x205 x206 x207 x208 x209 x210 x211 x212 x213 x214 x215 x216 x217 x218 x219 x220 x221 x222 x223 x224 x225 x226 x227 x228 x229 x230 x231 x232 x233 x234 x235 x236 x237 x238 x239 x240 x241 x242 x243 x244 x245 Q0 hQ
  · exact sw1_3 w W0 p r q f go at' n wv B cb bs ys hf hpq hrq hgq hwr hwq hmW hbW HY hKW hbo' hbs hl2 hwv x1 x2 x3 x4 x7 x9 x10 x11 x12 x13 x14 x15 x16 x17 x18 x19 x20 x21 x22 x23 x24 x25 x26 x27 x28 x29 x30 x31 x32 x33 x34 x35 x36 x37 x38 x39 x40 x41 x42 x43 x44 x45 x46 x47 x48 x49 x50 x51 x52 x53 x54 x55 x56 x57 x58 x59 x60 x61 x62 x63 x64 x65 x66 x67 x68 x69 x71 x72 x73 x74 x75 x76 x77 x78 x79 x80 x81 x82 x83 x84 x85 x86 x87 x88 x89 x90 x91 x92 x93 x94 x95 x96 x97 x98 x99 x100 x101 x102 x103 x104 x105 x106 x107 x108 x109 x110 x111 x112 x113 x114 x115 x116 x117 x118 x119 x120 x121 x122 x123 x124 x125 x126 x127 x128 x129 x130 x131 x132 x133 x134 x135 x136 x137 x138 x139 x140 x141 x142 x143 x144 x145 x146 x147 x148 x149 x150 x151 x152 x153 x154 x155 x156 x157 x158 x159 x160 x161 x162 x163 x164 x165 x166 x167 x168 x169 x170 x171 x172 x173 x174 x175 x176 x177 x178 x179 x180 x181 x182 x183 x184 x185 x186 x187 x188 x189 x190 x191 x192 x193 x194 x195 x196 x197 x198 x199 x200 x201 x202 x203 x204 x205 x206 x207 x208 x209 x210 x211 x212 x213 x214 x215 x216 x217 x218 x219 x220 x221 x222 x223 x224 x225 x226 x227 x228 x229 x230 x231 x232 x233 x234 x235 x236 x237 x238 x239 x240 x241 x242 x243 x244 x245 Q0 hQ
  · exact sw1_4 w W0 p r q f go at' n wv B cb bs ys hf hpq hrq hgq hwr hwq hmW hbW HY hKW hbo' hbs hl2 hwv x1 x2 x3 x4 x7 x9 x10 x11 x12 x13 x14 x15 x16 x17 x18 x19 x20 x21 x22 x23 x24 x25 x26 x27 x28 x29 x30 x31 x32 x33 x34 x35 x36 x37 x38 x39 x40 x41 x42 x43 x44 x45 x46 x47 x48 x49 x50 x51 x52 x53 x54 x55 x56 x57 x58 x59 x60 x61 x62 x63 x64 x65 x66 x67 x68 x69 x71 x72 x73 x74 x75 x76 x77 x78 x79 x80 x81 x82 x83 x84 x85 x86 x87 x88 x89 x90 x91 x92 x93 x94 x95 x96 x97 x98 x99 x100 x101 x102 x103 x104 x105 x106 x107 x108 x109 x110 x111 x112 x113 x114 x115 x116 x117 x118 x119 x120 x121 x122 x123 x124 x125 x126 x127 x128 x129 x130 x131 x132 x133 x134 x135 x136 x137 x138 x139 x140 x141 x142 x143 x144 x145 x146 x147 x148 x149 x150 x151 x152 x153 x154 x155 x156 x157 x158 x159 x160 x161 x162 x163 x164 x165 x166 x167 x168 x169 x170 x171 x172 x173 x174 x175 x176 x177 x178 x179 x180 x181 x182 x183 x184 x185 x186 x187 x188 x189 x190 x191 x192 x193 x194 x195 x196 x197 x198 x199 x200 x201 x202 x203 x204 x205 x206 x207 x208 x209 x210 x211 x212 x213 x214 x215 x216 x217 x218 x219 x220 x221 x222 x223 x224 x225 x226 x227 x228 x229 x230 x231 x232 x233 x234 x235 x236 x237 x238 x239 x240 x241 x242 x243 x244 x245 Q0 hQ
  · exact sw1_5 w W0 p r q f go kind at' n wv B cb bs ys hf hpq hrq hgq hwr hwq hmW hbW HY hKW hbo' hbs hl2 hwv hne x1 x2 x3 x4 x7 x9 x10 x11 x12 x13 x14 x15 x16 x17 x18 x19 x20 x21 x22 x23 x24 x25 x26 x27 x28 x29 x30 x31 x32 x33 x34 x35 x36 x37 x38 x39 x40 x41 x42 x43 x44 x45 x46 x47 x48 x49 x50 x51 x52 x53 x54 x55 x56 x57 x58 x59 x60 x61 x62 x63 x64 x65 x66 x67 x68 x69 x71 x72 x73 x74 x75 x76 x77 x78 x79 x80 x81 x82 x83 x84 x85 x86 x87 x88 x89 x90 x91 x92 x93 x94 x95 x96 x97 x98 x99 x100 x101 x102 x103 x104 x105 x106 x107 x108 x109 x110 x111 x112 x113 x114 x115 x116 x117 x118 x119 x120 x121 x122 x123 x124 x125 x126 x127 x128 x129 x130 x131 x132 x133 x134 x135 x136 x137 x138 x139 x140 x141 x142 x143 x144 x145 x146 x147 x148 x149 x150 x151 x152 x153 x154 x155 x156 x157 x158 x159 x160 x161 x162 x163 x164 x165 x166 x167 x168 x169 x170 x171 x172 x173 x174 x175 x176 x177 x178 x179 x180 x181 x182 x183 x184 x185 x186 x187 x188 x189 x190 x191 x192 x193 x194 x195 x196 x197 x198 x199 x200 x201 x202 x203 x204 x205 x206 x207 x208 x209 x210 x211 x212 x213 x214 x215 x216 x217 x218 x219 x220 x221 x222 x223 x224 x225 x226 x227 x228 x229 x230 x231 x232 x233 x234 x235 x236 x237 x238 x239 x240 x241 x242 x243 x244 x245 Q0 hQ
set_option maxRecDepth 100000 in
set_option maxHeartbeats 4000000 in
theorem MemPlays_walk (w : World) (a0 : Int) (_ : (Lit.int .i64 a0).wf = true) (A1 : Option Addr) (n1 c1 : Nat) (x1 : Ty.den (.sl 56 OpTy)) (w1 : Holds w (.sl 56 OpTy) x1 [.slice A1 n1 c1]) :
    Calls Try.prog 5 #[.int .i64 a0, .slice A1 n1 c1] w fun e w' => e = .returned (.bool true) ∧ Below w.heap.size w w' := by
  obtain ⟨f, hf, hF⟩ : ∃ f : Nat, f < 4 ∧ bits .and .i64 a0 3 = f := ⟨(a0 % 4).toNat, by omega, by rw [i64_and3]; omega⟩
  go_enter Try.func5, Try.ntmps5
  go_wp2_with fail
  refine (new_any _ _).mono ?_; rintro e wa ⟨p0, r0, rfl, hm0, hp0, hr0, hk0⟩
  go_upto_region 2 with fail
  go_cut [41] (fun s41 wx => s41 = .bool false ∧ Keep Nob wa wx)
  case first =>
    clear hF
    rcases (show a0 < 0 ∨ 256 < a0 ∨ (0 ≤ a0 ∧ a0 ≤ 256) from by omega) with h | h | ⟨h, h'⟩
    · go_wp2_with fail
      refine (awake_true _).mono ?_; rintro e wb ⟨rfl, hkb⟩
      go_wp2_with fail
      refine (size_is 0 _ _ _ _ (hm0.nob hkb) (by rw [zeros_len]; omega)).mono ?_; rintro e w' ⟨rfl, rfl⟩
      go_wp2_with fail
      go_meet
      exact ⟨rfl, hkb⟩
    · go_wp2_with fail
      refine (awake_true _).mono ?_; rintro e wb ⟨rfl, hkb⟩
      go_wp2_with fail
      refine (size_is 16384 _ _ _ _ (hm0.nob hkb) (by rw [zeros_len]; omega)).mono ?_; rintro e w' ⟨rfl, rfl⟩
      go_wp2_with fail
      go_meet
      exact ⟨rfl, hkb⟩
    · go_wp2_with fail
      refine (awake_true _).mono ?_; rintro e wb ⟨rfl, hkb⟩
      go_wp2_with fail
      refine (size_is (64 * a0) _ _ _ _ (hm0.nob hkb) (by rw [zeros_len]; omega)).mono ?_; rintro e w' ⟨rfl, rfl⟩
      go_wp2_with fail
      go_meet
      exact ⟨rfl, hkb⟩
  case rest =>
    obtain ⟨rfl, hkb⟩ := hcut
    have K0 := ((Keep.refl (From w.heap.size) w).nob hk0).nob hkb
    clear hk0 hkb hm0 hp0 hr0
    go_wp2_with fail
    refine (new_is _ f (by omega) _).mono ?_; rintro e wb ⟨p, r, rfl, hm, hp, hr, hk⟩
    have K1 := K0.nob hk
    have K1 := K0.nob hk
    have hpq := hm.obj.lt
    have hrq := hm.row.lt
    have hwq : w.heap.size ≤ wb.heap.size := K1.size
    have hwr : w.heap.size ≤ r := by have := K0.size; omega
    clear K0 hk hp hr
    go_wp2_with (refine wpList_mk rfl _ _ 22 rfl 5 (.int .u8 0) 1 Try.underlying22 Try.info5 rfl .i64 .i64 (64 * f) _ (by omega) rfl rfl (by omega) (by omega) ?_; intro wd hbd hkd hsd)
    have K2 := K1.nob hkd
    have hm2 := hm.nob hkd
    rw [← bytes_replicate] at hbd
    have hbd' : Blk wd wb.heap.size 5 (bytes (zeros f)) := hbd
    clear K1 hm hbd hkd hsd
    generalize wb.heap.size = q at *
    go_loopw [7] (fun i wr => ∃ (k : Nat) (ys : List UInt8), k ≤ 60 ∧ k ≤ n1 ∧ i = .int .i64 k ∧ IsMem wr p r ys ∧ Blk wr q 5 (bytes ys) ∧ ys.length = 64 * f ∧ Keep (From w.heap.size) w wr) (fun i _ => 60 - (intOf i).toNat)
    case atStart => exact ⟨0, zeros f, by omega, by omega, rfl, hm2, hbd', zeros_len f, K2⟩
    case round =>
      obtain ⟨k, ys, hk60, hkn, rfl, hmr, hbr, hyl, hKr⟩ := hrel
      have HY := Lib.hid hyl
      clear hyl
      by_cases hend : k < n1 ∧ k < 60
      · obtain ⟨hk1, hk2⟩ := hend
        obtain ⟨b, off, cs', rfl, hcl, hcc, hk', hh⟩ := holds_at w1 (by decide) hk1
        obtain ⟨kind, at', n, wv, B, cb, bs, rfl, hbs, hwv⟩ := op_cells hh
        have f0 := hKr.cell_from (hcc 0 _ rfl)
        have f1 := hKr.cell_from (hcc 1 _ rfl)
        have f2 := hKr.cell_from (hcc 2 _ rfl)
        have f3 := hKr.cell_from (hcc 3 _ rfl)
        have f4 := hKr.cell_from (hcc 4 _ rfl)
        have hbsr := hbs.from_ hKr
        simp only [show OpTy.size = 5 from rfl, Nat.add_zero] at f0 f1 f2 f3 f4
        clear hcc hcl hh
        by_cases hlong : 300 < bs.length
        · have hl3 : (300 : Int) < (bs.length : Int) := by omega
          go_wp2
          go_ret
          exact ⟨rfl, (hKr.alloc _).done⟩
        · have hl2 : (bs.length : Int) ≤ 300 := by omega
          go_upto_block 2 with fail
          generalize hgo : wr.heap.size = go
          go_cut [] (fun wx => ∃ ys' : List UInt8, IsMem wx p r ys' ∧ Blk wx q 5 (bytes ys') ∧ ys'.length = 64 * f ∧ Keep (From w.heap.size) w wx)
          case first =>
            have hbo := Blk.new wr 40 [.int .i64 kind, .int .i64 at', .int .i64 n, .int .u32 wv, .slice B bs.length cb]
            rw [hgo] at hbo
            have hmW := hmr.alloc (.cells #[.int .i64 kind, .int .i64 at', .int .i64 n, .int .u32 wv, .slice B bs.length cb] 40)
            have hbW := hbr.alloc (.cells #[.int .i64 kind, .int .i64 at', .int .i64 n, .int .u32 wv, .slice B bs.length cb] 40)
            have hKW := hKr.alloc (.cells #[.int .i64 kind, .int .i64 at', .int .i64 n, .int .u32 wv, .slice B bs.length cb] 40)
            have hgq : q < go := by have := hbr.lt; omega
            generalize hW : wr.alloc (.cells #[.int .i64 kind, .int .i64 at', .int .i64 n, .int .u32 wv, .slice B bs.length cb] 40) = W0 at *
            clear hW f0 f1 f2 f3 f4 hbsr hmr hbr hKr hm2 hbd' K2 hgo
            refine sw1_any w W0 p r q f go kind at' n wv B cb bs ys hf hpq hrq hgq hwr hwq hmW hbW HY hKW hbo hbs hl2 hwv _ _ _ _ _ _ _ _ _ _ _ _ _ _ _ _ _ _ _ _ _ _ _ _ _ _ _ _ _ _ _ _ _ _ _ _ _ _ _ _ _ _ _ _ _ _ _ _ _ _ _ _ _ _ _ _ _ _ _ _ _ _ _ _ _ _ _ _ _ _ _ _ _ _ _ _ _ _ _ _ _ _ _ _ _ _ _ _ _ _ _ _ _ _ _ _ _ _ _ _ _ _ _ _ _ _ _ _ _ _ _ _ _ _ _ _ _ _ _ _ _ _ _ _ _ _ _ _ _ _ _ _ _ _ _ _ _ _ _ _ _ _ _ _ _ _ _ _ _ _ _ _ _ _ _ _ _ _ _ _ _ _ _ _ _ _ _ _ _ _ _ _ _ _ _ _ _ _ _ _ _ _ _ _ _ _ _ _ _ _ _ _ _ _ _ _ _ _ _ _ _ _ _ _ _ _ _ _ _ _ _ _ _ _ _ _ _ _ _ _ _ _ _ _ _ _ _ _ _ _ _ _ _ _ _ _ _ _ _ _ _ _ ?_
            · intro a' w' h
              obtain ⟨u4, h⟩ := h
              obtain ⟨u9, h⟩ := h
              obtain ⟨u10, h⟩ := h
              obtain ⟨u11, h⟩ := h
              obtain ⟨u12, h⟩ := h
              obtain ⟨u13, h⟩ := h
              obtain ⟨u14, h⟩ := h
              obtain ⟨u15, h⟩ := h
              obtain ⟨u16, h⟩ := h
              obtain ⟨u17, h⟩ := h
              obtain ⟨u18, h⟩ := h
              obtain ⟨u19, h⟩ := h
              obtain ⟨u20, h⟩ := h
              obtain ⟨u21, h⟩ := h
              obtain ⟨u22, h⟩ := h
              obtain ⟨u71, h⟩ := h
              obtain ⟨u72, h⟩ := h
              obtain ⟨u73, h⟩ := h
              obtain ⟨u74, h⟩ := h
              obtain ⟨u75, h⟩ := h
              obtain ⟨u76, h⟩ := h
              obtain ⟨u77, h⟩ := h
              obtain ⟨u78, h⟩ := h
              obtain ⟨u79, h⟩ := h
              obtain ⟨u80, h⟩ := h
              obtain ⟨u81, h⟩ := h
              obtain ⟨u82, h⟩ := h
              obtain ⟨u83, h⟩ := h
              obtain ⟨u84, h⟩ := h
              obtain ⟨u85, h⟩ := h
              obtain ⟨u86, h⟩ := h
              obtain ⟨u87, h⟩ := h
              obtain ⟨u88, h⟩ := h
              obtain ⟨u89, h⟩ := h
              obtain ⟨u90, h⟩ := h
              obtain ⟨u91, h⟩ := h
              obtain ⟨u92, h⟩ := h
              obtain ⟨u93, h⟩ := h
              obtain ⟨u94, h⟩ := h
              obtain ⟨u95, h⟩ := h
              obtain ⟨u96, h⟩ := h
              obtain ⟨u97, h⟩ := h
              obtain ⟨u98, h⟩ := h
              obtain ⟨u99, h⟩ := h
              obtain ⟨u100, h⟩ := h
              obtain ⟨u101, h⟩ := h
              obtain ⟨u102, h⟩ := h
              obtain ⟨u103, h⟩ := h
              obtain ⟨u104, h⟩ := h
              obtain ⟨u105, h⟩ := h
              obtain ⟨u106, h⟩ := h
              obtain ⟨u107, h⟩ := h
              obtain ⟨u108, h⟩ := h
              obtain ⟨u109, h⟩ := h
              obtain ⟨u110, h⟩ := h
              obtain ⟨u111, h⟩ := h
              obtain ⟨u112, h⟩ := h
              obtain ⟨u113, h⟩ := h
              obtain ⟨u114, h⟩ := h
              obtain ⟨u115, h⟩ := h
              obtain ⟨u116, h⟩ := h
              obtain ⟨u117, h⟩ := h
              obtain ⟨u118, h⟩ := h
              obtain ⟨u119, h⟩ := h
              obtain ⟨u120, h⟩ := h
              obtain ⟨u121, h⟩ := h
              obtain ⟨u122, h⟩ := h
              obtain ⟨u123, h⟩ := h
              obtain ⟨u124, h⟩ := h
              obtain ⟨u125, h⟩ := h
              obtain ⟨u126, h⟩ := h
              obtain ⟨u127, h⟩ := h
              obtain ⟨u128, h⟩ := h
              obtain ⟨u129, h⟩ := h
              obtain ⟨u130, h⟩ := h
              obtain ⟨u131, h⟩ := h
              obtain ⟨u132, h⟩ := h
              obtain ⟨u133, h⟩ := h
              obtain ⟨u134, h⟩ := h
              obtain ⟨u135, h⟩ := h
              obtain ⟨u136, h⟩ := h
              obtain ⟨u137, h⟩ := h
              obtain ⟨u138, h⟩ := h
              obtain ⟨u139, h⟩ := h
              obtain ⟨u140, h⟩ := h
              obtain ⟨u141, h⟩ := h
              obtain ⟨u142, h⟩ := h
              obtain ⟨u143, h⟩ := h
              obtain ⟨u144, h⟩ := h
              obtain ⟨u145, h⟩ := h
              obtain ⟨u146, h⟩ := h
              obtain ⟨u147, h⟩ := h
              obtain ⟨u148, h⟩ := h
              obtain ⟨u149, h⟩ := h
              obtain ⟨u150, h⟩ := h
              obtain ⟨u151, h⟩ := h
              obtain ⟨u152, h⟩ := h
              obtain ⟨u153, h⟩ := h
              obtain ⟨u154, h⟩ := h
              obtain ⟨u155, h⟩ := h
              obtain ⟨u156, h⟩ := h
              obtain ⟨u157, h⟩ := h
              obtain ⟨u158, h⟩ := h
              obtain ⟨u159, h⟩ := h
              obtain ⟨u160, h⟩ := h
              obtain ⟨u161, h⟩ := h
              obtain ⟨u162, h⟩ := h
              obtain ⟨u163, h⟩ := h
              obtain ⟨u164, h⟩ := h
              obtain ⟨u165, h⟩ := h
              obtain ⟨u166, h⟩ := h
              obtain ⟨u167, h⟩ := h
              obtain ⟨u168, h⟩ := h
              obtain ⟨u169, h⟩ := h
              obtain ⟨u170, h⟩ := h
              obtain ⟨u171, h⟩ := h
              obtain ⟨u172, h⟩ := h
              obtain ⟨u173, h⟩ := h
              obtain ⟨u174, h⟩ := h
              obtain ⟨u175, h⟩ := h
              obtain ⟨u176, h⟩ := h
              obtain ⟨u177, h⟩ := h
              obtain ⟨u178, h⟩ := h
              obtain ⟨u179, h⟩ := h
              obtain ⟨u180, h⟩ := h
              obtain ⟨u181, h⟩ := h
              obtain ⟨u182, h⟩ := h
              obtain ⟨u183, h⟩ := h
              obtain ⟨u184, h⟩ := h
              obtain ⟨u185, h⟩ := h
              obtain ⟨u186, h⟩ := h
              obtain ⟨u187, h⟩ := h
              obtain ⟨u188, h⟩ := h
              obtain ⟨u189, h⟩ := h
              obtain ⟨u190, h⟩ := h
              obtain ⟨u191, h⟩ := h
              obtain ⟨u192, h⟩ := h
              obtain ⟨u193, h⟩ := h
              obtain ⟨u194, h⟩ := h
              obtain ⟨u195, h⟩ := h
              obtain ⟨u196, h⟩ := h
              obtain ⟨u197, h⟩ := h
              obtain ⟨u198, h⟩ := h
              obtain ⟨u199, h⟩ := h
              obtain ⟨u200, h⟩ := h
              obtain ⟨u201, h⟩ := h
              obtain ⟨u202, h⟩ := h
              obtain ⟨u203, h⟩ := h
              obtain ⟨u204, h⟩ := h
              obtain ⟨u205, h⟩ := h
              obtain ⟨u206, h⟩ := h
              obtain ⟨u207, h⟩ := h
              obtain ⟨u208, h⟩ := h
              obtain ⟨u209, h⟩ := h
              obtain ⟨u210, h⟩ := h
              obtain ⟨u211, h⟩ := h
              obtain ⟨u212, h⟩ := h
              obtain ⟨u213, h⟩ := h
              obtain ⟨u214, h⟩ := h
              obtain ⟨u215, h⟩ := h
              obtain ⟨u216, h⟩ := h
              obtain ⟨u217, h⟩ := h
              obtain ⟨u218, h⟩ := h
              obtain ⟨u219, h⟩ := h
              obtain ⟨u220, h⟩ := h
              obtain ⟨u221, h⟩ := h
              obtain ⟨u222, h⟩ := h
              obtain ⟨u223, h⟩ := h
              obtain ⟨u224, h⟩ := h
              obtain ⟨u225, h⟩ := h
              obtain ⟨u226, h⟩ := h
              obtain ⟨u227, h⟩ := h
              obtain ⟨u228, h⟩ := h
              obtain ⟨u229, h⟩ := h
              obtain ⟨h, rfl⟩ := h
              dsimp only
              go_wp2_with fail
              go_meet
              exact h
          case rest =>
            obtain ⟨ys', hmc, hbc, hlc, hKc⟩ := hcut
            have HL := Lib.hid hlc
            clear hlc HY
            go_wp2_with fail
            refine (size_is (64 * f : Nat) p r _ _ hmc (by rw [HL.out])).mono ?_; rintro e W1 ⟨rfl, rfl⟩
            go_wp2_with fail
            refine (load_is _ _ p r 0 (64 * f) rfl rfl _ ys' _ hmc (by rw [HL.out]; omega) (by rw [List.drop_zero, List.take_of_length_le (by rw [HL.out]; omega)])).mono ?_; rintro e W2 ⟨g5, rfl, hb5, hg5, hk5⟩
            rw [HL.out]
            have hb6 := hbc.keep hk5 (fun f => f)
            have s1 := fun c => run_str (P := Try.prog) W2 22 9 5 (some ⟨g5, 0, none⟩) (64 * f) c ys' Try.underlying22 Try.underlying5 Try.underlying9 (reads_all hb5 (by rw [bytes_length]; exact HL.out))
            have s2 := fun c => run_str (P := Try.prog) W2 22 9 5 (some ⟨q, 0, none⟩) (64 * f) c ys' Try.underlying22 Try.underlying5 Try.underlying9 (reads_all hb6 (by rw [bytes_length]; exact HL.out))
            go_wp2
            go_roundw
            case rel => exact ⟨k + 1, ys', by omega, by omega, by go_num, hmc.nob hk5, hb6, HL.out, hKc.nob hk5⟩
            case measure => simp [intOf]; omega
      · have hor : n1 ≤ k ∨ 60 ≤ k := by omega
        rcases hor with h | h
        · have hq : ¬ ((k : Int) < (n1 : Int)) := by omega
          go_wp2
          go_ret
          exact ⟨rfl, hKr.done⟩
        · obtain rfl : k = 60 := by omega
          by_cases hq : (60 : Int) < (n1 : Int)
          · go_wp2
            go_ret
            exact ⟨rfl, hKr.done⟩
          · go_wp2
            go_ret
            exact ⟨rfl, hKr.done⟩
end Go.Proofs.Ytngempcnjijfhaa
