/- The switch in TablePlays, case 1. -/
import Derived.Test.YtkokcamplhekaaaLaw2s
namespace Go.Proofs.Ytkokcamplhekaaa
open Go.RowKit
set_option linter.unusedVariables false
set_option maxRecDepth 1000000 in
set_option maxHeartbeats 8000000 in
theorem sw2_1 (w W0 : World) (n p1 r1 p2 r2 q : Nat) (A : Option Addr) (cA gv : Nat) (B : Option Addr) (cB k : Nat) (g : Nat → Nat) (o : Nat → Bool) (y : Nat → Int) (all : List Int) (go : Nat) (opH opR opV nm : Int) (th : Bool) (hn : n ≤ 256) (hr1 : w.heap.size ≤ r1) (hr2 : w.heap.size ≤ r2) (hA : ∀ b, Own A b → w.heap.size ≤ b) (hgv : w.heap.size ≤ gv)
    (h : PS w W0 n p1 r1 p2 r2 q A cA gv B cB k g o y all) (hB : ∀ b, Own B b → gv < b) (hk : k ≤ 100) (hop : Blk W0 go 48 [.int .i64 1, .int .i64 opH, .int .i64 opR, .int .i64 opV]) (hth : Th n g o nm th)
    (x0 x1 x2 x3 x4 x10 x14 x15 x16 x17 x18 x19 x20 x21 x22 x23 x24 x25 x26 x27 x28 x29 x30 x31 x32 x33 x34 x35 x36 x37 x38 x39 x40 x41 x42 x43 x44 x45 x46 x47 x48 x49 x50 x51 x52 x53 x54 x55 x56 x57 x58 x59 x60 x61 x62 x63 x64 x65 x66 x67 x68 x69 x70 x71 x72 x73 x74 x75 x76 x77 x78 x79 x80 x81 x82 x83 x85 x86 x87 x88 x89 x90 x91 x92 x93 x94 x95 x96 x97 x98 x99 x100 x101 x102 x103 x104 x105 x106 x107 x108 x109 x110 x111 x112 x113 x114 x115 x116 x117 x118 x119 x120 x121 x122 x123 x124 x125 x126 x127 x128 x129 x130 x131 x132 x133 x134 x135 x136 x137 x138 x139 x140 x141 x142 x143 x144 x145 x146 x147 x148 x149 x150 x151 x152 x153 x154 x155 x156 x157 x158 x159 x160 x161 x162 x163 x164 x165 x166 x167 x168 x169 x170 x171 x172 x173 x174 x175 x176 x177 x178 x179 x180 x181 x182 x183 x184 x185 x186 x187 x188 x189 x190 x191 x192 x193 x194 x195 x196 x197 x198 x199 x200 x201 x202 x203 x204 x205 x206 x207 x208 x209 x210 x211 x212 x213 x214 x215 x216 x217 x218 x219 x220 x221 x222 x223 x224 x225 x226 x227 x228 x229 x230 x231 x232 x233 x234 x235 x236 x237 x238 x239 x240 x241 x242 x243 x244 x245 x246 x247 x248 x249 x250 x251 x252 x253 x254 x255 x256 x257 x258 x259 x260 x261 x262 x263 x264 : Value) (Q0 : Exit → Act → World → Prop) (hQ : ∀ a' w', Sw2Rel w n p1 r1 p2 r2 q A cA gv k go nm th 1 x0 x1 x2 x3 x10 x24 x25 x26 x27 x28 x29 x30 x31 x32 x33 x34 x35 x36 x37 x38 x39 x40 x41 x42 x43 x44 x45 x46 x47 x48 x49 x50 x51 x52 x53 x54 x55 x56 x57 x58 x59 x60 x61 x62 x63 x64 x65 x66 x67 x68 x69 x70 x71 x72 x73 x74 x75 x76 x77 x78 x79 x80 x81 x82 x83 x243 x244 x245 x246 x247 x248 x249 x250 x251 x252 x253 x254 x255 x256 x257 x258 x259 x260 x261 x262 x263 x264 a' w' → Q0 .normal a' w') :
    Code.wp Try.prog sw2 Q0 ⟨#[x0, x1, x2, x3, x4, .pointer (some ⟨p1, 0, none⟩), .pointer (some ⟨p2, 0, none⟩), .pointer (some ⟨q, 0, none⟩), .slice (some ⟨gv, 0, none⟩) 256 256, .slice B all.length cB, x10, .pointer (some ⟨go, 0, none⟩), .int .i64 nm, .bool th, x14, x15, x16, x17, x18, x19, x20, x21, x22, x23, x24, x25, x26, x27, x28, x29, x30, x31, x32, x33, x34, x35, x36, x37, x38, x39, x40, x41, x42, x43, x44, x45, x46, x47, x48, x49, x50, x51, x52, x53, x54, x55, x56, x57, x58, x59, x60, x61, x62, x63, x64, x65, x66, x67, x68, x69, x70, x71, x72, x73, x74, x75, x76, x77, x78, x79, x80, x81, x82, x83, .int .i64 1, x85, x86, x87, x88, x89, x90, x91, x92, x93, x94, x95, x96, x97, x98, x99, x100, x101, x102, x103, x104, x105, x106, x107, x108, x109, x110, x111, x112, x113, x114, x115, x116, x117, x118, x119, x120, x121, x122, x123, x124, x125, x126, x127, x128, x129, x130, x131, x132, x133, x134, x135, x136, x137, x138, x139, x140, x141, x142, x143, x144, x145, x146, x147, x148, x149, x150, x151, x152, x153, x154, x155, x156, x157, x158, x159, x160, x161, x162, x163, x164, x165, x166, x167, x168, x169, x170, x171, x172, x173, x174, x175, x176, x177, x178, x179, x180, x181, x182, x183, x184, x185, x186, x187, x188, x189, x190, x191, x192, x193, x194, x195, x196, x197, x198, x199, x200, x201, x202, x203, x204, x205, x206, x207, x208, x209, x210, x211, x212, x213, x214, x215, x216, x217, x218, x219, x220, x221, x222, x223, x224, x225, x226, x227, x228, x229, x230, x231, x232, x233, x234, x235, x236, x237, x238, x239, x240, x241, x242, x243, x244, x245, x246, x247, x248, x249, x250, x251, x252, x253, x254, x255, x256, x257, x258, x259, x260, x261, x262, x263, x264], []⟩ W0 := by
  have op3 : W0.cell? ⟨go, 3, none⟩ = some (.int .i64 opV) := hop.cell 3
  conv => arg 2; whnf
  rcases hth with ⟨rfl, i, hi, ho, hv⟩ | ⟨rfl, hno⟩
  · have HV := Lib.hid hv
    have hgy := h.young i hi
    have hm : bits .and .i64 nm 255 = (i : Int) := by rw [i64_and255, hv]; omega
    clear hv
    have vi : W0.cell? ⟨gv, i, none⟩ = some (.int .i64 (y i)) := by rw [h.vv.cell]; exact mk_get (by omega)
    have bs1 := fun c => byte_str W0 (y i) c
    have al1 := (Keep.refl Nob W0).alloc (.cells #[.int .u8 (y i % 256)] 5)
    have h1 := h.nob al1
    go_wp2_with fail
    refine (TabI.get_yes (a := nm) (i := i) (q := pT g o y i) (.int .i64 (y i)) h.tt (mk_get hi) ho HV.out (by simp [pT, ho])).mono ?_; rintro e W1 ⟨rfl, rfl⟩
    go_wp2_with fail
    refine (TabS.get_yes (a := nm) (i := i) (q := pU g o y i) (.string (str (byt (y i)))) h.uu (mk_get hi) ho HV.out (by simp [pU, ho])).mono ?_; rintro e W1 ⟨rfl, rfl⟩
    go_wp2_with fail
    exact ⟨_, _, _, _, _, _, _, _, _, _, _, _, _, _, _, _, _, _, _, _, _, _, _, _, _, _, _, _, _, _, _, _, _, _, _, _, _, _, _, _, _, _, _, _, _, _, _, _, _, _, _, _, _, _, _, _, _, _, _, _, _, _, _, _, _, _, _, _, _, _, _, _, _, _, _, _, _, _, _, _, _, _, _, _, _, _, _, _, _, _, _, _, _, _, _, _, _, _, _, _, _, _, _, _, _, _, _, _, _, _, _, _, _, _, _, _, _, _, _, _, _, _, _, _, _, _, _, _, _, _, _, _, _, _, _, _, _, _, _, _, _, _, _, _, _, _, _, _, _, _, _, _, _, _, _, _, _, _, _, _, _, _, _, _, _, _, _, _, _, B, cB, g, o, y, all, h1.more, hB, rfl⟩
  · go_wp2_with fail
    refine (TabI.get_no (a := nm) h.tt (noT hno)).mono ?_; rintro e W1 ⟨rfl, rfl⟩
    go_wp2_with fail
    refine (TabS.get_no (a := nm) h.uu (noU hno)).mono ?_; rintro e W1 ⟨rfl, rfl⟩
    go_wp2_with fail
    exact ⟨_, _, _, _, _, _, _, _, _, _, _, _, _, _, _, _, _, _, _, _, _, _, _, _, _, _, _, _, _, _, _, _, _, _, _, _, _, _, _, _, _, _, _, _, _, _, _, _, _, _, _, _, _, _, _, _, _, _, _, _, _, _, _, _, _, _, _, _, _, _, _, _, _, _, _, _, _, _, _, _, _, _, _, _, _, _, _, _, _, _, _, _, _, _, _, _, _, _, _, _, _, _, _, _, _, _, _, _, _, _, _, _, _, _, _, _, _, _, _, _, _, _, _, _, _, _, _, _, _, _, _, _, _, _, _, _, _, _, _, _, _, _, _, _, _, _, _, _, _, _, _, _, _, _, _, _, _, _, _, _, _, _, _, _, _, _, _, _, _, B, cB, g, o, y, all, h.more, hB, rfl⟩
end Go.Proofs.Ytkokcamplhekaaa
