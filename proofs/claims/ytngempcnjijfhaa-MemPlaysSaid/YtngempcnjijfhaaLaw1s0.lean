/- The switch in MemPlays, case 0. -/
import Derived.Test.YtngempcnjijfhaaLaw1s
namespace Go.Proofs.Ytngempcnjijfhaa
open Go.RowKit
set_option linter.unusedVariables false
set_option maxRecDepth 1000000 in
set_option maxHeartbeats 4000000 in
theorem sw1_0 (w W0 : World) (p r q f go : Nat) (at' n wv : Int) (B : Option Addr) (cb : Nat) (bs ys : List UInt8) (hf : f < 4) (hpq : p < q) (hrq : r < q) (hgq : q < go) (hwr : w.heap.size ≤ r) (hwq : w.heap.size ≤ q)
    (hmW : IsMem W0 p r ys) (hbW : Blk W0 q 5 (bytes ys)) (HY : Hid (ys.length = 64 * f)) (hKW : Keep (From w.heap.size) w W0) (hbo' : Blk W0 go 40 [.int .i64 0, .int .i64 at', .int .i64 n, .int .u32 wv, .slice B bs.length cb])
    (hbs : Reads w B bs.length (bytes bs)) (hl2 : (bs.length : Int) ≤ 300) (hwv : (Lit.int .u32 wv).wf = true)
    (x1 x2 x3 x4 x7 x9 x10 x11 x12 x13 x14 x15 x16 x17 x18 x19 x20 x21 x22 x23 x24 x25 x26 x27 x28 x29 x30 x31 x32 x33 x34 x35 x36 x37 x38 x39 x40 x41 x42 x43 x44 x45 x46 x47 x48 x49 x50 x51 x52 x53 x54 x55 x56 x57 x58 x59 x60 x61 x62 x63 x64 x65 x66 x67 x68 x69 x71 x72 x73 x74 x75 x76 x77 x78 x79 x80 x81 x82 x83 x84 x85 x86 x87 x88 x89 x90 x91 x92 x93 x94 x95 x96 x97 x98 x99 x100 x101 x102 x103 x104 x105 x106 x107 x108 x109 x110 x111 x112 x113 x114 x115 x116 x117 x118 x119 x120 x121 x122 x123 x124 x125 x126 x127 x128 x129 x130 x131 x132 x133 x134 x135 x136 x137 x138 x139 x140 x141 x142 x143 x144 x145 x146 x147 x148 x149 x150 x151 x152 x153 x154 x155 x156 x157 x158 x159 x160 x161 x162 x163 x164 x165 x166 x167 x168 x169 x170 x171 x172 x173 x174 x175 x176 x177 x178 x179 x180 x181 x182 x183 x184 x185 x186 x187 x188 x189 x190 x191 x192 x193 x194 x195 x196 x197 x198 x199 x200 x201 x202 x203 x204 x205 x206 x207 x208 x209 x210 x211 x212 x213 x214 x215 x216 x217 x218 x219 x220 x221 x222 x223 x224 x225 x226 x227 x228 x229 x230 x231 x232 x233 x234 x235 x236 x237 x238 x239 x240 x241 x242 x243 x244 x245 : Value) (Q0 : Exit → Act → World → Prop) (hQ : ∀ a' w', Sw1Rel w p r q f go 0 x1 x2 x3 x7 x23 x24 x25 x26 x27 x28 x29 x30 x31 x32 x33 x34 x35 x36 x37 x38 x39 x40 x41 x42 x43 x44 x45 x46 x47 x48 x49 x50 x51 x52 x53 x54 x55 x56 x57 x58 x59 x60 x61 x62 x63 x64 x65 x66 x67 x68 x69 x230 x231 x232 x233 x234 x235 x236 x237 x238 x239 x240 x241 x242 x243 x244 x245 a' w' → Q0 .normal a' w') :
    Code.wp Try.prog sw1 Q0 ⟨#[.int .i64 f, x1, x2, x3, x4, .pointer (some ⟨p, 0, none⟩), .slice (some ⟨q, 0, none⟩) (64 * f) (64 * f), x7, .pointer (some ⟨go, 0, none⟩), x9, x10, x11, x12, x13, x14, x15, x16, x17, x18, x19, x20, x21, x22, x23, x24, x25, x26, x27, x28, x29, x30, x31, x32, x33, x34, x35, x36, x37, x38, x39, x40, x41, x42, x43, x44, x45, x46, x47, x48, x49, x50, x51, x52, x53, x54, x55, x56, x57, x58, x59, x60, x61, x62, x63, x64, x65, x66, x67, x68, x69, .int .i64 0, x71, x72, x73, x74, x75, x76, x77, x78, x79, x80, x81, x82, x83, x84, x85, x86, x87, x88, x89, x90, x91, x92, x93, x94, x95, x96, x97, x98, x99, x100, x101, x102, x103, x104, x105, x106, x107, x108, x109, x110, x111, x112, x113, x114, x115, x116, x117, x118, x119, x120, x121, x122, x123, x124, x125, x126, x127, x128, x129, x130, x131, x132, x133, x134, x135, x136, x137, x138, x139, x140, x141, x142, x143, x144, x145, x146, x147, x148, x149, x150, x151, x152, x153, x154, x155, x156, x157, x158, x159, x160, x161, x162, x163, x164, x165, x166, x167, x168, x169, x170, x171, x172, x173, x174, x175, x176, x177, x178, x179, x180, x181, x182, x183, x184, x185, x186, x187, x188, x189, x190, x191, x192, x193, x194, x195, x196, x197, x198, x199, x200, x201, x202, x203, x204, x205, x206, x207, x208, x209, x210, x211, x212, x213, x214, x215, x216, x217, x218, x219, x220, x221, x222, x223, x224, x225, x226, x227, x228, x229, x230, x231, x232, x233, x234, x235, x236, x237, x238, x239, x240, x241, x242, x243, x244, x245], []⟩ W0 := by
  have g0 : W0.cell? ⟨go, 0, none⟩ = some (.int .i64 0) := hbo'.cell 0
  have g1 : W0.cell? ⟨go, 1, none⟩ = some (.int .i64 at') := hbo'.cell 1
  have g2 : W0.cell? ⟨go, 2, none⟩ = some (.int .i64 n) := hbo'.cell 2
  have g3 : W0.cell? ⟨go, 3, none⟩ = some (.int .u32 wv) := hbo'.cell 3
  have g4 : W0.cell? ⟨go, 4, none⟩ = some (.slice B bs.length cb) := hbo'.cell 4
  have hbsW := hbs.from_ hKW
  conv => arg 2; whnf
  by_cases hin : 0 ≤ at' ∧ 0 ≤ n ∧ at' + n ≤ (64 * f : Nat)
  · obtain ⟨h1, h2, h3⟩ := hin
    obtain ⟨i, rfl⟩ := Int.eq_ofNat_of_zero_le h1
    obtain ⟨m, rfl⟩ := Int.eq_ofNat_of_zero_le h2
    obtain ⟨zs, hz⟩ : ∃ zs, Hid ((ys.drop i).take m = zs) := ⟨_, rfl⟩
    go_wp2_with fail
    refine (load_is _ _ p r i m rfl rfl _ zs _ hmW (by rw [HY.out]; omega) hz.out).mono ?_; rintro e W1 ⟨g5, rfl, hb5, hg5, hk5⟩
    have hbo1 := hbo'.keep hk5 (fun f => f)
    have e1 : W1.cell? ⟨go, 1, none⟩ = some (.int .i64 i) := hbo1.cell 1
    have e2 : W1.cell? ⟨go, 2, none⟩ = some (.int .i64 m) := hbo1.cell 2
    go_wp2_with fail
    refine (rload_is _ _ q i m (64 * f) rfl rfl ys zs _ (hbW.keep hk5 (fun f => f)) HY.out (by omega) (by omega) hz.out).mono ?_; rintro e W2 ⟨rfl, rfl⟩
    have s1 := fun c => run_str (P := Try.prog) W1 22 9 5 (some ⟨g5, 0, none⟩) zs.length c zs Try.underlying22 Try.underlying5 Try.underlying9 (reads_all hb5 (bytes_length _))
    go_wp2_with fail
    exact ⟨_, _, _, _, _, _, _, _, _, _, _, _, _, _, _, _, _, _, _, _, _, _, _, _, _, _, _, _, _, _, _, _, _, _, _, _, _, _, _, _, _, _, _, _, _, _, _, _, _, _, _, _, _, _, _, _, _, _, _, _, _, _, _, _, _, _, _, _, _, _, _, _, _, _, _, _, _, _, _, _, _, _, _, _, _, _, _, _, _, _, _, _, _, _, _, _, _, _, _, _, _, _, _, _, _, _, _, _, _, _, _, _, _, _, _, _, _, _, _, _, _, _, _, _, _, _, _, _, _, _, _, _, _, _, _, _, _, _, _, _, _, _, _, _, _, _, _, _, _, _, _, _, _, _, _, _, _, _, _, _, _, _, _, _, _, _, _, _, _, _, _, _, _, _, ⟨ys, hmW.nob hk5, hbW.keep hk5 (fun f => f), HY.out, hKW.nob hk5⟩, rfl⟩
  · have HIN := Lib.hid hin
    clear hin
    go_wp2_with fail
    refine (load_no p r _ _ _ _ hmW (by rw [HY.out]; exact HIN.out)).mono ?_; rintro e W1 ⟨rfl, rfl⟩
    go_wp2_with fail
    refine (rload_no q (64 * f) _ _ _ (by omega) HIN.out).mono ?_; rintro e W2 ⟨rfl, rfl⟩
    have s1 := fun c => run_str (P := Try.prog) W0 22 9 5 none 0 c [] Try.underlying22 Try.underlying5 Try.underlying9 (Reads.nil_ _ _)
    go_wp2_with fail
    exact ⟨_, _, _, _, _, _, _, _, _, _, _, _, _, _, _, _, _, _, _, _, _, _, _, _, _, _, _, _, _, _, _, _, _, _, _, _, _, _, _, _, _, _, _, _, _, _, _, _, _, _, _, _, _, _, _, _, _, _, _, _, _, _, _, _, _, _, _, _, _, _, _, _, _, _, _, _, _, _, _, _, _, _, _, _, _, _, _, _, _, _, _, _, _, _, _, _, _, _, _, _, _, _, _, _, _, _, _, _, _, _, _, _, _, _, _, _, _, _, _, _, _, _, _, _, _, _, _, _, _, _, _, _, _, _, _, _, _, _, _, _, _, _, _, _, _, _, _, _, _, _, _, _, _, _, _, _, _, _, _, _, _, _, _, _, _, _, _, _, _, _, _, _, _, _, ⟨ys, hmW, hbW, HY.out, hKW⟩, rfl⟩

end Go.Proofs.Ytngempcnjijfhaa
