/- The switch in MemPlays, case 2. -/
import Derived.Test.YtngempcnjijfhaaLaw1s
namespace Go.Proofs.Ytngempcnjijfhaa
open Go.RowKit
set_option linter.unusedVariables false
set_option maxRecDepth 1000000 in
set_option maxHeartbeats 4000000 in
theorem sw1_2 (w W0 : World) (p r q f go : Nat) (at' n wv : Int) (B : Option Addr) (cb : Nat) (bs ys : List UInt8) (hf : f < 4) (hpq : p < q) (hrq : r < q) (hgq : q < go) (hwr : w.heap.size ≤ r) (hwq : w.heap.size ≤ q)
    (hmW : IsMem W0 p r ys) (hbW : Blk W0 q 5 (bytes ys)) (HY : Hid (ys.length = 64 * f)) (hKW : Keep (From w.heap.size) w W0) (hbo' : Blk W0 go 40 [.int .i64 2, .int .i64 at', .int .i64 n, .int .u32 wv, .slice B bs.length cb])
    (hbs : Reads w B bs.length (bytes bs)) (hl2 : (bs.length : Int) ≤ 300) (hwv : (Lit.int .u32 wv).wf = true)
    (x1 x2 x3 x4 x7 x9 x10 x11 x12 x13 x14 x15 x16 x17 x18 x19 x20 x21 x22 x23 x24 x25 x26 x27 x28 x29 x30 x31 x32 x33 x34 x35 x36 x37 x38 x39 x40 x41 x42 x43 x44 x45 x46 x47 x48 x49 x50 x51 x52 x53 x54 x55 x56 x57 x58 x59 x60 x61 x62 x63 x64 x65 x66 x67 x68 x69 x71 x72 x73 x74 x75 x76 x77 x78 x79 x80 x81 x82 x83 x84 x85 x86 x87 x88 x89 x90 x91 x92 x93 x94 x95 x96 x97 x98 x99 x100 x101 x102 x103 x104 x105 x106 x107 x108 x109 x110 x111 x112 x113 x114 x115 x116 x117 x118 x119 x120 x121 x122 x123 x124 x125 x126 x127 x128 x129 x130 x131 x132 x133 x134 x135 x136 x137 x138 x139 x140 x141 x142 x143 x144 x145 x146 x147 x148 x149 x150 x151 x152 x153 x154 x155 x156 x157 x158 x159 x160 x161 x162 x163 x164 x165 x166 x167 x168 x169 x170 x171 x172 x173 x174 x175 x176 x177 x178 x179 x180 x181 x182 x183 x184 x185 x186 x187 x188 x189 x190 x191 x192 x193 x194 x195 x196 x197 x198 x199 x200 x201 x202 x203 x204 x205 x206 x207 x208 x209 x210 x211 x212 x213 x214 x215 x216 x217 x218 x219 x220 x221 x222 x223 x224 x225 x226 x227 x228 x229 x230 x231 x232 x233 x234 x235 x236 x237 x238 x239 x240 x241 x242 x243 x244 x245 : Value) (Q0 : Exit → Act → World → Prop) (hQ : ∀ a' w', Sw1Rel w p r q f go 2 x1 x2 x3 x7 x23 x24 x25 x26 x27 x28 x29 x30 x31 x32 x33 x34 x35 x36 x37 x38 x39 x40 x41 x42 x43 x44 x45 x46 x47 x48 x49 x50 x51 x52 x53 x54 x55 x56 x57 x58 x59 x60 x61 x62 x63 x64 x65 x66 x67 x68 x69 x230 x231 x232 x233 x234 x235 x236 x237 x238 x239 x240 x241 x242 x243 x244 x245 a' w' → Q0 .normal a' w') :
    Code.wp Try.prog sw1 Q0 ⟨#[.int .i64 f, x1, x2, x3, x4, .pointer (some ⟨p, 0, none⟩), .slice (some ⟨q, 0, none⟩) (64 * f) (64 * f), x7, .pointer (some ⟨go, 0, none⟩), x9, x10, x11, x12, x13, x14, x15, x16, x17, x18, x19, x20, x21, x22, x23, x24, x25, x26, x27, x28, x29, x30, x31, x32, x33, x34, x35, x36, x37, x38, x39, x40, x41, x42, x43, x44, x45, x46, x47, x48, x49, x50, x51, x52, x53, x54, x55, x56, x57, x58, x59, x60, x61, x62, x63, x64, x65, x66, x67, x68, x69, .int .i64 2, x71, x72, x73, x74, x75, x76, x77, x78, x79, x80, x81, x82, x83, x84, x85, x86, x87, x88, x89, x90, x91, x92, x93, x94, x95, x96, x97, x98, x99, x100, x101, x102, x103, x104, x105, x106, x107, x108, x109, x110, x111, x112, x113, x114, x115, x116, x117, x118, x119, x120, x121, x122, x123, x124, x125, x126, x127, x128, x129, x130, x131, x132, x133, x134, x135, x136, x137, x138, x139, x140, x141, x142, x143, x144, x145, x146, x147, x148, x149, x150, x151, x152, x153, x154, x155, x156, x157, x158, x159, x160, x161, x162, x163, x164, x165, x166, x167, x168, x169, x170, x171, x172, x173, x174, x175, x176, x177, x178, x179, x180, x181, x182, x183, x184, x185, x186, x187, x188, x189, x190, x191, x192, x193, x194, x195, x196, x197, x198, x199, x200, x201, x202, x203, x204, x205, x206, x207, x208, x209, x210, x211, x212, x213, x214, x215, x216, x217, x218, x219, x220, x221, x222, x223, x224, x225, x226, x227, x228, x229, x230, x231, x232, x233, x234, x235, x236, x237, x238, x239, x240, x241, x242, x243, x244, x245], []⟩ W0 := by
  have g0 : W0.cell? ⟨go, 0, none⟩ = some (.int .i64 2) := hbo'.cell 0
  have g1 : W0.cell? ⟨go, 1, none⟩ = some (.int .i64 at') := hbo'.cell 1
  have g2 : W0.cell? ⟨go, 2, none⟩ = some (.int .i64 n) := hbo'.cell 2
  have g3 : W0.cell? ⟨go, 3, none⟩ = some (.int .u32 wv) := hbo'.cell 3
  have g4 : W0.cell? ⟨go, 4, none⟩ = some (.slice B bs.length cb) := hbo'.cell 4
  have hbsW := hbs.from_ hKW
  conv => arg 2; whnf
  by_cases hin : 0 ≤ at' ∧ at' + 4 ≤ (64 * f : Nat)
  · obtain ⟨h1, h3⟩ := hin
    obtain ⟨i, rfl⟩ := Int.eq_ofNat_of_zero_le h1
    obtain ⟨b0, b1, b2, b3, hb0, hb1⟩ : ∃ b0 b1 b2 b3 : UInt8, Hid ((ys.drop i).take 4 = [b0, b1, b2, b3]) ∧ Hid (wordOf (ys.getD i 0) (ys.getD (i + 1) 0) (ys.getD (i + 2) 0) (ys.getD (i + 3) 0) = wordOf b0 b1 b2 b3) :=
      ⟨_, _, _, _, take_four ys i (by rw [HY.out]; omega), rfl⟩
    go_wp2_with fail
    refine (word_is _ _ p r i rfl _ _ hmW (by rw [HY.out]; omega) hb1.out).mono ?_; rintro e W1 ⟨rfl, hk1⟩
    have hbo1 := hbo'.keep hk1 (fun f => f)
    have e1 : W1.cell? ⟨go, 1, none⟩ = some (.int .i64 i) := hbo1.cell 1
    have hv := str_at4 b0 b1 b2 b3
    have hsz := str_size [b0, b1, b2, b3]
    go_wp2_with fail
    refine (rload_is _ _ q i 4 (64 * f) rfl rfl ys [b0, b1, b2, b3] _ (hbW.keep hk1 (fun f => f)) HY.out (by omega) (by omega) hb0.out).mono ?_; rintro e W2 ⟨rfl, rfl⟩
    have hs4 : (str [b0, b1, b2, b3]).size ≤ 4 ∧ 4 ≤ (str [b0, b1, b2, b3]).size := by rw [str_size]; exact ⟨Nat.le_refl _, Nat.le_refl _⟩
    clear hsz
    generalize str [b0, b1, b2, b3] = s at *
    obtain ⟨hs5, hs6⟩ := hs4
    have t0 := u8_lt b0
    have t1 := u8_lt b1
    have t2 := u8_lt b2
    have t3 := u8_lt b3
    go_wp2_with fail
    go_loop [17, 18] (fun x j => ∃ k : Nat, k ≤ 4 ∧ j = .int .i64 k ∧ x = .int .u32 (pre4 b0 b1 b2 b3 k)) (fun _ j => 4 - (intOf j).toNat)
    case atStart => exact ⟨0, by omega, rfl, rfl⟩
    case round =>
      obtain ⟨k', hk4, rfl, rfl⟩ := hrel
      rcases (show k' = 0 ∨ k' = 1 ∨ k' = 2 ∨ k' = 3 ∨ k' = 4 from by omega) with rfl | rfl | rfl | rfl | rfl
      · have hk0 : s[0] = b0 := hv 0 (by omega)
        have hz := or_u32 8 0 (b0.toNat : Int) (by omega) (by omega) (by omega) (by omega) (by omega) (by omega)
        rw [show pre4 b0 b1 b2 b3 0 = 0 from rfl]
        go_wp2
        exact ⟨⟨1, by omega, rfl, rfl⟩, by simp [intOf]⟩
      · have hk0 : s[1] = b1 := hv 1 (by omega)
        have hz := or_u32 8 ((b0.toNat : Int) * 256) (b1.toNat : Int) (by omega) (by omega) (by omega) (by omega) (by omega) (by omega)
        rw [show pre4 b0 b1 b2 b3 1 = (b0.toNat : Int) from rfl]
        go_wp2
        exact ⟨⟨2, by omega, rfl, rfl⟩, by simp [intOf]⟩
      · have hk0 : s[2] = b2 := hv 2 (by omega)
        have hz := or_u32 8 (((b0.toNat : Int) * 256 + (b1.toNat : Int)) * 256) (b2.toNat : Int) (by omega) (by omega) (by omega) (by omega) (by omega) (by omega)
        have hz2 : (((b0.toNat : Int) * 256 + (b1.toNat : Int)) * 256) + (b2.toNat : Int) = (b0.toNat : Int) * 65536 + (b1.toNat : Int) * 256 + (b2.toNat : Int) := by omega
        rw [hz2] at hz
        clear hz2
        rw [show pre4 b0 b1 b2 b3 2 = (b0.toNat : Int) * 256 + (b1.toNat : Int) from rfl]
        go_wp2
        exact ⟨⟨3, by omega, rfl, rfl⟩, by simp [intOf]⟩
      · have hk0 : s[3] = b3 := hv 3 (by omega)
        have hz := or_u32 8 (((b0.toNat : Int) * 65536 + (b1.toNat : Int) * 256 + (b2.toNat : Int)) * 256) (b3.toNat : Int) (by omega) (by omega) (by omega) (by omega) (by omega) (by omega)
        have hz2 : (((b0.toNat : Int) * 65536 + (b1.toNat : Int) * 256 + (b2.toNat : Int)) * 256) + (b3.toNat : Int) = wordOf b0 b1 b2 b3 := by unfold wordOf; omega
        rw [hz2] at hz
        clear hz2
        rw [show pre4 b0 b1 b2 b3 3 = (b0.toNat : Int) * 65536 + (b1.toNat : Int) * 256 + (b2.toNat : Int) from rfl]
        go_wp2
        exact ⟨⟨4, by omega, rfl, rfl⟩, by simp [intOf]⟩
      · rw [show pre4 b0 b1 b2 b3 4 = wordOf b0 b1 b2 b3 from rfl]
        generalize wordOf b0 b1 b2 b3 = v at *
        go_wp2_with fail
        exact ⟨_, _, _, _, _, _, _, _, _, _, _, _, _, _, _, _, _, _, _, _, _, _, _, _, _, _, _, _, _, _, _, _, _, _, _, _, _, _, _, _, _, _, _, _, _, _, _, _, _, _, _, _, _, _, _, _, _, _, _, _, _, _, _, _, _, _, _, _, _, _, _, _, _, _, _, _, _, _, _, _, _, _, _, _, _, _, _, _, _, _, _, _, _, _, _, _, _, _, _, _, _, _, _, _, _, _, _, _, _, _, _, _, _, _, _, _, _, _, _, _, _, _, _, _, _, _, _, _, _, _, _, _, _, _, _, _, _, _, _, _, _, _, _, _, _, _, _, _, _, _, _, _, _, _, _, _, _, _, _, _, _, _, _, _, _, _, _, _, _, _, _, _, _, _, ⟨ys, hmW.nob hk1, hbW.keep hk1 (fun f => f), HY.out, hKW.nob hk1⟩, rfl⟩
  · have HIN := Lib.hid hin
    clear hin
    go_wp2_with fail
    refine (word_no p r _ _ _ hmW (by rw [HY.out]; exact HIN.out)).mono ?_; rintro e W1 ⟨rfl, rfl⟩
    go_wp2_with fail
    refine (rload_no q (64 * f) _ _ _ (by omega) (by have := HIN.out; omega)).mono ?_; rintro e W2 ⟨rfl, rfl⟩
    have hs4 := str_size []
    generalize str [] = s at *
    go_wp2_with fail
    go_loop [17, 18] (fun x j => j = .int .i64 0 ∧ x = .int .u32 0) (fun _ _ => 0)
    case atStart => exact ⟨rfl, rfl⟩
    case round =>
      obtain ⟨rfl, rfl⟩ := hrel
      go_wp2_with fail
      exact ⟨_, _, _, _, _, _, _, _, _, _, _, _, _, _, _, _, _, _, _, _, _, _, _, _, _, _, _, _, _, _, _, _, _, _, _, _, _, _, _, _, _, _, _, _, _, _, _, _, _, _, _, _, _, _, _, _, _, _, _, _, _, _, _, _, _, _, _, _, _, _, _, _, _, _, _, _, _, _, _, _, _, _, _, _, _, _, _, _, _, _, _, _, _, _, _, _, _, _, _, _, _, _, _, _, _, _, _, _, _, _, _, _, _, _, _, _, _, _, _, _, _, _, _, _, _, _, _, _, _, _, _, _, _, _, _, _, _, _, _, _, _, _, _, _, _, _, _, _, _, _, _, _, _, _, _, _, _, _, _, _, _, _, _, _, _, _, _, _, _, _, _, _, _, _, ⟨ys, hmW, hbW, HY.out, hKW⟩, rfl⟩

end Go.Proofs.Ytngempcnjijfhaa
