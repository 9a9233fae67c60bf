/- The switch in MemPlays, case 4. -/
import Derived.Test.YtngempcnjijfhaaLaw1s
namespace Go.Proofs.Ytngempcnjijfhaa
open Go.RowKit
set_option linter.unusedVariables false
set_option maxRecDepth 1000000 in
set_option maxHeartbeats 4000000 in
theorem sw1_4 (w W0 : World) (p r q f go : Nat) (at' n wv : Int) (B : Option Addr) (cb : Nat) (bs ys : List UInt8) (hf : f < 4) (hpq : p < q) (hrq : r < q) (hgq : q < go) (hwr : w.heap.size ≤ r) (hwq : w.heap.size ≤ q)
    (hmW : IsMem W0 p r ys) (hbW : Blk W0 q 5 (bytes ys)) (HY : Hid (ys.length = 64 * f)) (hKW : Keep (From w.heap.size) w W0) (hbo' : Blk W0 go 40 [.int .i64 4, .int .i64 at', .int .i64 n, .int .u32 wv, .slice B bs.length cb])
    (hbs : Reads w B bs.length (bytes bs)) (hl2 : (bs.length : Int) ≤ 300) (hwv : (Lit.int .u32 wv).wf = true)
    (x1 x2 x3 x4 x7 x9 x10 x11 x12 x13 x14 x15 x16 x17 x18 x19 x20 x21 x22 x23 x24 x25 x26 x27 x28 x29 x30 x31 x32 x33 x34 x35 x36 x37 x38 x39 x40 x41 x42 x43 x44 x45 x46 x47 x48 x49 x50 x51 x52 x53 x54 x55 x56 x57 x58 x59 x60 x61 x62 x63 x64 x65 x66 x67 x68 x69 x71 x72 x73 x74 x75 x76 x77 x78 x79 x80 x81 x82 x83 x84 x85 x86 x87 x88 x89 x90 x91 x92 x93 x94 x95 x96 x97 x98 x99 x100 x101 x102 x103 x104 x105 x106 x107 x108 x109 x110 x111 x112 x113 x114 x115 x116 x117 x118 x119 x120 x121 x122 x123 x124 x125 x126 x127 x128 x129 x130 x131 x132 x133 x134 x135 x136 x137 x138 x139 x140 x141 x142 x143 x144 x145 x146 x147 x148 x149 x150 x151 x152 x153 x154 x155 x156 x157 x158 x159 x160 x161 x162 x163 x164 x165 x166 x167 x168 x169 x170 x171 x172 x173 x174 x175 x176 x177 x178 x179 x180 x181 x182 x183 x184 x185 x186 x187 x188 x189 x190 x191 x192 x193 x194 x195 x196 x197 x198 x199 x200 x201 x202 x203 x204 x205 x206 x207 x208 x209 x210 x211 x212 x213 x214 x215 x216 x217 x218 x219 x220 x221 x222 x223 x224 x225 x226 x227 x228 x229 x230 x231 x232 x233 x234 x235 x236 x237 x238 x239 x240 x241 x242 x243 x244 x245 : Value) (Q0 : Exit → Act → World → Prop) (hQ : ∀ a' w', Sw1Rel w p r q f go 4 x1 x2 x3 x7 x23 x24 x25 x26 x27 x28 x29 x30 x31 x32 x33 x34 x35 x36 x37 x38 x39 x40 x41 x42 x43 x44 x45 x46 x47 x48 x49 x50 x51 x52 x53 x54 x55 x56 x57 x58 x59 x60 x61 x62 x63 x64 x65 x66 x67 x68 x69 x230 x231 x232 x233 x234 x235 x236 x237 x238 x239 x240 x241 x242 x243 x244 x245 a' w' → Q0 .normal a' w') :
    Code.wp Try.prog sw1 Q0 ⟨#[.int .i64 f, x1, x2, x3, x4, .pointer (some ⟨p, 0, none⟩), .slice (some ⟨q, 0, none⟩) (64 * f) (64 * f), x7, .pointer (some ⟨go, 0, none⟩), x9, x10, x11, x12, x13, x14, x15, x16, x17, x18, x19, x20, x21, x22, x23, x24, x25, x26, x27, x28, x29, x30, x31, x32, x33, x34, x35, x36, x37, x38, x39, x40, x41, x42, x43, x44, x45, x46, x47, x48, x49, x50, x51, x52, x53, x54, x55, x56, x57, x58, x59, x60, x61, x62, x63, x64, x65, x66, x67, x68, x69, .int .i64 4, x71, x72, x73, x74, x75, x76, x77, x78, x79, x80, x81, x82, x83, x84, x85, x86, x87, x88, x89, x90, x91, x92, x93, x94, x95, x96, x97, x98, x99, x100, x101, x102, x103, x104, x105, x106, x107, x108, x109, x110, x111, x112, x113, x114, x115, x116, x117, x118, x119, x120, x121, x122, x123, x124, x125, x126, x127, x128, x129, x130, x131, x132, x133, x134, x135, x136, x137, x138, x139, x140, x141, x142, x143, x144, x145, x146, x147, x148, x149, x150, x151, x152, x153, x154, x155, x156, x157, x158, x159, x160, x161, x162, x163, x164, x165, x166, x167, x168, x169, x170, x171, x172, x173, x174, x175, x176, x177, x178, x179, x180, x181, x182, x183, x184, x185, x186, x187, x188, x189, x190, x191, x192, x193, x194, x195, x196, x197, x198, x199, x200, x201, x202, x203, x204, x205, x206, x207, x208, x209, x210, x211, x212, x213, x214, x215, x216, x217, x218, x219, x220, x221, x222, x223, x224, x225, x226, x227, x228, x229, x230, x231, x232, x233, x234, x235, x236, x237, x238, x239, x240, x241, x242, x243, x244, x245], []⟩ W0 := by
  have g0 : W0.cell? ⟨go, 0, none⟩ = some (.int .i64 4) := hbo'.cell 0
  have g1 : W0.cell? ⟨go, 1, none⟩ = some (.int .i64 at') := hbo'.cell 1
  have g2 : W0.cell? ⟨go, 2, none⟩ = some (.int .i64 n) := hbo'.cell 2
  have g3 : W0.cell? ⟨go, 3, none⟩ = some (.int .u32 wv) := hbo'.cell 3
  have g4 : W0.cell? ⟨go, 4, none⟩ = some (.slice B bs.length cb) := hbo'.cell 4
  have hbsW := hbs.from_ hKW
  conv => arg 2; whnf
  by_cases hin : 0 ≤ n ∧ n < (f : Int)
  · obtain ⟨h1, h2⟩ := hin
    obtain ⟨j, rfl⟩ := Int.eq_ofNat_of_zero_le h1
    have hjf : j < f := by omega
    go_wp2_with fail
    refine (zero_is _ j p r rfl _ _ _ hmW (by rw [HY.out]; omega) rfl).mono ?_; rintro e W1 ⟨rfl, hm1, hk1, _⟩
    have k1 := hKW.at_ hk1 hwr
    have hb1 := hbW.keep hk1 (by omega)
    have hbo1 := hbo'.keep hk1 (by omega)
    go_wp2_with fail
    have hc1 : ∀ k : Nat, (splice ys (64 * j) (List.replicate k 0)).length = ys.length ∨ 64 < k := fun k => by
      by_cases hk : 64 < k
      · exact .inr hk
      · exact .inl (splice_len _ _ _ (by rw [HY.out, List.length_replicate]; omega))
    go_loopw [21] (fun x wx => ∃ k : Nat, k ≤ 64 ∧ x = .int .i64 k ∧ Blk wx q 5 (bytes (splice ys (64 * j) (List.replicate k 0))) ∧ Blk wx go 40 [.int .i64 4, .int .i64 at', .int .i64 j, .int .u32 wv, .slice B bs.length cb] ∧ IsMem wx p r (splice ys (64 * j) (List.replicate 64 0)) ∧ Keep (From w.heap.size) w wx) (fun x _ => 64 - (intOf x).toNat)
    case atStart => exact ⟨0, by omega, rfl, by rw [show splice ys (64 * j) (List.replicate 0 0) = ys from by simp [splice]]; exact hb1, hbo1, hm1, k1⟩
    case round =>
      obtain ⟨k', hk4, rfl, hbx, hox, hmx, hKx⟩ := hrel
      by_cases hlt : k' < 64
      · have g2' : wr.cell? ⟨go, 2, none⟩ = some (.int .i64 j) := hox.cell 2
        have hin1 : 64 * j + k' < ys.length := by rw [HY.out]; omega
        have hsl : (splice ys (64 * j) (List.replicate k' 0)).length = ys.length := splice_len _ _ _ (by rw [List.length_replicate]; omega)
        have cq : wr.cell? ⟨q, 64 * j + k', none⟩ = some (.int .u8 (((splice ys (64 * j) (List.replicate k' 0)).getD (64 * j + k') 0).toNat : Int)) := by
          rw [hbx.cell, bytes_getD (by omega)]
        have fq := hbx.frozen (64 * j + k')
        have hjk : (64 * (j : Int) + (k' : Int)) < (64 * f : Nat) := by omega
        have hb2 := hbx.setCell (64 * j + k') (.int .u8 0)
        rw [splice_zero ys (64 * j) k' hin1] at hb2
        have ho2 := hox.far (p := ⟨q, 64 * j + k', none⟩) (by show go ≠ q; omega) (.int .u8 0)
        have hm2 := hmx.keep ((Keep.refl (· = q) wr).setCell ⟨q, 64 * j + k', none⟩ (.int .u8 0) (fun _ => rfl)) (by omega) (by omega)
        have hK2 := hKx.setCell ⟨q, 64 * j + k', none⟩ (.int .u8 0) (fun _ => hwq)
        go_wp2_with fail
        go_roundw
        case rel => exact ⟨k' + 1, by omega, by go_num, hb2, ho2, hm2, hK2⟩
        case measure => simp [intOf]; omega
      · obtain rfl : k' = 64 := by omega
        go_wp2_with fail
        exact ⟨_, _, _, _, _, _, _, _, _, _, _, _, _, _, _, _, _, _, _, _, _, _, _, _, _, _, _, _, _, _, _, _, _, _, _, _, _, _, _, _, _, _, _, _, _, _, _, _, _, _, _, _, _, _, _, _, _, _, _, _, _, _, _, _, _, _, _, _, _, _, _, _, _, _, _, _, _, _, _, _, _, _, _, _, _, _, _, _, _, _, _, _, _, _, _, _, _, _, _, _, _, _, _, _, _, _, _, _, _, _, _, _, _, _, _, _, _, _, _, _, _, _, _, _, _, _, _, _, _, _, _, _, _, _, _, _, _, _, _, _, _, _, _, _, _, _, _, _, _, _, _, _, _, _, _, _, _, _, _, _, _, _, _, _, _, _, _, _, _, _, _, _, _, _, ⟨splice ys (64 * j) (List.replicate 64 0), hmx, hbx, by rw [splice_len _ _ _ (by rw [HY.out, List.length_replicate]; omega)]; exact HY.out, hKx⟩, rfl⟩
  · have HIN := Lib.hid hin
    have hz := zero_no p r n ys W0 hmW (by rw [HY.out]; omega)
    rcases (show n < 0 ∨ (0 ≤ n ∧ (f : Int) ≤ n) from by omega) with h | ⟨h, h'⟩
    · have hi1 : decide (0 ≤ n) = false := by simp; omega
      go_wp2_with fail
      refine hz.mono ?_; rintro e W1 ⟨rfl, rfl⟩
      go_wp2_with fail
      go_loop [21] (fun x => x = .int .i64 0) (fun _ => 0)
      case atStart => rfl
      case round =>
        obtain rfl := hrel
        go_wp2_with fail
        exact ⟨_, _, _, _, _, _, _, _, _, _, _, _, _, _, _, _, _, _, _, _, _, _, _, _, _, _, _, _, _, _, _, _, _, _, _, _, _, _, _, _, _, _, _, _, _, _, _, _, _, _, _, _, _, _, _, _, _, _, _, _, _, _, _, _, _, _, _, _, _, _, _, _, _, _, _, _, _, _, _, _, _, _, _, _, _, _, _, _, _, _, _, _, _, _, _, _, _, _, _, _, _, _, _, _, _, _, _, _, _, _, _, _, _, _, _, _, _, _, _, _, _, _, _, _, _, _, _, _, _, _, _, _, _, _, _, _, _, _, _, _, _, _, _, _, _, _, _, _, _, _, _, _, _, _, _, _, _, _, _, _, _, _, _, _, _, _, _, _, _, _, _, _, _, _, ⟨ys, hmW, hbW, HY.out, hKW⟩, rfl⟩
    · have hi1 : decide (0 ≤ n) = true := by simp; omega
      have hi2 : decide (n < (f : Int)) = false := by simp; omega
      go_wp2_with fail
      refine hz.mono ?_; rintro e W1 ⟨rfl, rfl⟩
      go_wp2_with fail
      go_loop [21] (fun x => x = .int .i64 0) (fun _ => 0)
      case atStart => rfl
      case round =>
        obtain rfl := hrel
        go_wp2_with fail
        exact ⟨_, _, _, _, _, _, _, _, _, _, _, _, _, _, _, _, _, _, _, _, _, _, _, _, _, _, _, _, _, _, _, _, _, _, _, _, _, _, _, _, _, _, _, _, _, _, _, _, _, _, _, _, _, _, _, _, _, _, _, _, _, _, _, _, _, _, _, _, _, _, _, _, _, _, _, _, _, _, _, _, _, _, _, _, _, _, _, _, _, _, _, _, _, _, _, _, _, _, _, _, _, _, _, _, _, _, _, _, _, _, _, _, _, _, _, _, _, _, _, _, _, _, _, _, _, _, _, _, _, _, _, _, _, _, _, _, _, _, _, _, _, _, _, _, _, _, _, _, _, _, _, _, _, _, _, _, _, _, _, _, _, _, _, _, _, _, _, _, _, _, _, _, _, _, ⟨ys, hmW, hbW, HY.out, hKW⟩, rfl⟩

end Go.Proofs.Ytngempcnjijfhaa
