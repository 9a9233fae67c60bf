/- The switch in TablePlays, case 0. -/
import Derived.Test.YtkokcamplhekaaaLaw2s
namespace Go.Proofs.Ytkokcamplhekaaa
open Go.RowKit
set_option linter.unusedVariables false
set_option maxRecDepth 1000000 in
set_option maxHeartbeats 8000000 in
theorem sw2_0 (w W0 : World) (n p1 r1 p2 r2 q : Nat) (A : Option Addr) (cA gv : Nat) (B : Option Addr) (cB k : Nat) (g : Nat → Nat) (o : Nat → Bool) (y : Nat → Int) (all : List Int) (go : Nat) (opH opR opV nm : Int) (th : Bool) (hn : n ≤ 256) (hr1 : w.heap.size ≤ r1) (hr2 : w.heap.size ≤ r2) (hA : ∀ b, Own A b → w.heap.size ≤ b) (hgv : w.heap.size ≤ gv)
    (h : PS w W0 n p1 r1 p2 r2 q A cA gv B cB k g o y all) (hB : ∀ b, Own B b → gv < b) (hk : k ≤ 100) (hop : Blk W0 go 48 [.int .i64 0, .int .i64 opH, .int .i64 opR, .int .i64 opV]) (hth : Th n g o nm th)
    (x0 x1 x2 x3 x4 x10 x14 x15 x16 x17 x18 x19 x20 x21 x22 x23 x24 x25 x26 x27 x28 x29 x30 x31 x32 x33 x34 x35 x36 x37 x38 x39 x40 x41 x42 x43 x44 x45 x46 x47 x48 x49 x50 x51 x52 x53 x54 x55 x56 x57 x58 x59 x60 x61 x62 x63 x64 x65 x66 x67 x68 x69 x70 x71 x72 x73 x74 x75 x76 x77 x78 x79 x80 x81 x82 x83 x85 x86 x87 x88 x89 x90 x91 x92 x93 x94 x95 x96 x97 x98 x99 x100 x101 x102 x103 x104 x105 x106 x107 x108 x109 x110 x111 x112 x113 x114 x115 x116 x117 x118 x119 x120 x121 x122 x123 x124 x125 x126 x127 x128 x129 x130 x131 x132 x133 x134 x135 x136 x137 x138 x139 x140 x141 x142 x143 x144 x145 x146 x147 x148 x149 x150 x151 x152 x153 x154 x155 x156 x157 x158 x159 x160 x161 x162 x163 x164 x165 x166 x167 x168 x169 x170 x171 x172 x173 x174 x175 x176 x177 x178 x179 x180 x181 x182 x183 x184 x185 x186 x187 x188 x189 x190 x191 x192 x193 x194 x195 x196 x197 x198 x199 x200 x201 x202 x203 x204 x205 x206 x207 x208 x209 x210 x211 x212 x213 x214 x215 x216 x217 x218 x219 x220 x221 x222 x223 x224 x225 x226 x227 x228 x229 x230 x231 x232 x233 x234 x235 x236 x237 x238 x239 x240 x241 x242 x243 x244 x245 x246 x247 x248 x249 x250 x251 x252 x253 x254 x255 x256 x257 x258 x259 x260 x261 x262 x263 x264 : Value) (Q0 : Exit → Act → World → Prop) (hQ : ∀ a' w', Sw2Rel w n p1 r1 p2 r2 q A cA gv k go nm th 0 x0 x1 x2 x3 x10 x24 x25 x26 x27 x28 x29 x30 x31 x32 x33 x34 x35 x36 x37 x38 x39 x40 x41 x42 x43 x44 x45 x46 x47 x48 x49 x50 x51 x52 x53 x54 x55 x56 x57 x58 x59 x60 x61 x62 x63 x64 x65 x66 x67 x68 x69 x70 x71 x72 x73 x74 x75 x76 x77 x78 x79 x80 x81 x82 x83 x243 x244 x245 x246 x247 x248 x249 x250 x251 x252 x253 x254 x255 x256 x257 x258 x259 x260 x261 x262 x263 x264 a' w' → Q0 .normal a' w') :
    Code.wp Try.prog sw2 Q0 ⟨#[x0, x1, x2, x3, x4, .pointer (some ⟨p1, 0, none⟩), .pointer (some ⟨p2, 0, none⟩), .pointer (some ⟨q, 0, none⟩), .slice (some ⟨gv, 0, none⟩) 256 256, .slice B all.length cB, x10, .pointer (some ⟨go, 0, none⟩), .int .i64 nm, .bool th, x14, x15, x16, x17, x18, x19, x20, x21, x22, x23, x24, x25, x26, x27, x28, x29, x30, x31, x32, x33, x34, x35, x36, x37, x38, x39, x40, x41, x42, x43, x44, x45, x46, x47, x48, x49, x50, x51, x52, x53, x54, x55, x56, x57, x58, x59, x60, x61, x62, x63, x64, x65, x66, x67, x68, x69, x70, x71, x72, x73, x74, x75, x76, x77, x78, x79, x80, x81, x82, x83, .int .i64 0, x85, x86, x87, x88, x89, x90, x91, x92, x93, x94, x95, x96, x97, x98, x99, x100, x101, x102, x103, x104, x105, x106, x107, x108, x109, x110, x111, x112, x113, x114, x115, x116, x117, x118, x119, x120, x121, x122, x123, x124, x125, x126, x127, x128, x129, x130, x131, x132, x133, x134, x135, x136, x137, x138, x139, x140, x141, x142, x143, x144, x145, x146, x147, x148, x149, x150, x151, x152, x153, x154, x155, x156, x157, x158, x159, x160, x161, x162, x163, x164, x165, x166, x167, x168, x169, x170, x171, x172, x173, x174, x175, x176, x177, x178, x179, x180, x181, x182, x183, x184, x185, x186, x187, x188, x189, x190, x191, x192, x193, x194, x195, x196, x197, x198, x199, x200, x201, x202, x203, x204, x205, x206, x207, x208, x209, x210, x211, x212, x213, x214, x215, x216, x217, x218, x219, x220, x221, x222, x223, x224, x225, x226, x227, x228, x229, x230, x231, x232, x233, x234, x235, x236, x237, x238, x239, x240, x241, x242, x243, x244, x245, x246, x247, x248, x249, x250, x251, x252, x253, x254, x255, x256, x257, x258, x259, x260, x261, x262, x263, x264], []⟩ W0 := by
  have op3 : W0.cell? ⟨go, 3, none⟩ = some (.int .i64 opV) := hop.cell 3
  conv => arg 2; whnf
  clear hth
  rcases least o n with ⟨i, hi, ho, hb⟩ | hb
  · obtain ⟨v, hv⟩ : ∃ v, Hid ((i : Int) + 256 * (g i : Int) = v) := ⟨_, rfl⟩
    have hgy := h.young i hi
    have hgl : g i ≤ 1000000 := by omega
    have hm : bits .and .i64 v 255 = (i : Int) := by rw [i64_and255, ← hv.out]; omega
    have hf : ∀ z : List Value, (⟨g i, o i, z⟩ : Pl).free = true := fun z => by simp [Pl.free, ho, hgl]
    go_wp2_with fail
    refine (addI opV i (pT g o y i) v (mk n (pT g (up o i true) (up y i opV))) h.tt (mk_get hi) (hf _) (fun j z hj hz => by obtain ⟨_, rfl⟩ := mk_some hz; exact free_is_off (hb j hj)) hv.out (pT_set opV)).mono ?_; rintro e W1 ⟨rfl, t1, k1, -⟩
    have op1 := hop.farB h.tt.row (by decide) k1
    have op13 : W1.cell? ⟨go, 3, none⟩ = some (.int .i64 opV) := op1.cell 3
    have u1 := h.uu.far h.tt.row (by decide) (by decide) k1
    have n1 := h.nn.keep k1 (h.nn.obj.ne_ h.tt.row (by decide)) (fun b hb => by obtain ⟨cur, hc⟩ := h.nn.row.blk hb; exact hc.ne_ h.tt.row (by decide))
    have v1 := h.vv.farB h.tt.row (by decide) k1
    have a1 := h.aa.far h.tt.row (by decide) k1
    have K1 := h.keep.at_ k1 hr1
    have few := h.few
    have hyg := h.young
    have bs1 := fun c => byte_str W1 opV c
    have al1 := (Keep.refl Nob W1).alloc (.cells #[.int .u8 (opV % 256)] 5)
    have op2 := op1.nob al1
    have t2 := t1.nob al1
    have u2 := u1.nob al1
    have n2 := n1.nob al1
    have v2 := v1.nob al1
    have a2 := a1.nob al1
    have K2 := K1.nob al1
    go_wp2_with fail
    refine (addS (str (byt opV)) i (pU g o y i) v (mk n (pU g (up o i true) (up y i opV))) u2 (mk_get hi) (hf _) (fun j z hj hz => by obtain ⟨_, rfl⟩ := mk_some hz; exact free_is_off (hb j hj)) hv.out (pU_set opV)).mono ?_; rintro e W2 ⟨rfl, u3, k3⟩
    have op4 := op2.farB u2.row (by decide) k3
    have t3 := t2.far u2.row (by decide) (by decide) k3
    have n3 := n2.keep k3 (n2.obj.ne_ u2.row (by decide)) (fun b hb => by obtain ⟨cur, hc⟩ := n2.row.blk hb; exact hc.ne_ u2.row (by decide))
    have v3 := v2.farB u2.row (by decide) k3
    have a3 := a2.far u2.row (by decide) k3
    have K3 := K2.at_ k3 hr2
    clear bs1 al1 op1 op2 op13 t1 t2 u1 u2 n1 n2 v1 v2 a1 a2 K1 K2 k1 k3 op3 h hop
    go_wp2_with fail
    refine (addN (i := i) (pN g o i) v (mk n (pN g (up o i true))) n3 (mk_get hi) (hf _) (fun j z hj hz => by obtain ⟨_, rfl⟩ := mk_some hz; exact free_is_off (hb j hj)) hv.out pN_set).mono ?_; rintro e W3 ⟨rfl, n4, k4⟩
    have hnA : ∀ {b : Nat} {t : TypeId} {cs : List Value}, Blk W2 b t cs → 88 ≠ t → ¬ Own A b := fun hb ht ho => by obtain ⟨cur, hc⟩ := n3.row.blk ho; exact hc.ne_ hb ht rfl
    have op5 := op4.keep k4 (hnA op4 (by decide))
    have t4 := t3.keep k4 (hnA t3.obj (by decide)) (hnA t3.row (by decide))
    have u4' := u3.keep k4 (hnA u3.obj (by decide)) (hnA u3.row (by decide))
    have v4 := v3.keep k4 (hnA v3 (by decide))
    have a4 := a3.farV n3.row (by decide) k4
    have K4 : Keep (From w.heap.size) w W3 := K3.trans k4 (fun b hb ho => hA b ho)
    clear op4 t3 u3 n3 v3 a3 K3 k4 hnA
    go_wp2_with (at_builtin; go_loud (refine wpList_ap rfl _ _ 22 rfl 3 1 8 (.int .i64 0) Try.underlying22 infoint rfl (by decide) B all.length cB _ rfl (a4.nob ((Keep.refl Nob W3).alloc _)) (some ⟨W3.heap.size, 0, none⟩) 1 1 [.int .i64 v] rfl _ (Nat.mul_one _) (reads_all (Blk.new W3 3 [.int .i64 v]) rfl) (by simp [Value.oneCell']) (by unfold maxLen; omega) (by omega) ?_); intro B' cB' W4 a5 k5 ho5; have al5 := (Keep.refl Nob W3).alloc (.cells #[.int .i64 v] 3); have hgB : ¬ Own B gv := fun ho => Nat.lt_irrefl _ (hB gv ho); have v5 := (v4.nob al5).keep k5 hgB; have op6 := (op5.nob al5).keep k5 (fun ho => by obtain ⟨cur, hc⟩ := (a4.nob al5).blk ho; exact hc.ne_ (op5.nob al5) (by decide) rfl); have op63 : W4.cell? ⟨go, 3, none⟩ = some (.int .i64 opV) := op6.cell 3; have vi : W4.cell? ⟨gv, i, none⟩ = some (.int .i64 (y i)) := (by rw [v5.cell]; exact mk_get (by omega)); have vf := v5.frozen i)
    have t5 := (t4.nob al5).farV (a4.nob al5) (by decide) (by decide) k5
    have u5 := (u4'.nob al5).farV (a4.nob al5) (by decide) (by decide) k5
    have n5 := (n4.nob al5).keep k5 (fun ho => by obtain ⟨cur, hc⟩ := (a4.nob al5).blk ho; exact (n4.nob al5).obj.ne_ hc (by decide) rfl) (fun b hb ho => by obtain ⟨cur, hc⟩ := (a4.nob al5).blk ho; obtain ⟨cur', hc'⟩ := (n4.nob al5).row.blk hb; exact hc'.ne_ hc (by decide) rfl)
    have K5 : Keep (From w.heap.size) w W4 := (K4.nob al5).trans k5 (fun b hb ho => by have := hB b ho; show w.heap.size ≤ b; omega)
    have hB' : ∀ b, Own B' b → gv < b := fun b hb => by
      rcases ho5 b hb with h1 | h1
      · exact hB b h1
      · have := v4.lt; rw [h1]; simp; omega
    have v6 := v5.setCell i (.int .i64 opV)
    rw [vals_set] at v6
    have kf : Keep (· = gv) W4 (W4.setCell ⟨gv, i, none⟩ (.int .i64 opV)) := (Keep.refl _ W4).setCell _ _ (fun _ => rfl)
    have hlen : (all ++ [v]).length = all.length + 1 := by rw [List.length_append]; rfl
    exact ⟨_, _, _, _, _, _, _, _, _, _, _, _, _, _, _, _, _, _, _, _, _, _, _, _, _, _, _, _, _, _, _, _, _, _, _, _, _, _, _, _, _, _, _, _, _, _, _, _, _, _, _, _, _, _, _, _, _, _, _, _, _, _, _, _, _, _, _, _, _, _, _, _, _, _, _, _, _, _, _, _, _, _, _, _, _, _, _, _, _, _, _, _, _, _, _, _, _, _, _, _, _, _, _, _, _, _, _, _, _, _, _, _, _, _, _, _, _, _, _, _, _, _, _, _, _, _, _, _, _, _, _, _, _, _, _, _, _, _, _, _, _, _, _, _, _, _, _, _, _, _, _, _, _, _, _, _, _, _, _, _, _, _, _, _, _, _, _, _, _, B', cB', g, up o i true, up y i opV, all ++ [v], ⟨t5.far v5 (by decide) (by decide) kf, u5.far v5 (by decide) (by decide) kf, n5.keep kf (n5.obj.ne_ v5 (by decide)) (fun b hb e => by obtain ⟨cur, hc⟩ := n5.row.blk hb; exact hc.ne_ v5 (by decide) e), v6, by rw [hlen, ints_append]; exact a5.keep kf (fun b hb e => by have := hB' b hb; omega), fun j hj => by have := hyg j hj; omega, by rw [hlen]; omega, K5.at_ kf hgv⟩, hB', by rw [hlen]⟩
  · have bs1 := fun c => byte_str W0 opV c
    have al1 := (Keep.refl Nob W0).alloc (.cells #[.int .u8 (opV % 256)] 5)
    have h1 := h.nob al1
    go_wp2_with fail
    refine (TabI.add_no opV h.tt (fun j z hz => by obtain ⟨hj, rfl⟩ := mk_some hz; exact free_is_off (hb j hj))).mono ?_; rintro e W1 ⟨rfl, rfl⟩
    go_wp2_with fail
    refine (TabS.add_no (str (byt opV)) h1.uu (fun j z hz => by obtain ⟨hj, rfl⟩ := mk_some hz; exact free_is_off (hb j hj))).mono ?_; rintro e W1 ⟨rfl, rfl⟩
    go_wp2_with fail
    refine (Ref.add_no h1.nn (fun j z hz => by obtain ⟨hj, rfl⟩ := mk_some hz; exact free_is_off (hb j hj))).mono ?_; rintro e W1 ⟨rfl, rfl⟩
    go_wp2_with fail
    exact ⟨_, _, _, _, _, _, _, _, _, _, _, _, _, _, _, _, _, _, _, _, _, _, _, _, _, _, _, _, _, _, _, _, _, _, _, _, _, _, _, _, _, _, _, _, _, _, _, _, _, _, _, _, _, _, _, _, _, _, _, _, _, _, _, _, _, _, _, _, _, _, _, _, _, _, _, _, _, _, _, _, _, _, _, _, _, _, _, _, _, _, _, _, _, _, _, _, _, _, _, _, _, _, _, _, _, _, _, _, _, _, _, _, _, _, _, _, _, _, _, _, _, _, _, _, _, _, _, _, _, _, _, _, _, _, _, _, _, _, _, _, _, _, _, _, _, _, _, _, _, _, _, _, _, _, _, _, _, _, _, _, _, _, _, _, _, _, _, _, _, B, cB, g, o, y, all, h1.more, hB, rfl⟩
end Go.Proofs.Ytkokcamplhekaaa
