import Derived.Test.YtgcikpgcoemfnaaGreatPs32
import Derived.Test.YtgcikpgcoemfnaaGreatPs10
set_option maxRecDepth 100000
set_option maxHeartbeats 8000000
set_option linter.unusedVariables false
set_option linter.unusedSimpArgs false
namespace Go.Proofs.YtgcikpgcoemfnaaGreat.Pn
open Go.RowKit
open Co (Src Link Cm Kc Ct)
def xs0 : List UInt8 := splice (br 40) 0 aL
structure Opened (w W : World) (N0 : Nat) (K : Kn) (C : Cm) (b : Bt) (k2 pq : Nat) (R : Dk.Dr) (Ag : Option Addr) (ng cg g : Nat) (B : Option Addr) (c : Nat) : Prop where
 op : Op0 w W K C (cP 0)
 g2 : G2 K.T K.envs.length K.L
 xs : K.xs = xs0
 env : C.env = 0
 name : C.name = 256
 brs : C.brs = [257, 258]
 bad : C.bad = []
 kd : Dk.IsKd W b k2 pq R Ag ng cg
 be : b.envs.length = 18
 r2 : G2 R.S.T R.S.n R.L
 rxs : R.xs = xs0
 com : Blk W g 259 [.pointer (some ⟨k2, 0, none⟩), .int .i64 0, .slice B 3 c, .slice none 0 0]
 row : Vec W 3 1 B 3 c (ab [256, 257, 258])
 k0 : ∀ x, Mine K x → x < N0
 r0 : ∀ x, R.Mine x → N0 ≤ x
 g0 : N0 ≤ k2 ∧ N0 ≤ g
 sep : ∀ x, (Mine K x ∨ x = C.p ∨ x = C.b ∨ Own C.A x) → ¬ (x = k2 ∨ R.Mine x ∨ x = g ∨ Own B x)
section
variable {w w' : World} {K : Kn} {C : Cm} {src : Src}
theorem apart (h : Kc w K C src) {g : Nat} {t : TypeId} {cs : List Value} (hb : Blk w g t cs) (hf : ¬ Fix t) (hm : ¬ Mine K g) (hp : C.p ≠ g) (ha : 0 < C.brs.length → ∀ ad, C.A = some ad → ad.block ≠ g) (k : Keep (· = g) w w') : Kc w' K C src := by
 obtain ⟨l, hl, _⟩ := h.c.map
 exact ⟨h.k.keep k (fun b e => e ▸ ⟨_, _, hb, hf⟩) (fun b hb' e => hm (e ▸ hb')), h.c.keep k hp ha (hl.ne_blk hb), h.l, h.ap⟩
end
theorem open_is {w : World} (Ab AB : Option Addr) (hr : ae w AB (2 * 2) (cU brs2)) :
  Calls Tryz.prog 27 #[.agg #[.slice Ab 2 2, .slice AB 2 2, .int .i64 5]] w fun e w' => ∃ N0 K C b k2 pq R Ag ng cg g B c, e = .returned (.tuple #[.pointer (some ⟨K.k, 0, none⟩), .pointer (some ⟨C.p, 0, none⟩), .pointer (some ⟨k2, 0, none⟩), .pointer (some ⟨g, 0, none⟩)]) ∧ Opened w w' N0 K C b k2 pq R Ag ng cg g B c := by
 have k1 := (Keep.refl Nob w).alloc (.cells #[.slice Ab 2 2, .slice AB 2 2, .int .i64 5] 76)
 have hbt := boot_is Ab 2 2 AB 2 brs2 5 2 rfl (hr.nob k1) (by decide) (by decide)
 have K1 := aa k1
 clear k1 hr
 go_enter Tryz.func27, Tryz.ntmps27
 go_wp2_with fail
 refine hbt.mono ?_; rintro e wb ⟨b, rfl, hI, hB, kB⟩
 have kx := (Keep.refl Nob wb).alloc (.cells #[.slice b.Af b.frames.length b.cf, .slice b.Ae b.envs.length b.ce, .slice b.As b.sects.length b.cs, .int .i64 b.lease, .slice b.Ah b.shared.length b.ch] 144)
 have hp := Blk.new wb 144 [.slice b.Af b.frames.length b.cf, .slice b.Ae b.envs.length b.ce, .slice b.As b.sects.length b.cs, .int .i64 b.lease, .slice b.Ah b.shared.length b.ch]
 have hI1 := hI.nob kx
 have hok := boot_ok hB
 have hnew := knew_is hI1 hok
 have kB1 : Keep (bT w.heap.size) w (wb.alloc (.cells #[.slice b.Af b.frames.length b.cf, .slice b.Ae b.envs.length b.ce, .slice b.As b.sects.length b.cs, .int .i64 b.lease, .slice b.Ah b.shared.length b.ch] 144)) := ((K1.out.mono (fun _ _ f => f.elim)).trans kB (fun x hx m => by have := K1.out.size; have m : (w.alloc (.cells #[.slice Ab 2 2, .slice AB 2 2, .int .i64 5] 76)).heap.size ≤ x := m; omega)).nob kx
 unfold Bt.val at hnew ⊢
 have HH := aa (And.intro hp (And.intro hI1 (And.intro hok (And.intro hB kB1))))
 clear hbt hp hI hI1 hok hB kB1 kB kx K1
 go_wp2_with fail
 refine hnew.mono ?_; rintro e w1 ⟨K, rfl, hK, hBo⟩
 have hbl : b.envs.length = 18 := by rw [HH.out.2.2.2.1.envs]; simp
 have hsl : b.shared.length = 4 := by
  obtain ⟨_, _, _, _, e, _⟩ := jP HH.out.2.2.2.1
  rw [e]; rfl
 have hg2 : G2 K.T K.envs.length K.L := G2.of HH.out.2.2.2.1 (by rw [hBo.envs]) hBo.T hBo.L
 have hxs : K.xs = br 40 := hBo.xs
 have hp1 := HH.out.1.nob hK.keep
 have hnk := Dk.nkern_is (HH.out.2.1.nob hK.keep) HH.out.2.2.1 (by rw [hbl]; decide) (by rw [hsl]; decide)
 unfold Bt.val at hnk
 have kB1 := HH.out.2.2.2.2.nob hK.keep
 have hlo : ∀ x, Mine K x → w.heap.size ≤ x := fun x m => by have := hK.mine x m; have := HH.out.2.2.2.2.size; omega
 have hlt : ∀ x, Mine K x → x < w1.heap.size := fun x m => hK.is.mine_lt x m
 have hIs := hK.is
 have d0 := hp1.cell 0
 have d1 := hp1.cell 1
 have d2 := hp1.cell 2
 have d3 := hp1.cell 3
 have d4 := hp1.cell 4
 simp only [List.getElem?_cons_zero, List.getElem?_cons_succ] at d0 d1 d2 d3 d4
 have HB := aa HH.out.2.2.2.1
 have HF := aa (And.intro hbl (And.intro hsl (And.intro hg2 (And.intro hxs (And.intro kB1 (And.intro hlo hlt))))))
 clear hnew hK hBo hp1 hbl hsl hg2 hxs kB1 hlo hlt HH
 generalize wb.heap.size = gb at *
 go_wp2_with fail
 refine hnk.mono ?_; rintro e w2 ⟨k2, pq, Aq, cq, gq, bq, R, Ag, ng, cg, vs, rfl, hM, hRx, hRL, hRn, hRT⟩
 have hr2 : G2 R.S.T R.S.n R.L := G2.of HB.out hRn hRT hRL
 have hcn := Co.cnew_is (hIs.nob hM.keep) 0 (by rw [HF.out.2.2.1.n18]; decide) 256 [257, 258] (HF.out.2.2.1.names (by decide)) (by decide)
 have HM := aa (And.intro hM (And.intro hRx hr2))
 have HI := aa (hIs.nob hM.keep)
 clear hnk d0 d1 d2 d3 d4 hM hRx hRL hRn hRT hr2 hIs HB
 go_wp2_with fail
 refine hcn.mono ?_; rintro e w3 ⟨C, rfl, hC⟩
 have hce : C.env = 0 := hC.env
 have hlk : Link K C (cP 0) := by
  have := HF.out.2.2.1.link (C := C) (by rw [hce]; decide) hC.name hC.brs
  rw [hce] at this
  exact this
 have kc3 : Kc w3 K C (cP 0) := ⟨HI.out.nob hC.keep, hC.is, hlk, fun h0 ad e m => by have := hC.a ad e; have := HF.out.2.2.2.2.2.2 _ m; have := HM.out.1.keep.size; omega⟩
 have HC := aa hC
 have HK := aa kc3
 clear hcn hC kc3 hlk hce HI
 go_wp2_with fail
 refine (rblank_is w3).mono ?_; rintro e w4 ⟨rfl, k4⟩
 have hf0 := Co.field0
 have hlen := dR
 have HL := aa hlen
 have HK4 := aa k4
 clear k4 hlen
 go_wp2_with (refine jF rfl _ rfl aL rfl ?_; intro w5 c5 hcl hfr k5 hc5; clear hfr hc5)
 have kc5 := (HK.out.nob HK4.out).nob k5
 have hrd : ae w5 (some ⟨w4.heap.size, 0, none⟩) aL.length (bytes aL) := kH rfl hcl
 have hdo : Calls Tryz.prog 30 #[.pointer (some ⟨K.k, 0, none⟩), .int .i64 0, fq 2 256 0 0 0 0 (some ⟨w4.heap.size, 0, none⟩) aL.length c5] w5 fun e w' => ∃ er : Int, e = .returned (.agg #[.int .i64 er, .int .i64 0, .slice none 0 0]) ∧ (er == 0) = true ∧ To w5 K { K with xs := splice K.xs 0 aL } w' := by
  have := Co.lD kc5 0 0 aL (Nat.zero_le _) (by rw [HL.out]; decide) (some ⟨w4.heap.size, 0, none⟩) c5 hrd true (splice K.xs 0 aL) rfl 0
  rw [HC.out.env, show C.nm 0 = 256 from HC.out.name] at this
  exact this
 unfold fq at hdo
 have HK5 := aa (And.intro kc5 k5)
 clear hcl kc5 hrd k5
 refine hdo.mono ?_; rintro e w6 ⟨er, rfl, her, t6⟩
 obtain rfl : er = 0 := by simpa using her
 have HT := aa t6
 clear t6 her hdo
 go_wp2_with (refine jF rfl _ rfl aL rfl ?_; intro w7 c7 hcl hfr k7 hc7; clear hfr hc7)
 have hkc7 : Kc w7 { K with xs := splice K.xs 0 aL } C (cP 0) := (HK5.out.1.bytes HT.out).nob k7
 have hkd0 : Dk.IsKd w5 b k2 pq R Ag ng cg := ((Dk.IsKd.nob ⟨HM.out.1.obj, HM.out.1.reg⟩ HC.out.keep).nob HK4.out).nob HK5.out.2
 have hTN : ∀ x, Turn K x → x < w1.heap.size := fun x m => HF.out.2.2.2.2.2.2 x (.inl m)
 have hkd6 : Dk.IsKd w6 b k2 pq R Ag ng cg := ⟨hkd0.obj.keep HT.out.keep (fun m => by have := hTN _ m; have := HM.out.1.lk; omega), hkd0.reg.keep HT.out.keep (fun x hx m => by have := hTN _ m; have := HM.out.1.mine _ hx; omega)⟩
 have hkd7 := hkd6.nob k7
 have hrd : ae w7 (some ⟨w6.heap.size, 0, none⟩) aL.length (bytes aL) := kH rfl hcl
 have hRm : R.m < w6.heap.size := hkd6.reg.mem.lt
 have hbe : b.envs.length = 18 := HF.out.1
 have hwr : ∀ W, Keep Nob w7 W → Calls Tryz.prog 91 #[.pointer (some ⟨R.r, 0, none⟩), .int .i64 (0 : Nat), .int .i64 256, .int .i64 0, .string (str aL)] W fun e w' => e = .returned (.int .i64 0) ∧ Dk.bL w' { R with xs := splice R.xs 0 aL } ∧ Keep (· = R.m) W w' := fun W kk => by
  have hre : bo R.S.T R.S.n R.L 0 256 2 0 (aL.length : Nat) ((0 : Nat) : Int) 0 := HM.out.2.2.reach (e := 0) (j := 0) (by decide) (by decide) (.inr rfl) (at_ := 0) (by rw [HL.out]; decide)
  exact Dk.gV (hkd7.reg.nob kk) aL hre _ rfl
 have hkw := Dk.kdo_write hkd7 0 (by rw [hbe]; decide) 256 0 0 0 0 (some ⟨w6.heap.size, 0, none⟩) aL.length c7 aL hrd (fun _ ad e => by cases e; dsimp only; omega) 0 { R with xs := splice R.xs 0 aL } rfl hwr
 unfold fq at hkw
 have hdj : ∀ x, R.Mine x → w1.heap.size ≤ x := HM.out.1.mine
 have hn : Dk.nms R.S.T 0 = [256, 257, 258] := HM.out.2.2.nms (by decide)
 have hap7 : ∀ w8 : World, Keep (· = R.m) w7 w8 → Kc w8 { K with xs := splice K.xs 0 aL } C (cP 0) := fun w8 k8 => by
  refine apart hkc7 hkd7.reg.mem (by decide) (fun m => ?_) (hkc7.c.obj.ne_ hkd7.reg.mem (by decide)) (fun h0 ad e => ?_) k8
  ·have := HF.out.2.2.2.2.2.2 _ m
   have := hdj _ (.inr (.inl rfl))
   omega
  ·have h1 := HC.out.a ad e
   have h2 := HM.out.1.reg.mem.lt
   omega
 have HZ := aa hap7
 have HD := aa (And.intro hkd7 (And.intro hdj (And.intro hn k7)))
 clear hkd0 hkd6 hkd7 hkc7 hrd hRm hwr hdj hn hap7 hcl hTN k7
 refine hkw.mono ?_; rintro e w8 ⟨rfl, hkd8, k8⟩
 have hnw := Dk.rcom_new hkd8 0 (by dsimp only; rw [HM.out.2.2.n18]; decide) (by dsimp only; rw [HD.out.2.2.1]; decide)
 dsimp only at hnw
 rw [HD.out.2.2.1] at hnw
 have HE := aa (And.intro hkd8 (And.intro (HZ.out _ k8) k8))
 clear hkw hkd8 k8 hbe
 go_wp2_with fail
 refine hnw.mono ?_; rintro e w9 ⟨g, B, c, rfl, hcb, hcv, hcg, k9, hcB⟩
 go_wp2
 (try simp only [Exit.inBlock, Exit.then])
 refine bodyPost_ret (Dk.iR rfl _ _ _) rfl ?_
 have z2 := HM.out.1.keep.size
 have z3 := HC.out.keep.size
 have z4 := HK4.out.size
 have z5 := HK5.out.2.size
 have z6 := HT.out.keep.size
 have z7 := HD.out.2.2.2.size
 have z8 := HE.out.2.2.size
 have z1 := HF.out.2.2.2.2.1.size
 have hm := HD.out.2.1 R.m (.inr (.inl rfl))
 refine ⟨w1.heap.size, { K with xs := splice K.xs 0 aL }, C, b, k2, pq, { R with xs := splice R.xs 0 aL }, Ag, ng, cg, g, B, c, rfl, ⟨⟨HE.out.2.1.nob k9, HF.out.2.2.2.2.2.1, by have := HC.out.b; omega, ?_⟩, HF.out.2.2.1, ?_, HC.out.env, HC.out.name, HC.out.brs, HC.out.bad, HE.out.1.nob k9, HF.out.1, HM.out.2.2, ?_, hcb, hcv, HF.out.2.2.2.2.2.2, HD.out.2.1, ⟨HM.out.1.lk, by omega⟩, ?_⟩⟩
 ·exact (((((((((HF.out.2.2.2.2.1).nob HM.out.1.keep).nob HC.out.keep).nob HK4.out).nob HK5.out.2).from_ HT.out.keep (fun x m => HF.out.2.2.2.2.2.1 x (.inl m))).nob HD.out.2.2.2).at_ HE.out.2.2 (by omega)).nob k9)
 ·show splice K.xs 0 aL = xs0
  rw [HF.out.2.2.2.1]
  rfl
 ·show splice R.xs 0 aL = xs0
  rw [HM.out.2.1]
  rfl
 ·have hRlt : ∀ x, R.Mine x → x < w2.heap.size := HM.out.1.reg.lt
  have hklt : k2 < w2.heap.size := HM.out.1.obj.lt
  have hpl : C.p < w3.heap.size := HC.out.is.obj.lt
  have hbl : C.b < w3.heap.size := by obtain ⟨l, hl, _⟩ := HC.out.is.map; exact hl.lt
  have hpp := HC.out.p
  have hbb := HC.out.b
  have hal : ∀ x, Own C.A x → w2.heap.size ≤ x ∧ x < w3.heap.size := fun x hx => by
   obtain ⟨ad, hA, rfl⟩ := hx
   have h0 : 0 < C.brs.length := by rw [HC.out.brs]; decide
   exact ⟨HC.out.a ad hA, HK.out.a_lt h0 ad hA⟩
  have hml := HF.out.2.2.2.2.2.2
  have hm1 := HD.out.2.1
  have hlk := HM.out.1.lk
  intro x hx hy
  have hx' : x < w1.heap.size ∨ (w2.heap.size ≤ x ∧ x < w3.heap.size) := by
   rcases hx with m | rfl | rfl | m
   ·exact .inl (hml x m)
   ·exact .inr ⟨hpp, hpl⟩
   ·exact .inr ⟨hbb, hbl⟩
   ·exact .inr (hal x m)
  have hy' : (w1.heap.size ≤ x ∧ x < w2.heap.size) ∨ w8.heap.size ≤ x := by
   rcases hy with rfl | m | rfl | m
   ·exact .inl ⟨hlk, hklt⟩
   ·exact .inl ⟨hm1 x m, hRlt x m⟩
   ·exact .inr hcg
   ·exact .inr (hcB x m)
  omega
end Go.Proofs.YtgcikpgcoemfnaaGreat.Pn
namespace Go.Proofs.YtgcikpgcoemfnaaGreat.Pn
open Go.RowKit Co
theorem zlen (k : Nat) : (br k).length = 64 * k := by simp [br]
theorem xs0_len : xs0.length = 2560 := by
 unfold xs0
 rw [aX _ _ _ (by rw [dR, zlen]; decide), zlen]
theorem fC {L cs : List UInt8} {o a n : Nat} (h : o + cs.length ≤ L.length) (ha : a + n ≤ cs.length) : ((splice L o cs).drop (o + a)).take n = (cs.drop a).take n := by
 apply List.ext_getElem?
 intro i
 rw [List.getElem?_take, List.getElem?_take]
 by_cases hi : i < n
 ·rw [if_pos hi, if_pos hi, List.getElem?_drop, List.getElem?_drop, eW _ _ _ h, if_pos (by omega), show o + a + i - o = a + i by omega]
 ·rw [if_neg hi, if_neg hi]
theorem js {L cs : List UInt8} {o a n : Nat} (h : o + cs.length ≤ L.length) (ha : a + n ≤ o ∨ o + cs.length ≤ a) : ((splice L o cs).drop a).take n = (L.drop a).take n := by
 rcases ha with ha | ha
 ·exact lM _ _ _ h _ _ ha
 ·exact lL _ _ _ h _ _ ha
end Go.Proofs.YtgcikpgcoemfnaaGreat.Pn
namespace Go.Proofs.YtgcikpgcoemfnaaGreat.Pn
open Go.RowKit Co
section
variable {w w1 W W' W1 W2 : World} {K : Kn} {C : Cm} {src : Src}
theorem jn (k1 : Keep Nob w w1) (k : Keep (bT w1.heap.size) w1 W) : Keep (bT w.heap.size) w W :=
 (k1.mono (fun _ _ f => f.elim)).trans k (fun x _ m => Nat.le_trans k1.size m)
end
end Go.Proofs.YtgcikpgcoemfnaaGreat.Pn
