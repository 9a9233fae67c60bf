/- Texts Pl3, Pl4, Pl5, Pl6, Pl7, packed. -/
import Derived.Test.YtifigjccokpcfaaGreatPk0
import Derived.Test.YtifigjccokpcfaaGreatPk3
import Derived.Test.YtifigjccokpcfaaGreatPk5
import Derived.Test.YtifigjccokpcfaaGreatPk18
import Derived.Test.YtifigjccokpcfaaGreatPk19
import Derived.Test.YtifigjccokpcfaaGreatPk1
import Derived.Test.YtifigjccokpcfaaGreatPk8
import Derived.Test.YtifigjccokpcfaaGreatPk12
import Derived.Test.YtifigjccokpcfaaGreatPk21
import Derived.Test.YtifigjccokpcfaaGreatPk22
import Derived.Test.YtifigjccokpcfaaGreatPk13
import Derived.Test.YtifigjccokpcfaaGreatPk15
import Derived.Test.YtifigjccokpcfaaGreatPk14
import Derived.Test.YtifigjccokpcfaaGreatPk16
import Derived.Test.YtifigjccokpcfaaGreatPk17
import Derived.Test.YtifigjccokpcfaaGreatPk24
import Derived.Test.YtifigjccokpcfaaGreatPk23
import Derived.Test.YtifigjccokpcfaaGreatPk6
import Derived.Test.YtifigjccokpcfaaGreatPk9
import Derived.Test.YtifigjccokpcfaaGreatPk20
import Derived.Test.YtifigjccokpcfaaGreatPk2
import Derived.Test.YtifigjccokpcfaaGreatPk25
import Derived.Test.YtifigjccokpcfaaGreatPk26
import Derived.Test.YtifigjccokpcfaaGreatPk10
import Derived.Test.YtifigjccokpcfaaGreatPk11
import Derived.Test.YtifigjccokpcfaaGreatPk27
import Derived.Test.YtifigjccokpcfaaGreatPk7
namespace Go.Proofs.YtifigjccokpcfaaGreat.Pn
open Go.RowKit
set_option linter.unusedVariables false
set_option linter.unusedSimpArgs false
open Co (Src Link Cm Kc Ct)
/-- All bytes behind Open. -/
def xs0 : List UInt8 := splice (zeros 40) 0 blankB
/-- What Open leaves: the kernel and its Commons, the document's kernel and Commons. -/
structure Opened (w W : World) (N0 : Nat) (K : Kn) (C : Cm) (b : Bt) (k2 pq : Nat) (R : Dk.Dr) (Ag : Option Addr) (ng cg g : Nat) (B : Option Addr) (c : Nat) : Prop where
  op : Op0 w W K C (src2 0)
  g2 : G2 K.T K.envs.length K.L
  xs : K.xs = xs0
  env : C.env = 0
  name : C.name = 256
  brs : C.brs = [257, 258]
  bad : C.bad = []
  kd : Dk.IsKd W b k2 pq R Ag ng cg
  be : b.envs.length = 18
  r2 : G2 R.S.T R.S.n R.L
  rxs : R.xs = xs0
  com : Blk W g 61 [.pointer (some ⟨k2, 0, none⟩), .int .i64 0, .slice B 3 c, .slice none 0 0]
  row : Vec W 3 1 B 3 c (ints [256, 257, 258])
  k0 : ∀ x, Mine K x → x < N0
  r0 : ∀ x, R.Mine x → N0 ≤ x
  g0 : N0 ≤ k2 ∧ N0 ≤ g
section
variable {w w' : World} {K : Kn} {C : Cm} {src : Src}
theorem apart (h : Kc w K C src) {g : Nat} {t : TypeId} {cs : List Value} (hb : Blk w g t cs) (hf : ¬ Fix t) (hm : ¬ Mine K g) (hp : C.p ≠ g) (ha : 0 < C.brs.length → ∀ ad, C.A = some ad → ad.block ≠ g) (k : Keep (· = g) w w') : Kc w' K C src := by
  obtain ⟨l, hl, _⟩ := h.c.map
  exact ⟨h.k.keep k (fun b e => e ▸ ⟨_, _, hb, hf⟩) (fun b hb' e => hm (e ▸ hb')), h.c.keep k hp ha (hl.ne_blk hb), h.l, h.ap⟩
end
set_option maxRecDepth 100000 in
set_option maxHeartbeats 8000000 in
theorem open_is {w : World} (Ab AB : Option Addr) (hr : Reads w AB (2 * 2) (refs brs2)) :
    Calls Tryz.prog 8 #[.agg #[.slice Ab 2 2, .slice AB 2 2, .int .i64 5]] w fun e w' => ∃ N0 K C b k2 pq R Ag ng cg g B c, e = .returned (.tuple #[.pointer (some ⟨K.k, 0, none⟩), .pointer (some ⟨C.p, 0, none⟩), .pointer (some ⟨k2, 0, none⟩), .pointer (some ⟨g, 0, none⟩)]) ∧ Opened w w' N0 K C b k2 pq R Ag ng cg g B c := by
  have k1 := (Keep.refl Nob w).alloc (.cells #[.slice Ab 2 2, .slice AB 2 2, .int .i64 5] 32)
  have hbt := boot_is Ab 2 2 AB 2 brs2 5 2 rfl (hr.nob k1) (by decide) (by decide)
  have K1 := Lib.hid k1
  clear k1 hr
  go_enter Tryz.func8, Tryz.ntmps8
  go_wp2_with fail
  refine hbt.mono ?_; rintro e wb ⟨b, rfl, hI, hB, kB⟩
  have kx := (Keep.refl Nob wb).alloc (.cells #[.slice b.Af b.frames.length b.cf, .slice b.Ae b.envs.length b.ce, .slice b.As b.sects.length b.cs, .int .i64 b.lease, .slice b.Ah b.shared.length b.ch] 71)
  have hp := Blk.new wb 71 [.slice b.Af b.frames.length b.cf, .slice b.Ae b.envs.length b.ce, .slice b.As b.sects.length b.cs, .int .i64 b.lease, .slice b.Ah b.shared.length b.ch]
  have hI1 := hI.nob kx
  have hok := boot_ok hB
  have hnew := knew_is hI1 hok
  have kB1 : Keep (From w.heap.size) w (wb.alloc (.cells #[.slice b.Af b.frames.length b.cf, .slice b.Ae b.envs.length b.ce, .slice b.As b.sects.length b.cs, .int .i64 b.lease, .slice b.Ah b.shared.length b.ch] 71)) := ((K1.out.mono (fun _ _ f => f.elim)).trans kB (fun x hx m => by have := K1.out.size; have m : (w.alloc (.cells #[.slice Ab 2 2, .slice AB 2 2, .int .i64 5] 32)).heap.size ≤ x := m; omega)).nob kx
  unfold Bt.val at hnew ⊢
  have HH := Lib.hid (And.intro hp (And.intro hI1 (And.intro hok (And.intro hB kB1))))
  clear hbt hp hI hI1 hok hB kB1 kB kx K1
  go_wp2_with fail
  refine hnew.mono ?_; rintro e w1 ⟨K, rfl, hK, hBo⟩
  have hbl : b.envs.length = 18 := by rw [HH.out.2.2.2.1.envs]; simp
  have hsl : b.shared.length = 4 := by
    obtain ⟨_, _, _, _, e, _⟩ := shared4 HH.out.2.2.2.1
    rw [e]; rfl
  have hg2 : G2 K.T K.envs.length K.L := G2.of HH.out.2.2.2.1 (by rw [hBo.envs]) hBo.T hBo.L
  have hxs : K.xs = zeros 40 := hBo.xs
  have hp1 := HH.out.1.nob hK.keep
  have hnk := Dk.nkern_is (HH.out.2.1.nob hK.keep) HH.out.2.2.1 (by rw [hbl]; decide) (by rw [hsl]; decide)
  unfold Bt.val at hnk
  have kB1 := HH.out.2.2.2.2.nob hK.keep
  have hlo : ∀ x, Mine K x → w.heap.size ≤ x := fun x m => by have := hK.mine x m; have := HH.out.2.2.2.2.size; omega
  have hlt : ∀ x, Mine K x → x < w1.heap.size := fun x m => hK.is.mine_lt x m
  have hIs := hK.is
  have d0 := hp1.cell 0
  have d1 := hp1.cell 1
  have d2 := hp1.cell 2
  have d3 := hp1.cell 3
  have d4 := hp1.cell 4
  simp only [List.getElem?_cons_zero, List.getElem?_cons_succ] at d0 d1 d2 d3 d4
  have HB := Lib.hid HH.out.2.2.2.1
  have HF := Lib.hid (And.intro hbl (And.intro hsl (And.intro hg2 (And.intro hxs (And.intro kB1 (And.intro hlo hlt))))))
  clear hnew hK hBo hp1 hbl hsl hg2 hxs kB1 hlo hlt HH
  generalize wb.heap.size = gb at *
  go_wp2_with fail
  refine hnk.mono ?_; rintro e w2 ⟨k2, pq, Aq, cq, gq, bq, R, Ag, ng, cg, vs, rfl, hM, hRx, hRL, hRn, hRT⟩
  have hr2 : G2 R.S.T R.S.n R.L := G2.of HB.out hRn hRT hRL
  have hcn := Co.cnew_is (hIs.nob hM.keep) 0 (by rw [HF.out.2.2.1.n18]; decide) 256 [257, 258] (HF.out.2.2.1.names (by decide)) (by decide)
  have HM := Lib.hid (And.intro hM (And.intro hRx hr2))
  have HI := Lib.hid (hIs.nob hM.keep)
  clear hnk d0 d1 d2 d3 d4 hM hRx hRL hRn hRT hr2 hIs HB
  go_wp2_with fail
  refine hcn.mono ?_; rintro e w3 ⟨C, rfl, hC⟩
  have hce : C.env = 0 := hC.env
  have hlk : Link K C (src2 0) := by
    have := HF.out.2.2.1.link (C := C) (by rw [hce]; decide) hC.name hC.brs
    rw [hce] at this
    exact this
  have kc3 : Kc w3 K C (src2 0) := ⟨HI.out.nob hC.keep, hC.is, hlk, fun h0 ad e m => by have := hC.a ad e; have := HF.out.2.2.2.2.2.2 _ m; have := HM.out.1.keep.size; omega⟩
  have HC := Lib.hid hC
  have HK := Lib.hid kc3
  clear hcn hC kc3 hlk hce HI
  go_wp2_with fail
  refine (rblank_is w3).mono ?_; rintro e w4 ⟨rfl, k4⟩
  have hf0 := Co.field0
  have hlen := blank_len
  have HL := Lib.hid hlen
  have HK4 := Lib.hid k4
  clear k4 hlen
  go_wp2_with (refine wpList_sb rfl _ rfl blankB rfl ?_; intro w5 c5 hcl hfr k5 hc5; clear hfr hc5)
  have kc5 := (HK.out.nob HK4.out).nob k5
  have hrd : Reads w5 (some ⟨w4.heap.size, 0, none⟩) blankB.length (bytes blankB) := reads_of rfl hcl
  have hdo : Calls Tryz.prog 28 #[.pointer (some ⟨K.k, 0, none⟩), .int .i64 0, Calc 2 256 0 0 0 0 (some ⟨w4.heap.size, 0, none⟩) blankB.length c5] w5 fun e w' => ∃ er : Int, e = .returned (.agg #[.int .i64 er, .int .i64 0, .slice none 0 0]) ∧ (er == 0) = true ∧ To w5 K { K with xs := splice K.xs 0 blankB } w' := by
    have := Co.do_store kc5 0 0 blankB (Nat.zero_le _) (by rw [HL.out]; decide) (some ⟨w4.heap.size, 0, none⟩) c5 hrd true (splice K.xs 0 blankB) rfl 0
    rw [HC.out.env, show C.nm 0 = 256 from HC.out.name] at this
    exact this
  unfold Calc at hdo
  have HK5 := Lib.hid (And.intro kc5 k5)
  clear hcl kc5 hrd k5
  refine hdo.mono ?_; rintro e w6 ⟨er, rfl, her, t6⟩
  obtain rfl : er = 0 := by simpa using her
  have HT := Lib.hid t6
  clear t6 her hdo
  go_wp2_with (refine wpList_sb rfl _ rfl blankB rfl ?_; intro w7 c7 hcl hfr k7 hc7; clear hfr hc7)
  have hkc7 : Kc w7 { K with xs := splice K.xs 0 blankB } C (src2 0) := (HK5.out.1.bytes HT.out).nob k7
  have hkd0 : Dk.IsKd w5 b k2 pq R Ag ng cg := ((Dk.IsKd.nob ⟨HM.out.1.obj, HM.out.1.reg⟩ HC.out.keep).nob HK4.out).nob HK5.out.2
  have hTN : ∀ x, Turn K x → x < w1.heap.size := fun x m => HF.out.2.2.2.2.2.2 x (.inl m)
  have hkd6 : Dk.IsKd w6 b k2 pq R Ag ng cg := ⟨hkd0.obj.keep HT.out.keep (fun m => by have := hTN _ m; have := HM.out.1.lk; omega), hkd0.reg.keep HT.out.keep (fun x hx m => by have := hTN _ m; have := HM.out.1.mine _ hx; omega)⟩
  have hkd7 := hkd6.nob k7
  have hrd : Reads w7 (some ⟨w6.heap.size, 0, none⟩) blankB.length (bytes blankB) := reads_of rfl hcl
  have hRm : R.m < w6.heap.size := hkd6.reg.mem.lt
  have hbe : b.envs.length = 18 := HF.out.1
  have hwr : ∀ W, Keep Nob w7 W → Calls Tryz.prog 120 #[.pointer (some ⟨R.r, 0, none⟩), .int .i64 (0 : Nat), .int .i64 256, .int .i64 0, .string (str blankB)] W fun e w' => e = .returned (.int .i64 0) ∧ Dk.IsDr w' { R with xs := splice R.xs 0 blankB } ∧ Keep (· = R.m) W w' := fun W kk => by
    have hre : Reach R.S.T R.S.n R.L 0 256 2 0 (blankB.length : Nat) ((0 : Nat) : Int) 0 := HM.out.2.2.reach (e := 0) (j := 0) (by decide) (by decide) (.inr rfl) (at_ := 0) (by rw [HL.out]; decide)
    exact Dk.write_yes (hkd7.reg.nob kk) blankB hre _ rfl
  have hkw := Dk.kdo_write hkd7 0 (by rw [hbe]; decide) 256 0 0 0 0 (some ⟨w6.heap.size, 0, none⟩) blankB.length c7 blankB hrd (fun _ ad e => by cases e; dsimp only; omega) 0 { R with xs := splice R.xs 0 blankB } rfl hwr
  unfold Calc at hkw
  have hdj : ∀ x, R.Mine x → w1.heap.size ≤ x := HM.out.1.mine
  have hn : Dk.nms R.S.T 0 = [256, 257, 258] := HM.out.2.2.nms (by decide)
  have hap7 : ∀ w8 : World, Keep (· = R.m) w7 w8 → Kc w8 { K with xs := splice K.xs 0 blankB } C (src2 0) := fun w8 k8 => by
    refine apart hkc7 hkd7.reg.mem (by decide) (fun m => ?_) (hkc7.c.obj.ne_ hkd7.reg.mem (by decide)) (fun h0 ad e => ?_) k8
    · have := HF.out.2.2.2.2.2.2 _ m
      have := hdj _ (.inr (.inl rfl))
      omega
    · have h1 := HC.out.a ad e
      have h2 := HM.out.1.reg.mem.lt
      omega
  have HZ := Lib.hid hap7
  have HD := Lib.hid (And.intro hkd7 (And.intro hdj (And.intro hn k7)))
  clear hkd0 hkd6 hkd7 hkc7 hrd hRm hwr hdj hn hap7 hcl hTN k7
  refine hkw.mono ?_; rintro e w8 ⟨rfl, hkd8, k8⟩
  have hnw := Dk.rcom_new hkd8 0 (by dsimp only; rw [HM.out.2.2.n18]; decide) (by dsimp only; rw [HD.out.2.2.1]; decide)
  dsimp only at hnw
  rw [HD.out.2.2.1] at hnw
  have HE := Lib.hid (And.intro hkd8 (And.intro (HZ.out _ k8) k8))
  clear hkw hkd8 k8 hbe
  go_wp2_with fail
  refine hnw.mono ?_; rintro e w9 ⟨g, B, c, rfl, hcb, hcv, hcg, k9⟩
  go_wp2
  (try simp only [Exit.inBlock, Exit.then])
  refine bodyPost_ret (Dk.results_tmp4 rfl _ _ _) rfl ?_
  have z2 := HM.out.1.keep.size
  have z3 := HC.out.keep.size
  have z4 := HK4.out.size
  have z5 := HK5.out.2.size
  have z6 := HT.out.keep.size
  have z7 := HD.out.2.2.2.size
  have z8 := HE.out.2.2.size
  have z1 := HF.out.2.2.2.2.1.size
  have hm := HD.out.2.1 R.m (.inr (.inl rfl))
  refine ⟨w1.heap.size, { K with xs := splice K.xs 0 blankB }, C, b, k2, pq, { R with xs := splice R.xs 0 blankB }, Ag, ng, cg, g, B, c, rfl, ⟨⟨HE.out.2.1.nob k9, HF.out.2.2.2.2.2.1, by have := HC.out.b; omega, ?_⟩, HF.out.2.2.1, ?_, HC.out.env, HC.out.name, HC.out.brs, HC.out.bad, HE.out.1.nob k9, HF.out.1, HM.out.2.2, ?_, hcb, hcv, HF.out.2.2.2.2.2.2, HD.out.2.1, HM.out.1.lk, by omega⟩⟩
  · exact (((((((((HF.out.2.2.2.2.1).nob HM.out.1.keep).nob HC.out.keep).nob HK4.out).nob HK5.out.2).from_ HT.out.keep (fun x m => HF.out.2.2.2.2.2.1 x (.inl m))).nob HD.out.2.2.2).at_ HE.out.2.2 (by omega)).nob k9)
  · show splice K.xs 0 blankB = xs0
    rw [HF.out.2.2.2.1]
    rfl
  · show splice R.xs 0 blankB = xs0
    rw [HM.out.2.1]
    rfl
end Go.Proofs.YtifigjccokpcfaaGreat.Pn
namespace Go.Proofs.YtifigjccokpcfaaGreat.Pn
open Go.RowKit Co
set_option linter.unusedVariables false
set_option linter.unusedSimpArgs false
theorem zlen (k : Nat) : (zeros k).length = 64 * k := by simp [zeros]
theorem xs0_len : xs0.length = 2560 := by
  unfold xs0
  rw [splice_len _ _ _ (by rw [blank_len, zlen]; decide), zlen]
/-- What is read within what was written. -/
theorem splice_in {L cs : List UInt8} {o a n : Nat} (h : o + cs.length ≤ L.length) (ha : a + n ≤ cs.length) : ((splice L o cs).drop (o + a)).take n = (cs.drop a).take n := by
  apply List.ext_getElem?
  intro i
  rw [List.getElem?_take, List.getElem?_take]
  by_cases hi : i < n
  · rw [if_pos hi, if_pos hi, List.getElem?_drop, List.getElem?_drop, splice_get _ _ _ h, if_pos (by omega), show o + a + i - o = a + i by omega]
  · rw [if_neg hi, if_neg hi]
/-- What is read beside what was written. -/
theorem splice_by {L cs : List UInt8} {o a n : Nat} (h : o + cs.length ≤ L.length) (ha : a + n ≤ o ∨ o + cs.length ≤ a) : ((splice L o cs).drop a).take n = (L.drop a).take n := by
  rcases ha with ha | ha
  · exact splice_before _ _ _ h _ _ ha
  · exact splice_behind _ _ _ h _ _ ha
theorem got0 {a n : Nat} (h : a + n ≤ 492) : got xs0 (src2 0) (0, a, n) = (blankB.drop a).take n := by
  show (xs0.drop (0 + a)).take n = _
  unfold xs0
  exact splice_in (by rw [blank_len, zlen]; decide) (by rw [blank_len]; exact h)
theorem blank_z {a n : Nat} (h : a + n ≤ 448) : (blankB.drop a).take n = List.replicate n 0 := by
  unfold blankB
  rw [List.drop_append_of_le_length (by rw [List.length_replicate]; omega), List.take_append_of_le_length (by rw [List.length_drop, List.length_replicate]; omega), List.drop_replicate, List.take_replicate]
  congr 1
  omega
theorem blank_t : (blankB.drop 448).take 40 = Ri.enc pipe1 := by
  unfold blankB
  rw [List.drop_append, List.length_replicate, Nat.sub_self, List.drop_zero, List.drop_replicate, Nat.sub_self, List.replicate_zero, List.nil_append, List.take_append_of_le_length (by rw [Ri.enc_len pipe1_len]; decide)]
  rw [List.take_of_length_le (by rw [Ri.enc_len pipe1_len]; decide)]
theorem blank_f : (blankB.drop 488).take 4 = frontB 0 := by
  unfold blankB
  rw [List.drop_append, List.length_replicate, List.drop_append, Ri.enc_len pipe1_len, List.drop_replicate, List.drop_eq_nil_of_le (by rw [Ri.enc_len pipe1_len]; decide)]
  rfl
theorem dcdP0 : Cd.dcd (List.replicate 24 0) = (Cd.noP, 0) := by decide +kernel
theorem dcdR0 : Ri.dcd (List.replicate 40 0) = (Ri.noP, 0) := by
  unfold Ri.dcd
  rw [if_pos (by decide), if_pos (by decide +kernel)]
theorem proc0 {i : Int} (h0 : 0 ≤ i) (h7 : i ≤ 7) : pread Cd.dcd Cd.noP xs0 (src2 0) 2 [] (1, i) = ((Cd.noP, 0), []) := by
  refine (pread_some (x := (0, 24 * i.toNat, 24)) (by simp) (by simp [wher]; omega) (v := Cd.noP) (d := 0) ?_).trans ?_
  · rw [got0 (by omega), blank_z (by omega)]; exact dcdP0
  · rfl
theorem term0 : pread Ri.dcd Ri.noP xs0 (src2 0) 2 [] (4, 0) = ((pipe1, 1), []) := by
  refine (pread_some (x := (0, 448, 40)) (by simp) (by simp [wher]) (v := pipe1) (d := 1) ?_).trans ?_
  · rw [got0 (by omega), blank_t]; exact Ri.dcd_enc pipe1_len pipe1_ok
  · rfl
theorem front0 : pread fdec 0 xs0 (src2 0) 2 [] (5, 0) = ((0, 1), []) := by
  refine (pread_some (x := (0, 488, 4)) (by simp) (by simp [wher]) (v := 0) (d := 1) ?_).trans ?_
  · rw [got0 (by omega), blank_f]; decide +kernel
  · rfl
end Go.Proofs.YtifigjccokpcfaaGreat.Pn
namespace Go.Proofs.YtifigjccokpcfaaGreat.Pn
open Go.RowKit Co
set_option linter.unusedVariables false
set_option linter.unusedSimpArgs false
section
variable {w w1 W W' W1 W2 : World} {K : Kn} {C : Cm} {src : Src}
theorem from_join (k1 : Keep Nob w w1) (k : Keep (From w1.heap.size) w1 W) : Keep (From w.heap.size) w W :=
  (k1.mono (fun _ _ f => f.elim)).trans k (fun x _ m => Nat.le_trans k1.size m)
/-- A block of the caller's own is made and written. -/
theorem Op0.own (h : Op0 w W K C src) (ka : Keep Nob W W1) {t : TypeId} {cs : List Value} (hb : Blk W1 W.heap.size t cs) (ht : ¬ MyT t) (hf : ¬ Fix t) (ks : Keep (· = W.heap.size) W1 W2) : Op0 w W2 K C src := by
  have h1 := h.nob ka
  have hp := h.kc.c.lt.1
  have ha := h.kc.a_lt
  exact ⟨h1.kc.far hb ht hf (by omega) (fun h0 ad e => by have := ha h0 ad e; omega) ks, h1.lo, h1.lb, h1.keep.at_ ks h.keep.size⟩
end
theorem wf0 : Cd.Wf 0 := by unfold Cd.Wf; decide
set_option maxRecDepth 100000 in
set_option maxHeartbeats 4000000 in
theorem awake_is (w : World) : Calls Tryz.prog 18 #[] w fun e w' => e = .returned (.bool true) ∧ Keep (From w.heap.size) w w' := by
  go_enter Tryz.func18, Tryz.ntmps18
  go_wp2_with fail
  refine (plan_is w).mono ?_; rintro e w1 ⟨Ab, AB, rfl, hr, k1⟩
  go_wp2_with fail
  refine (open_is Ab AB hr).mono ?_; rintro e w2 ⟨N0, K, C, b, k2, pq, R, Ag, ng, cg, g, B, c, rfl, hO⟩
  have hX := hO.xs
  have hBr := hO.brs
  have hBd := hO.bad
  have O := hO.op
  clear hO hr
  have hp := Co.proc_is O.kc 0 wf0 Cd.noP 0 C.bad (by rw [hX, hBr, hBd]; exact proc0 (by decide) (by decide))
  have ht := fun W (O : Op0 w1 W K C (src2 0)) => Co.term_is O.kc pipe1 1 C.bad (by rw [hX, hBr, hBd]; exact term0)
  have hf := fun W (O : Op0 w1 W K C (src2 0)) => Co.front_is O.kc 0 1 C.bad (by rw [hX, hBr, hBd]; exact front0)
  have hb := fun W (O : Op0 w1 W K C (src2 0)) => Co.bad_is O.kc.c
  rw [hBd] at hb
  have hvl : ∃ bs, got K.xs (src2 0) (0, 0, 492) = bs ∧ bs.length = 492 := ⟨_, rfl, by rw [hX, got0 (by decide), List.drop_zero, List.take_of_length_le (by rw [blank_len]; exact Nat.le_refl _), blank_len]⟩
  obtain ⟨bs, hbs, hbl⟩ := hvl
  have hv := fun W (O : Op0 w1 W K C (src2 0)) => Co.view_is O.kc bs hbs
  rw [hbl] at hv
  have HT := Lib.hid ht
  have HF := Lib.hid hf
  have HB := Lib.hid hb
  have HV := Lib.hid hv
  have HP := Lib.hid hp
  have HO := Lib.hid O
  clear hp ht hf hb hv hX hBr hBd hbs hbl O
  go_wp2_with fail
  refine (HP.out).mono ?_; rintro e w3 ⟨rfl, t3⟩
  have O3 := Lib.hid (HO.out.ct t3 rfl)
  clear t3
  have hz := cellsI (n := 16) (l := Cd.noP) rfl
  have hz2 := cellsR pipe1_len
  go_wp2_with (first
    | (refine flatP.wpList_al rfl rfl ?_; intro w4 hb4 hk4 hs4; clear hs4)
    | (refine flatP.wpList_st rfl rfl rfl rfl hz hz hb4 ?_; intro w5 hb5 hk5 hs5; clear hs5))
  have O5 := Lib.hid (O3.out.own hk4 hb4 (by decide) (by decide) hk5)
  clear hb4 hk4 hb5 hk5 O3
  refine (HT.out _ O5.out).mono ?_; rintro e w6 ⟨rfl, t6⟩
  have O6 := Lib.hid (O5.out.ct t6 rfl)
  clear t6 O5
  go_wp2_with (first
    | (refine flatR.wpList_al rfl rfl ?_; intro w7 hb7 hk7 hs7; clear hs7)
    | (refine flatR.wpList_st rfl rfl rfl rfl hz2 (cellsR Ri.noP_len) hb7 ?_; intro w8 hb8 hk8 hs8; clear hs8))
  have O8 := Lib.hid (O6.out.own hk7 hb7 (by decide) (by decide) hk8)
  clear hb7 hk7 hb8 hk8 O6
  refine (HF.out _ O8.out).mono ?_; rintro e w9 ⟨rfl, t9⟩
  have O9 := Lib.hid (O8.out.ct t9 rfl)
  clear t9 O8
  go_wp2_with fail
  refine (Co.cnew_nil _ _).mono ?_; rintro e w10 ⟨rfl, rfl⟩
  go_wp2_with fail
  refine (HB.out _ O9.out).mono ?_; rintro e w11 ⟨A1, c1, rfl, _, k11⟩
  have O11 := Lib.hid (O9.out.nob k11)
  clear O9 k11
  go_wp2_with fail
  refine (HV.out _ O11.out).mono ?_; rintro e w12 ⟨A2, c2, rfl, _, t12⟩
  have O12 := Lib.hid (O11.out.still t12)
  clear O11 t12
  go_wp2
  go_ret
  exact ⟨rfl, from_join k1 O12.out.keep⟩
end Go.Proofs.YtifigjccokpcfaaGreat.Pn
namespace Go.Proofs.YtifigjccokpcfaaGreat.Pn
open Go.RowKit Co
set_option linter.unusedVariables false
set_option linter.unusedSimpArgs false
structure Op2 (w W : World) (K : Kn) (C : Cm) (s1 : Src) (D : Cm) (s2 : Src) : Prop where
  c : Op0 w W K C s1
  d : Op0 w W K D s2
  ne : C.b ≠ D.b
section
variable {w W W' W1 W2 : World} {K K' : Kn} {C C' D : Cm} {s1 s2 : Src}
theorem Op2.swap (h : Op2 w W K C s1 D s2) : Op2 w W K D s2 C s1 := ⟨h.d, h.c, h.ne.symm⟩
theorem Op2.nob (h : Op2 w W K C s1 D s2) (k : Keep Nob W W') : Op2 w W' K C s1 D s2 := ⟨h.c.nob k, h.d.nob k, h.ne⟩
theorem Op2.own (h : Op2 w W K C s1 D s2) (ka : Keep Nob W W1) {t : TypeId} {cs : List Value} (hb : Blk W1 W.heap.size t cs) (ht : ¬ MyT t) (hf : ¬ Fix t) (ks : Keep (· = W.heap.size) W1 W2) : Op2 w W2 K C s1 D s2 := ⟨h.c.own ka hb ht hf ks, h.d.own ka hb ht hf ks, h.ne⟩
/-- A call of the one leaves the other as it is. -/
theorem Op2.ct (h : Op2 w W K C s1 D s2) (t : Ct W K K' C C' s1 W') (hb : C'.b = C.b) (hk : K'.k = K.k) (hl : Link K' D s2) : Op2 w W' K' C' s1 D s2 := by
  have hc := h.c.ct t hb
  obtain ⟨l, hm, _⟩ := h.c.kc.c.map
  refine ⟨hc, ⟨⟨t.is.k, ?_, hl, fun h0 ad e m => ?_⟩, hc.lo, h.d.lb, hc.keep⟩, by rw [hb]; exact h.ne⟩
  · rw [hk]
    refine h.d.kc.c.keep t.keep (fun m => ?_) (fun h0 ad e m => ?_) (fun m => ?_)
    · rcases m with m | m
      · exact h.d.kc.p_ne (.inl m)
      · exact hm.ne_blk h.d.kc.c.obj m.symm
    · rcases m with m | m
      · exact h.d.kc.ap h0 ad e (.inl m)
      · obtain ⟨b, off, hA, hc⟩ := h.d.kc.c.brs.lit h0
        rw [e] at hA
        cases hA
        have m : b = C.b := m
        subst m
        exact no_cell hm _ (hc 0 _ (by rw [ints_get, List.getElem?_eq_getElem h0]; rfl))
    · rcases m with m | m
      · exact h.d.kc.b_ne (.inl m)
      · exact h.ne m.symm
  · rcases t.mine _ m with m | m
    · exact h.d.kc.ap h0 ad e m
    · have := h.d.kc.a_lt h0 ad e; omega
theorem Op2.bytes {ys : List UInt8} (h : Op2 w W K C s1 D s2) (t : To W K { K with xs := ys } W') : Op2 w W' { K with xs := ys } C s1 D s2 := h.ct (Ct.of_to h.c.kc t) rfl rfl h.d.kc.l.xs
theorem Op2.still (h : Op2 w W K C s1 D s2) (t : To W K K W') : Op2 w W' K C s1 D s2 := h.ct (Ct.of_to' h.c.kc t) rfl rfl h.d.kc.l
/-- A call that only reads, and may tell a record bad. -/
theorem Op2.reads {bad' : List Rf} (h : Op2 w W K C s1 D s2) (t : Ct W K K C { C with bad := bad' } s1 W') : Op2 w W' K { C with bad := bad' } s1 D s2 := h.ct t rfl rfl h.d.kc.l
theorem Op2.of_new {e : Nat} {n0 : Int} {l : List Int} (h : Op0 w W K C s1) (n : NewCm W W' K.k D e n0 l) (hl : Link K D s2) : Op2 w W' K C s1 D s2 := by
  have h1 := h.nob n.keep
  have hb := h.kc.c.lt.2
  have hn := n.b
  exact ⟨h1, ⟨⟨h1.kc.k, n.is, hl, fun h0 ad e m => by have := n.a ad e; have := h.kc.k.mine_lt _ m; omega⟩, h1.lo, by have := h.keep.size; omega, h1.keep⟩, by omega⟩
end
theorem from_join2 {w w1 W : World} (k1 : Keep (From w.heap.size) w w1) (k : Keep (From w1.heap.size) w1 W) : Keep (From w.heap.size) w W :=
  k1.trans k (fun x _ m => Nat.le_trans k1.size m)
theorem base_br (s s' : Nat) {i : Nat} (hi : i = 4 ∨ i = 5) : base2 s (i - 3) = base2 s' (i - 3) := by
  rcases hi with rfl | rfl <;> rfl
theorem base_in (s : Nat) {i : Nat} (hi : i = 4 ∨ i = 5) : base2 s (i - 3) = 512 ∨ base2 s (i - 3) = 1856 := by
  rcases hi with rfl | rfl
  · exact .inl rfl
  · exact .inr rfl
theorem wher_br {i : Nat} (hi : i = 4 ∨ i = 5) : wher 2 (3, (i : Int)) = some (i - 3, 0, 40) := by
  rcases hi with rfl | rfl <;> rfl
theorem pset_br {ys b : List UInt8} (s : Nat) {i : Nat} (hi : i = 4 ∨ i = 5) : pset true b ys (src2 s) 2 [] (3, (i : Int)) = (true, splice ys (base2 s (i - 3)) b) := by
  unfold pset
  rw [if_pos rfl, pwrite_some (by simp) (wher_br hi) (base := base2 s (i - 3)) rfl]
  rfl
theorem pread_br {ys : List UInt8} {p : Ri.Pp} (hl : p.d.length = 32) (ok : Ri.okd p = true) (hy : ys.length = 2560) (s s' : Nat) {i : Nat} (hi : i = 4 ∨ i = 5) : pread Ri.dcd Ri.noP (splice ys (base2 s (i - 3)) (Ri.enc p)) (src2 s') 2 [] (3, (i : Int)) = ((p, 1), []) := by
  have he := Ri.enc_len hl
  have hb := base_in s hi
  refine (pread_some (by simp) (wher_br hi) (v := p) (d := 1) ?_).trans rfl
  show Ri.dcd (((splice ys (base2 s (i - 3)) (Ri.enc p)).drop (base2 s' (i - 3) + 0)).take 40) = _
  rw [base_br s' s hi, splice_in (by omega) (by omega), List.drop_zero, List.take_of_length_le (by omega)]
  exact Ri.dcd_enc hl ok
theorem pread_no6 (xs : List UInt8) (s : Nat) : pread Ri.dcd Ri.noP xs (src2 s) 2 [] (3, 6) = ((Ri.noP, 2), []) := pread_none (by simp) rfl
theorem pread_r0 {xs : List UInt8} (h : (xs.drop 1568).take 40 = List.replicate 40 0) : pread Ri.dcd Ri.noP xs (src2 1) 2 [] (3, 0) = ((Ri.noP, 0), []) := by
  refine (pread_some (by simp) (x := (0, 288, 40)) rfl (v := Ri.noP) (d := 0) ?_).trans rfl
  show Ri.dcd ((xs.drop (1280 + 288)).take 40) = _
  rw [h]
  exact dcdR0
theorem xs0_far : (xs0.drop 1568).take 40 = List.replicate 40 0 := by
  unfold xs0
  rw [splice_by (by rw [blank_len, zlen]; decide) (.inr (by rw [blank_len]; decide))]
  unfold zeros
  rw [List.drop_replicate, List.take_replicate]
  rfl
theorem wfi {i : Int} (h0 : -1000 ≤ i) (h1 : i ≤ 1000) : Cd.Wf i := by unfold Cd.Wf; omega
end Go.Proofs.YtifigjccokpcfaaGreat.Pn
namespace Go.Proofs.YtifigjccokpcfaaGreat.Pn
open Go.RowKit Co
set_option linter.unusedVariables false
set_option linter.unusedSimpArgs false
section
variable {w W W' : World} {K K' : Kn} {C : Cm} {src src' : Src}
/-- The kernel was turned, and with it what the Caps reach. -/
theorem Kc.turn (h : Kc w K C src) (t : To w K K' W') (hk : K'.k = K.k) (hl : Link K' C src') : Kc W' K' C src' := by
  refine ⟨t.is, ?_, hl, fun h0 ad e m => ?_⟩
  · rw [hk]
    exact h.c.keep t.keep (fun m => h.p_ne (.inl m)) (fun h0 ad e m => h.ap h0 ad e (.inl m)) (fun m => h.b_ne (.inl m))
  · rcases t.mine _ m with m | m
    · exact h.ap h0 ad e m
    · have := h.a_lt h0 ad e; omega
theorem Op0.turn (h : Op0 w W K C src) (t : To W K K' W') (hk : K'.k = K.k) (hl : Link K' C src') : Op0 w W' K' C src' :=
  ⟨Kc.turn h.kc t hk hl, fun x m => (t.mine x m).elim (h.lo x) (fun e => by have := h.keep.size; omega), h.lb, h.keep.from_ t.keep (fun b m => h.lo b (.inl m))⟩
end
theorem G2.roots {T : St} {n : Nat} {L : List Rf} (h : G2 T n L) (ρ : Rf) (d : Cp) (hd : Has T n ρ d) : d.root = (0, 0) := by
  obtain ⟨cs, hT, hc⟩ := h.cs
  have h32 : ∀ e, e < n → (cs e).length ≤ 32 := fun e he => by rw [hc e (by have := h.n18; omega)]; simp [caps2]
  rw [hT] at hd
  obtain ⟨e, i, he, rfl, hi⟩ := (row_has h32 _ _).1 hd
  rw [hc e (by have := h.n18; omega)] at hi
  rcases (show i = 0 ∨ i = 1 ∨ i = 2 ∨ 3 ≤ i by omega) with rfl | rfl | rfl | h3
  · simp [caps2] at hi; rw [← hi]
  · simp [caps2] at hi; rw [← hi]
  · simp [caps2] at hi; rw [← hi]
  · rw [List.getElem?_eq_none (by simpa [caps2] using h3)] at hi; cases hi
theorem G2.no_desc {T : St} {n : Nat} {L : List Rf} (h : G2 T n L) {top : Rf} (ht : top ≠ (0, 0)) : ∀ ρ, ¬ Desc T n top ρ := fun ρ hd => by
  induction hd with
  | child a b => exact ht (b.symm.trans (h.roots _ _ a))
  | step a b c ih => exact ih
/-- Whose Cap was not revoked reaches what it did. -/
theorem reach_gone {T : St} {n : Nat} {L l : List Rf} {env name right at_ k v er : Int} (h : Reach T n L env name right at_ k v er) (hn : (env, name) ∉ l) : Reach (gone T l) n L env name right at_ k v er := by
  cases h with
  | nocap h => exact .nocap (fun c hc => h c (gone_has.1 hc).1)
  | noright c h hb => exact .noright c (gone_has.2 ⟨h, hn⟩) hb
  | noarg c h hb hf => exact .noarg c (gone_has.2 ⟨h, hn⟩) hb hf
  | yes c x v h hb hf hv => exact .yes c x v (gone_has.2 ⟨h, hn⟩) hb hf hv
/-- What is left to environment 0's Commons, and to one that it makes anew. -/
def srcG : Src := fun j _ _ => if j = 0 then none else some (base2 0 j)
def srcH : Src := fun j at_ n => if j = 0 then (if at_ + n ≤ 40 then some 512 else none) else some 1856
section
variable {K : Kn} {C : Cm}
theorem link_gone (h : G2 K.T K.envs.length K.L) (he : C.env = 0) (hn : C.name = 256) (hb : C.brs = [257, 258]) : Link { K with T := gone K.T [(0, 256)] } C srcG := by
  have hl : C.brs.length = 2 := by rw [hb]; rfl
  refine ⟨by rw [he, h.n18]; decide, fun j b at_ k hj hs right hr hin => ?_, fun j at_ k hj hs right => ?_⟩
  · rcases (show j = 0 ∨ j = 1 ∨ j = 2 by omega) with rfl | rfl | rfl
    · cases hs
    · cases hs
      have := h.reach (e := 0) (j := 1) (by decide) (by decide) hr hin
      rw [he, show C.nm 1 = 257 from by show C.brs.getD 0 0 = _; rw [hb]; rfl]
      exact reach_gone this (by decide)
    · cases hs
      have := h.reach (e := 0) (j := 2) (by decide) (by decide) hr hin
      rw [he, show C.nm 2 = 258 from by show C.brs.getD 1 0 = _; rw [hb]; rfl]
      exact reach_gone this (by decide)
  · rcases (show j = 0 ∨ j = 1 ∨ j = 2 by omega) with rfl | rfl | rfl
    · refine ⟨0, 2, by decide, ?_⟩
      rw [he, show C.nm 0 = 256 from hn]
      exact Reach.nocap (fun c hc => (gone_has.1 hc).2 (by simp))
    · cases hs
    · cases hs
theorem link_again (h : G2 K.T K.envs.length K.L) (he : C.env = 0) (hn : C.name = 257) (hb : C.brs = [258]) : Link { K with T := gone K.T [(0, 256)] } C srcH := by
  have hl : C.brs.length = 1 := by rw [hb]; rfl
  refine ⟨by rw [he, h.n18]; decide, fun j b at_ k hj hs right hr hin => ?_, fun j at_ k hj hs right => ?_⟩
  · rcases (show j = 0 ∨ j = 1 by omega) with rfl | rfl
    · unfold srcH at hs
      rw [if_pos rfl] at hs
      by_cases hk : at_ + k ≤ 40
      · rw [if_pos hk] at hs
        cases hs
        have := h.reach (e := 0) (j := 1) (by decide) (by decide) hr (at_ := at_) (k := k) (by rw [if_neg (by decide)]; exact hk)
        rw [he, show C.nm 0 = 257 from hn]
        exact reach_gone this (by decide)
      · rw [if_neg hk] at hs; cases hs
    · cases hs
      have := h.reach (e := 0) (j := 2) (by decide) (by decide) hr hin
      rw [he, show C.nm 1 = 258 from by show C.brs.getD 0 0 = _; rw [hb]; rfl]
      exact reach_gone this (by decide)
  · rcases (show j = 0 ∨ j = 1 by omega) with rfl | rfl
    · unfold srcH at hs
      rw [if_pos rfl] at hs
      by_cases hk : at_ + k ≤ 40
      · rw [if_pos hk] at hs; cases hs
      · obtain ⟨c, hc, hh⟩ := h.has (e := 0) (j := 1) (by decide) (by decide)
        simp only [caps2, List.getElem?_cons_zero, List.getElem?_cons_succ, Option.some.injEq] at hc
        subst hc
        rw [he, show C.nm 0 = 257 from hn]
        have hg : Has (gone K.T [(0, 256)]) K.envs.length ((((0 : Nat) : Int)), ((1 : Nat) : Int) + 256) ⟨2, 3, 0, 40, (0, 0)⟩ := gone_has.2 ⟨hh, by decide⟩
        by_cases hb : (bits .and .i64 3 right == 0) = true
        · exact ⟨0, 3, by decide, Reach.noright _ hg hb⟩
        · exact ⟨0, 1, by decide, Reach.noarg _ hg (by simpa using hb) (fun x hf => by have := hf.2.2.1; dsimp only at this; omega)⟩
    · cases hs
theorem names_gone (h : G2 K.T K.envs.length K.L) : names ((gone K.T [(0, 256)] 0).map Q.pl) (gone K.T [(0, 256)] 0).length = 257 :: [258] := by
  unfold gone
  rw [h.row (by decide)]
  decide +kernel
end
theorem gotG (xs : List UInt8) (a n : Nat) : got xs srcG (0, a, n) = [] := rfl
theorem gone1 {i : Int} (h0 : 0 ≤ i) (h3 : i ≤ 3) : pread Cd.dcd Cd.noP xs0 srcG 2 [] (1, i) = ((Cd.noP, 2), [(1, i)]) := by
  refine (pread_some (x := (0, 24 * i.toNat, 24)) (by simp) (by simp [wher]; omega) (v := Cd.noP) (d := 2) ?_).trans ?_
  · rw [gotG]; decide +kernel
  · rfl
theorem gone2 {i : Int} (h0 : 0 ≤ i) (h3 : i ≤ 3) : pread Fi.dcd Fi.noP xs0 srcG 2 [(1, i)] (2, i) = ((Fi.noP, 2), [(1, i), (2, i)]) := by
  refine (pread_some (x := (0, 192 + 8 * i.toNat, 8)) (by simp) (by simp [wher]; omega) (v := Fi.noP) (d := 2) ?_).trans ?_
  · rw [gotG]; decide +kernel
  · simp [ins, lt]
theorem gone3 {i : Int} (h0 : 0 ≤ i) (h3 : i ≤ 3) : pread Ri.dcd Ri.noP xs0 srcG 2 [(1, i), (2, i)] (3, i) = ((Ri.noP, 2), [(1, i), (2, i), (3, i)]) := by
  refine (pread_some (x := (0, 288 + 40 * i.toNat, 40)) (by simp) (by unfold wher; dsimp only; rw [if_neg (by decide), if_neg (by decide), if_pos rfl, if_neg (by omega), if_pos h0]) (v := Ri.noP) (d := 2) ?_).trans ?_
  · rw [gotG]; rfl
  · simp [ins, lt]
theorem gone4 {i : Int} : pread Ri.dcd Ri.noP xs0 srcG 2 [(1, i), (2, i), (3, i)] (4, 0) = ((Ri.noP, 2), [(1, i), (2, i), (3, i), (4, 0)]) := by
  refine (pread_some (x := (0, 448, 40)) (by simp) (by simp [wher]) (v := Ri.noP) (d := 2) ?_).trans ?_
  · rw [gotG]; rfl
  · simp [ins, lt]
def five (i : Int) : List Rf := [(1, i), (2, i), (3, i), (4, 0), (5, 0)]
theorem gone5 {i : Int} : pread fdec 0 xs0 srcG 2 [(1, i), (2, i), (3, i), (4, 0)] (5, 0) = ((0, 2), five i) := by
  refine (pread_some (x := (0, 488, 4)) (by simp) (by simp [wher]) (v := 0) (d := 2) ?_).trans ?_
  · rw [gotG]; decide +kernel
  · simp [ins, lt, five]
theorem pset_bad {ok : Bool} {b xs : List UInt8} {src : Src} {nb : Nat} {bad : List Rf} {r : Rf} (h : r ∈ bad) : pset ok b xs src nb bad r = (false, xs) := by
  unfold pset
  split
  · exact pwrite_bad h
  · rfl
theorem again1 {x : Int} (h1 : 1 ≤ x) (h7 : x ≤ 7) : pread Cd.dcd Cd.noP xs0 srcH 1 [] (1, x) = ((Cd.noP, 2), [(1, x)]) := by
  refine (pread_some (x := (0, 24 * x.toNat, 24)) (by simp) (by simp [wher]; omega) (v := Cd.noP) (d := 2) ?_).trans ?_
  · have : srcH 0 (24 * x.toNat) 24 = none := by
      unfold srcH
      rw [if_pos rfl, if_neg (by omega)]
    have e : got xs0 srcH (0, 24 * x.toNat, 24) = [] := by
      unfold got
      dsimp only
      rw [this]
    rw [e]
    decide +kernel
  · rfl
theorem or_one {m : Int} (h0 : 0 ≤ m) (h7 : m < 8) : ∃ x, bits .or .i64 m 1 = x ∧ 1 ≤ x ∧ x ≤ 7 := by
  rcases (show m = 0 ∨ m = 1 ∨ m = 2 ∨ m = 3 ∨ m = 4 ∨ m = 5 ∨ m = 6 ∨ m = 7 by omega) with rfl | rfl | rfl | rfl | rfl | rfl | rfl | rfl
  all_goals exact ⟨_, rfl, by decide, by decide⟩
end Go.Proofs.YtifigjccokpcfaaGreat.Pn
