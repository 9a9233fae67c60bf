/- Texts Dk7, Dk8, Dk9, Pl2, CoRP, CoRF, CoRR, CoRI, CoW, CoM, packed. -/
import Derived.Deep.RegionLaw
import Derived.BigRegion
import Derived.Test.YtifigjccokpcfaaGreatPk0
import Derived.Test.YtifigjccokpcfaaGreatPk8
import Derived.Test.YtifigjccokpcfaaGreatPk12
import Derived.Test.YtifigjccokpcfaaGreatPk3
import Derived.Test.YtifigjccokpcfaaGreatPk13
import Derived.Test.YtifigjccokpcfaaGreatPk15
import Derived.Test.YtifigjccokpcfaaGreatPk14
import Derived.Test.YtifigjccokpcfaaGreatPk16
import Derived.Test.YtifigjccokpcfaaGreatPk17
import Derived.Test.YtifigjccokpcfaaGreatPk1
import Derived.Test.YtifigjccokpcfaaGreatPk18
import Derived.Test.YtifigjccokpcfaaGreatPk21
import Derived.Test.YtifigjccokpcfaaGreatPk22
import Derived.Test.YtifigjccokpcfaaGreatPk24
import Derived.Test.YtifigjccokpcfaaGreatPk2
import Derived.Test.YtifigjccokpcfaaGreatPk25
import Derived.Test.YtifigjccokpcfaaGreatPk5
import Derived.Test.YtifigjccokpcfaaGreatPk23
import Derived.Test.YtifigjccokpcfaaGreatPk19
import Derived.Test.YtifigjccokpcfaaGreatPk6
import Derived.Test.YtifigjccokpcfaaGreatPk9
import Derived.Test.YtifigjccokpcfaaGreatPk20
import Derived.Test.YtifigjccokpcfaaGreatPk10
import Derived.Test.YtifigjccokpcfaaGreatPk11
namespace Go.Proofs.YtifigjccokpcfaaGreat.Dk
open Go.RowKit
set_option linter.unusedVariables false
set_option linter.unusedSimpArgs false
theorem zblk {X : World} {q k : Nat} (e : X.heap.size = q) : Blk (X.alloc (.cells (madeCells #[.int .u8 0] (64 * k)) 5)) q 5 (bytes (zeros k)) := by
  subst e
  have := Blk.new X 5 (madeCells #[.int .u8 0] (64 * k)).toList
  rw [Array.toArray_toList, toList_madeCells_one] at this
  rw [zeros, bytes_replicate]
  exact this
theorem rblk {X : World} {q : Nat} {t : TypeId} {a b c d : Value} (e : X.heap.size = q) : Blk (X.alloc (.cells #[a, b, c, d] t)) q t [a, b, c, d] := by
  subst e
  exact Blk.new X t [a, b, c, d]
/-- What stands when the Regions are laid into the kernel. -/
theorem Mk.start {w W : World} {b : Bt} {ns : List Nat} {k pq : Nat} {Aq : Option Addr} {cq : Nat} {gq : Nat → Nat} {bq : Nat → List Bool} {rr zb f : Nat} {S : Ds} (hf : f ≤ 256)
    (kk : Keep Nob w W) (boot : Blk W w.heap.size 71 [.slice b.Af b.frames.length b.cf, .slice b.Ae b.envs.length b.ce, .slice b.As b.sects.length b.cs, .int .i64 b.lease, .slice b.Ah b.shared.length b.ch])
    (obj : Blk W k 76 [.slice b.Af b.frames.length b.cf, .slice b.Ae b.envs.length b.ce, .slice b.As b.sects.length b.cs, .int .i64 b.lease, .slice b.Ah b.shared.length b.ch, .pointer (some ⟨pq, 0, none⟩), .pointer none, .slice none 0 0, .int .i64 0])
    (hQ : Qu.Dq W pq Aq cq gq ns bq) (hR : Blk W rr 145 [.slice (some ⟨zb, 0, none⟩) (64 * f) (64 * f), .slice none 0 0, .slice none 0 0, .pointer (some ⟨S.s, 0, none⟩)]) (hZ : Blk W zb 5 (bytes (zeros f))) (hS : IsDs W S) (hI : Inv S.T S.n)
    (l1 : w.heap.size ≤ k) (l2 : w.heap.size ≤ rr) (l3 : w.heap.size ≤ zb) (l4 : ∀ x, S.Mine x → w.heap.size ≤ x) :
    Mk w (W.setCell ⟨k, 6, none⟩ (.pointer (some ⟨rr, 0, none⟩))) b ns k pq Aq cq gq bq ⟨rr, zb, zeros f, none, 0, none, 0, [], S⟩ none 0 0 [] := by
  have k2 : Keep (· = k) W (W.setCell ⟨k, 6, none⟩ (.pointer (some ⟨rr, 0, none⟩))) := (Keep.refl _ _).setCell _ _ (fun _ => rfl)
  have hM : ∀ x, x = k → ∃ t cs, Blk W x t cs ∧ t ∈ [76] := fun x e => e ▸ ⟨_, _, obj, by simp⟩
  have no : ∀ x, ¬ Own none x := fun x ⟨a, ha, _⟩ => by cases ha
  have e1 : (zeros f).length = 64 * f := zeros_len f
  have hd : IsDr W ⟨rr, zb, zeros f, none, 0, none, 0, [], S⟩ := ⟨by dsimp only; rw [e1]; exact hR, hZ, Vec.nil _ _ _, Vec.nil _ _ _, hS, hI, fun x hx => (by cases hx), by dsimp only; omega, by simp, fun x hx => (no x hx).elim⟩
  refine ⟨boot.keep k2 (offM (M := (· = k)) hM boot (by decide)), obj.setCell 6 _, hQ.keep k2 (offM (M := (· = k)) hM hQ.obj (by decide)) (offMV (M := (· = k)) hM hQ.row (by decide)) (fun i hi => offM (M := (· = k)) hM (hQ.tab i hi) (by decide)), hd.keep k2 (fun x hx => ?_), Vec.nil _ _ _, fun x hx => ?_, l1, fun x hx => (no x hx).elim, kk.trans k2 (fun x hx m => by have h9 : x = k := m; omega)⟩
  · rcases hx with rfl | rfl | hx | hx | hx
    · exact offM (M := (· = k)) hM hR (by decide)
    · exact offM (M := (· = k)) hM hZ (by decide)
    · exact (no x hx).elim
    · exact (no x hx).elim
    · rcases hx with rfl | hx | hx | ⟨i, hi, rfl | hx | rfl⟩
      · exact offM (M := (· = k)) hM hS.obj (by decide)
      · exact offMV (M := (· = k)) hM hS.nrow (by decide) x hx
      · exact offMV (M := (· = k)) hM hS.cr (by decide) x hx
      · exact offM (M := (· = k)) hM (hS.nm i hi).obj (by decide)
      · exact offMV (M := (· = k)) hM (hS.nm i hi).row (by decide) x hx
      · exact offM (M := (· = k)) hM (hS.cp i hi) (by decide)
  · rcases hx with rfl | rfl | hx | hx | hx
    · exact l2
    · exact l3
    · exact (no x hx).elim
    · exact (no x hx).elim
    · exact l4 x hx
theorem Mk.start2 {w wb ws W : World} {b : Bt} {ns : List Nat} {k pq : Nat} {Aq : Option Addr} {cq : Nat} {gq : Nat → Nat} {bq : Nat → List Bool} {rr zb f : Nat} {S : Ds} (hf : f ≤ 256)
    (kk : Keep Nob w wb) (boot : Blk wb w.heap.size 71 [.slice b.Af b.frames.length b.cf, .slice b.Ae b.envs.length b.ce, .slice b.As b.sects.length b.cs, .int .i64 b.lease, .slice b.Ah b.shared.length b.ch])
    (obj : Blk wb k 76 [.slice b.Af b.frames.length b.cf, .slice b.Ae b.envs.length b.ce, .slice b.As b.sects.length b.cs, .int .i64 b.lease, .slice b.Ah b.shared.length b.ch, .pointer (some ⟨pq, 0, none⟩), .pointer none, .slice none 0 0, .int .i64 0])
    (hQ : Qu.Dq wb pq Aq cq gq ns bq) (k9 : Keep Nob wb W) (hS : IsDs ws S) (k10 : Keep Nob ws W) (hI : Inv S.T S.n) (hR : Blk W rr 145 [.slice (some ⟨zb, 0, none⟩) (64 * f) (64 * f), .slice none 0 0, .slice none 0 0, .pointer (some ⟨S.s, 0, none⟩)]) (hZ : Blk W zb 5 (bytes (zeros f)))
    (l1 : w.heap.size ≤ k) (l2 : w.heap.size ≤ rr) (l3 : w.heap.size ≤ zb) (l4 : ∀ x, S.Mine x → w.heap.size ≤ x) :
    Mk w (W.setCell ⟨k, 6, none⟩ (.pointer (some ⟨rr, 0, none⟩))) b ns k pq Aq cq gq bq ⟨rr, zb, zeros f, none, 0, none, 0, [], S⟩ none 0 0 [] :=
  Mk.start hf (kk.nobt k9) (boot.nob k9) (obj.nob k9) (hQ.nob k9) hR hZ (hS.nob k10) hI l1 l2 l3 l4
theorem inq {w : World} {n m c : Nat} {A : Option Addr} {l : List Int} {x : Int} (hr : Reads (w.drewN n) A m (ints l)) (hm : m ≤ 1000) (v : Bool) (hv : decide (x ∈ l) = v) : Calls Tryz.prog 115 #[.slice A m c, .int .i64 x] (w.drewN n) fun e w'' => e = .returned (.bool v) ∧ ∃ z, w'' = w.drewN z :=
  (in_is A m c l x hr hm v hv).mono fun _ _ ⟨he, h2⟩ => ⟨he, n, h2.symm⟩
theorem put_all {w W W' : World} {b : Bt} {ns : List Nat} {k pq : Nat} {Aq : Option Addr} {cq : Nat} {gq : Nat → Nat} {bq : Nat → List Bool} {R : Dr} {Ag : Option Addr} {ng cg : Nat} {vs : List Value} {T' : St} {e g E : Nat} {cs : List Value}
    (h : Mk w W b ns k pq Aq cq gq bq R Ag ng cg vs) (hS : Blk W g 181 cs) (hn : R.S.n = E) (he : e < E) (hR : IsDr W' { R with S := { R.S with T := T' } }) (kP : Keep (AddM R.S e) W W') :
    Mk w W' b ns k pq Aq cq gq bq { R with S := { R.S with T := T' } } Ag ng cg vs ∧ Blk W' g 181 cs := by
  subst hn
  refine ⟨h.put he hR kP, hS.keep kP (fun m => ?_)⟩
  obtain ⟨t, c, hc, ht⟩ := AddM.blk h.reg.sp he m
  rcases ht with rfl | rfl
  · exact hS.ne_ hc (by decide) rfl
  · exact hS.ne_ hc (by decide) rfl
theorem infopS : (Tryz.prog.info? 201).map (fun i => (i.zero, i.size, i.bytes)) = some (some (.pointer none), 1, 8) := by kernel_rfl
section
variable {w : World}
set_option maxRecDepth 100000 in
set_option maxHeartbeats 40000000 in
theorem nkern_is {b : Bt} {ns : List Nat} (h : IsBt w b) (ok : BtOk b ns) (h1e : 1 ≤ b.envs.length) (h1s : 1 ≤ b.shared.length) :
    Calls Tryz.prog 40 #[b.val] w fun e w' => ∃ k pq Aq cq gq bq R Ag ng cg vs, e = .returned (.pointer (some ⟨k, 0, none⟩)) ∧ Mk w w' b ns k pq Aq cq gq bq R Ag ng cg vs ∧ R.xs = zeros (Qu.first ns ns.length) ∧ R.L = b.shared.map (spanOf ns) ∧ R.S.n = b.envs.length ∧ R.S.T = tOf (csAt b.envs b.shared b.shared.length) := by
  have hnl := ok.len
  have h4 := ok.f4
  have h1 := ok.f1
  have k1 := (Keep.refl Nob w).alloc (.cells #[.slice b.Af b.frames.length b.cf, .slice b.Ae b.envs.length b.ce, .slice b.As b.sects.length b.cs, .int .i64 b.lease, .slice b.Ah b.shared.length b.ch] 71)
  have b1 : Blk (w.alloc (.cells #[.slice b.Af b.frames.length b.cf, .slice b.Ae b.envs.length b.ce, .slice b.As b.sects.length b.cs, .int .i64 b.lease, .slice b.Ah b.shared.length b.ch] 71)) w.heap.size 71 [.slice b.Af b.frames.length b.cf, .slice b.Ae b.envs.length b.ce, .slice b.As b.sects.length b.cs, .int .i64 b.lease, .slice b.Ah b.shared.length b.ch] := Blk.new w 71 _
  have sf : ∀ W, Keep Nob (w.alloc (.cells #[.slice b.Af b.frames.length b.cf, .slice b.Ae b.envs.length b.ce, .slice b.As b.sects.length b.cs, .int .i64 b.lease, .slice b.Ah b.shared.length b.ch] 71)) W → W.cell? ⟨w.heap.size, 0, none⟩ = some (.slice b.Af b.frames.length b.cf) ∧ W.cell? ⟨w.heap.size, 1, none⟩ = some (.slice b.Ae b.envs.length b.ce) ∧ W.cell? ⟨w.heap.size, 2, none⟩ = some (.slice b.As b.sects.length b.cs) ∧ W.cell? ⟨w.heap.size, 3, none⟩ = some (.int .i64 b.lease) ∧ W.cell? ⟨w.heap.size, 4, none⟩ = some (.slice b.Ah b.shared.length b.ch) := fun W kk =>
    ⟨(b1.nob kk).cell 0, (b1.nob kk).cell 1, (b1.nob kk).cell 2, (b1.nob kk).cell 3, (b1.nob kk).cell 4⟩
  have hqn : ∀ W, Keep Nob (w.alloc (.cells #[.slice b.Af b.frames.length b.cf, .slice b.Ae b.envs.length b.ce, .slice b.As b.sects.length b.cs, .int .i64 b.lease, .slice b.Ah b.shared.length b.ch] 71)) W → Calls Tryz.prog 110 #[.slice b.Af b.frames.length b.cf] W (Qu.NewD ns W) := fun W kk => Qu.dnew_is ((h.nob k1).nob kk).fr ns ok.nse
  have HH := Lib.hid (And.intro h ok)
  have KB := Lib.hid (And.intro k1 b1)
  have HN := Lib.hid hnl
  clear h ok hnl k1 b1
  unfold Bt.val
  go_enter Tryz.func40, Tryz.ntmps40
  go_wp2_with fail
  generalize hw1 : (w.alloc (.cells #[.slice b.Af b.frames.length b.cf, .slice b.Ae b.envs.length b.ce, .slice b.As b.sects.length b.cs, .int .i64 b.lease, .slice b.Ah b.shared.length b.ch] 71)) = w1 at *
  have hs1 : w1.heap.size = w.heap.size + 1 := by rw [← hw1]; simp
  clear hw1
  have kd := Keep.nobdrew w1
  have s0 := sf _ kd
  go_region_held3 (fun w' => w'.cell? ⟨w.heap.size, 0, none⟩ = some (.slice b.Af b.frames.length b.cf) ∧ w'.cell? ⟨w.heap.size, 1, none⟩ = some (.slice b.Ae b.envs.length b.ce) ∧ w'.cell? ⟨w.heap.size, 2, none⟩ = some (.slice b.As b.sects.length b.cs) ∧ w'.cell? ⟨w.heap.size, 3, none⟩ = some (.int .i64 b.lease) ∧ w'.cell? ⟨w.heap.size, 4, none⟩ = some (.slice b.Ah b.shared.length b.ch))
    (first | exact s0 | exact sf _ kd1 | exact sf _ (kd1.alloc _))
    (first | (go_at_call 110; refine (hqn _ kd).mono ?_; rintro e wa ⟨pq, Aq, cq, gq, rfl, hQ, hgq, kQ⟩; have kd1 := kd.trans kQ (fun _ _ f => f)))
  have hB := (KB.out.2.nob kd1).alloc (.cells #[.slice b.Af b.frames.length b.cf, .slice b.Ae b.envs.length b.ce, .slice b.As b.sects.length b.cs, .int .i64 b.lease, .slice b.Ah b.shared.length b.ch, .pointer (some ⟨pq, 0, none⟩), .pointer none, .slice none 0 0, .int .i64 0] 76)
  have hK := Blk.new wa 76 [.slice b.Af b.frames.length b.cf, .slice b.Ae b.envs.length b.ce, .slice b.As b.sects.length b.cs, .int .i64 b.lease, .slice b.Ah b.shared.length b.ch, .pointer (some ⟨pq, 0, none⟩), .pointer none, .slice none 0 0, .int .i64 0]
  have ka := (Keep.refl Nob wa).alloc (.cells #[.slice b.Af b.frames.length b.cf, .slice b.Ae b.envs.length b.ce, .slice b.As b.sects.length b.cs, .int .i64 b.lease, .slice b.Ah b.shared.length b.ch, .pointer (some ⟨pq, 0, none⟩), .pointer none, .slice none 0 0, .int .i64 0] 76)
  have hQb := hQ.nob ka
  have kwb := (KB.out.1.nobt kd1).nobt ka
  have lkk : w.heap.size ≤ wa.heap.size := (KB.out.1.nobt kd1).size
  generalize hwb : (wa.alloc (.cells #[.slice b.Af b.frames.length b.cf, .slice b.Ae b.envs.length b.ce, .slice b.As b.sects.length b.cs, .int .i64 b.lease, .slice b.Ah b.shared.length b.ch, .pointer (some ⟨pq, 0, none⟩), .pointer none, .slice none 0 0, .int .i64 0] 76)) = wb at *
  have lkb : wa.heap.size < wb.heap.size := by rw [← hwb]; simp
  generalize wa.heap.size = kk at *
  have sf2 : ∀ W, Keep Nob wb W → W.cell? ⟨w.heap.size, 0, none⟩ = some (.slice b.Af b.frames.length b.cf) ∧ W.cell? ⟨w.heap.size, 1, none⟩ = some (.slice b.Ae b.envs.length b.ce) ∧ W.cell? ⟨kk, 5, none⟩ = some (.pointer (some ⟨pq, 0, none⟩)) ∧ W.cell? ⟨kk, 6, none⟩ = some (.pointer none) ∧ W.frozen? ⟨kk, 6, none⟩ = false := fun W k9 =>
    ⟨(hB.nob k9).cell 0, (hB.nob k9).cell 1, (hK.nob k9).cell 5, (hK.nob k9).cell 6, (hK.nob k9).frozen 6⟩
  have e40 := HH.out.2.e40
  have h64 : ∀ x ∈ ns, x ≤ 64 := by rw [← HH.out.2.nse]; exact sizes64
  have hfs := Qu.first_le h64 b.frames.length (by rw [HN.out]; exact Nat.le_refl _)
  obtain ⟨f, hf⟩ : ∃ f, Qu.first ns b.frames.length = f := ⟨_, rfl⟩
  have hfi : ∀ W, Keep Nob wb W → Calls Tryz.prog 111 #[.pointer (some ⟨pq, 0, none⟩), .int .i64 b.frames.length] W fun e w' => e = .returned (.int .i64 f) ∧ W = w' := fun W k9 => Qu.first_is (hQb.nob k9) _ (by rw [HN.out]; exact Nat.le_refl _) _ (by rw [hf])
  rw [hf] at hfs
  have hf2 : f ≤ 256 := by omega
  have hsp : ∀ W, Calls Tryz.prog 112 #[.int .i64 b.envs.length] W (MadeS b.envs.length W) := fun W => space_is b.envs.length e40 W
  have hmk := fun wx => run_make_row' (P := Tryz.prog) 34 5 (.int .u8 0) 1 Tryz.underlying34 Tryz.info5 rfl .i64 .i64 (64 * f) (by omega) (by omega) wx
  have e1 : (((64 * f : Nat)) : Int) = 64 * (f : Int) := by omega
  have hw64 : IntKind.i64.wrap (64 * (f : Int)) = 64 * (f : Int) := by simp [IntKind.wrap, IntKind.bits, IntKind.signed]; omega
  rw [e1, ← hw64] at hmk
  clear hw64
  have kof : ∀ {W wc : World} {P : Nat → Prop}, Keep P W wc → Keep Nob wb W → Keep Nob wb W := fun _ k => k
  have k0 := sf2 _ (Keep.refl Nob wb)
  have k3 := sf2 _ ((Keep.refl Nob wb).alloc (.cells (madeCells #[.int .u8 0] (64 * f)) 5))
  have HF := Lib.hid hf
  have HB := Lib.hid (And.intro hB (And.intro hK (And.intro hQb (And.intro kwb h64))))
  have HS2 := Lib.hid sf2
  clear hB hK hQb kwb h64 ka hQ hwb kd1 kQ hgq s0 kd hqn sf KB hs1 hf e1 hfs sf2
  go_upto_if 16 with fail
  go_cut [] from 16 to 34 (fun wx => ∃ R, Mk w wx b ns kk pq Aq cq gq (fun i => List.replicate (ns.getD i 0) false) R none 0 0 [] ∧ R.xs = zeros f ∧ R.L = [] ∧ R.S.n = b.envs.length ∧ R.S.T = init)
  case first =>
    go_wp2_with fail
    go_region_law (first
      | (go_simp; go_at_call 111; refine (hfi _ (by first | (repeat (first | exact Keep.refl _ _ | apply Keep.alloc | apply Keep.drew)) | exact kx)).mono ?_; rintro e wz ⟨rfl, rfl⟩)
      | (go_simp; go_at_call 112; refine (hsp _).mono ?_; rintro e ws ⟨S, rfl, hS, hSn, hST, hSm, kS⟩; have kW := kof kS (by (repeat (first | exact Keep.refl _ _ | apply Keep.alloc | apply Keep.drew))); have kx := kW.nobt kS; have q0 := HS2.out _ kx; have q1 := HS2.out _ (kx.alloc (.cells (madeCells #[.int .u8 0] (64 * f)) 5)); have q2 := HS2.out _ (kx.alloc (.cells #[.slice (some ⟨wb.heap.size, 0, none⟩) (64 * f) (64 * f), .slice none 0 0, .slice none 0 0, .pointer (some ⟨S.s, 0, none⟩)] 145)); have q3 := HS2.out _ ((kx.alloc (.cells (madeCells #[.int .u8 0] (64 * f)) 5)).alloc (.cells #[.slice (some ⟨ws.heap.size, 0, none⟩) (64 * f) (64 * f), .slice none 0 0, .slice none 0 0, .pointer (some ⟨S.s, 0, none⟩)] 145))))
    all_goals
      have hI : Inv S.T S.n := by rw [hST, hSn]; exact init_inv e40
      have l5 := kW.size
      have l6 := kx.size
      have l7 := HB.out.2.2.2.1.size
      clear q0 q1 q2 q3 k0 k3 hmk hsp hfi
      go_wp2_with fail
      go_meet
      exact ⟨_, Mk.start2 (ws := ws) hf2 HB.out.2.2.2.1 HB.out.1 HB.out.2.1 HB.out.2.2.1 (by (repeat (first | exact kx | exact Keep.refl _ _ | apply Keep.alloc | apply Keep.drew))) hS (by (repeat (first | exact Keep.refl _ _ | apply Keep.alloc | apply Keep.drew))) hI (by refine rblk ?_; simp; done) (by (repeat (first | (with_reducible refine zblk ?_; simp; done) | with_reducible refine Blk.alloc ?_ _ | with_reducible refine Blk.nob ?_ kS | with_reducible refine Blk.nob ?_ (Keep.nobdrew _)))) lkk (by omega) (by omega) (fun x hx => by have := hSm x hx; omega), rfl, rfl, hSn, hST⟩
  case rest =>
  obtain ⟨R, hM, hRx, hRL, hRn, hRT⟩ := hcut
  have HR := Lib.hid (And.intro hRx (And.intro hRL (And.intro hRn hRT)))
  have h64 := HB.out.2.2.2.2
  have H64 := Lib.hid h64
  have s8 := HH.out.2.s8
  have h16 := HH.out.2.h16
  clear hmk hsp hfi k0 k3 HS2 kof HB hRx hRL hRn hRT h64
  go_wp2_with fail
  go_loopw [4] (fun s4 wx => ∃ (j : Nat) (Ag : Option Addr) (cg : Nat) (vs : List Value), j ≤ b.sects.length ∧ s4 = .int .i64 j ∧ Mk w wx b ns kk pq Aq cq gq (fun i => List.replicate (ns.getD i 0) false) R Ag j cg vs) (fun s4 _ => b.sects.length - (intOf s4).toNat)
  case atStart => exact ⟨0, none, 0, [], Nat.zero_le _, rfl, hM⟩
  case round =>
    obtain ⟨j, Ag, cg, vs, hj, rfl, hP⟩ := hrel
    clear hM
    have e2 := hP.boot.cell 2
    simp only [List.getElem?_cons_zero, List.getElem?_cons_succ] at e2
    by_cases hlt : j < b.sects.length
    · have hlt2 : (j : Int) < b.sects.length := by omega
      have sf : ∀ W, Keep Nob wr W → W.cell? ⟨w.heap.size, 3, none⟩ = some (.int .i64 b.lease) ∧ W.cell? ⟨kk, 7, none⟩ = some (.slice Ag j cg) := fun W k9 => ⟨(hP.nob k9).boot.cell 3, (hP.nob k9).obj.cell 7⟩
      have q0 := sf _ (Keep.refl Nob wr)
      have SF := Lib.hid sf
      have HP := Lib.hid hP
      clear sf hP
      go_wp2_with fail
      clear e2
      go_region_law (first
        | (go_simp; go_at_call 113; refine (sect_is b.lease _).mono ?_; rintro e ws ⟨p, rfl, hp, kS⟩; have ka := (Keep.refl Nob wr).drew.nobt kS; have q1 := SF.out _ ka; have kx := ka.alloc (.cells #[.pointer (some ⟨p, 0, none⟩)] 201); have q2 := SF.out _ kx; have hv1 := (HP.out.nob kx).row; have hr1 := reads_all (n := 1) (Blk.new ws 201 [.pointer (some ⟨p, 0, none⟩)]) rfl)
        | (refine Qu.step_ap (by rfl) _ _ 74 (by rfl) 201 1 8 (.pointer none) Tryz.underlying74 infopS (by rfl) (by decide) Ag j cg _ (by rfl) hv1 (some ⟨ws.heap.size, 0, none⟩) 1 1 [.pointer (some ⟨p, 0, none⟩)] (by rfl) 1 (by rfl) hr1 (by simp [Value.oneCell']) (by unfold maxLen; omega) (by omega) ?_; intro A2 c2 w2 hv2 hk2 ho2; obtain ⟨o2, M5⟩ := (HP.out.nob kx).sect hv2 hk2 (fun x hx => (ho2 x hx).imp id (fun e => by omega)); have z7 := o2.cell 7; have f7 := o2.frozen 7; simp only [List.getElem?_cons_zero, List.getElem?_cons_succ] at z7))
      all_goals
        have M6 := Lib.hid M5
        clear M5 hv2 hk2 ho2 o2 z7 f7 hv1 hr1 q0 q1 q2 ka kx kS hp SF HP
        go_wp2_with fail
        go_roundw
        case rel => exact ⟨j + 1, A2, c2, _, by omega, by go_num, M6.out⟩
        case measure => simp [intOf]; omega
    · have hlt2 : ¬ ((j : Int) < b.sects.length) := by omega
      obtain ⟨gH, oH, hAH, -⟩ := (HH.out.1.sh).lit (by omega)
      have hcs : ∀ wx, Keep Nob w wx → ∀ (j : Nat) (x : Sh), b.shared[j]? = some x → wx.cell? ⟨gH, oH + j * 5, none⟩ = some (.int .i64 x.ses) ∧ wx.cell? ⟨gH, oH + j * 5 + 1, none⟩ = some (.int .i64 x.frame) ∧ wx.cell? ⟨gH, oH + j * 5 + 2, none⟩ = some (.int .i64 x.lo) ∧ wx.cell? ⟨gH, oH + j * 5 + 3, none⟩ = some (.int .i64 x.n) ∧ wx.cell? ⟨gH, oH + j * 5 + 4, none⟩ = some (.slice x.A x.tos.length x.c) := fun wx kk j x hx => by
        obtain ⟨g2, o2, h2, h3⟩ := (HH.out.1.nob kk).sh.lit (by have := get_lt hx; omega)
        rw [hAH] at h2
        cases h2
        have g0 := h3 _ _ (shares_get hx (j := 0) (by decide))
        have g1 := h3 _ _ (shares_get hx (j := 1) (by decide))
        have g2 := h3 _ _ (shares_get hx (j := 2) (by decide))
        have g3 := h3 _ _ (shares_get hx (j := 3) (by decide))
        have g4 := h3 _ _ (shares_get hx (j := 4) (by decide))
        rw [← Nat.add_assoc] at g1 g2 g3 g4
        rw [Nat.add_zero] at g0
        exact ⟨g0, g1, g2, g3, g4⟩
      obtain ⟨gE, oE, hAE, -⟩ := (HH.out.1.en).lit (by omega)
      have hce : ∀ wx, Keep Nob w wx → ∀ (e : Nat), e < b.envs.length → wx.cell? ⟨gE, oE + e, none⟩ = some (.int .i64 (b.envs.getD e 0)) := fun wx kk e he => by
        obtain ⟨g2, o2, h2, h3⟩ := (HH.out.1.nob kk).en.lit (by omega)
        rw [hAE] at h2
        cases h2
        exact h3 e _ (by rw [ints_get, List.getElem?_eq_getElem he, List.getD_eq_getElem?_getD, List.getElem?_eq_getElem he]; rfl)
      have HCS := Lib.hid (And.intro hcs (And.intro hce (And.intro hAH hAE)))
      clear hcs hce
      have hj0 : Mk w wr b ns kk pq Aq cq gq (fun i => List.replicate (ns.getD i 0) false) R Ag j cg vs ∧ R.xs = zeros f ∧ R.L = (b.shared.take 0).map (spanOf ns) ∧ R.S.n = b.envs.length ∧ R.S.T = tOf (csAt b.envs b.shared 0) := ⟨hP, HR.out.1, HR.out.2.1, HR.out.2.2.1, HR.out.2.2.2.trans init_rows⟩
      have J0 := Lib.hid hj0
      clear hj0 hP HR hAH hAE
      go_wp2_with fail
      clear e2
      go_loopw [5] (fun s5 wx => ∃ (k : Nat) (R : Dr), k ≤ b.shared.length ∧ s5 = .int .i64 k ∧ Mk w wx b ns kk pq Aq cq gq (fun i => List.replicate (ns.getD i 0) false) R Ag j cg vs ∧ R.xs = zeros f ∧ R.L = (b.shared.take k).map (spanOf ns) ∧ R.S.n = b.envs.length ∧ R.S.T = tOf (csAt b.envs b.shared k)) (fun s5 _ => b.shared.length - (intOf s5).toNat)
      case atStart => exact ⟨0, R, Nat.zero_le _, rfl, J0.out⟩
      case round =>
        clear J0
        obtain ⟨k, R, hk, rfl, hP, hx, hL, hn, hT⟩ := hrel
        have e4 := hP.boot.cell 4
        simp only [List.getElem?_cons_zero, List.getElem?_cons_succ] at e4
        by_cases hlt3 : k < b.shared.length
        · rw [HCS.out.2.2.1] at e4
          have hlt4 : (k : Int) < b.shared.length := by omega
          obtain ⟨x, hxs⟩ : ∃ x, b.shared[k]? = some x := ⟨_, List.getElem?_eq_getElem hlt3⟩
          obtain ⟨g0, g1, g2, g3, g4⟩ := HCS.out.1 wr hP.keep k x hxs
          have hxm := List.mem_of_getElem? hxs
          have hok := HH.out.2.sh x hxm
          have hsp := span_in hok
          obtain ⟨a1, a2, a3, a4, a5, a6, a7, a8, a9⟩ := hok
          obtain ⟨i, hi⟩ := Int.eq_ofNat_of_zero_le a1
          rw [hi, Int.toNat_natCast] at a4 a7
          have hin : i < ns.length := by omega
          have hf64 : ns.getD i 0 ≤ 64 := by
            rw [List.getD_eq_getElem?_getD, List.getElem?_eq_getElem hin]
            exact H64.out _ (List.getElem_mem hin)
          have hff := Qu.first_le H64.out i (by omega)
          have hN4 : ns.length ≤ 4 := by rw [HN.out]; exact h4
          obtain ⟨ah, hah⟩ : ∃ ah, Qu.first ns i = ah := ⟨_, rfl⟩
          rw [hah] at hff
          obtain ⟨lo, hlo⟩ : ∃ lo, (spanOf ns x).1 = lo := ⟨_, rfl⟩
          have hlo2 : ((ah : Int) + x.frame) * 64 + x.lo = lo := by rw [← hlo]; unfold spanOf; rw [hi, Int.toNat_natCast, hah]
          have hxl : R.xs.length = 64 * Qu.first ns ns.length := by rw [hx, zeros_len, ← HF.out, HN.out]
          have hLl : R.L.length = k := by rw [hL, List.length_map, List.length_take]; omega
          have hnn : (spanOf ns x).2 = x.n := rfl
          rw [hlo, hnn] at hsp
          have hlx : lo + x.n ≤ R.xs.length := by rw [hxl]; exact_mod_cast hsp.2
          have kA := (Keep.refl Nob wr).alloc (.cells #[.int .i64 i, .int .i64 x.frame, .int .i64 x.lo, .int .i64 x.n, .slice x.A x.tos.length x.c] 181)
          have bS := Blk.new wr 181 [.int .i64 i, .int .i64 x.frame, .int .i64 x.lo, .int .i64 x.n, .slice x.A x.tos.length x.c]
          have hPa := hP.nob kA
          rw [hi] at g0
          have kd := Keep.nobdrew (wr.alloc (.cells #[.int .i64 i, .int .i64 x.frame, .int .i64 x.lo, .int .i64 x.n, .slice x.A x.tos.length x.c] 181))
          have hFst := Qu.first_is (hPa.nob kd).quo i (by omega) ah (by rw [hah])
          have hAdd := radd_is (hPa.nob kd).reg lo x.n ⟨hsp.1, a6, hlx⟩ (by rw [hLl]; omega)
          rw [hLl] at hAdd
          have s0 : (wr.alloc (.cells #[.int .i64 i, .int .i64 x.frame, .int .i64 x.lo, .int .i64 x.n, .slice x.A x.tos.length x.c] 181)).drew.cell? ⟨kk, 5, none⟩ = some (.pointer (some ⟨pq, 0, none⟩)) ∧ (wr.alloc (.cells #[.int .i64 i, .int .i64 x.frame, .int .i64 x.lo, .int .i64 x.n, .slice x.A x.tos.length x.c] 181)).drew.cell? ⟨kk, 6, none⟩ = some (.pointer (some ⟨R.r, 0, none⟩)) := ⟨(hPa.nob kd).obj.cell 5, (hPa.nob kd).obj.cell 6⟩
          have s1 : (wr.alloc (.cells #[.int .i64 i, .int .i64 x.frame, .int .i64 x.lo, .int .i64 x.n, .slice x.A x.tos.length x.c] 181)).drew.cell? ⟨wr.heap.size, 0, none⟩ = some (.int .i64 i) ∧ (wr.alloc (.cells #[.int .i64 i, .int .i64 x.frame, .int .i64 x.lo, .int .i64 x.n, .slice x.A x.tos.length x.c] 181)).drew.cell? ⟨wr.heap.size, 1, none⟩ = some (.int .i64 x.frame) ∧ (wr.alloc (.cells #[.int .i64 i, .int .i64 x.frame, .int .i64 x.lo, .int .i64 x.n, .slice x.A x.tos.length x.c] 181)).drew.cell? ⟨wr.heap.size, 2, none⟩ = some (.int .i64 x.lo) ∧ (wr.alloc (.cells #[.int .i64 i, .int .i64 x.frame, .int .i64 x.lo, .int .i64 x.n, .slice x.A x.tos.length x.c] 181)).drew.cell? ⟨wr.heap.size, 3, none⟩ = some (.int .i64 x.n) := ⟨(bS.nob kd).cell 0, (bS.nob kd).cell 1, (bS.nob kd).cell 2, (bS.nob kd).cell 3⟩
          have hwr : IntKind.i64.wrap (IntKind.i64.wrap (64 * IntKind.i64.wrap ((ah : Int) + x.frame)) + x.lo) = lo := by
            have w1 : IntKind.i64.wrap ((ah : Int) + x.frame) = ah + x.frame := by simp [IntKind.wrap, IntKind.bits, IntKind.signed]; omega
            have w2 : IntKind.i64.wrap (64 * ((ah : Int) + x.frame)) = (ah + x.frame) * 64 := by simp [IntKind.wrap, IntKind.bits, IntKind.signed]; omega
            have w3 : IntKind.i64.wrap (((ah : Int) + x.frame) * 64 + x.lo) = (ah + x.frame) * 64 + x.lo := by simp [IntKind.wrap, IntKind.bits, IntKind.signed]; omega
            rw [w1, w2, w3, hlo2]
          have HW := Lib.hid hwr
          have SS := Lib.hid (And.intro s0 s1)
          have HX := Lib.hid (And.intro (hPa.nob kd) (And.intro (bS.nob kd) (And.intro hxs (And.intro hxm (And.intro hx (And.intro hL (And.intro hn hT)))))))
          have hb9 := a9
          have hn9 : x.n ≤ 65536 := by omega
          have hlk : k < 16 := by omega
          have HO := Lib.hid (And.intro hlo hnn)
          clear hwr hPa bS kA hxs hxm hP hx hL hn hT hxl hLl hlx hsp hlo hlo2 hah hff hf64 hin a1 a2 a4 a7 a8 hi s0 s1 hnn
          go_wp2_with fail
          generalize hW1 : (wr.alloc (.cells #[.int .i64 i, .int .i64 x.frame, .int .i64 x.lo, .int .i64 x.n, .slice x.A x.tos.length x.c] 181)) = W1 at *
          have s0 := SS.out
          go_region_held3 (fun w' => (w'.cell? ⟨kk, 5, none⟩ = some (.pointer (some ⟨pq, 0, none⟩)) ∧ w'.cell? ⟨kk, 6, none⟩ = some (.pointer (some ⟨R.r, 0, none⟩))) ∧ w'.cell? ⟨wr.heap.size, 0, none⟩ = some (.int .i64 i) ∧ w'.cell? ⟨wr.heap.size, 1, none⟩ = some (.int .i64 x.frame) ∧ w'.cell? ⟨wr.heap.size, 2, none⟩ = some (.int .i64 x.lo) ∧ w'.cell? ⟨wr.heap.size, 3, none⟩ = some (.int .i64 x.n))
            (first | exact s0 | exact SP.out)
            (first
              | (go_at_call 111; refine hFst.mono ?_; rintro e wz ⟨rfl, rfl⟩)
              | (go_at_call 114; rw [HW.out]; refine hAdd.mono ?_; rintro e w2 ⟨Al', cl', An', cn', rfl, hAd⟩; have hP2 := HX.out.1.add hAd; have bS2 := HX.out.2.1.keep hAd.keep (fun m => by
                  rcases m with m | m | m
                  · exact HX.out.2.1.ne_ HX.out.1.reg.obj (by decide) m
                  · obtain ⟨cur, hc⟩ := HX.out.1.reg.lo.blk m
                    exact HX.out.2.1.ne_ hc (by decide) rfl
                  · obtain ⟨cur, hc⟩ := HX.out.1.reg.nn.blk m
                    exact HX.out.2.1.ne_ hc (by decide) rfl); have SP := Lib.hid (show (w2.cell? ⟨kk, 5, none⟩ = some (.pointer (some ⟨pq, 0, none⟩)) ∧ w2.cell? ⟨kk, 6, none⟩ = some (.pointer (some ⟨R.r, 0, none⟩))) ∧ w2.cell? ⟨wr.heap.size, 0, none⟩ = some (.int .i64 i) ∧ w2.cell? ⟨wr.heap.size, 1, none⟩ = some (.int .i64 x.frame) ∧ w2.cell? ⟨wr.heap.size, 2, none⟩ = some (.int .i64 x.lo) ∧ w2.cell? ⟨wr.heap.size, 3, none⟩ = some (.int .i64 x.n) from ⟨⟨hP2.obj.cell 5, hP2.obj.cell 6⟩, bS2.cell 0, bS2.cell 1, bS2.cell 2, bS2.cell 3⟩)))
          have eL : R.L ++ [(lo, x.n)] = (b.shared.take (k + 1)).map (spanOf ns) := by
            rw [List.take_add_one, HX.out.2.2.1, List.map_append, HX.out.2.2.2.2.2.1]
            have : spanOf ns x = (lo, x.n) := Prod.ext HO.out.1 HO.out.2
            simp [this]
          have fin0 : ∃ R2 : Dr, Mk w w2 b ns kk pq Aq cq gq (fun i => List.replicate (ns.getD i 0) false) R2 Ag j cg vs ∧ R2.xs = zeros f ∧ R2.L = (b.shared.take (k + 1)).map (spanOf ns) ∧ R2.S.n = b.envs.length ∧ R2.S.T = tOf (gave (csAt b.envs b.shared k) b.envs x.tos ⟨k, 3, 0, x.n, (0, 0)⟩ 0) :=
            ⟨_, hP2, HX.out.2.2.2.2.1, eL, HX.out.2.2.2.2.2.2.1, by rw [gave_zero]; exact HX.out.2.2.2.2.2.2.2⟩
          obtain ⟨R2, hP3⟩ := fin0
          have J1 := Lib.hid (And.intro hP3 bS2)
          have HX2 := Lib.hid (And.intro HX.out.2.2.1 HX.out.2.2.2.1)
          clear hP3 bS2 hP2 hAd eL SP s0 hFst hAdd HX SS HW HO kd hW1
          generalize wr.heap.size = g6 at *
          go_wp2_with fail
          go_loopw [9] (fun s9 wx => ∃ (e : Nat) (R : Dr), e ≤ b.envs.length ∧ s9 = .int .i64 e ∧ (Mk w wx b ns kk pq Aq cq gq (fun i => List.replicate (ns.getD i 0) false) R Ag j cg vs ∧ R.xs = zeros f ∧ R.L = (b.shared.take (k + 1)).map (spanOf ns) ∧ R.S.n = b.envs.length ∧ R.S.T = tOf (gave (csAt b.envs b.shared k) b.envs x.tos ⟨k, 3, 0, x.n, (0, 0)⟩ e)) ∧ Blk wx g6 181 [.int .i64 i, .int .i64 x.frame, .int .i64 x.lo, .int .i64 x.n, .slice x.A x.tos.length x.c]) (fun s9 _ => b.envs.length - (intOf s9).toNat)
          case atStart => exact ⟨0, R2, Nat.zero_le _, rfl, J1.out⟩
          case round =>
            clear J1
            obtain ⟨e, R3, he, rfl, ⟨hP4, hx4, hL4, hn4, hT4⟩, hB4⟩ := hrel
            have e1 := hP4.boot.cell 1
            simp only [List.getElem?_cons_zero, List.getElem?_cons_succ] at e1
            by_cases hlt5 : e < b.envs.length
            · rw [HCS.out.2.2.2] at e1
              have hlt6 : (e : Int) < b.envs.length := by omega
              obtain ⟨ss, hss⟩ : ∃ ss, b.envs.getD e 0 = ss := ⟨_, rfl⟩
              have hc9 := HCS.out.2.1 wr hP4.keep e hlt5
              rw [hss] at hc9
              have hrd := fun n => ((HH.out.1.nob hP4.keep).tos x HX2.out.2).nob ((Keep.refl Nob wr).drewN n)
              have c4 : wr.cell? ⟨g6, 4, none⟩ = some (.slice x.A x.tos.length x.c) := hB4.cell 4
              by_cases hm : ss ∈ x.tos
              · have HIN := Lib.hid (fun n => inq (c := x.c) (hrd n) hb9 true (decide_eq_true hm))
                have hm9 := hm
                rw [← hss] at hm9
                have kq := fun n => ((Keep.refl Nob wr).drewN n).drew
                have hl : (gave (csAt b.envs b.shared k) b.envs x.tos ⟨k, 3, 0, x.n, (0, 0)⟩ e e).length < 32 := by
                  have h1 : gave (csAt b.envs b.shared k) b.envs x.tos ⟨k, 3, 0, x.n, (0, 0)⟩ e e = csAt b.envs b.shared k e := by unfold gave; rw [if_neg (by omega)]
                  rw [h1]
                  have := csAt_len b.envs b.shared k e
                  omega
                have hput := fun n => put_row (hP4.nob (kq n)).reg hT4 e (by rw [hn4]; exact hlt5) hl ⟨k, 3, 0, x.n, (0, 0)⟩ rfl rfl ⟨a6, hn9⟩ rfl
                simp only [cval] at hput
                rw [gave_yes hm9] at hput
                have t0 : ∀ n, (wr.drewN n).drew.cell? ⟨kk, 6, none⟩ = some (.pointer (some ⟨R3.r, 0, none⟩)) ∧ (wr.drewN n).drew.cell? ⟨R3.r, 3, none⟩ = some (.pointer (some ⟨R3.S.s, 0, none⟩)) ∧ (wr.drewN n).drew.cell? ⟨g6, 3, none⟩ = some (.int .i64 x.n) := fun n => ⟨(hP4.nob (kq n)).obj.cell 6, (hP4.nob (kq n)).reg.obj.cell 3, (hB4.nob (kq n)).cell 3⟩
                have HP4 := Lib.hid (fun n => And.intro (hP4.nob (kq n)) (And.intro (hB4.nob (kq n)) (And.intro hx4 (And.intro hL4 hn4))))
                have T0 := Lib.hid t0
                have HPUT := Lib.hid hput
                clear hP4 hB4 hx4 hL4 hT4 hrd hl hm hm9 hn4 hss t0 hput kq
                go_wp2_with fail
                go_quiet (first | (go_at_call 115; (with_reducible_and_instances exact HIN.out _)))
                clear HIN c4 e1 hc9
                go_wp2_with fail
                have t0 := T0.out
                go_region_held3 (fun w' => w'.cell? ⟨kk, 6, none⟩ = some (.pointer (some ⟨R3.r, 0, none⟩)) ∧ w'.cell? ⟨R3.r, 3, none⟩ = some (.pointer (some ⟨R3.S.s, 0, none⟩)) ∧ w'.cell? ⟨g6, 3, none⟩ = some (.int .i64 x.n))
                  (first | exact t0 _ | exact SP.out)
                  (first | (go_at_call 116; refine (HPUT.out _).mono ?_; rintro e9 w3 ⟨v9, rfl, hR5, kP⟩; obtain ⟨hP5, bS5⟩ := put_all (HP4.out _).1 (HP4.out _).2.1 (HP4.out 0).2.2.2.2 hlt5 hR5 kP; have SP := Lib.hid (show w3.cell? ⟨kk, 6, none⟩ = some (.pointer (some ⟨R3.r, 0, none⟩)) ∧ w3.cell? ⟨R3.r, 3, none⟩ = some (.pointer (some ⟨R3.S.s, 0, none⟩)) ∧ w3.cell? ⟨g6, 3, none⟩ = some (.int .i64 x.n) from ⟨hP5.obj.cell 6, hP5.reg.obj.cell 3, bS5.cell 3⟩)))
                have J2 := Lib.hid (And.intro (And.intro hP5 (And.intro (HP4.out 0).2.2.1 (And.intro (HP4.out 0).2.2.2.1 (And.intro (HP4.out 0).2.2.2.2 (show tOf (gave (csAt b.envs b.shared k) b.envs x.tos ⟨k, 3, 0, x.n, (0, 0)⟩ (e + 1)) = tOf (gave (csAt b.envs b.shared k) b.envs x.tos ⟨k, 3, 0, x.n, (0, 0)⟩ (e + 1)) from rfl))))) bS5)
                clear hP5 bS5 SP kP hR5 HP4 t0 T0 HPUT
                go_wp2_with fail
                go_roundw
                case rel => exact ⟨e + 1, _, by omega, by go_num, J2.out⟩
                case measure => simp [intOf]; omega
              · have HIN := Lib.hid (fun n => inq (c := x.c) (hrd n) hb9 false (decide_eq_false hm))
                have hm9 := hm
                rw [← hss] at hm9
                have hT5 := hT4
                rw [gave_no hm9] at hT5
                have J2 := Lib.hid (fun n => And.intro (And.intro (hP4.nob ((Keep.refl Nob wr).drewN n)) (And.intro hx4 (And.intro hL4 (And.intro hn4 hT5)))) (hB4.nob ((Keep.refl Nob wr).drewN n)))
                clear hP4 hB4 hx4 hL4 hT4 hrd hT5 hm hm9 hn4 hss
                go_wp2_with fail
                go_quiet (first | (go_at_call 115; (with_reducible_and_instances exact HIN.out _)))
                clear HIN c4 e1 hc9
                go_wp2_with fail
                go_roundw
                case rel => exact ⟨e + 1, R3, by omega, by go_num, J2.out _⟩
                case measure => simp [intOf]; omega
            · have hlt6 : ¬ ((e : Int) < b.envs.length) := by omega
              have ee : e = b.envs.length := by omega
              have hT6 : R3.S.T = tOf (csAt b.envs b.shared (k + 1)) := by rw [csAt_next HX2.out.1, ← ee]; exact hT4
              have J3 := Lib.hid (And.intro hP4 (And.intro hx4 (And.intro hL4 (And.intro hn4 hT6))))
              clear hP4 hx4 hL4 hn4 hT4 hT6 hB4
              go_wp2_with fail
              go_roundw
              case rel => exact ⟨k + 1, R3, by omega, by go_num, J3.out⟩
              case measure => simp [intOf]; omega
        · have hlt4 : ¬ ((k : Int) < b.shared.length) := by omega
          have ek : k = b.shared.length := by omega
          have FI := Lib.hid (And.intro hP (And.intro hx (And.intro hL (And.intro hn hT))))
          clear hP hx hL hn hT
          go_wp2
          go_ret
          refine ⟨kk, rfl, pq, Aq, cq, gq, _, R, ⟨Ag, j, cg, vs, FI.out.1⟩, ?_, ?_, FI.out.2.2.2.1, ?_⟩
          · rw [FI.out.2.1, ← HF.out, HN.out]
          · rw [FI.out.2.2.1, ek, List.take_of_length_le (Nat.le_refl _)]
          · rw [FI.out.2.2.2.2, ek]
end
end Go.Proofs.YtifigjccokpcfaaGreat.Dk
namespace Go.Proofs.YtifigjccokpcfaaGreat.Dk
open Go.RowKit
set_option linter.unusedVariables false
set_option linter.unusedSimpArgs false
/-- A kernel of the document. -/
structure IsKd (w : World) (b : Bt) (k pq : Nat) (R : Dr) (Ag : Option Addr) (ng cg : Nat) : Prop where
  obj : Blk w k 76 [.slice b.Af b.frames.length b.cf, .slice b.Ae b.envs.length b.ce, .slice b.As b.sects.length b.cs, .int .i64 b.lease, .slice b.Ah b.shared.length b.ch, .pointer (some ⟨pq, 0, none⟩), .pointer (some ⟨R.r, 0, none⟩), .slice Ag ng cg, .int .i64 0]
  reg : IsDr w R
section
variable {w w' : World} {b : Bt} {k pq : Nat} {R : Dr} {Ag : Option Addr} {ng cg : Nat}
theorem IsKd.nob (h : IsKd w b k pq R Ag ng cg) (kk : Keep Nob w w') : IsKd w' b k pq R Ag ng cg := ⟨h.obj.nob kk, h.reg.nob kk⟩
set_option maxRecDepth 100000 in
set_option maxHeartbeats 8000000 in
theorem kdo_write (h : IsKd w b k pq R Ag ng cg) (e : Nat) (he : e < b.envs.length) (cap at_ n to_ on : Int) (A : Option Addr) (m c : Nat) (l : List UInt8) (hl : Reads w A m (bytes l)) (hA : 0 < m → ∀ ad, A = some ad → ad.block ≠ R.m) (er : Int) (R' : Dr) (hr : R'.r = R.r)
    (hcall : ∀ W, Keep Nob w W → Calls Tryz.prog 120 #[.pointer (some ⟨R.r, 0, none⟩), .int .i64 e, .int .i64 cap, .int .i64 at_, .string (str l)] W fun e w' => e = .returned (.int .i64 er) ∧ IsDr w' R' ∧ Keep (· = R.m) W w') :
    Calls Tryz.prog 42 #[.pointer (some ⟨k, 0, none⟩), .int .i64 e, Calc 2 cap at_ n to_ on A m c] w fun e' w' => e' = .returned (.tuple #[.int .i64 er, .int .i64 0, .string (str [])]) ∧ IsKd w' b k pq R' Ag ng cg ∧ Keep (· = R.m) w w' := by
  have k1 := (Keep.refl Nob w).alloc (.cells #[.int .i64 2, .int .i64 cap, .int .i64 at_, .int .i64 n, .int .i64 to_, .int .i64 on, .slice A m c] 86)
  have b1 : Blk (w.alloc (.cells #[.int .i64 2, .int .i64 cap, .int .i64 at_, .int .i64 n, .int .i64 to_, .int .i64 on, .slice A m c] 86)) w.heap.size 86 [.int .i64 2, .int .i64 cap, .int .i64 at_, .int .i64 n, .int .i64 to_, .int .i64 on, .slice A m c] := Blk.new w 86 _
  have h1 := h.nob k1
  have c1 := h1.obj.cell 1
  have l0 := b1.cell 0
  simp only [List.getElem?_cons_zero, List.getElem?_cons_succ] at c1 l0
  have sf : ∀ W, Keep (· = R.m) (w.alloc (.cells #[.int .i64 2, .int .i64 cap, .int .i64 at_, .int .i64 n, .int .i64 to_, .int .i64 on, .slice A m c] 86)) W → (W.cell? ⟨k, 6, none⟩ = some (.pointer (some ⟨R.r, 0, none⟩)) ∧ W.cell? ⟨w.heap.size, 1, none⟩ = some (.int .i64 cap) ∧ W.cell? ⟨w.heap.size, 2, none⟩ = some (.int .i64 at_) ∧ W.cell? ⟨w.heap.size, 6, none⟩ = some (.slice A m c) ∧ (convert 34 9 (.slice A m c)).run Tryz.prog W = .ok (.string (str l)) W) ∧ Blk W k 76 [.slice b.Af b.frames.length b.cf, .slice b.Ae b.envs.length b.ce, .slice b.As b.sects.length b.cs, .int .i64 b.lease, .slice b.Ah b.shared.length b.ch, .pointer (some ⟨pq, 0, none⟩), .pointer (some ⟨R.r, 0, none⟩), .slice Ag ng cg, .int .i64 0] := fun W kk => by
    have o1 := h1.obj.keep kk (h1.obj.ne_ h1.reg.mem (by decide))
    have o2 := b1.keep kk (b1.ne_ h1.reg.mem (by decide))
    have hlW : Reads W A m (bytes l) := by
      by_cases h0 : 0 < m
      · exact (hl.nob k1).keep kk (hA h0)
      · exact ⟨hl.1, fun h1 => absurd h1 h0⟩
    exact ⟨⟨o1.cell 6, o2.cell 1, o2.cell 2, o2.cell 6, run_str (P := Tryz.prog) W 34 9 5 A m c l Tryz.underlying34 Tryz.underlying5 Tryz.underlying9 hlW⟩, o1⟩
  have kd := Keep.nobdrew (w.alloc (.cells #[.int .i64 2, .int .i64 cap, .int .i64 at_, .int .i64 n, .int .i64 to_, .int .i64 on, .slice A m c] 86))
  have kM : Keep (· = R.m) (w.alloc (.cells #[.int .i64 2, .int .i64 cap, .int .i64 at_, .int .i64 n, .int .i64 to_, .int .i64 on, .slice A m c] 86)) (w.alloc (.cells #[.int .i64 2, .int .i64 cap, .int .i64 at_, .int .i64 n, .int .i64 to_, .int .i64 on, .slice A m c] 86)).drew := kd.mono (fun _ _ f => f.elim)
  have s0 := (sf _ kM).1
  have hcl := hcall _ (k1.nobt kd)
  have he1 : ¬ ((e : Int) < 0) := by omega
  have he2 : ¬ ((b.envs.length : Int) ≤ e) := by omega
  have K1 := Lib.hid k1
  have SF := Lib.hid sf
  clear h h1 b1 k1 hcall sf hl hA
  unfold Calc
  go_enter Tryz.func42, Tryz.ntmps42
  go_wp2_with fail
  go_region_held3 (fun w' => w'.cell? ⟨k, 6, none⟩ = some (.pointer (some ⟨R.r, 0, none⟩)) ∧ w'.cell? ⟨w.heap.size, 1, none⟩ = some (.int .i64 cap) ∧ w'.cell? ⟨w.heap.size, 2, none⟩ = some (.int .i64 at_) ∧ w'.cell? ⟨w.heap.size, 6, none⟩ = some (.slice A m c) ∧ (convert 34 9 (.slice A m c)).run Tryz.prog w' = .ok (.string (str l)) w')
    (first | exact s0 | exact (SF.out _ (kM.trans k2 (fun _ _ m => m))).1)
    (first | (go_at_call 120; refine hcl.mono ?_; rintro e9 w2 ⟨rfl, hR2, k2⟩))
  have KK := Lib.hid (show IsKd w2 b k pq R' Ag ng cg ∧ Keep (· = R.m) w w2 from ⟨⟨by rw [hr]; exact (SF.out _ (kM.trans k2 (fun _ _ m => m))).2, hR2⟩, (((K1.out.mono (fun _ _ f => f.elim)).trans kM (fun _ _ m => m))).trans k2 (fun _ _ m => m)⟩)
  clear k2 hcl s0 kd kM c1 l0 hR2
  go_wp2
  go_ret3
  exact ⟨rfl, KK.out⟩
end
end Go.Proofs.YtifigjccokpcfaaGreat.Dk
namespace Go.Proofs.YtifigjccokpcfaaGreat.Dk
open Go.RowKit
set_option linter.unusedVariables false
set_option linter.unusedSimpArgs false
section
variable {w w' : World} {S : Ds} {b : Bt} {k pq : Nat} {R : Dr} {Ag : Option Addr} {ng cg : Nat}
/-- The names that an environment has. -/
def nms (T : St) (e : Nat) : List Int := names ((T e).map nq) ((T e).map nq).length
theorem sall_is (h : IsDs w S) (e : Nat) (he : e < S.n) :
    Calls Tryz.prog 129 #[.pointer (some ⟨S.s, 0, none⟩), .int .i64 e] w fun e' w' => ∃ B c, e' = .returned (.slice B (nms S.T e).length c) ∧ Vec w' 3 1 B (nms S.T e).length c (ints (nms S.T e)) ∧ Keep Nob w w' := by
  have henv := env_is h e true (by simp [he])
  have hall := Ref.all_is (h.nm e he)
  have hall := hall
  rw [show names ((S.T e).map nq) ((S.T e).map nq).length = nms S.T e from rfl] at hall
  generalize nms S.T e = l at *
  obtain ⟨g, hg, pg⟩ := mk_at h.nrow he
  have c0 : w.cell? ⟨S.s, 0, none⟩ = some (.slice S.AN S.n S.cN) := h.obj.cell 0
  rw [hg] at c0
  have he2 : (e : Int) < S.n := by omega
  clear h hg
  go_enter Tryz.func129, Tryz.ntmps129
  go_wp2_with fail
  refine henv.mono ?_; rintro e' w1 ⟨rfl, rfl⟩
  go_wp2_with fail
  refine hall.mono ?_; rintro e' w2 ⟨B, c, rfl, hv, hk⟩
  clear henv hall pg c0
  go_wp2
  go_ret
  exact ⟨B, c, rfl, hv, hk⟩
theorem rcom_new (h : IsKd w b k pq R Ag ng cg) (e : Nat) (he : e < R.S.n) (hn : nms R.S.T e ≠ []) :
    Calls Tryz.prog 43 #[.pointer (some ⟨k, 0, none⟩), .int .i64 e] w fun e' w' => ∃ g B c, e' = .returned (.pointer (some ⟨g, 0, none⟩)) ∧ Blk w' g 61 [.pointer (some ⟨k, 0, none⟩), .int .i64 e, .slice B (nms R.S.T e).length c, .slice none 0 0] ∧ Vec w' 3 1 B (nms R.S.T e).length c (ints (nms R.S.T e)) ∧ w.heap.size ≤ g ∧ Keep Nob w w' := by
  have hall := sall_is h.reg.sp e he
  have c6 : w.cell? ⟨k, 6, none⟩ = some (.pointer (some ⟨R.r, 0, none⟩)) := h.obj.cell 6
  have c3 : w.cell? ⟨R.r, 3, none⟩ = some (.pointer (some ⟨R.S.s, 0, none⟩)) := h.reg.obj.cell 3
  generalize nms R.S.T e = l at *
  have hl : ¬ (l.length : Int) = 0 := by
    have : l.length ≠ 0 := fun e => hn (List.eq_nil_of_length_eq_zero e)
    omega
  clear h hn
  go_enter Tryz.func43, Tryz.ntmps43
  go_wp2_with fail
  refine hall.mono ?_; rintro e' w1 ⟨B, c, rfl, hv, hk⟩
  have hb := Blk.new w1 61 [.pointer (some ⟨k, 0, none⟩), .int .i64 e, .slice B l.length c, .slice none 0 0]
  have ka := (Keep.refl Nob w1).alloc (.cells #[.pointer (some ⟨k, 0, none⟩), .int .i64 e, .slice B l.length c, .slice none 0 0] 61)
  have F := Lib.hid (And.intro hb (And.intro (hv.nob ka) (And.intro hk.size (hk.nobt ka))))
  clear hall hv hk hb ka c6 c3
  go_wp2
  go_ret
  exact ⟨_, B, c, rfl, F.out⟩
end
end Go.Proofs.YtifigjccokpcfaaGreat.Dk
namespace Go.Proofs.YtifigjccokpcfaaGreat.Pn
open Go.RowKit
set_option linter.unusedVariables false
set_option linter.unusedSimpArgs false
open Co (Src Link Cm Kc Ct)
def brs2 : List Rf := [(0, 1), (1, 0)]
theorem keys4 : mk 2 key1 ++ mk brs2.length (key2 brs2) = [(0, 0, 0, 492, [0]), (1, 0, 0, 492, [1]), (0, 8, 0, 40, [0, 1]), (1, 9, 0, 40, [1, 0])] := by decide
section
variable {b : Bt}
theorem shared4 (h : BootOf 2 brs2 5 b) : ∃ s0 s1 s2 s3, b.shared = [s0, s1, s2, s3] ∧ key s0 = (0, 0, 0, 492, [0]) ∧ key s1 = (1, 0, 0, 492, [1]) ∧ key s2 = (0, 8, 0, 40, [0, 1]) ∧ key s3 = (1, 9, 0, 40, [1, 0]) := by
  have hk := h.shared
  rw [keys4] at hk
  have hl := congrArg List.length hk
  simp only [List.length_map, List.length_cons, List.length_nil] at hl
  match hb : b.shared, hl with
  | [s0, s1, s2, s3], _ =>
    rw [hb] at hk
    simp only [List.map_cons, List.map_nil, List.cons.injEq, and_true] at hk
    exact ⟨s0, s1, s2, s3, rfl, hk.1, hk.2.1, hk.2.2.1, hk.2.2.2⟩
theorem key_eq {s : Sh} {a f l n : Int} {t : List Int} (h : key s = (a, f, l, n, t)) : s.ses = a ∧ s.frame = f ∧ s.lo = l ∧ s.n = n ∧ s.tos = t := by
  unfold key at h
  simp only [Prod.mk.injEq] at h
  exact h
theorem boot_ok (h : BootOf 2 brs2 5 b) : BtOk b [20, 20] := by
  have hs : b.sects.map (·.xs) = [[0], [1]] := h.sects
  have hf : b.frames = [20, 20] := h.frames
  obtain ⟨s0, s1, s2, s3, hsh, k0, k1, k2, k3⟩ := shared4 h
  obtain ⟨a0, a1, a2, a3, a4⟩ := key_eq k0
  obtain ⟨b0, b1, b2, b3, b4⟩ := key_eq k1
  obtain ⟨c0, c1, c2, c3, c4⟩ := key_eq k2
  obtain ⟨d0, d1, d2, d3, d4⟩ := key_eq k3
  have hsl : b.sects.length = 2 := by
    have := congrArg List.length hs
    simpa using this
  refine ⟨by rw [hf]; rfl, by rw [hf]; decide, by rw [hf]; decide, by rw [h.envs]; simp, by omega, by rw [hsh]; simp, by rw [h.lease]; decide, by rw [h.lease]; decide, fun x hx => ?_, fun s hs' => ?_, fun s hs' => ?_⟩
  · rw [h.envs] at hx
    rw [hf]
    obtain ⟨i, hi, rfl⟩ := List.mem_map.1 hx
    have := List.mem_range.1 hi
    simp only [List.length_cons, List.length_nil]
    omega
  · have : s.xs ∈ b.sects.map (·.xs) := List.mem_map.2 ⟨s, hs', rfl⟩
    rw [hs] at this
    rw [hf]
    rcases List.mem_cons.1 this with e | this
    · rw [e]; exact ⟨fun x hx => by simp at hx; subst hx; decide, by decide⟩
    · rcases List.mem_cons.1 this with e | this
      · rw [e]; exact ⟨fun x hx => by simp at hx; subst hx; decide, by decide⟩
      · cases this
  · rw [hsh] at hs'
    have hin1 : InR 2 [0] := fun x hx => by simp at hx; subst hx; decide
    have hin2 : InR 2 [1] := fun x hx => by simp at hx; subst hx; decide
    have hin3 : InR 2 [0, 1] := fun x hx => by simp at hx; omega
    have hin4 : InR 2 [1, 0] := fun x hx => by simp at hx; omega
    rcases List.mem_cons.1 hs' with rfl | hs'
    · unfold ShOk; rw [a0, a1, a2, a3, a4]; exact ⟨by decide, by decide, by decide, by decide, by decide, by decide, by decide, hin1, by decide⟩
    · rcases List.mem_cons.1 hs' with rfl | hs'
      · unfold ShOk; rw [b0, b1, b2, b3, b4]; exact ⟨by decide, by decide, by decide, by decide, by decide, by decide, by decide, hin2, by decide⟩
      · rcases List.mem_cons.1 hs' with rfl | hs'
        · unfold ShOk; rw [c0, c1, c2, c3, c4]; exact ⟨by decide, by decide, by decide, by decide, by decide, by decide, by decide, hin3, by decide⟩
        · rcases List.mem_cons.1 hs' with rfl | hs'
          · unfold ShOk; rw [d0, d1, d2, d3, d4]; exact ⟨by decide, by decide, by decide, by decide, by decide, by decide, by decide, hin4, by decide⟩
          · cases hs'
/-- The Caps of an environment of session s. -/
def caps2 (s : Nat) : List Cp := [⟨s, 3, 0, 492, (0, 0)⟩, ⟨2, 3, 0, 40, (0, 0)⟩, ⟨3, 3, 0, 40, (0, 0)⟩]
def spans2 : List Rf := [(0, 492), (1280, 492), (512, 40), (1856, 40)]
theorem cs_two (h : BootOf 2 brs2 5 b) (e : Nat) (he : e < 18) : csAt b.envs b.shared b.shared.length e = caps2 (e / 9) := by
  obtain ⟨s0, s1, s2, s3, hsh, k0, k1, k2, k3⟩ := shared4 h
  obtain ⟨a0, a1, a2, a3, a4⟩ := key_eq k0
  obtain ⟨b0, b1, b2, b3, b4⟩ := key_eq k1
  obtain ⟨c0, c1, c2, c3, c4⟩ := key_eq k2
  obtain ⟨d0, d1, d2, d3, d4⟩ := key_eq k3
  have hen : b.envs.getD e 0 = ((e / 9 : Nat) : Int) := by
    rw [h.envs, List.getD_eq_getElem?_getD, mk_get (by omega)]
    rfl
  rw [csAt_caps (by rw [h.envs]; simpa using he) _ (Nat.le_refl _), List.take_length, hen, hsh]
  have h2 : e / 9 = 0 ∨ e / 9 = 1 := by omega
  rcases h2 with h2 | h2 <;> rw [h2] <;> simp [capsOf, caps2, a3, a4, b3, b4, c3, c4, d3, d4]
theorem spans_two (h : BootOf 2 brs2 5 b) : b.shared.map (spanOf [20, 20]) = spans2 := by
  obtain ⟨s0, s1, s2, s3, hsh, k0, k1, k2, k3⟩ := shared4 h
  obtain ⟨a0, a1, a2, a3, a4⟩ := key_eq k0
  obtain ⟨b0, b1, b2, b3, b4⟩ := key_eq k1
  obtain ⟨c0, c1, c2, c3, c4⟩ := key_eq k2
  obtain ⟨d0, d1, d2, d3, d4⟩ := key_eq k3
  rw [hsh]
  simp [spanOf, spans2, Qu.first, a0, a1, a2, a3, b0, b1, b2, b3, c0, c1, c2, c3, d0, d1, d2, d3]
end
/-- The rights that environments of the plan have at the beginning. -/
structure G2 (T : St) (n : Nat) (L : List Rf) : Prop where
  n18 : n = 18
  cs : ∃ cs : Nat → List Cp, T = tOf cs ∧ ∀ e, e < 18 → cs e = caps2 (e / 9)
  spans : L = spans2
/-- Where the bytes of an environment's Caps begin. -/
def base2 (s j : Nat) : Nat := match j with
  | 0 => 1280 * s
  | 1 => 512
  | _ => 1856
def src2 (s : Nat) : Src := fun j _ _ => some (base2 s j)
section
variable {T : St} {n : Nat} {L : List Rf}
theorem G2.of {b : Bt} (h : BootOf 2 brs2 5 b) (hn : n = b.envs.length) (hT : T = tOf (csAt b.envs b.shared b.shared.length)) (hL : L = b.shared.map (spanOf [20, 20])) : G2 T n L :=
  ⟨by rw [hn, h.envs]; simp, ⟨_, hT, cs_two h⟩, by rw [hL, spans_two h]⟩
theorem G2.has (h : G2 T n L) {e j : Nat} (he : e < 18) (hj : j < 3) : ∃ c, (caps2 (e / 9))[j]? = some c ∧ Has T n ((e : Int), (j : Int) + 256) c := by
  obtain ⟨cs, hT, hc⟩ := h.cs
  have h32 : ∀ e, e < n → (cs e).length ≤ 32 := fun e he => by rw [hc e (by have := h.n18; omega)]; simp [caps2]
  obtain ⟨c, hcj⟩ : ∃ c, (caps2 (e / 9))[j]? = some c := ⟨_, List.getElem?_eq_getElem (by simpa [caps2] using hj)⟩
  refine ⟨c, hcj, ?_⟩
  rw [hT]
  exact (row_has h32 _ _).2 ⟨e, j, by rw [h.n18]; exact he, rfl, by rw [hc e he]; exact hcj⟩
theorem G2.reach (h : G2 T n L) {e j : Nat} (he : e < 18) (hj : j < 3) {right : Int} (hr : right = 1 ∨ right = 2) {at_ k : Nat} (hin : at_ + k ≤ if j = 0 then 492 else 40) : Reach T n L e ((j : Int) + 256) right at_ k ((base2 (e / 9) j + at_ : Nat) : Int) 0 := by
  obtain ⟨c, hc, hh⟩ := h.has he hj
  have hs : e / 9 = 0 ∨ e / 9 = 1 := by omega
  have hb : ∀ x : Int, x = 3 → (bits .and .i64 x right == 0) = false := fun x hx => by subst hx; rcases hr with rfl | rfl <;> decide
  rw [h.spans]
  rcases (show j = 0 ∨ j = 1 ∨ j = 2 by omega) with rfl | rfl | rfl
  · simp only [if_true] at hin
    simp only [caps2, List.getElem?_cons_zero, Option.some.injEq] at hc
    subst hc
    rcases hs with e0 | e0 <;> rw [e0] at hh ⊢
    · exact Reach.yes _ (0, 492) _ hh (hb _ rfl) ⟨by omega, by omega, by dsimp only; omega, by dsimp only; omega, rfl, by dsimp only; omega⟩ (by simp only [base2]; omega)
    · exact Reach.yes _ (1280, 492) _ hh (hb _ rfl) ⟨by omega, by omega, by dsimp only; omega, by dsimp only; omega, rfl, by dsimp only; omega⟩ (by simp only [base2]; omega)
  · rw [if_neg (by decide)] at hin
    simp only [caps2, List.getElem?_cons_zero, List.getElem?_cons_succ, Option.some.injEq] at hc
    subst hc
    exact Reach.yes _ (512, 40) _ hh (hb _ rfl) ⟨by omega, by omega, by dsimp only; omega, by dsimp only; omega, rfl, by dsimp only; omega⟩ (by simp only [base2]; omega)
  · rw [if_neg (by decide)] at hin
    simp only [caps2, List.getElem?_cons_zero, List.getElem?_cons_succ, Option.some.injEq] at hc
    subst hc
    exact Reach.yes _ (1856, 40) _ hh (hb _ rfl) ⟨by omega, by omega, by dsimp only; omega, by dsimp only; omega, rfl, by dsimp only; omega⟩ (by simp only [base2]; omega)
theorem G2.row (h : G2 T n L) {e : Nat} (he : e < 18) : T e = rowQ (caps2 (e / 9)) := by
  obtain ⟨cs, hT, hc⟩ := h.cs
  rw [hT]
  show rowQ (cs e) = _
  rw [hc e he]
theorem G2.names (h : G2 T n L) {e : Nat} (he : e < 18) : names ((T e).map Q.pl) (T e).length = 256 :: [257, 258] := by
  rw [h.row he, names_pl _ (by simp [caps2])]
  rfl
theorem G2.nms (h : G2 T n L) {e : Nat} (he : e < 18) : Dk.nms T e = [256, 257, 258] := by
  unfold Dk.nms
  rw [h.row he, List.length_map, names_nq _ (by simp [caps2])]
  rfl
end
theorem G2.link {K : Kn} {C : Cm} (h : G2 K.T K.envs.length K.L) (he : C.env < 18) (hn : C.name = 256) (hb : C.brs = [257, 258]) : Link K C (src2 (C.env / 9)) := by
  have hl : C.brs.length = 2 := by rw [hb]; rfl
  refine ⟨by rw [h.n18]; exact he, fun j b at_ k hj hs right hr hin => ?_, fun j _ _ _ hs => by cases hs⟩
  cases hs
  have hnm : C.nm j = (j : Int) + 256 := by
    rcases (show j = 0 ∨ j = 1 ∨ j = 2 by omega) with rfl | rfl | rfl
    · exact hn
    · show C.brs.getD 0 0 = _; rw [hb]; rfl
    · show C.brs.getD 1 0 = _; rw [hb]; rfl
  rw [hnm]
  exact h.reach he (by omega) hr hin
theorem infoPlan : (Tryz.prog.info? 32).map (·.size) = some 3 := by kernel_rfl
theorem plan_is (w : World) : Calls Tryz.prog 9 #[] w fun e w' => ∃ Ab AB, e = .returned (.agg #[.slice Ab 2 2, .slice AB 2 2, .int .i64 5]) ∧ Reads w' AB (2 * 2) (refs brs2) ∧ Keep Nob w w' := by
  have hb : Blk (((w.alloc (.cells #[.slice (some ⟨w.heap.size + 1, 0, none⟩) 2 2, .slice (some ⟨w.heap.size + 1 + 1, 0, none⟩) 2 2, .int .i64 5] 32)).alloc (.cells #[.bool false, .bool false] 4)).alloc (.cells #[.int .i64 0, .int .i64 1, .int .i64 1, .int .i64 0] 111)) w.heap.size 32 [.slice (some ⟨w.heap.size + 1, 0, none⟩) 2 2, .slice (some ⟨w.heap.size + 1 + 1, 0, none⟩) 2 2, .int .i64 5] := ((Blk.new w 32 _).alloc _).alloc _
  have hr := reads_all (n := 4) (Blk.new ((w.alloc (.cells #[.slice (some ⟨w.heap.size + 1, 0, none⟩) 2 2, .slice (some ⟨w.heap.size + 1 + 1, 0, none⟩) 2 2, .int .i64 5] 32)).alloc (.cells #[.bool false, .bool false] 4)) 111 (refs brs2)) rfl
  have hs : ((w.alloc (.cells #[.slice (some ⟨w.heap.size + 1, 0, none⟩) 2 2, .slice (some ⟨w.heap.size + 1 + 1, 0, none⟩) 2 2, .int .i64 5] 32)).alloc (.cells #[.bool false, .bool false] 4)).heap.size = w.heap.size + 1 + 1 := by simp
  rw [hs] at hr
  have F := Lib.hid (And.intro hb (And.intro hr ((((Keep.refl Nob w).alloc (.cells #[.slice (some ⟨w.heap.size + 1, 0, none⟩) 2 2, .slice (some ⟨w.heap.size + 1 + 1, 0, none⟩) 2 2, .int .i64 5] 32)).alloc (.cells #[.bool false, .bool false] 4)).alloc (.cells #[.int .i64 0, .int .i64 1, .int .i64 1, .int .i64 0] 111))))
  clear hb hr hs
  go_enter Tryz.func9, Tryz.ntmps9
  go_wp2
  refine bodyPost_ret (v := .agg #[.slice (some ⟨w.heap.size + 1, 0, none⟩) 2 2, .slice (some ⟨w.heap.size + 1 + 1, 0, none⟩) 2 2, .int .i64 5]) (results_cell_row rfl _ _ w.heap.size 32 #[.slice (some ⟨w.heap.size + 1, 0, none⟩) 2 2, .slice (some ⟨w.heap.size + 1 + 1, 0, none⟩) 2 2, .int .i64 5] (0, 0) _ rfl F.out.1 Tryz.underlying32 rfl infoPlan) rfl ?_
  exact ⟨_, _, rfl, F.out.2.1, F.out.2.2⟩
end Go.Proofs.YtifigjccokpcfaaGreat.Pn
namespace Go.Proofs.YtifigjccokpcfaaGreat.Co
open Go.RowKit Go.MapKept
set_option linter.unusedVariables false
set_option linter.unusedSimpArgs false
set_option maxRecDepth 100000 in
set_option maxHeartbeats 4000000 in
theorem readP_is {w : World} {K : Kn} {C : Cm} {src : Src} (h : Kc w K C src) (r : Rf) (ho : RecOk r) (v : List Int) (d : Int) (bad' : List Rf) (hv : pread Cd.dcd Cd.noP K.xs src C.brs.length C.bad r = ((v, d), bad')) :
    Calls Tryz.prog 89 #[.pointer (some ⟨C.p, 0, none⟩), .agg #[.int .i64 r.1, .int .i64 r.2], .func (.func 90) #[] #[]] w fun e w' => e = .returned (.tuple #[.agg (ints v).toArray, .int .i64 d]) ∧ Ct w K K C { C with bad := bad' } src w' := by
  have hz : v.length = 16 := by
    have e : v = (pread Cd.dcd Cd.noP K.xs src C.brs.length C.bad r).1.1 := by rw [hv]
    rw [e]
    by_cases hbad : r ∈ C.bad
    · rw [pread_bad hbad]; rfl
    · cases hw : wher C.brs.length r with
      | none => rw [pread_none hbad hw]; rfl
      | some x => rw [pread_some hbad hw rfl]; exact Cd.dcd_len _
  have k1 := (Keep.refl Nob w).alloc (.cells #[.int .i64 r.1, .int .i64 r.2] 120)
  have HH := Lib.hid h
  have HO := Lib.hid ho
  have HV := Lib.hid hv
  clear h ho hv
  obtain ⟨x, hx⟩ : ∃ x, rch C r = x := ⟨_, rfl⟩
  obtain ⟨⟨a, b, m⟩, ok⟩ := x
  have hreach := fun W (kk : Keep Nob w W) => reach_is (HH.out.nob kk).c r HO.out a b m ok hx
  have HX := Lib.hid hx
  clear hx
  generalize hr1 : r.1 = r1 at *
  generalize hr2 : r.2 = r2 at *
  go_enter Tryz.func89, Tryz.ntmps89
  have bR := Blk.new w 120 [.int .i64 r1, .int .i64 r2]
  go_wp2_with (refine flatP.wpList_al rfl rfl ?_; intro w1 hb1 hk1 hs1; have bR1 := bR.nob hk1; have c0 := bR1.cell 0; have c1 := bR1.cell 1; simp only [List.getElem?_cons_zero, List.getElem?_cons_succ] at c0 c1)
  have kA := k1.trans hk1 (fun _ _ f => f)
  have hq0 : w.heap.size + 1 = (w.alloc (.cells #[.int .i64 r1, .int .i64 r2] 120)).heap.size := by simp
  rw [← hq0] at hb1
  clear hs1 k1 bR hk1 hq0 c0 c1
  refine (hreach _ kA).mono ?_; rintro e w2 ⟨rfl, k2⟩
  have kB := kA.trans k2 (fun _ _ f => f)
  have hb2 := hb1.nob k2
  have bR2 := bR1.nob k2
  clear hreach kA k2 hb1 bR1
  generalize hq : w.heap.size = q at *
  have HQ := Lib.hid hq
  clear hq
  cases ok with
  | false =>
    have hp : ((v, d), bad') = ((Cd.noP, 2), C.bad) := by
      rw [← HV.out]
      have hx := HX.out
      unfold rch at hx
      by_cases hbad : r ∈ C.bad
      · exact pread_bad hbad
      · rw [if_neg hbad] at hx
        cases hw : wher C.brs.length r with
        | none => exact pread_none hbad hw
        | some x => rw [hw] at hx; simp at hx
    simp only [Prod.mk.injEq] at hp
    obtain ⟨⟨rfl, rfl⟩, rfl⟩ := hp
    go_wp2_with (first
      | (refine flatP.wpList_al rfl rfl ?_; intro w3 hb3 hk3 hs3; have hb2 := (hb2.alloc (.cells #[.int .i64 a, .int .i64 b, .int .i64 m] 117)).nob hk3; have hk := (kB.alloc (.cells #[.int .i64 a, .int .i64 b, .int .i64 m] 117)).trans hk3 (fun _ _ f => f))
      | (refine flatP.wpList_ld rfl rfl rfl (cellsI rfl) hb3 ?_)
      | (refine flatP.wpList_st rfl rfl rfl rfl (cellsI rfl) (cellsI rfl) hb2 ?_; intro w4 hb4 hk4 hs4))
    refine bodyPost_ret (v := .tuple #[.agg (ints Cd.noP).toArray, .int .i64 2]) (flatP.results_pair rfl _ (cellsI rfl) rfl hb4 _ rfl) rfl ?_
    exact ⟨rfl, Ct.still HH.out (hk.trans hk4 (fun b hb e => by have e : b = q + 1 := e; have := HQ.out; omega))⟩
  | true =>
    have hx := HX.out
    have hnb : r ∉ C.bad := fun hbad => by unfold rch at hx; rw [if_pos hbad] at hx; simp at hx
    obtain ⟨x, hw⟩ : ∃ x, wher C.brs.length r = some x := by
      cases hw : wher C.brs.length r with
      | none => unfold rch at hx; rw [if_neg hnb, hw] at hx; simp at hx
      | some x => exact ⟨x, rfl⟩
    have hp : ((v, d), bad') = ((Cd.dcd (got K.xs src x)), if (Cd.dcd (got K.xs src x)).2 = 2 then ins r C.bad else C.bad) := by
      rw [← HV.out]
      exact pread_some hnb hw rfl
    have hin := wher_in hw
    unfold rch at hx
    rw [if_neg hnb, hw] at hx
    simp only [Prod.mk.injEq, and_true] at hx
    obtain ⟨ha, hb, hm⟩ := hx
    have hload := fun W (kk : Keep Nob w W) => load_is (HH.out.nob kk) x.1 x.2.1 x.2.2 hin.1 hin.2.1 a ha _ rfl
    rw [hb, hm] at hload
    obtain ⟨bs, hbs⟩ : ∃ bs, got K.xs src x = bs := ⟨_, rfl⟩
    rw [show (x.1, x.2.1, x.2.2) = x from rfl, hbs] at hload
    rw [hbs] at hp
    have hp1 : Cd.dcd bs = (v, d) := by
      have := congrArg Prod.fst hp
      exact this.symm
    have hp2 : bad' = if d = 2 then ins r C.bad else C.bad := by
      have := congrArg Prod.snd hp
      rw [hp1] at this
      exact this
    have HNB := Lib.hid (And.intro hnb (show wher C.brs.length r ≠ none from by rw [hw]; simp))
    have hbl : bs.length ≤ 40 := by
      rw [← hbs]
      unfold got
      split
      · exact Nat.le_trans (List.length_take_le _ _) hin.2.2.1
      · simp
    have HBL := Lib.hid hbl
    clear hp hnb hw hin hbs ha hb hm HV HX hbl
    have k3 := kB.alloc (.cells #[.int .i64 a, .int .i64 b, .int .i64 m] 117)
    have hT := hb2.alloc (.cells #[.int .i64 a, .int .i64 b, .int .i64 m] 117)
    have hR := bR2.alloc (.cells #[.int .i64 a, .int .i64 b, .int .i64 m] 117)
    go_wp2_with fail
    refine (hload _ k3).mono ?_; rintro e w3 ⟨A', c', rfl, hrd, t⟩
    have hK3 := HH.out.nob k3
    have hT3 := hK3.k.offT hT (by decide) t.keep
    have hR3 := hK3.k.offT hR (by decide) t.keep
    have hct := Ct.pre k3 (Ct.of_to' hK3 t)
    clear hload hT hR hb2 bR2 k3 t hK3 kB
    go_wp2_with fail
    refine (Cd.decode_is A' bs.length c' bs w3 hrd (by have := HBL.out; omega) v d hp1).mono ?_; rintro e w4 ⟨rfl, k4⟩
    have hct4 := hct.nob k4
    have hT4 := hT3.nob k4
    have hR4 := hR3.nob k4
    clear hct hT3 hR3 k4 hrd
    have hlt4 := hT4.lt
    unfold Cd.pv
    have hpl := HH.out.c.lt.1
    have hal := HH.out.a_lt
    have hge : w.heap.size ≤ w4.heap.size := hct4.keep.size
    have HG := Lib.hid (And.intro hpl (And.intro hal hge))
    clear hpl hal hge
    by_cases hd2 : d = 2
    · subst hd2
      rw [if_pos rfl] at hp2
      subst hp2
      go_wp2_with (first
        | (refine flatP.wpList_al rfl rfl ?_; intro w5 hb5 hk5 hs5; clear hs5)
        | (refine flatP.wpList_st rfl rfl rfl rfl (cellsI hz) (cellsI rfl) hb5 ?_; intro w6 hb6 hk6 hs6; clear hs6))
      have hct6 := (hct4.nob hk5).post hb5 (by decide) (by decide) HG.out.2.2 HG.out.1 HG.out.2.1 hk6
      have hT6 := (hT4.nob hk5).keep hk6 (fun e => by omega)
      have hR6 := (hR4.nob hk5).keep hk6 (fun e => by omega)
      obtain ⟨w7, hrun, hct7, hsz, hkb⟩ := (hct6.is.nob (Keep.nobdrew _)).spoil HO.out HNB.out.1 HNB.out.2
      unfold rval at hrun
      rw [hr1, hr2] at hrun
      have c4 : w6.cell? ⟨C.p, 4, none⟩ = some (.map (some C.b)) := hct6.is.c.obj.cell 4
      have c0 := hR6.cell 0
      have c1 := hR6.cell 1
      simp only [List.getElem?_cons_zero, List.getElem?_cons_succ] at c0 c1
      go_region
      have hct7' := Ct.pre (Keep.nobdrew w6) hct7
      have hT7 := Ct.off hct6.is hct7' hT6 (by decide)
      have hb7 := Ct.off hct6.is hct7' hb6 (by decide)
      have hct8 := Ct.trans hct6 hct7' (fun _ m => .inl m) rfl (fun _ m _ => m)
      clear hrun hct7 hsz hkb c4 c0 c1 hct7' hR6
      go_wp2_with (first
        | (refine flatP.wpList_ld rfl rfl rfl (cellsI hz) hb7 ?_)
        | (refine flatP.wpList_st rfl rfl rfl rfl (cellsI hz) (cellsI rfl) hT7 ?_; intro w8 hb8 hk8 hs8; clear hs8))
      refine bodyPost_ret (v := .tuple #[.agg (ints v).toArray, .int .i64 2]) (flatP.results_pair rfl _ (cellsI hz) rfl hb8 _ rfl) rfl ?_
      exact ⟨rfl, hct8.post hT7 (by decide) (by decide) (by have := HQ.out; omega) HG.out.1 HG.out.2.1 hk8⟩
    · have hd2' : (d == 2) = false := by simpa using hd2
      rw [if_neg hd2] at hp2
      subst hp2
      go_wp2_with (first
        | (refine flatP.wpList_al rfl rfl ?_; intro w5 hb5 hk5 hs5; clear hs5)
        | (refine flatP.wpList_st rfl rfl rfl rfl (cellsI hz) (cellsI rfl) hb5 ?_; intro w6 hb6 hk6 hs6; clear hs6; have hT6 := (hT4.nob hk5).keep hk6 (fun e => by omega))
        | (refine flatP.wpList_ld rfl rfl rfl (cellsI hz) hb6 ?_)
        | (refine flatP.wpList_st rfl rfl rfl rfl (cellsI hz) (cellsI rfl) hT6 ?_; intro w7 hb7 hk7 hs7; clear hs7))
      have hct6 := (hct4.nob hk5).post hb5 (by decide) (by decide) HG.out.2.2 HG.out.1 HG.out.2.1 hk6
      refine bodyPost_ret (v := .tuple #[.agg (ints v).toArray, .int .i64 d]) (flatP.results_pair rfl _ (cellsI hz) rfl hb7 _ rfl) rfl ?_
      exact ⟨rfl, hct6.post hT6 (by decide) (by decide) (by have := HQ.out; omega) HG.out.1 HG.out.2.1 hk7⟩
end Go.Proofs.YtifigjccokpcfaaGreat.Co
namespace Go.Proofs.YtifigjccokpcfaaGreat.Co
open Go.RowKit Go.MapKept
set_option linter.unusedVariables false
set_option linter.unusedSimpArgs false
set_option maxRecDepth 100000 in
set_option maxHeartbeats 4000000 in
theorem readF_is {w : World} {K : Kn} {C : Cm} {src : Src} (h : Kc w K C src) (r : Rf) (ho : RecOk r) (v : List Int) (d : Int) (bad' : List Rf) (hv : pread Fi.dcd Fi.noP K.xs src C.brs.length C.bad r = ((v, d), bad')) :
    Calls Tryz.prog 96 #[.pointer (some ⟨C.p, 0, none⟩), .agg #[.int .i64 r.1, .int .i64 r.2], .func (.func 97) #[] #[]] w fun e w' => e = .returned (.tuple #[.agg (ints v).toArray, .int .i64 d]) ∧ Ct w K K C { C with bad := bad' } src w' := by
  have hz : v.length = 4 := by
    have e : v = (pread Fi.dcd Fi.noP K.xs src C.brs.length C.bad r).1.1 := by rw [hv]
    rw [e]
    by_cases hbad : r ∈ C.bad
    · rw [pread_bad hbad]; rfl
    · cases hw : wher C.brs.length r with
      | none => rw [pread_none hbad hw]; rfl
      | some x => rw [pread_some hbad hw rfl]; exact Fi.dcd_len _
  have k1 := (Keep.refl Nob w).alloc (.cells #[.int .i64 r.1, .int .i64 r.2] 120)
  have HH := Lib.hid h
  have HO := Lib.hid ho
  have HV := Lib.hid hv
  clear h ho hv
  obtain ⟨x, hx⟩ : ∃ x, rch C r = x := ⟨_, rfl⟩
  obtain ⟨⟨a, b, m⟩, ok⟩ := x
  have hreach := fun W (kk : Keep Nob w W) => reach_is (HH.out.nob kk).c r HO.out a b m ok hx
  have HX := Lib.hid hx
  clear hx
  generalize hr1 : r.1 = r1 at *
  generalize hr2 : r.2 = r2 at *
  go_enter Tryz.func96, Tryz.ntmps96
  have bR := Blk.new w 120 [.int .i64 r1, .int .i64 r2]
  go_wp2_with (refine flatF.wpList_al rfl rfl ?_; intro w1 hb1 hk1 hs1; have bR1 := bR.nob hk1; have c0 := bR1.cell 0; have c1 := bR1.cell 1; simp only [List.getElem?_cons_zero, List.getElem?_cons_succ] at c0 c1)
  have kA := k1.trans hk1 (fun _ _ f => f)
  have hq0 : w.heap.size + 1 = (w.alloc (.cells #[.int .i64 r1, .int .i64 r2] 120)).heap.size := by simp
  rw [← hq0] at hb1
  clear hs1 k1 bR hk1 hq0 c0 c1
  refine (hreach _ kA).mono ?_; rintro e w2 ⟨rfl, k2⟩
  have kB := kA.trans k2 (fun _ _ f => f)
  have hb2 := hb1.nob k2
  have bR2 := bR1.nob k2
  clear hreach kA k2 hb1 bR1
  generalize hq : w.heap.size = q at *
  have HQ := Lib.hid hq
  clear hq
  cases ok with
  | false =>
    have hp : ((v, d), bad') = ((Fi.noP, 2), C.bad) := by
      rw [← HV.out]
      have hx := HX.out
      unfold rch at hx
      by_cases hbad : r ∈ C.bad
      · exact pread_bad hbad
      · rw [if_neg hbad] at hx
        cases hw : wher C.brs.length r with
        | none => exact pread_none hbad hw
        | some x => rw [hw] at hx; simp at hx
    simp only [Prod.mk.injEq] at hp
    obtain ⟨⟨rfl, rfl⟩, rfl⟩ := hp
    go_wp2_with (first
      | (refine flatF.wpList_al rfl rfl ?_; intro w3 hb3 hk3 hs3; have hb2 := (hb2.alloc (.cells #[.int .i64 a, .int .i64 b, .int .i64 m] 117)).nob hk3; have hk := (kB.alloc (.cells #[.int .i64 a, .int .i64 b, .int .i64 m] 117)).trans hk3 (fun _ _ f => f))
      | (refine flatF.wpList_ld rfl rfl rfl (cellsI rfl) hb3 ?_)
      | (refine flatF.wpList_st rfl rfl rfl rfl (cellsI rfl) (cellsI rfl) hb2 ?_; intro w4 hb4 hk4 hs4))
    refine bodyPost_ret (v := .tuple #[.agg (ints Fi.noP).toArray, .int .i64 2]) (flatF.results_pair rfl _ (cellsI rfl) rfl hb4 _ rfl) rfl ?_
    exact ⟨rfl, Ct.still HH.out (hk.trans hk4 (fun b hb e => by have e : b = q + 1 := e; have := HQ.out; omega))⟩
  | true =>
    have hx := HX.out
    have hnb : r ∉ C.bad := fun hbad => by unfold rch at hx; rw [if_pos hbad] at hx; simp at hx
    obtain ⟨x, hw⟩ : ∃ x, wher C.brs.length r = some x := by
      cases hw : wher C.brs.length r with
      | none => unfold rch at hx; rw [if_neg hnb, hw] at hx; simp at hx
      | some x => exact ⟨x, rfl⟩
    have hp : ((v, d), bad') = ((Fi.dcd (got K.xs src x)), if (Fi.dcd (got K.xs src x)).2 = 2 then ins r C.bad else C.bad) := by
      rw [← HV.out]
      exact pread_some hnb hw rfl
    have hin := wher_in hw
    unfold rch at hx
    rw [if_neg hnb, hw] at hx
    simp only [Prod.mk.injEq, and_true] at hx
    obtain ⟨ha, hb, hm⟩ := hx
    have hload := fun W (kk : Keep Nob w W) => load_is (HH.out.nob kk) x.1 x.2.1 x.2.2 hin.1 hin.2.1 a ha _ rfl
    rw [hb, hm] at hload
    obtain ⟨bs, hbs⟩ : ∃ bs, got K.xs src x = bs := ⟨_, rfl⟩
    rw [show (x.1, x.2.1, x.2.2) = x from rfl, hbs] at hload
    rw [hbs] at hp
    have hp1 : Fi.dcd bs = (v, d) := by
      have := congrArg Prod.fst hp
      exact this.symm
    have hp2 : bad' = if d = 2 then ins r C.bad else C.bad := by
      have := congrArg Prod.snd hp
      rw [hp1] at this
      exact this
    have HNB := Lib.hid (And.intro hnb (show wher C.brs.length r ≠ none from by rw [hw]; simp))
    have hbl : bs.length ≤ 40 := by
      rw [← hbs]
      unfold got
      split
      · exact Nat.le_trans (List.length_take_le _ _) hin.2.2.1
      · simp
    have HBL := Lib.hid hbl
    clear hp hnb hw hin hbs ha hb hm HV HX hbl
    have k3 := kB.alloc (.cells #[.int .i64 a, .int .i64 b, .int .i64 m] 117)
    have hT := hb2.alloc (.cells #[.int .i64 a, .int .i64 b, .int .i64 m] 117)
    have hR := bR2.alloc (.cells #[.int .i64 a, .int .i64 b, .int .i64 m] 117)
    go_wp2_with fail
    refine (hload _ k3).mono ?_; rintro e w3 ⟨A', c', rfl, hrd, t⟩
    have hK3 := HH.out.nob k3
    have hT3 := hK3.k.offT hT (by decide) t.keep
    have hR3 := hK3.k.offT hR (by decide) t.keep
    have hct := Ct.pre k3 (Ct.of_to' hK3 t)
    clear hload hT hR hb2 bR2 k3 t hK3 kB
    go_wp2_with fail
    refine (Fi.decode_is A' bs.length c' bs w3 hrd (by have := HBL.out; omega) v d hp1).mono ?_; rintro e w4 ⟨rfl, k4⟩
    have hct4 := hct.nob k4
    have hT4 := hT3.nob k4
    have hR4 := hR3.nob k4
    clear hct hT3 hR3 k4 hrd
    have hlt4 := hT4.lt
    unfold Fi.pv
    have hpl := HH.out.c.lt.1
    have hal := HH.out.a_lt
    have hge : w.heap.size ≤ w4.heap.size := hct4.keep.size
    have HG := Lib.hid (And.intro hpl (And.intro hal hge))
    clear hpl hal hge
    by_cases hd2 : d = 2
    · subst hd2
      rw [if_pos rfl] at hp2
      subst hp2
      go_wp2_with (first
        | (refine flatF.wpList_al rfl rfl ?_; intro w5 hb5 hk5 hs5; clear hs5)
        | (refine flatF.wpList_st rfl rfl rfl rfl (cellsI hz) (cellsI rfl) hb5 ?_; intro w6 hb6 hk6 hs6; clear hs6))
      have hct6 := (hct4.nob hk5).post hb5 (by decide) (by decide) HG.out.2.2 HG.out.1 HG.out.2.1 hk6
      have hT6 := (hT4.nob hk5).keep hk6 (fun e => by omega)
      have hR6 := (hR4.nob hk5).keep hk6 (fun e => by omega)
      obtain ⟨w7, hrun, hct7, hsz, hkb⟩ := (hct6.is.nob (Keep.nobdrew _)).spoil HO.out HNB.out.1 HNB.out.2
      unfold rval at hrun
      rw [hr1, hr2] at hrun
      have c4 : w6.cell? ⟨C.p, 4, none⟩ = some (.map (some C.b)) := hct6.is.c.obj.cell 4
      have c0 := hR6.cell 0
      have c1 := hR6.cell 1
      simp only [List.getElem?_cons_zero, List.getElem?_cons_succ] at c0 c1
      go_region
      have hct7' := Ct.pre (Keep.nobdrew w6) hct7
      have hT7 := Ct.off hct6.is hct7' hT6 (by decide)
      have hb7 := Ct.off hct6.is hct7' hb6 (by decide)
      have hct8 := Ct.trans hct6 hct7' (fun _ m => .inl m) rfl (fun _ m _ => m)
      clear hrun hct7 hsz hkb c4 c0 c1 hct7' hR6
      go_wp2_with (first
        | (refine flatF.wpList_ld rfl rfl rfl (cellsI hz) hb7 ?_)
        | (refine flatF.wpList_st rfl rfl rfl rfl (cellsI hz) (cellsI rfl) hT7 ?_; intro w8 hb8 hk8 hs8; clear hs8))
      refine bodyPost_ret (v := .tuple #[.agg (ints v).toArray, .int .i64 2]) (flatF.results_pair rfl _ (cellsI hz) rfl hb8 _ rfl) rfl ?_
      exact ⟨rfl, hct8.post hT7 (by decide) (by decide) (by have := HQ.out; omega) HG.out.1 HG.out.2.1 hk8⟩
    · have hd2' : (d == 2) = false := by simpa using hd2
      rw [if_neg hd2] at hp2
      subst hp2
      go_wp2_with (first
        | (refine flatF.wpList_al rfl rfl ?_; intro w5 hb5 hk5 hs5; clear hs5)
        | (refine flatF.wpList_st rfl rfl rfl rfl (cellsI hz) (cellsI rfl) hb5 ?_; intro w6 hb6 hk6 hs6; clear hs6; have hT6 := (hT4.nob hk5).keep hk6 (fun e => by omega))
        | (refine flatF.wpList_ld rfl rfl rfl (cellsI hz) hb6 ?_)
        | (refine flatF.wpList_st rfl rfl rfl rfl (cellsI hz) (cellsI rfl) hT6 ?_; intro w7 hb7 hk7 hs7; clear hs7))
      have hct6 := (hct4.nob hk5).post hb5 (by decide) (by decide) HG.out.2.2 HG.out.1 HG.out.2.1 hk6
      refine bodyPost_ret (v := .tuple #[.agg (ints v).toArray, .int .i64 d]) (flatF.results_pair rfl _ (cellsI hz) rfl hb7 _ rfl) rfl ?_
      exact ⟨rfl, hct6.post hT6 (by decide) (by decide) (by have := HQ.out; omega) HG.out.1 HG.out.2.1 hk7⟩
end Go.Proofs.YtifigjccokpcfaaGreat.Co
namespace Go.Proofs.YtifigjccokpcfaaGreat.Co
open Go.RowKit Go.MapKept
set_option linter.unusedVariables false
set_option linter.unusedSimpArgs false
set_option maxRecDepth 100000 in
set_option maxHeartbeats 4000000 in
theorem readR_is {w : World} {K : Kn} {C : Cm} {src : Src} (h : Kc w K C src) (r : Rf) (ho : RecOk r) (v : Ri.Pp) (d : Int) (bad' : List Rf) (hv : pread Ri.dcd Ri.noP K.xs src C.brs.length C.bad r = ((v, d), bad')) :
    Calls Tryz.prog 92 #[.pointer (some ⟨C.p, 0, none⟩), .agg #[.int .i64 r.1, .int .i64 r.2], .func (.func 93) #[] #[]] w fun e w' => e = .returned (.tuple #[.agg (Ri.pc v).toArray, .int .i64 d]) ∧ Ct w K K C { C with bad := bad' } src w' := by
  have hz : v.d.length = 32 := by
    have e : v = (pread Ri.dcd Ri.noP K.xs src C.brs.length C.bad r).1.1 := by rw [hv]
    rw [e]
    by_cases hbad : r ∈ C.bad
    · rw [pread_bad hbad]; rfl
    · cases hw : wher C.brs.length r with
      | none => rw [pread_none hbad hw]; rfl
      | some x => rw [pread_some hbad hw rfl]; exact Ri.dcd_len _
  have k1 := (Keep.refl Nob w).alloc (.cells #[.int .i64 r.1, .int .i64 r.2] 120)
  have HH := Lib.hid h
  have HO := Lib.hid ho
  have HV := Lib.hid hv
  clear h ho hv
  obtain ⟨x, hx⟩ : ∃ x, rch C r = x := ⟨_, rfl⟩
  obtain ⟨⟨a, b, m⟩, ok⟩ := x
  have hreach := fun W (kk : Keep Nob w W) => reach_is (HH.out.nob kk).c r HO.out a b m ok hx
  have HX := Lib.hid hx
  clear hx
  generalize hr1 : r.1 = r1 at *
  generalize hr2 : r.2 = r2 at *
  go_enter Tryz.func92, Tryz.ntmps92
  have bR := Blk.new w 120 [.int .i64 r1, .int .i64 r2]
  go_wp2_with (refine flatR.wpList_al rfl rfl ?_; intro w1 hb1 hk1 hs1; have bR1 := bR.nob hk1; have c0 := bR1.cell 0; have c1 := bR1.cell 1; simp only [List.getElem?_cons_zero, List.getElem?_cons_succ] at c0 c1)
  have kA := k1.trans hk1 (fun _ _ f => f)
  have hq0 : w.heap.size + 1 = (w.alloc (.cells #[.int .i64 r1, .int .i64 r2] 120)).heap.size := by simp
  rw [← hq0] at hb1
  clear hs1 k1 bR hk1 hq0 c0 c1
  refine (hreach _ kA).mono ?_; rintro e w2 ⟨rfl, k2⟩
  have kB := kA.trans k2 (fun _ _ f => f)
  have hb2 := hb1.nob k2
  have bR2 := bR1.nob k2
  clear hreach kA k2 hb1 bR1
  generalize hq : w.heap.size = q at *
  have HQ := Lib.hid hq
  clear hq
  cases ok with
  | false =>
    have hp : ((v, d), bad') = ((Ri.noP, 2), C.bad) := by
      rw [← HV.out]
      have hx := HX.out
      unfold rch at hx
      by_cases hbad : r ∈ C.bad
      · exact pread_bad hbad
      · rw [if_neg hbad] at hx
        cases hw : wher C.brs.length r with
        | none => exact pread_none hbad hw
        | some x => rw [hw] at hx; simp at hx
    simp only [Prod.mk.injEq] at hp
    obtain ⟨⟨rfl, rfl⟩, rfl⟩ := hp
    go_wp2_with (first
      | (refine flatR.wpList_al rfl rfl ?_; intro w3 hb3 hk3 hs3; have hb2 := (hb2.alloc (.cells #[.int .i64 a, .int .i64 b, .int .i64 m] 117)).nob hk3; have hk := (kB.alloc (.cells #[.int .i64 a, .int .i64 b, .int .i64 m] 117)).trans hk3 (fun _ _ f => f))
      | (refine flatR.wpList_ld rfl rfl rfl (cellsR rfl) hb3 ?_)
      | (refine flatR.wpList_st rfl rfl rfl rfl (cellsR rfl) (cellsR rfl) hb2 ?_; intro w4 hb4 hk4 hs4))
    refine bodyPost_ret (v := .tuple #[.agg (Ri.pc Ri.noP).toArray, .int .i64 2]) (flatR.results_pair rfl _ (cellsR rfl) rfl hb4 _ rfl) rfl ?_
    exact ⟨rfl, Ct.still HH.out (hk.trans hk4 (fun b hb e => by have e : b = q + 1 := e; have := HQ.out; omega))⟩
  | true =>
    have hx := HX.out
    have hnb : r ∉ C.bad := fun hbad => by unfold rch at hx; rw [if_pos hbad] at hx; simp at hx
    obtain ⟨x, hw⟩ : ∃ x, wher C.brs.length r = some x := by
      cases hw : wher C.brs.length r with
      | none => unfold rch at hx; rw [if_neg hnb, hw] at hx; simp at hx
      | some x => exact ⟨x, rfl⟩
    have hp : ((v, d), bad') = ((Ri.dcd (got K.xs src x)), if (Ri.dcd (got K.xs src x)).2 = 2 then ins r C.bad else C.bad) := by
      rw [← HV.out]
      exact pread_some hnb hw rfl
    have hin := wher_in hw
    unfold rch at hx
    rw [if_neg hnb, hw] at hx
    simp only [Prod.mk.injEq, and_true] at hx
    obtain ⟨ha, hb, hm⟩ := hx
    have hload := fun W (kk : Keep Nob w W) => load_is (HH.out.nob kk) x.1 x.2.1 x.2.2 hin.1 hin.2.1 a ha _ rfl
    rw [hb, hm] at hload
    obtain ⟨bs, hbs⟩ : ∃ bs, got K.xs src x = bs := ⟨_, rfl⟩
    rw [show (x.1, x.2.1, x.2.2) = x from rfl, hbs] at hload
    rw [hbs] at hp
    have hp1 : Ri.dcd bs = (v, d) := by
      have := congrArg Prod.fst hp
      exact this.symm
    have hp2 : bad' = if d = 2 then ins r C.bad else C.bad := by
      have := congrArg Prod.snd hp
      rw [hp1] at this
      exact this
    have HNB := Lib.hid (And.intro hnb (show wher C.brs.length r ≠ none from by rw [hw]; simp))
    have hbl : bs.length ≤ 40 := by
      rw [← hbs]
      unfold got
      split
      · exact Nat.le_trans (List.length_take_le _ _) hin.2.2.1
      · simp
    have HBL := Lib.hid hbl
    clear hp hnb hw hin hbs ha hb hm HV HX hbl
    have k3 := kB.alloc (.cells #[.int .i64 a, .int .i64 b, .int .i64 m] 117)
    have hT := hb2.alloc (.cells #[.int .i64 a, .int .i64 b, .int .i64 m] 117)
    have hR := bR2.alloc (.cells #[.int .i64 a, .int .i64 b, .int .i64 m] 117)
    go_wp2_with fail
    refine (hload _ k3).mono ?_; rintro e w3 ⟨A', c', rfl, hrd, t⟩
    have hK3 := HH.out.nob k3
    have hT3 := hK3.k.offT hT (by decide) t.keep
    have hR3 := hK3.k.offT hR (by decide) t.keep
    have hct := Ct.pre k3 (Ct.of_to' hK3 t)
    clear hload hT hR hb2 bR2 k3 t hK3 kB
    go_wp2_with fail
    refine (Ri.decode_is A' bs.length c' bs w3 hrd (by have := HBL.out; omega) v d hp1).mono ?_; rintro e w4 ⟨rfl, k4⟩
    have hct4 := hct.nob k4
    have hT4 := hT3.nob k4
    have hR4 := hR3.nob k4
    clear hct hT3 hR3 k4 hrd
    have hlt4 := hT4.lt
    unfold Ri.pv
    have hpl := HH.out.c.lt.1
    have hal := HH.out.a_lt
    have hge : w.heap.size ≤ w4.heap.size := hct4.keep.size
    have HG := Lib.hid (And.intro hpl (And.intro hal hge))
    clear hpl hal hge
    by_cases hd2 : d = 2
    · subst hd2
      rw [if_pos rfl] at hp2
      subst hp2
      go_wp2_with (first
        | (refine flatR.wpList_al rfl rfl ?_; intro w5 hb5 hk5 hs5; clear hs5)
        | (refine flatR.wpList_st rfl rfl rfl rfl (cellsR hz) (cellsR rfl) hb5 ?_; intro w6 hb6 hk6 hs6; clear hs6))
      have hct6 := (hct4.nob hk5).post hb5 (by decide) (by decide) HG.out.2.2 HG.out.1 HG.out.2.1 hk6
      have hT6 := (hT4.nob hk5).keep hk6 (fun e => by omega)
      have hR6 := (hR4.nob hk5).keep hk6 (fun e => by omega)
      obtain ⟨w7, hrun, hct7, hsz, hkb⟩ := (hct6.is.nob (Keep.nobdrew _)).spoil HO.out HNB.out.1 HNB.out.2
      unfold rval at hrun
      rw [hr1, hr2] at hrun
      have c4 : w6.cell? ⟨C.p, 4, none⟩ = some (.map (some C.b)) := hct6.is.c.obj.cell 4
      have c0 := hR6.cell 0
      have c1 := hR6.cell 1
      simp only [List.getElem?_cons_zero, List.getElem?_cons_succ] at c0 c1
      go_region
      have hct7' := Ct.pre (Keep.nobdrew w6) hct7
      have hT7 := Ct.off hct6.is hct7' hT6 (by decide)
      have hb7 := Ct.off hct6.is hct7' hb6 (by decide)
      have hct8 := Ct.trans hct6 hct7' (fun _ m => .inl m) rfl (fun _ m _ => m)
      clear hrun hct7 hsz hkb c4 c0 c1 hct7' hR6
      go_wp2_with (first
        | (refine flatR.wpList_ld rfl rfl rfl (cellsR hz) hb7 ?_)
        | (refine flatR.wpList_st rfl rfl rfl rfl (cellsR hz) (cellsR rfl) hT7 ?_; intro w8 hb8 hk8 hs8; clear hs8))
      refine bodyPost_ret (v := .tuple #[.agg (Ri.pc v).toArray, .int .i64 2]) (flatR.results_pair rfl _ (cellsR hz) rfl hb8 _ rfl) rfl ?_
      exact ⟨rfl, hct8.post hT7 (by decide) (by decide) (by have := HQ.out; omega) HG.out.1 HG.out.2.1 hk8⟩
    · have hd2' : (d == 2) = false := by simpa using hd2
      rw [if_neg hd2] at hp2
      subst hp2
      go_wp2_with (first
        | (refine flatR.wpList_al rfl rfl ?_; intro w5 hb5 hk5 hs5; clear hs5)
        | (refine flatR.wpList_st rfl rfl rfl rfl (cellsR hz) (cellsR rfl) hb5 ?_; intro w6 hb6 hk6 hs6; clear hs6; have hT6 := (hT4.nob hk5).keep hk6 (fun e => by omega))
        | (refine flatR.wpList_ld rfl rfl rfl (cellsR hz) hb6 ?_)
        | (refine flatR.wpList_st rfl rfl rfl rfl (cellsR hz) (cellsR rfl) hT6 ?_; intro w7 hb7 hk7 hs7; clear hs7))
      have hct6 := (hct4.nob hk5).post hb5 (by decide) (by decide) HG.out.2.2 HG.out.1 HG.out.2.1 hk6
      refine bodyPost_ret (v := .tuple #[.agg (Ri.pc v).toArray, .int .i64 d]) (flatR.results_pair rfl _ (cellsR hz) rfl hb7 _ rfl) rfl ?_
      exact ⟨rfl, hct6.post hT6 (by decide) (by decide) (by have := HQ.out; omega) HG.out.1 HG.out.2.1 hk7⟩
end Go.Proofs.YtifigjccokpcfaaGreat.Co
namespace Go.Proofs.YtifigjccokpcfaaGreat.Co
open Go.RowKit Go.MapKept
set_option linter.unusedVariables false
set_option linter.unusedSimpArgs false
set_option maxRecDepth 100000 in
set_option maxHeartbeats 4000000 in
theorem readI_is {w : World} {K : Kn} {C : Cm} {src : Src} (h : Kc w K C src) (r : Rf) (ho : RecOk r) (v d : Int) (bad' : List Rf) (hv : pread fdec 0 K.xs src C.brs.length C.bad r = ((v, d), bad')) :
    Calls Tryz.prog 98 #[.pointer (some ⟨C.p, 0, none⟩), .agg #[.int .i64 r.1, .int .i64 r.2], .func (.func 99) #[] #[]] w fun e w' => e = .returned (.tuple #[.int .i64 v, .int .i64 d]) ∧ Ct w K K C { C with bad := bad' } src w' := by
  have k1 := (Keep.refl Nob w).alloc (.cells #[.int .i64 r.1, .int .i64 r.2] 120)
  have HH := Lib.hid h
  have HO := Lib.hid ho
  have HV := Lib.hid hv
  clear h ho hv
  obtain ⟨x, hx⟩ : ∃ x, rch C r = x := ⟨_, rfl⟩
  obtain ⟨⟨a, b, m⟩, ok⟩ := x
  have hreach := fun W (kk : Keep Nob w W) => reach_is (HH.out.nob kk).c r HO.out a b m ok hx
  have HX := Lib.hid hx
  clear hx
  generalize hr1 : r.1 = r1 at *
  generalize hr2 : r.2 = r2 at *
  go_enter Tryz.func98, Tryz.ntmps98
  have bR := Blk.new w 120 [.int .i64 r1, .int .i64 r2]
  have bR1 := bR
  have c0 := bR1.cell 0
  have c1 := bR1.cell 1
  simp only [List.getElem?_cons_zero, List.getElem?_cons_succ] at c0 c1
  go_wp2_with fail
  have kA := k1
  clear k1 bR c0 c1
  refine (hreach _ kA).mono ?_; rintro e w2 ⟨rfl, k2⟩
  have kB := kA.trans k2 (fun _ _ f => f)
  have bR2 := bR1.nob k2
  clear hreach kA k2 bR1
  generalize hq : w.heap.size = q at *
  have HQ := Lib.hid hq
  clear hq
  cases ok with
  | false =>
    have hp : ((v, d), bad') = ((0, 2), C.bad) := by
      rw [← HV.out]
      have hx := HX.out
      unfold rch at hx
      by_cases hbad : r ∈ C.bad
      · exact pread_bad hbad
      · rw [if_neg hbad] at hx
        cases hw : wher C.brs.length r with
        | none => exact pread_none hbad hw
        | some x => rw [hw] at hx; simp at hx
    simp only [Prod.mk.injEq] at hp
    obtain ⟨⟨rfl, rfl⟩, rfl⟩ := hp
    go_wp2
    go_ret2
    exact ⟨rfl, Ct.still HH.out (kB.alloc _)⟩
  | true =>
    have hx := HX.out
    have hnb : r ∉ C.bad := fun hbad => by unfold rch at hx; rw [if_pos hbad] at hx; simp at hx
    obtain ⟨x, hw⟩ : ∃ x, wher C.brs.length r = some x := by
      cases hw : wher C.brs.length r with
      | none => unfold rch at hx; rw [if_neg hnb, hw] at hx; simp at hx
      | some x => exact ⟨x, rfl⟩
    have hp : ((v, d), bad') = ((fdec (got K.xs src x)), if (fdec (got K.xs src x)).2 = 2 then ins r C.bad else C.bad) := by
      rw [← HV.out]
      exact pread_some hnb hw rfl
    have hin := wher_in hw
    unfold rch at hx
    rw [if_neg hnb, hw] at hx
    simp only [Prod.mk.injEq, and_true] at hx
    obtain ⟨ha, hb, hm⟩ := hx
    have hload := fun W (kk : Keep Nob w W) => load_is (HH.out.nob kk) x.1 x.2.1 x.2.2 hin.1 hin.2.1 a ha _ rfl
    rw [hb, hm] at hload
    obtain ⟨bs, hbs⟩ : ∃ bs, got K.xs src x = bs := ⟨_, rfl⟩
    rw [show (x.1, x.2.1, x.2.2) = x from rfl, hbs] at hload
    rw [hbs] at hp
    have hp1 : fdec bs = (v, d) := by
      have := congrArg Prod.fst hp
      exact this.symm
    have hp2 : bad' = if d = 2 then ins r C.bad else C.bad := by
      have := congrArg Prod.snd hp
      rw [hp1] at this
      exact this
    have HNB := Lib.hid (And.intro hnb (show wher C.brs.length r ≠ none from by rw [hw]; simp))
    have hbl : bs.length ≤ 40 := by
      rw [← hbs]
      unfold got
      split
      · exact Nat.le_trans (List.length_take_le _ _) hin.2.2.1
      · simp
    have HBL := Lib.hid hbl
    clear hp hnb hw hin hbs ha hb hm HV HX hbl
    have k3 := kB.alloc (.cells #[.int .i64 a, .int .i64 b, .int .i64 m] 117)
    have hR := bR2.alloc (.cells #[.int .i64 a, .int .i64 b, .int .i64 m] 117)
    go_wp2_with fail
    refine (hload _ k3).mono ?_; rintro e w3 ⟨A', c', rfl, hrd, t⟩
    have hK3 := HH.out.nob k3
    have hR3 := hK3.k.offT hR (by decide) t.keep
    have hct := Ct.pre k3 (Ct.of_to' hK3 t)
    clear hload hR bR2 k3 t hK3 kB
    go_wp2_with fail
    refine (decf_is A' bs.length c' bs w3 hrd v d hp1).mono ?_; rintro e w4 ⟨rfl, k4⟩
    have hct4 := hct.nob k4
    have hR4 := hR3.nob k4
    clear hct hR3 k4 hrd
    by_cases hd2 : d = 2
    · subst hd2
      rw [if_pos rfl] at hp2
      subst hp2
      obtain ⟨w7, hrun, hct7, hsz, hkb⟩ := (hct4.is.nob (Keep.nobdrew _)).spoil HO.out HNB.out.1 HNB.out.2
      unfold rval at hrun
      rw [hr1, hr2] at hrun
      have c4 : w4.cell? ⟨C.p, 4, none⟩ = some (.map (some C.b)) := hct4.is.c.obj.cell 4
      have c0 := hR4.cell 0
      have c1 := hR4.cell 1
      simp only [List.getElem?_cons_zero, List.getElem?_cons_succ] at c0 c1
      go_wp2_with fail
      go_region
      have hct7' := Ct.pre (Keep.nobdrew w4) hct7
      have hct8 := Ct.trans hct4 hct7' (fun _ m => .inl m) rfl (fun _ m _ => m)
      clear hrun hct7 hsz hkb c4 c0 c1 hct7'
      go_wp2
      go_ret2
      exact ⟨rfl, hct8⟩
    · have hd2' : (d == 2) = false := by simpa using hd2
      rw [if_neg hd2] at hp2
      subst hp2
      go_wp2
      go_ret2
      exact ⟨rfl, hct4⟩
end Go.Proofs.YtifigjccokpcfaaGreat.Co
namespace Go.Proofs.YtifigjccokpcfaaGreat.Co
open Go.RowKit
set_option linter.unusedVariables false
set_option linter.unusedSimpArgs false
/-- Whether a record is set, and all bytes then. -/
def pset (ok : Bool) (b : List UInt8) (xs : List UInt8) (src : Src) (nb : Nat) (bad : List Rf) (r : Rf) : Bool × List UInt8 := if ok then pwrite xs src nb bad r b else (false, xs)
set_option maxRecDepth 100000 in
set_option maxHeartbeats 4000000 in
theorem writeP_is {w : World} {K : Kn} {C : Cm} {src : Src} (h : Kc w K C src) (r : Rf) (ho : RecOk r) (hsz : ∀ x, wher C.brs.length r = some x → x.2.2 = 24) (v : List Int) (hl : v.length = 16) (hw : ∀ x ∈ v, Cd.Wf x) (ok : Bool) (ys : List UInt8) (hv : pset (Cd.okd v) (Cd.enc v) K.xs src C.brs.length C.bad r = (ok, ys)) :
    Calls Tryz.prog 45 #[.pointer (some ⟨C.p, 0, none⟩), .agg #[.int .i64 r.1, .int .i64 r.2], .agg (ints v).toArray, .func (.func 46) #[] #[]] w fun e w' => e = .returned (.bool ok) ∧ To w K { K with xs := ys } w' := by
  have k1 := (Keep.refl Nob w).alloc (.cells #[.int .i64 r.1, .int .i64 r.2] 120)
  have bR := Blk.new w 120 [.int .i64 r.1, .int .i64 r.2]
  obtain ⟨vo, hvo⟩ : ∃ b, Cd.okd v = b := ⟨_, rfl⟩
  have henc := fun W => Cd.encode_is v hl hw W vo hvo
  unfold Cd.pv at henc
  rw [hvo] at hv
  have hel : (Cd.enc v).length = 24 := Cd.enc_len hl
  have hst := fun W (kk : Keep Nob w W) A m hb oo yy hh => store_is (h.nob kk) r ho A m 24 (Cd.enc v) hel (fun x hx => by rw [hel, hsz x hx]) hb oo yy hh
  have HH := Lib.hid h
  have HC := Lib.hid (cellsI hl)
  clear hsz hvo hel h ho
  generalize r.1 = r1 at *
  generalize r.2 = r2 at *
  have hq1 : (w.alloc (.cells #[.int .i64 r1, .int .i64 r2] 120)).heap.size = w.heap.size + 1 := by simp
  have HQ1 := Lib.hid hq1
  clear hq1
  go_enter Tryz.func45, Tryz.ntmps45
  go_wp2_with (first
    | (refine wpList_box rfl 39 _ rfl _ rfl ?_; intro w1 hb1 hk1 hs1; clear hs1; have bR1 := bR.nob hk1; have c0 := bR1.cell 0; have c1 := bR1.cell 1; simp only [List.getElem?_cons_zero, List.getElem?_cons_succ] at c0 c1; have hb1 : Blk w1 (w.heap.size + 1) 39 (ints v) := (by have h5 := hb1; rw [HQ1.out] at h5; exact h5))
    | (refine flatP.wpList_ld rfl rfl rfl HC.out hb1 ?_))
  refine (henc _).mono ?_; rintro e w2 ⟨x, rfl, hT, k2⟩
  have kk := (k1.trans hk1 (fun _ _ f => f)).trans k2 (fun _ _ f => f)
  have bR2 := bR1.nob k2
  have d0 := bR2.cell 0
  have d1 := bR2.cell 1
  simp only [List.getElem?_cons_zero, List.getElem?_cons_succ] at d0 d1
  clear c0 c1 bR1 bR henc hb1
  cases vo with
  | false =>
    unfold pset at hv
    simp at hv
    obtain ⟨rfl, rfl⟩ := hv
    clear hT
    go_wp2
    go_ret
    exact ⟨rfl, To.still HH.out.k kk⟩
  | true =>
    obtain ⟨A, m, rfl, hvv, _⟩ := hT
    unfold pset at hv
    rw [if_pos rfl] at hv
    have hcall := hst _ kk A m (by simpa using hvv.reads) ok ys hv
    clear hst hv hvv
    go_wp2_with fail
    refine hcall.mono ?_; rintro e w3 ⟨rfl, t⟩
    go_wp2
    go_ret
    exact ⟨rfl, t.pre kk⟩
set_option maxRecDepth 100000 in
set_option maxHeartbeats 4000000 in
theorem writeR_is {w : World} {K : Kn} {C : Cm} {src : Src} (h : Kc w K C src) (r : Rf) (ho : RecOk r) (hsz : ∀ x, wher C.brs.length r = some x → x.2.2 = 40) (v : Ri.Pp) (hl : v.d.length = 32) (ok : Bool) (ys : List UInt8) (hv : pset (Ri.okd v) (Ri.enc v) K.xs src C.brs.length C.bad r = (ok, ys)) :
    Calls Tryz.prog 49 #[.pointer (some ⟨C.p, 0, none⟩), .agg #[.int .i64 r.1, .int .i64 r.2], .agg (Ri.pc v).toArray, .func (.func 50) #[] #[]] w fun e w' => e = .returned (.bool ok) ∧ To w K { K with xs := ys } w' := by
  have k1 := (Keep.refl Nob w).alloc (.cells #[.int .i64 r.1, .int .i64 r.2] 120)
  have bR := Blk.new w 120 [.int .i64 r.1, .int .i64 r.2]
  obtain ⟨vo, hvo⟩ : ∃ b, Ri.okd v = b := ⟨_, rfl⟩
  have henc := fun W => Ri.encode_is v hl W vo hvo
  unfold Ri.pv at henc
  rw [hvo] at hv
  have hel : (Ri.enc v).length = 40 := Ri.enc_len hl
  have hst := fun W (kk : Keep Nob w W) A m hb oo yy hh => store_is (h.nob kk) r ho A m 40 (Ri.enc v) hel (fun x hx => by rw [hel, hsz x hx]) hb oo yy hh
  have HH := Lib.hid h
  have HC := Lib.hid (cellsR hl)
  clear hsz hvo hel h ho
  generalize r.1 = r1 at *
  generalize r.2 = r2 at *
  have hq1 : (w.alloc (.cells #[.int .i64 r1, .int .i64 r2] 120)).heap.size = w.heap.size + 1 := by simp
  have HQ1 := Lib.hid hq1
  clear hq1
  go_enter Tryz.func49, Tryz.ntmps49
  go_wp2_with (first
    | (refine wpList_box rfl 48 _ rfl _ rfl ?_; intro w1 hb1 hk1 hs1; clear hs1; have bR1 := bR.nob hk1; have c0 := bR1.cell 0; have c1 := bR1.cell 1; simp only [List.getElem?_cons_zero, List.getElem?_cons_succ] at c0 c1; have hb1 : Blk w1 (w.heap.size + 1) 48 (Ri.pc v) := (by have h5 := hb1; rw [HQ1.out] at h5; exact h5))
    | (refine flatR.wpList_ld rfl rfl rfl HC.out hb1 ?_))
  refine (henc _).mono ?_; rintro e w2 ⟨x, rfl, hT, k2⟩
  have kk := (k1.trans hk1 (fun _ _ f => f)).trans k2 (fun _ _ f => f)
  have bR2 := bR1.nob k2
  have d0 := bR2.cell 0
  have d1 := bR2.cell 1
  simp only [List.getElem?_cons_zero, List.getElem?_cons_succ] at d0 d1
  clear c0 c1 bR1 bR henc hb1
  cases vo with
  | false =>
    unfold pset at hv
    simp at hv
    obtain ⟨rfl, rfl⟩ := hv
    clear hT
    go_wp2
    go_ret
    exact ⟨rfl, To.still HH.out.k kk⟩
  | true =>
    obtain ⟨A, m, rfl, hvv, _⟩ := hT
    unfold pset at hv
    rw [if_pos rfl] at hv
    have hcall := hst _ kk A m (by simpa using hvv.reads) ok ys hv
    clear hst hv hvv
    go_wp2_with fail
    refine hcall.mono ?_; rintro e w3 ⟨rfl, t⟩
    go_wp2
    go_ret
    exact ⟨rfl, t.pre kk⟩
set_option maxRecDepth 100000 in
set_option maxHeartbeats 4000000 in
theorem writeI_is {w : World} {K : Kn} {C : Cm} {src : Src} (h : Kc w K C src) (r : Rf) (ho : RecOk r) (hsz : ∀ x, wher C.brs.length r = some x → x.2.2 = 4) (g : Int) (ok : Bool) (ys : List UInt8) (hv : pset (decide (0 ≤ g ∧ g ≤ 7)) (frontB g) K.xs src C.brs.length C.bad r = (ok, ys)) :
    Calls Tryz.prog 51 #[.pointer (some ⟨C.p, 0, none⟩), .agg #[.int .i64 r.1, .int .i64 r.2], .int .i64 g, .func (.func 52) #[] #[]] w fun e w' => e = .returned (.bool ok) ∧ To w K { K with xs := ys } w' := by
  have k1 := (Keep.refl Nob w).alloc (.cells #[.int .i64 r.1, .int .i64 r.2] 120)
  have bR := Blk.new w 120 [.int .i64 r.1, .int .i64 r.2]
  obtain ⟨vo, hvo⟩ : ∃ b, decide (0 ≤ g ∧ g ≤ 7) = b := ⟨_, rfl⟩
  have henc := fun W => encf_is g W vo hvo
  rw [hvo] at hv
  have hst := fun W (kk : Keep Nob w W) A m hb oo yy hh => store_is (h.nob kk) r ho A m 4 (frontB g) rfl (fun x hx => by rw [hsz x hx]; rfl) hb oo yy hh
  have HH := Lib.hid h
  clear hsz hvo h ho
  generalize r.1 = r1 at *
  generalize r.2 = r2 at *
  go_enter Tryz.func51, Tryz.ntmps51
  go_wp2_with fail
  refine (henc _).mono ?_; rintro e w2 ⟨x, rfl, hT, k2⟩
  have kk := k1.trans k2 (fun _ _ f => f)
  have bR2 := bR.nob k2
  have d0 := bR2.cell 0
  have d1 := bR2.cell 1
  simp only [List.getElem?_cons_zero, List.getElem?_cons_succ] at d0 d1
  clear bR henc
  cases vo with
  | false =>
    unfold pset at hv
    simp at hv
    obtain ⟨rfl, rfl⟩ := hv
    clear hT
    go_wp2
    go_ret
    exact ⟨rfl, To.still HH.out.k kk⟩
  | true =>
    obtain ⟨A, m, rfl, hvv, _⟩ := hT
    unfold pset at hv
    rw [if_pos rfl] at hv
    have hcall := hst _ kk A m (by simpa using hvv.reads) ok ys hv
    clear hst hv hvv
    go_wp2_with fail
    refine hcall.mono ?_; rintro e w3 ⟨rfl, t⟩
    go_wp2
    go_ret
    exact ⟨rfl, t.pre kk⟩
end Go.Proofs.YtifigjccokpcfaaGreat.Co
namespace Go.Proofs.YtifigjccokpcfaaGreat.Co
open Go.RowKit
set_option linter.unusedVariables false
set_option linter.unusedSimpArgs false
theorem wsize1 {nb : Nat} {i : Int} (x) (h : wher nb (1, i) = some x) : x.2.2 = 24 := by
  unfold wher at h
  simp at h
  rw [← h.2]
theorem wsize2 {nb : Nat} {i : Int} (x) (h : wher nb (2, i) = some x) : x.2.2 = 8 := by
  unfold wher at h
  simp at h
  rw [← h.2]
theorem wsize3 {nb : Nat} {i : Int} (x) (h : wher nb (3, i) = some x) : x.2.2 = 40 := by
  unfold wher at h
  simp at h
  split at h
  · simp at h; rw [← h.2]
  · simp at h; rw [← h.2]
theorem wsize5 {nb : Nat} (x) (h : wher nb (5, 0) = some x) : x.2.2 = 4 := by
  unfold wher at h
  simp at h
  rw [← h]
theorem rec_i {k i : Int} (hk : 1 ≤ k ∧ k ≤ 3) (hi : Cd.Wf i) : RecOk (k, i) := ⟨⟨hk.1, by have := hk.2; show k ≤ 5; omega⟩, fun e => by have e : k = 4 ∨ k = 5 := e; omega, hi⟩
theorem rec_0 {k : Int} (hk : 4 ≤ k ∧ k ≤ 5) : RecOk (k, 0) := ⟨⟨by have := hk.1; show 1 ≤ k; omega, hk.2⟩, fun _ => rfl, by show (-9223372036854775808 : Int) ≤ 0 ∧ (0 : Int) ≤ 9223372036854775807; omega⟩
section
variable {w : World} {K : Kn} {C : Cm} {src : Src}
theorem readP_len {xs : List UInt8} {src : Src} {nb : Nat} {bad bad' : List Rf} {r : Rf} {v : List Int} {d : Int} (hv : pread Cd.dcd Cd.noP xs src nb bad r = ((v, d), bad')) : v.length = 16 := by
  have e : v = (pread Cd.dcd Cd.noP xs src nb bad r).1.1 := by rw [hv]
  rw [e]
  by_cases hbad : r ∈ bad
  · rw [pread_bad hbad]; rfl
  · cases hw : wher nb r with
    | none => rw [pread_none hbad hw]; rfl
    | some x => rw [pread_some hbad hw rfl]; exact Cd.dcd_len _
set_option maxRecDepth 100000 in
set_option maxHeartbeats 2000000 in
theorem proc_is (h : Kc w K C src) (i : Int) (hi : Cd.Wf i) (v : List Int) (d : Int) (bad' : List Rf) (hv : pread Cd.dcd Cd.noP K.xs src C.brs.length C.bad (1, i) = ((v, d), bad')) :
    Calls Tryz.prog 29 #[.pointer (some ⟨C.p, 0, none⟩), .int .i64 i] w fun e w' => e = .returned (.tuple #[.agg (ints v).toArray, .int .i64 d]) ∧ Ct w K K C { C with bad := bad' } src w' := by
  have hz : v.length = 16 := readP_len hv
  have hcall := fun W (kk : Keep Nob w W) => readP_is (h.nob kk) (1, i) (rec_i (by omega) hi) v d bad' hv
  have hpl := h.c.lt.1
  have hal := h.a_lt
  have HG := Lib.hid (And.intro hpl hal)
  have HH := Lib.hid h
  clear hpl hal hv h
  dsimp only at hcall
  go_enter Tryz.func29, Tryz.ntmps29
  go_wp2_with (refine flatP.wpList_al rfl rfl ?_; intro w1 hb1 hk1 hs1; clear hs1)
  have hK1 := hk1
  refine (hcall _ hk1).mono ?_; rintro e w2 ⟨rfl, t⟩
  have hb2 := Ct.off (HH.out.nob hK1) t hb1 (by decide)
  clear hcall
  go_wp2_with (refine flatP.wpList_st rfl rfl rfl rfl (cellsI hz) (cellsI rfl) hb2 ?_; intro w3 hb3 hk3 hs3; clear hs3)
  refine bodyPost_ret (v := .tuple #[.agg (ints v).toArray, .int .i64 d]) (flatP.results_pair rfl _ (cellsI hz) rfl hb3 _ rfl) rfl ?_
  exact ⟨rfl, (Ct.pre hK1 t).post hb2 (by decide) (by decide) (Nat.le_refl _) HG.out.1 HG.out.2 hk3⟩
set_option maxRecDepth 100000 in
set_option maxHeartbeats 2000000 in
theorem setProc_is (h : Kc w K C src) (i : Int) (hi : Cd.Wf i) (v : List Int) (hl : v.length = 16) (hw : ∀ x ∈ v, Cd.Wf x) (ok : Bool) (ys : List UInt8) (hv : pset (Cd.okd v) (Cd.enc v) K.xs src C.brs.length C.bad (1, i) = (ok, ys)) :
    Calls Tryz.prog 11 #[.pointer (some ⟨C.p, 0, none⟩), .int .i64 i, .agg (ints v).toArray] w fun e w' => e = .returned (.bool ok) ∧ To w K { K with xs := ys } w' := by
  have hcall := fun W (kk : Keep Nob w W) => writeP_is (h.nob kk) (1, i) (rec_i (by omega) hi) (fun x hx => wsize1 x hx) v hl hw ok ys hv
  have HC := Lib.hid (cellsI hl)
  clear hv h
  dsimp only at hcall
  go_enter Tryz.func11, Tryz.ntmps11
  go_wp2_with (first
    | (refine wpList_box rfl 39 _ rfl _ rfl ?_; intro w1 hb1 hk1 hs1; clear hs1; have hb1 : Blk w1 w.heap.size 39 (ints v) := hb1)
    | (refine flatP.wpList_ld rfl rfl rfl HC.out hb1 ?_))
  refine (hcall _ hk1).mono ?_; rintro e w2 ⟨rfl, t⟩
  go_wp2
  go_ret
  exact ⟨rfl, t.pre hk1⟩
theorem readF_len {xs : List UInt8} {src : Src} {nb : Nat} {bad bad' : List Rf} {r : Rf} {v : List Int} {d : Int} (hv : pread Fi.dcd Fi.noP xs src nb bad r = ((v, d), bad')) : v.length = 4 := by
  have e : v = (pread Fi.dcd Fi.noP xs src nb bad r).1.1 := by rw [hv]
  rw [e]
  by_cases hbad : r ∈ bad
  · rw [pread_bad hbad]; rfl
  · cases hw : wher nb r with
    | none => rw [pread_none hbad hw]; rfl
    | some x => rw [pread_some hbad hw rfl]; exact Fi.dcd_len _
set_option maxRecDepth 100000 in
set_option maxHeartbeats 2000000 in
theorem file_is (h : Kc w K C src) (i : Int) (hi : Cd.Wf i) (v : List Int) (d : Int) (bad' : List Rf) (hv : pread Fi.dcd Fi.noP K.xs src C.brs.length C.bad (2, i) = ((v, d), bad')) :
    Calls Tryz.prog 34 #[.pointer (some ⟨C.p, 0, none⟩), .int .i64 i] w fun e w' => e = .returned (.tuple #[.agg (ints v).toArray, .int .i64 d]) ∧ Ct w K K C { C with bad := bad' } src w' := by
  have hz : v.length = 4 := readF_len hv
  have hcall := fun W (kk : Keep Nob w W) => readF_is (h.nob kk) (2, i) (rec_i (by omega) hi) v d bad' hv
  have hpl := h.c.lt.1
  have hal := h.a_lt
  have HG := Lib.hid (And.intro hpl hal)
  have HH := Lib.hid h
  clear hpl hal hv h
  dsimp only at hcall
  go_enter Tryz.func34, Tryz.ntmps34
  go_wp2_with (refine flatF.wpList_al rfl rfl ?_; intro w1 hb1 hk1 hs1; clear hs1)
  have hK1 := hk1
  refine (hcall _ hk1).mono ?_; rintro e w2 ⟨rfl, t⟩
  have hb2 := Ct.off (HH.out.nob hK1) t hb1 (by decide)
  clear hcall
  go_wp2_with (refine flatF.wpList_st rfl rfl rfl rfl (cellsI hz) (cellsI rfl) hb2 ?_; intro w3 hb3 hk3 hs3; clear hs3)
  refine bodyPost_ret (v := .tuple #[.agg (ints v).toArray, .int .i64 d]) (flatF.results_pair rfl _ (cellsI hz) rfl hb3 _ rfl) rfl ?_
  exact ⟨rfl, (Ct.pre hK1 t).post hb2 (by decide) (by decide) (Nat.le_refl _) HG.out.1 HG.out.2 hk3⟩
set_option maxRecDepth 100000 in
set_option maxHeartbeats 2000000 in
theorem freeFile_is (h : Kc w K C src) (i : Int) (hi : Cd.Wf i) (ok : Bool) (ys : List UInt8) (hv : pwrite K.xs src C.brs.length C.bad (2, i) (List.replicate 8 0) = (ok, ys)) :
    Calls Tryz.prog 37 #[.pointer (some ⟨C.p, 0, none⟩), .int .i64 i] w fun e w' => e = .returned (.bool ok) ∧ To w K { K with xs := ys } w' := by
  have hcall := fun W (kk : Keep Nob w W) A hb => store_is (h.nob kk) (2, i) (rec_i (by omega) hi) A 8 8 (List.replicate 8 0) rfl (fun x hx => by rw [wsize2 x hx]; rfl) hb ok ys hv
  clear hv h
  dsimp only at hcall
  go_enter Tryz.func37, Tryz.ntmps37
  go_wp2_with (refine wpList_mk rfl _ _ 34 rfl 5 (.int .u8 0) 1 Tryz.underlying34 Cd.Tryz.info5 rfl .i64 .i64 8 _ rfl rfl rfl (by omega) (by omega) ?_; intro w1 hb1 hk1 hs1; clear hs1)
  rw [← bytes_replicate] at hb1
  refine (hcall _ hk1 _ (reads_all hb1 (by simp))).mono ?_; rintro e w2 ⟨rfl, t⟩
  go_wp2
  go_ret
  exact ⟨rfl, t.pre hk1⟩
theorem readR_len {xs : List UInt8} {src : Src} {nb : Nat} {bad bad' : List Rf} {r : Rf} {v : Ri.Pp} {d : Int} (hv : pread Ri.dcd Ri.noP xs src nb bad r = ((v, d), bad')) : v.d.length = 32 := by
  have e : v = (pread Ri.dcd Ri.noP xs src nb bad r).1.1 := by rw [hv]
  rw [e]
  by_cases hbad : r ∈ bad
  · rw [pread_bad hbad]; rfl
  · cases hw : wher nb r with
    | none => rw [pread_none hbad hw]; rfl
    | some x => rw [pread_some hbad hw rfl]; exact Ri.dcd_len _
set_option maxRecDepth 100000 in
set_option maxHeartbeats 2000000 in
theorem pipe_is (h : Kc w K C src) (i : Int) (hi : Cd.Wf i) (v : Ri.Pp) (d : Int) (bad' : List Rf) (hv : pread Ri.dcd Ri.noP K.xs src C.brs.length C.bad (3, i) = ((v, d), bad')) :
    Calls Tryz.prog 31 #[.pointer (some ⟨C.p, 0, none⟩), .int .i64 i] w fun e w' => e = .returned (.tuple #[.agg (Ri.pc v).toArray, .int .i64 d]) ∧ Ct w K K C { C with bad := bad' } src w' := by
  have hz : v.d.length = 32 := readR_len hv
  have hcall := fun W (kk : Keep Nob w W) => readR_is (h.nob kk) (3, i) (rec_i (by omega) hi) v d bad' hv
  have hpl := h.c.lt.1
  have hal := h.a_lt
  have HG := Lib.hid (And.intro hpl hal)
  have HH := Lib.hid h
  clear hpl hal hv h
  dsimp only at hcall
  go_enter Tryz.func31, Tryz.ntmps31
  go_wp2_with (refine flatR.wpList_al rfl rfl ?_; intro w1 hb1 hk1 hs1; clear hs1)
  have hK1 := hk1
  refine (hcall _ hk1).mono ?_; rintro e w2 ⟨rfl, t⟩
  have hb2 := Ct.off (HH.out.nob hK1) t hb1 (by decide)
  clear hcall
  go_wp2_with (refine flatR.wpList_st rfl rfl rfl rfl (cellsR hz) (cellsR rfl) hb2 ?_; intro w3 hb3 hk3 hs3; clear hs3)
  refine bodyPost_ret (v := .tuple #[.agg (Ri.pc v).toArray, .int .i64 d]) (flatR.results_pair rfl _ (cellsR hz) rfl hb3 _ rfl) rfl ?_
  exact ⟨rfl, (Ct.pre hK1 t).post hb2 (by decide) (by decide) (Nat.le_refl _) HG.out.1 HG.out.2 hk3⟩
set_option maxRecDepth 100000 in
set_option maxHeartbeats 2000000 in
theorem setPipe_is (h : Kc w K C src) (i : Int) (hi : Cd.Wf i) (v : Ri.Pp) (hl : v.d.length = 32) (ok : Bool) (ys : List UInt8) (hv : pset (Ri.okd v) (Ri.enc v) K.xs src C.brs.length C.bad (3, i) = (ok, ys)) :
    Calls Tryz.prog 15 #[.pointer (some ⟨C.p, 0, none⟩), .int .i64 i, .agg (Ri.pc v).toArray] w fun e w' => e = .returned (.bool ok) ∧ To w K { K with xs := ys } w' := by
  have hcall := fun W (kk : Keep Nob w W) => writeR_is (h.nob kk) (3, i) (rec_i (by omega) hi) (fun x hx => wsize3 x hx) v hl ok ys hv
  have HC := Lib.hid (cellsR hl)
  clear hv h
  dsimp only at hcall
  go_enter Tryz.func15, Tryz.ntmps15
  go_wp2_with (first
    | (refine wpList_box rfl 48 _ rfl _ rfl ?_; intro w1 hb1 hk1 hs1; clear hs1; have hb1 : Blk w1 w.heap.size 48 (Ri.pc v) := hb1)
    | (refine flatR.wpList_ld rfl rfl rfl HC.out hb1 ?_))
  refine (hcall _ hk1).mono ?_; rintro e w2 ⟨rfl, t⟩
  go_wp2
  go_ret
  exact ⟨rfl, t.pre hk1⟩
set_option maxRecDepth 100000 in
set_option maxHeartbeats 2000000 in
theorem term_is (h : Kc w K C src) (v : Ri.Pp) (d : Int) (bad' : List Rf) (hv : pread Ri.dcd Ri.noP K.xs src C.brs.length C.bad (4, 0) = ((v, d), bad')) :
    Calls Tryz.prog 35 #[.pointer (some ⟨C.p, 0, none⟩)] w fun e w' => e = .returned (.tuple #[.agg (Ri.pc v).toArray, .int .i64 d]) ∧ Ct w K K C { C with bad := bad' } src w' := by
  have hz : v.d.length = 32 := readR_len hv
  have hcall := fun W (kk : Keep Nob w W) => readR_is (h.nob kk) (4, 0) (rec_0 (by omega)) v d bad' hv
  have hpl := h.c.lt.1
  have hal := h.a_lt
  have HG := Lib.hid (And.intro hpl hal)
  have HH := Lib.hid h
  clear hpl hal hv h
  dsimp only at hcall
  go_enter Tryz.func35, Tryz.ntmps35
  go_wp2_with (refine flatR.wpList_al rfl rfl ?_; intro w1 hb1 hk1 hs1; clear hs1)
  have hK1 := hk1
  refine (hcall _ hk1).mono ?_; rintro e w2 ⟨rfl, t⟩
  have hb2 := Ct.off (HH.out.nob hK1) t hb1 (by decide)
  clear hcall
  go_wp2_with (refine flatR.wpList_st rfl rfl rfl rfl (cellsR hz) (cellsR rfl) hb2 ?_; intro w3 hb3 hk3 hs3; clear hs3)
  refine bodyPost_ret (v := .tuple #[.agg (Ri.pc v).toArray, .int .i64 d]) (flatR.results_pair rfl _ (cellsR hz) rfl hb3 _ rfl) rfl ?_
  exact ⟨rfl, (Ct.pre hK1 t).post hb2 (by decide) (by decide) (Nat.le_refl _) HG.out.1 HG.out.2 hk3⟩
set_option maxRecDepth 100000 in
set_option maxHeartbeats 2000000 in
theorem front_is (h : Kc w K C src) (v d : Int) (bad' : List Rf) (hv : pread fdec 0 K.xs src C.brs.length C.bad (5, 0) = ((v, d), bad')) :
    Calls Tryz.prog 36 #[.pointer (some ⟨C.p, 0, none⟩)] w fun e w' => e = .returned (.tuple #[.int .i64 v, .bool (d == 1)]) ∧ Ct w K K C { C with bad := bad' } src w' := by
  have hcall := readI_is h (5, 0) (rec_0 (by omega)) v d bad' hv
  clear hv h
  dsimp only at hcall
  obtain ⟨o, ho⟩ : ∃ o, (d == 1) = o := ⟨_, rfl⟩
  rw [ho]
  go_enter Tryz.func36, Tryz.ntmps36
  go_wp2_with fail
  refine hcall.mono ?_; rintro e w2 ⟨rfl, t⟩
  go_wp2
  go_ret2
  exact ⟨rfl, t⟩
theorem setFront_is (h : Kc w K C src) (g : Int) (ok : Bool) (ys : List UInt8) (hv : pset (decide (0 ≤ g ∧ g ≤ 7)) (frontB g) K.xs src C.brs.length C.bad (5, 0) = (ok, ys)) :
    Calls Tryz.prog 17 #[.pointer (some ⟨C.p, 0, none⟩), .int .i64 g] w fun e w' => e = .returned (.bool ok) ∧ To w K { K with xs := ys } w' := by
  have hcall := writeI_is h (5, 0) (rec_0 (by omega)) (fun x hx => wsize5 x hx) g ok ys hv
  clear hv h
  dsimp only at hcall
  go_enter Tryz.func17, Tryz.ntmps17
  go_wp2_with fail
  refine hcall.mono ?_; rintro e w2 ⟨rfl, t⟩
  go_wp2
  go_ret
  exact ⟨rfl, t⟩
theorem view_is (h : Kc w K C src) (bs : List UInt8) (hbs : got K.xs src (0, 0, 492) = bs) :
    Calls Tryz.prog 10 #[.pointer (some ⟨C.p, 0, none⟩)] w fun e w' => ∃ A' c', e = .returned (.slice A' bs.length c') ∧ Reads w' A' bs.length (bytes bs) ∧ To w K K w' := by
  have hcall := load_is h 0 0 492 (Nat.zero_le _) (by simp) C.name rfl bs hbs
  have c2 : w.cell? ⟨C.p, 2, none⟩ = some (.int .i64 C.name) := h.c.obj.cell 2
  have e0 : ((0 : Nat) : Int) = 0 := rfl
  have e1 : ((492 : Nat) : Int) = 492 := rfl
  rw [e0, e1] at hcall
  clear hbs h e0 e1
  go_enter Tryz.func10, Tryz.ntmps10
  go_wp2_with fail
  refine hcall.mono ?_; rintro e w2 ⟨A', c', rfl, hr, t⟩
  go_wp2
  go_ret
  exact ⟨_, _, rfl, hr, t⟩
end
end Go.Proofs.YtifigjccokpcfaaGreat.Co
