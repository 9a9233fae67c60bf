/- The walk of CodecLent. -/
import Derived.Test.YtcamgelnkjghbaaCod2
import Derived.Deep.CutBlock
import Derived.Deep.RegionLaw
namespace Go.Proofs.Ytcamgelnkjghbaa
open Go.RowKit
set_option linter.unusedVariables false
set_option linter.unusedSimpArgs false
set_option maxHeartbeats 1000000 in
theorem lent1_is (g q k c : Nat) (u : Value) (s : List UInt8) (w : World) (hb : Blk w g 5 (bytes (List.replicate k 0))) (hq : Blk w q 22 [u]) (hk : k ≤ 64) (hs : s.length = k) :
    Calls Try.prog 29 #[.string (str s), .slice (some ⟨g, 0, none⟩) k c, .pointer (some ⟨q, 0, none⟩)] w fun e w' => e = .returned (.bool true) ∧ Blk w' g 5 (bytes (laid k s)) ∧ Blk w' q 22 [.slice (some ⟨g, 0, none⟩) k c] ∧ Keep (fun b => b = g ∨ b = q) w w' := by
  have hsz := str_size s
  have hne : g ≠ q := hb.ne_ hq (by decide)
  have hml : (((s.take k).length : Nat) : Int) = (k : Int) := by rw [List.length_take]; omega
  have c0 : w.cell? ⟨q, 0, none⟩ = some u := hq.cell 0
  have f0 := hq.frozen 0
  rw [hs] at hsz
  have HB := Lib.hid hb
  have HQ := Lib.hid hq
  clear hb hq
  go_enter Try.func29, Try.ntmps29
  go_wp2_with (refine wpList_cpm rfl _ _ 22 9 rfl 5 Try.underlying22 Try.size5 (some ⟨g, 0, none⟩) k c s rfl rfl g 0 _ 5 (HB.out.far hne _) (fun _ => rfl) (by simp) k hml ?_; intro w1 hb1 hk1)
  go_ret
  refine ⟨rfl, by rw [laid, ← splice_bytes]; exact hb1, ((HQ.out.setCell 0 _).keep hk1 (fun e => hne e.symm)), ?_⟩
  exact ((Keep.refl (fun b => b = g ∨ b = q) w).setCell ⟨q, 0, none⟩ _ (fun _ => .inr rfl)).trans hk1 (fun b _ e => .inl e)
set_option maxHeartbeats 1000000 in
theorem lent2_is (A : Option Addr) (n c : Nat) (l : List UInt8) (w : World) (hv : Vec w 5 1 A n c (bytes l)) (h0 : 0 < n) (hn : n ≤ 64) :
    Calls Try.prog 30 #[.slice A n c] w fun e w' => e = .returned (.tuple #[.string (str (l.set 0 (l.getD 0 0 + 1))), .bool true]) ∧ Keep (Own A) w w' := by
  have hl : l.length = n := by simpa using hv.len
  obtain ⟨g, cur, rfl, hcur, hid, hcl, hct⟩ := hv.at_ h0
  rw [Nat.mul_one] at hct
  have c0 : w.cell? ⟨g, 0, none⟩ = some (.int .u8 ((l.getD 0 0).toNat : Int)) := by
    rw [hcur.cell, ← bytes_getD (by omega), ← hct, List.getElem?_take, if_pos h0]
  have f0 := hcur.frozen 0
  have hn0 : (0 : Int) < (n : Int) := by omega
  have hw : ((((l.getD 0 0) + 1).toNat : Nat) : Int) = (((l.getD 0 0).toNat : Int) + 1) % 256 := by rw [UInt8.toNat_add]; simp
  have vG := hv.setCell 0 (.int .u8 (((l.getD 0 0).toNat + 1) % 256))
  rw [bytes_set l 0 (l.getD 0 0 + 1) _ hw] at vG
  have r := vG.reads
  rw [Nat.mul_one] at r
  have s1 := fun c => run_str (P := Try.prog) _ 22 9 5 _ n c _ Try.underlying22 Try.underlying5 Try.underlying9 r
  have hu := u8_lt (l.getD 0 0)
  have kf : Keep (Own (some (⟨g, 0, none⟩ : Addr))) w (w.setCell ⟨g, 0, none⟩ (.int .u8 (((l.getD 0 0).toNat + 1) % 256))) := (Keep.refl _ w).setCell ⟨g, 0, none⟩ _ (fun _ => ⟨_, rfl, rfl⟩)
  clear vG r hw hcur hid hcl hct hv
  generalize str (l.set 0 (l.getD 0 0 + 1)) = V at *
  generalize (l.getD 0 0).toNat = x at *
  go_enter Try.func30, Try.ntmps30
  go_wp2
  go_ret2
  exact ⟨rfl, kf⟩
theorem laid_all {k : Nat} {s : List UInt8} (h : s.length = k) : laid k s = s := by rw [laid_fits (by omega), h, Nat.sub_self]; simp
set_option maxHeartbeats 1000000 in
theorem encs_lent (p q k : Nat) (u : Value) (s : List UInt8) (G : Fn) (c d : Array Value) (w : World) (hb : Blk w p 53 [.int .i64 k, .func (.func 29) #[] #[.pointer (some ⟨q, 0, none⟩)], .func G c d]) (hq : Blk w q 22 [u]) (hk : k ≤ 64) (hs : s.length = k) :
    Calls Try.prog 27 #[.pointer (some ⟨p, 0, none⟩), .string (str s)] w fun e w' => ∃ A m g c', e = .returned (.tuple #[.slice A k m, .bool true]) ∧ Reads w' A k (bytes s) ∧ Blk w' q 22 [.slice (some ⟨g, 0, none⟩) k c'] ∧ Keep (· = q) w w' := by
  have c0 := hb.cell 0
  simp only [List.getElem?_cons_zero] at c0
  have hnil := fnil3
  go_enter Try.func27, Try.ntmps27
  go_wp2_with (refine wpList_mk rfl _ _ 22 rfl 5 (.int .u8 0) 1 Try.underlying22 Try.info5 rfl .i64 .i64 k _ rfl rfl rfl (by omega) (by omega) ?_; intro w1 hb1 hk1 hs1; clear hs1; have c1 : w1.cell? ⟨p, 1, none⟩ = some (.func (.func 29) #[] #[.pointer (some ⟨q, 0, none⟩)]) := by rw [(hb.nob hk1).cell]; rfl)
  rw [← bytes_replicate] at hb1
  refine (lent1_is _ q k k u s _ hb1 (hq.nob hk1) hk hs).mono ?_; rintro e w2 ⟨rfl, b2, q2, k2⟩
  have K2 : Keep (· = q) w w2 := (hk1.mono (fun _ _ f => f.elim)).trans k2 (fun b hb h1 => by rcases h1 with h3 | h3; · omega
                                                                                              · exact h3)
  rw [laid_all hs] at b2
  have r2 := reads_all b2 (by rw [bytes_length, hs])
  clear b2 k2 hb1 hk1 c1
  go_wp2_with fail
  refine (clone_is _ _ _ _ _ r2 (by omega)).mono ?_; rintro e w3 ⟨B, m, rfl, v3, k3, o3⟩
  have r3 := v3.reads
  rw [Nat.mul_one] at r3
  go_wp2
  go_ret2
  exact ⟨B, m, _, _, rfl, r3, q2.nob k3, K2.trans k3 (fun _ _ f => f.elim)⟩
set_option maxHeartbeats 1000000 in
theorem decs_lent (p k : Nat) (F : Fn) (a b : Array Value) (A : Option Addr) (n cap : Nat) (l : List UInt8) (w : World) (hb : Blk w p 53 [.int .i64 k, .func F a b, .func (.func 30) #[] #[]]) (hn : n = k) (h0 : 0 < n) (hk : k ≤ 64) (hr : Reads w A n (bytes l)) :
    Calls Try.prog 28 #[.pointer (some ⟨p, 0, none⟩), .slice A n cap] w fun e w' => e = .returned (.tuple #[.string (str (l.set 0 (l.getD 0 0 + 1))), .bool true]) ∧ Keep Nob w w' := by
  subst hn
  have c2 : w.cell? ⟨p, 2, none⟩ = some (.func (.func 30) #[] #[]) := hb.cell 2
  have c0 : w.cell? ⟨p, 0, none⟩ = some (.int .i64 n) := hb.cell 0
  have hnil := fnil4
  go_enter Try.func28, Try.ntmps28
  go_wp2_with fail
  have kd : Keep Nob w w.drew := Keep.nobdrew w
  have cd : w.drew.cell? ⟨p, 2, none⟩ = some (.func (.func 30) #[] #[]) := c2
  have HB := Lib.hid hb
  go_region_held3 (fun w' => w'.cell? ⟨p, 2, none⟩ = some (.func (.func 30) #[] #[]) ∧ w'.cell? ⟨p, 2, none⟩ = some (.func (.func 30) #[] #[])) (first | exact ⟨cd, cd⟩ | exact ⟨(HB.out.nob (kd.nobt k1)).cell 2, (HB.out.nob (kd.nobt k1)).cell 2⟩ | exact ⟨(HB.out.nob K2).cell 2, (HB.out.nob K2).cell 2⟩)
    (first | (go_at_call 34; refine (clone_is A n cap l _ (hr.nob kd) (by omega)).mono ?_; rintro e w1 ⟨A', c', rfl, v1, k1, o1⟩) | (go_at_call 30; refine (lent2_is _ _ _ l _ v1 h0 hk).mono ?_; rintro e w2 ⟨rfl, k2⟩; have K2 : Keep Nob w w2 := (kd.nobt k1).trans k2 (fun b hb ho => absurd (o1 b ho) (by show ¬ w.heap.size ≤ b; omega))))
  have fin := K2
  go_wp2
  go_ret2
  exact ⟨rfl, fin⟩
set_option maxRecDepth 100000 in
set_option maxHeartbeats 4000000 in
theorem CodecLent_in (w : World) (A : Option Addr) (n c : Nat) (l : List UInt8) (ra : Reads w A n (bytes l)) (h0 : 0 < n) (h64 : n ≤ 64) :
    Calls Try.prog 6 #[.slice A n c] w fun e w' => e = .returned (.bool true) ∧ Below w.heap.size w w' := by
  have hl : l.length = n := by simpa using ra.1
  have hn : (n : Int) ≤ 64 := by omega
  have hn3 : ((n : Int) == 0) = false := by rw [beq_eq_false_iff_ne]; omega
  have hmf : ∀ (fn : Fn) (first cap : Array Value) (w : World), (Instr.makeFunc fn first cap).run Try.prog w = .ok (.func fn first cap) w := fun _ _ _ _ => rfl
  obtain ⟨b, off, rfl, hc0⟩ := ra.lit h0
  have RA := Lib.hid ra
  have HL := Lib.hid hl
  clear ra hl hc0
  go_enter Try.func6, Try.ntmps6
  go_wp2_with fail
  have q1 := Blk.new w 22 [.slice none 0 0]
  have K1 : Keep (From w.heap.size) w (w.alloc (.cells #[.slice none 0 0] 22)) := (Keep.refl _ w).alloc _
  generalize w.alloc (.cells #[.slice none 0 0] 22) = w1 at *
  generalize hqd : w.heap.size = q at q1
  have hq0 : w.heap.size ≤ q := by omega
  refine (news_is n n n _ _ _ _ _ _ w1 (by rw [if_neg]; omega) (by rw [if_neg]; omega)).mono ?_; rintro e w2 ⟨rfl, b2, k2⟩
  generalize w1.heap.size = p at *
  have q2 := q1.nob k2
  have hq2 := q2.lt
  have K2 := K1.nob k2
  clear q1 K1 k2 hqd
  go_wp2_with (at_builtin; go_loud (refine wpList_ap rfl _ _ 22 rfl 5 1 1 (.int .u8 0) Try.underlying22 Try.info5 rfl (by decide) (some ⟨w2.heap.size, 0, none⟩) 0 0 [] rfl (Vec.of_blk (Blk.new w2 5 []) rfl (by decide)) (some ⟨b, off, none⟩) n c (bytes l) rfl _ (Nat.mul_one _) ((RA.out.from_ K2).nob ((Keep.refl Nob w2).alloc _)) (bytes_one l) (by unfold maxLen; omega) (by omega) ?_); intro F dF w3 hvF hkF hoF; obtain ⟨vF, k3, oF⟩ := ap_new hvF hkF hoF; clear hvF hkF hoF)
  have b3 := b2.nob k3
  have q3 := q2.nob k3
  have K3 := K2.nob k3
  have r3 := vF.reads
  rw [Nat.mul_one] at r3
  clear b2 q2 K2 k3 vF
  have hdec := decs_lent p n _ _ _ F n dF l w3 b3 rfl h0 h64 r3
  obtain ⟨V0, hV0⟩ : ∃ V0, str (l.set 0 (l.getD 0 0 + 1)) = V0 := ⟨_, rfl⟩
  rw [hV0] at hdec
  have HV0 := Lib.hid hV0
  clear hV0
  refine hdec.mono ?_; rintro e w4 ⟨rfl, k4⟩
  clear hdec
  have b4 := b3.nob k4
  have q4 := q3.nob k4
  have K4 := K3.nob k4
  have r4 := r3.nob k4
  clear b3 q3 K3 r3 k4
  have s4 := fun c => run_str (P := Try.prog) w4 22 9 5 _ n c l Try.underlying22 Try.underlying5 Try.underlying9 (RA.out.from_ K4)
  go_wp2_with fail
  refine (encs_lent p q n _ l _ _ _ w4 b4 q4 h64 HL.out).mono ?_; rintro e w5 ⟨B, m, g, c', rfl, rB, q5, k5⟩
  have K5 := K4.at_ k5 hq0
  have r5 := r4.keep k5 (fun ad hA e => by have := oF ad.block ⟨ad, hA, rfl⟩; omega)
  have hS : ∀ W, Keep Nob w5 W → (convert 22 9 (.slice F n dF)).run Try.prog W = .ok (.string (str l)) W ∧ (convert 22 9 (.slice B n m)).run Try.prog W = .ok (.string (str l)) W ∧ (convert 22 9 (.slice (some ⟨b, off, none⟩) n c)).run Try.prog W = .ok (.string (str l)) W ∧
      W.cell? ⟨b, off, none⟩ = some (.int .u8 ((l.getD 0 0).toNat : Int)) ∧ W.cell? ⟨q, 0, none⟩ = some (.slice (some ⟨g, 0, none⟩) n c') := fun W k => by
    refine ⟨run_str (P := Try.prog) W 22 9 5 _ n _ l Try.underlying22 Try.underlying5 Try.underlying9 (r5.nob k), run_str (P := Try.prog) W 22 9 5 _ n _ l Try.underlying22 Try.underlying5 Try.underlying9 (rB.nob k),
      run_str (P := Try.prog) W 22 9 5 _ n _ l Try.underlying22 Try.underlying5 Try.underlying9 ((RA.out.from_ K5).nob k), ?_, (q5.nob k).cell 0⟩
    obtain ⟨b', off', h1, h2⟩ := ((RA.out.from_ K5).nob k).lit h0
    cases h1
    exact h2 0 _ (bytes_getD (by rw [HL.out]; exact h0))
  have hVl : V0.size = n := by rw [← HV0.out, str_size, List.length_set, HL.out]
  have hV1 : 0 < V0.size := by rw [hVl]; exact h0
  have hV0 : V0[0] = l.getD 0 0 + 1 := by
    have e : ∀ (V : ByteArray) (h : 0 < V.size), str (l.set 0 (l.getD 0 0 + 1)) = V → V[0] = l.getD 0 0 + 1 := by
      intro V h e
      subst e
      rw [str_at _ _ h, List.getD_eq_getElem?_getD, List.getElem?_set_self (by rw [HL.out]; exact h0)]
      rfl
    exact e V0 hV1 HV0.out
  have hy : (((l.getD 0 0 + 1).toNat : Nat) : Int) = (((l.getD 0 0).toNat : Int) + 1) % 256 := by rw [UInt8.toNat_add]; simp
  have hV1' : (0 : Int) < (V0.size : Int) := by omega
  clear r4 rB q5 k5 r5 oF HV0
  generalize str l = V at *
  generalize l.getD 0 0 + 1 = y at *
  generalize l.getD 0 0 = x at *
  have hxu := u8_lt x
  obtain ⟨yv, hyv⟩ : ∃ yv : Int, ((x.toNat : Int) + 1) % 256 = yv := ⟨_, rfl⟩
  rw [hyv] at hy
  have hyw : IntKind.u8.wrap ((x.toNat : Int) + 1) = yv := by rw [← hyv]; simp [IntKind.wrap, IntKind.bits, IntKind.signed]
  have HS := Lib.hid hS
  have s5 := hS w5 (Keep.refl _ _)
  obtain ⟨s5a, s5b, s5c, s5d, s5e⟩ := s5
  clear hS
  go_wp2_with fail
  have kd := Keep.nobdrew w5
  have sd := HS.out _ kd
  go_region_held3 (fun w' => (convert 22 9 (.slice F n dF)).run Try.prog w' = .ok (.string V) w' ∧ (convert 22 9 (.slice B n m)).run Try.prog w' = .ok (.string V) w' ∧ (convert 22 9 (.slice (some ⟨b, off, none⟩) n c)).run Try.prog w' = .ok (.string V) w' ∧
      w'.cell? ⟨b, off, none⟩ = some (.int .u8 (x.toNat : Int)) ∧ w'.cell? ⟨q, 0, none⟩ = some (.slice (some ⟨g, 0, none⟩) n c'))
    (first | exact sd | exact HS.out _ (kd.nobt k6))
    (first | (go_at_call 8; refine (awake_is _).mono ?_; rintro e w6 ⟨rfl, k6⟩))
  have fin := (K5.nob (kd.nobt k6)).done
  go_wp2
  go_ret
  exact ⟨rfl, fin⟩
set_option maxRecDepth 100000 in
set_option maxHeartbeats 2000000 in
theorem CodecLent_out (w : World) (A : Option Addr) (n c : Nat) (h : n = 0 ∨ 64 < n) :
    Calls Try.prog 6 #[.slice A n c] w fun e w' => e = .returned (.bool true) ∧ Below w.heap.size w w' := by
  rcases h with rfl | h
  · go_enter Try.func6, Try.ntmps6
    go_wp2_with fail
    refine (awake_is _).mono ?_; rintro e w7 ⟨rfl, hk7⟩
    go_wp2
    go_ret
    exact ⟨rfl, ((Keep.refl (From w.heap.size) w).nob hk7).done⟩
  · have h1 : (64 : Int) < (n : Int) := by omega
    have ha3 : ((n : Int) == 0) = false := by rw [beq_eq_false_iff_ne]; omega
    go_enter Try.func6, Try.ntmps6
    go_wp2_with fail
    refine (awake_is _).mono ?_; rintro e w7 ⟨rfl, hk7⟩
    go_wp2
    go_ret
    exact ⟨rfl, ((Keep.refl (From w.heap.size) w).nob hk7).done⟩
theorem CodecLent_walk (w : World) (A0 : Option Addr) (n0 c0 : Nat) (x0 : Ty.den (.sl 1 .byte)) (w0 : Holds w (.sl 1 .byte) x0 [.slice A0 n0 c0]) :
    Calls Try.prog 6 #[.slice A0 n0 c0] w fun e w' => e = .returned (.bool true) ∧ Below w.heap.size w w' := by
  obtain ⟨_, r0, _, _⟩ := holds_bytes w0
  by_cases h : n0 = 0 ∨ 64 < n0
  · exact CodecLent_out w A0 n0 c0 h
  · exact CodecLent_in w A0 n0 c0 x0 r0 (by omega) (by omega)
end Go.Proofs.Ytcamgelnkjghbaa
