/- The walk of QuotaAlone: what one session is told hangs on its own calls alone. -/
import Derived.Test.YtnhbkkcllhgapaaLaw4a
namespace Go.Proofs.Ytnhbkkcllhgapaa
open Go.RowKit
set_option linter.unusedVariables false
set_option linter.unusedSimpArgs false
abbrev OpTy4 : Ty := .pair (.int .i64) (.pair (.int .i64) (.pair (.int .i64) .unit))
theorem op4_cells {w : World} {x : OpTy4.den} {cs : List Value} (h : Holds w OpTy4 x cs) : ∃ o0 o1 o2 : Int, cs = [.int .i64 o0, .int .i64 o1, .int .i64 o2] := by
  obtain ⟨c1, c2, rfl, ⟨rfl, _⟩, d1, d2, rfl, ⟨rfl, _⟩, e1, e2, rfl, ⟨rfl, _⟩, h4⟩ := h
  simp only [Holds] at h4
  subst h4
  exact ⟨_, _, _, rfl⟩
theorem al_same {n : Nat} {b b2 : Nat → List Bool} {s : Nat} {v er : Int} {b' : Nat → List Bool} (e : b s = b2 s) (h : al n b s = (v, er, b')) : ∃ b2', al n b2 s = (v, er, b2') ∧ b' s = b2' s := by
  unfold al at h ⊢
  rw [Int.toNat_natCast] at h ⊢
  rw [← e]
  by_cases h1 : (0 : Int) ≤ (s : Int) ∧ (s : Int) < n
  · rw [if_pos h1] at h ⊢
    by_cases h2 : (b s).idxOf false < (b s).length
    · rw [if_pos h2] at h ⊢
      cases h
      exact ⟨_, rfl, by simp [up]⟩
    · rw [if_neg h2] at h ⊢
      cases h
      exact ⟨_, rfl, e⟩
  · rw [if_neg h1] at h ⊢
    cases h
    exact ⟨_, rfl, e⟩
theorem fr_same {n : Nat} {b b2 : Nat → List Bool} {s : Nat} {k er : Int} {b' : Nat → List Bool} (e : b s = b2 s) (h : fr n b s k = (er, b')) : ∃ b2', fr n b2 s k = (er, b2') ∧ b' s = b2' s := by
  have eo : owns n b s k = owns n b2 s k := by unfold owns; rw [Int.toNat_natCast, e]
  unfold fr at h ⊢
  rw [Int.toNat_natCast] at h ⊢
  rw [← e, ← eo]
  by_cases h1 : (0 : Int) ≤ (s : Int) ∧ (s : Int) < n
  · rw [if_pos h1] at h ⊢
    by_cases h2 : owns n b s k = true
    · rw [if_pos h2] at h ⊢
      cases h
      exact ⟨_, rfl, by simp [up]⟩
    · rw [if_neg h2] at h ⊢
      cases h
      exact ⟨_, rfl, e⟩
  · rw [if_neg h1] at h ⊢
    cases h
    exact ⟨_, rfl, e⟩
theorem al_other {n : Nat} {b : Nat → List Bool} {s t : Nat} {v er : Int} {b' : Nat → List Bool} (hne : t ≠ s) (h : al n b t = (v, er, b')) : b' s = b s := by
  unfold al at h
  rw [Int.toNat_natCast] at h
  by_cases h1 : (0 : Int) ≤ (t : Int) ∧ (t : Int) < n
  · rw [if_pos h1] at h
    by_cases h2 : (b t).idxOf false < (b t).length
    · rw [if_pos h2] at h
      cases h
      exact if_neg (fun e => hne e.symm)
    · rw [if_neg h2] at h
      cases h
      rfl
  · rw [if_neg h1] at h
    cases h
    rfl
theorem fr_other {n : Nat} {b : Nat → List Bool} {s t : Nat} {k er : Int} {b' : Nat → List Bool} (hne : t ≠ s) (h : fr n b t k = (er, b')) : b' s = b s := by
  unfold fr at h
  rw [Int.toNat_natCast] at h
  by_cases h1 : (0 : Int) ≤ (t : Int) ∧ (t : Int) < n
  · rw [if_pos h1] at h
    by_cases h2 : owns n b t k = true
    · rw [if_pos h2] at h
      cases h
      exact if_neg (fun e => hne e.symm)
    · rw [if_neg h2] at h
      cases h
      rfl
  · rw [if_neg h1] at h
    cases h
    rfl
theorem used_same {n : Nat} {b b2 : Nat → List Bool} {s : Nat} (e : b s = b2 s) : used n b s = used n b2 s := by unfold used; rw [Int.toNat_natCast, e]
section
variable {w0 w w' : World} {p p2 : Nat} {A A2 : Option Addr} {cap cap2 : Nat} {g g2 : Nat → Nat} {ns ns2 : List Nat} {b b' b2 : Nat → List Bool}
theorem Q0.other (h : Q0 w0 w p A cap g ns b) (h2 : Q0 w0 w p2 A2 cap2 g2 ns2 b2) (ne : ∀ i j, i < ns2.length → j < ns.length → g2 i ≠ g j) (k : Keep (Rw ns.length g) w w') : Q0 w0 w' p2 A2 cap2 g2 ns2 b2 :=
  ⟨h2.q.far h.q (by decide) (by decide) ne k, h2.lo, h.rows k⟩
end
theorem Q0.offT {w0 w w' : World} {p : Nat} {A : Option Addr} {cap : Nat} {g : Nat → Nat} {ns : List Nat} {b : Nat → List Bool} {x : Nat} {t : TypeId} {cs : List Value} (h : Q0 w0 w p A cap g ns b) (hb : Blk w x t cs) (ht : t ≠ 4) (k : Keep (Rw ns.length g) w w') : Blk w' x t cs :=
  hb.keep k (fun ⟨i, hi, e⟩ => hb.ne_ (h.q.tab i hi) ht e.symm)
/-- What a round of QuotaAlone knows. -/
structure AlnAt (w0 w : World) (s : Nat) (ns : List Nat) (p : Nat) (A : Option Addr) (cap : Nat) (g : Nat → Nat) (b : Nat → List Bool) (p2 : Nat) (A2 : Option Addr) (cap2 : Nat) (g2 : Nat → Nat) (b2 : Nat → List Bool) : Prop where
  qa : Q0 w0 w p A cap g ns b
  qb : Q0 w0 w p2 A2 cap2 g2 ns b2
  ne : ∀ i j, i < ns.length → j < ns.length → g2 i ≠ g j
  eq : b s = b2 s
theorem AlnAt.nob {w0 w w' : World} {s : Nat} {ns : List Nat} {p : Nat} {A : Option Addr} {cap : Nat} {g : Nat → Nat} {b : Nat → List Bool} {p2 : Nat} {A2 : Option Addr} {cap2 : Nat} {g2 : Nat → Nat} {b2 : Nat → List Bool} (h : AlnAt w0 w s ns p A cap g b p2 A2 cap2 g2 b2) (k : Keep Nob w w') : AlnAt w0 w' s ns p A cap g b p2 A2 cap2 g2 b2 := ⟨h.qa.nob k, h.qb.nob k, h.ne, h.eq⟩
set_option maxRecDepth 100000 in
set_option maxHeartbeats 16000000 in
theorem alone_core (w : World) (A0 : Option Addr) (n0 c0 : Nat) (x0 : Ty.den (.sl 24 OpTy4)) (w0 : Holds w (.sl 24 OpTy4) x0 [.slice A0 n0 c0]) (a1 : Int) (m s : Nat) (hm : bits .and .i64 a1 255 = (m : Int)) (hs : (m : Int) % 3 = (s : Int)) (hs2 : (m : Int).tmod 3 = (s : Int)) (hs3 : s < 3) :
    Calls Try.prog 4 #[.slice A0 n0 c0, .int .i64 a1] w fun e w' => e = .returned (.bool true) ∧ Below w.heap.size w w' := by
  have W0 := Lib.hid w0
  clear w0
  have k0 := (Keep.refl Nob w).alloc (.cells #[.int .i64 4, .int .i64 5, .int .i64 3] 3)
  have hx : Reads (w.alloc (.cells #[.int .i64 4, .int .i64 5, .int .i64 3] 3)) (some ⟨w.heap.size, 0, none⟩) 3 (ints [4, 5, 3]) := reads_all (Blk.new w 3 [.int .i64 4, .int .i64 5, .int .i64 3]) rfl
  have K0 := (Keep.refl (From w.heap.size) w).nob k0
  go_enter Try.func4, Try.ntmps4
  go_wp2_with fail
  refine (q0_new hx (Nat.le_refl _) [4, 5, 3] rfl K0).mono ?_; rintro e w1 ⟨p, A, cap, g, rfl, h1, -, k1⟩
  have hx2 : Reads (w1.alloc (.cells #[.int .i64 4, .int .i64 5, .int .i64 3] 3)) (some ⟨w1.heap.size, 0, none⟩) 3 (ints [4, 5, 3]) := reads_all (Blk.new w1 3 [.int .i64 4, .int .i64 5, .int .i64 3]) rfl
  have k2 := (Keep.refl Nob w1).alloc (.cells #[.int .i64 4, .int .i64 5, .int .i64 3] 3)
  have h2 := h1.nob k2
  clear hx k0 K0 k1
  go_wp2_with fail
  refine (q0_new hx2 (Nat.le_refl _) [4, 5, 3] rfl h2.keep).mono ?_; rintro e w2 ⟨p2, A2, cap2, g2, rfl, h3, lo3, k3⟩
  have H0 : AlnAt w w2 s [4, 5, 3] p A cap g (fun i => List.replicate ([4, 5, 3].getD i 0) false) p2 A2 cap2 g2 (fun i => List.replicate ([4, 5, 3].getD i 0) false) :=
    ⟨h2.nob k3, h3, fun i j hi hj e => by have h4 := lo3 i hi; have h5 := (h2.q.tab j hj).lt; omega, rfl⟩
  clear hx2 k2 h1 h2 h3 lo3 k3
  generalize [4, 5, 3] = ns at *
  generalize (fun i => List.replicate (ns.getD i 0) false) = b0 at *
  go_wp2_with fail
  go_loopw [7] (fun s7 wx => ∃ (i : Nat) (b b2 : Nat → List Bool), i ≤ n0 ∧ i ≤ 100 ∧ s7 = .int .i64 i ∧ AlnAt w wx s ns p A cap g b p2 A2 cap2 g2 b2) (fun s7 _ => 100 - (intOf s7).toNat)
  case atStart => exact ⟨0, _, _, Nat.zero_le _, Nat.zero_le _, rfl, H0⟩
  case round =>
    obtain ⟨i, b, b2, hi, hi100, rfl, H⟩ := hrel
    obtain ⟨bo, hbo⟩ : ∃ bo, bo = decide (i < n0 ∧ i < 100) := ⟨_, rfl⟩
    have Hbo := Lib.hid hbo
    clear hbo H0
    go_upto_region 6 with fail
    go_cut [34] from 27 to 34 (fun s34 wx => s34 = .bool bo ∧ wx = wr)
    case first =>
      by_cases h1 : i < n0
      · by_cases h2 : i < 100
        · have h3 : decide (i < n0 ∧ i < 100) = true := by simp [h1, h2]
          go_wp2_with fail
          go_meet
          exact ⟨by (try rw [Hbo.out, h3]); (first | rfl | exact congrArg Value.bool (decide_eq_true (by omega)) | exact congrArg Value.bool (decide_eq_false (by omega)) | skip), rfl⟩
        · have h3 : decide (i < n0 ∧ i < 100) = false := by simp [h2]
          go_wp2_with fail
          go_meet
          exact ⟨by (try rw [Hbo.out, h3]); (first | rfl | exact congrArg Value.bool (decide_eq_true (by omega)) | exact congrArg Value.bool (decide_eq_false (by omega)) | skip), rfl⟩
      · have h3 : decide (i < n0 ∧ i < 100) = false := by simp [h1]
        go_wp2_with fail
        go_meet
        exact ⟨by (try rw [Hbo.out, h3]); (first | rfl | exact congrArg Value.bool (decide_eq_true (by omega)) | exact congrArg Value.bool (decide_eq_false (by omega)) | skip), rfl⟩
    case rest =>
    obtain ⟨rfl, hw⟩ := hcut
    have hw := hw.symm
    subst hw
    cases bo with
    | true =>
      obtain ⟨hin, hi2⟩ : i < n0 ∧ i < 100 := of_decide_eq_true Hbo.out.symm
      obtain ⟨bb, off, cs', hA0, hcl, hcc, hk', hh⟩ := holds_at W0.out (by decide) hin
      obtain ⟨o0, o1, o2, rfl⟩ := op4_cells hh
      subst hA0
      have f0 := H.qa.keep.cell_from (hcc 0 _ rfl)
      have f1 := H.qa.keep.cell_from (hcc 1 _ rfl)
      have f2 := H.qa.keep.cell_from (hcc 2 _ rfl)
      simp only [show OpTy4.size = 3 from rfl, Nat.add_zero] at f0 f1 f2
      clear hcc hcl hh hk'
      obtain ⟨t, ht⟩ : ∃ t : Nat, o1 % 256 % 3 = (t : Int) := ⟨(o1 % 256 % 3).toNat, by omega⟩
      have ht2 : (o1 % 256).tmod 3 = (t : Int) := by rw [Int.tmod_eq_emod_of_nonneg (by omega)]; exact ht
      obtain ⟨k, hk⟩ : ∃ k : Nat, o2 % 8 = (k : Int) := ⟨(o2 % 8).toNat, by omega⟩
      have kO := (Keep.refl Nob wr).alloc (.cells #[.int .i64 o0, .int .i64 t, .int .i64 k] 30)
      have bO : Blk (wr.alloc (.cells #[.int .i64 o0, .int .i64 t, .int .i64 k] 30)) wr.heap.size 30 [.int .i64 o0, .int .i64 t, .int .i64 k] := Blk.new wr 30 _
      have HO := H.nob kO
      obtain ⟨v, er, b', hal⟩ : ∃ v er b', al ns.length b t = (v, er, b') := ⟨_, _, _, rfl⟩
      obtain ⟨ef, b'', hfr⟩ : ∃ ef b'', fr ns.length b t k = (ef, b'') := ⟨_, _, rfl⟩
      have HAL := Lib.hid hal
      have HFR := Lib.hid hfr
      have HT := Lib.hid ht
      have HK := Lib.hid hk
      clear H hal hfr kO
      by_cases ho : o0 = 0
      · subst ho
        go_wp2_with fail
        refine (HO.qa.alloc t v er b' HAL.out).mono ?_; rintro e w3 ⟨rfl, qa3, k3⟩
        have bO3 := HO.qa.offT bO (by decide) k3
        have qb3 := HO.qa.other HO.qb HO.ne k3
        have c0 := bO3.cell 0
        have c1 := bO3.cell 1
        have c2 := bO3.cell 2
        simp only [List.getElem?_cons_zero, List.getElem?_cons_succ] at c0 c1 c2
        by_cases hts : t = s
        · subst hts
          obtain ⟨b2', hal2, he2⟩ := al_same HO.eq HAL.out
          have HAL2 := Lib.hid hal2
          have HE2 := Lib.hid he2
          clear hal2 he2
          go_wp2_with fail
          refine (qb3.alloc t v er b2' HAL2.out).mono ?_; rintro e w4 ⟨rfl, qb4, k4⟩
          have qa4 := qb3.other qa3 (fun i j hi hj e => HO.ne j i hj hi e.symm) k4
          go_wp2_with fail
          go_roundw
          case rel => exact ⟨i + 1, b', b2', by omega, by omega, by go_num, ⟨qa4, qb4, HO.ne, HE2.out⟩⟩
          case measure => simp [intOf]; omega
        · have hts2 : ((t : Int) == (s : Int)) = false := by rw [beq_eq_false_iff_ne]; omega
          have hE := al_other hts HAL.out
          have HE := Lib.hid (hE.trans HO.eq)
          clear hE
          go_wp2_with fail
          go_roundw
          case rel => exact ⟨i + 1, b', b2, by omega, by omega, by go_num, ⟨qa3, qb3, HO.ne, HE.out⟩⟩
          case measure => simp [intOf]; omega
      · have hb0 : (o0 == 0) = false := by simp [ho]
        go_wp2_with fail
        refine (HO.qa.free t k ef b'' HFR.out).mono ?_; rintro e w3 ⟨rfl, qa3, k3⟩
        have bO3 := HO.qa.offT bO (by decide) k3
        have qb3 := HO.qa.other HO.qb HO.ne k3
        have c0 := bO3.cell 0
        have c1 := bO3.cell 1
        have c2 := bO3.cell 2
        simp only [List.getElem?_cons_zero, List.getElem?_cons_succ] at c0 c1 c2
        by_cases hts : t = s
        · subst hts
          obtain ⟨b2', hfr2, he2⟩ := fr_same HO.eq HFR.out
          have HFR2 := Lib.hid hfr2
          have HE2 := Lib.hid he2
          clear hfr2 he2
          go_wp2_with fail
          refine (qb3.free t k ef b2' HFR2.out).mono ?_; rintro e w4 ⟨rfl, qb4, k4⟩
          have qa4 := qb3.other qa3 (fun i j hi hj e => HO.ne j i hj hi e.symm) k4
          go_wp2_with fail
          go_roundw
          case rel => exact ⟨i + 1, b'', b2', by omega, by omega, by go_num, ⟨qa4, qb4, HO.ne, HE2.out⟩⟩
          case measure => simp [intOf]; omega
        · have hts2 : ((t : Int) == (s : Int)) = false := by rw [beq_eq_false_iff_ne]; omega
          have hE := fr_other hts HFR.out
          have HE := Lib.hid (hE.trans HO.eq)
          clear hE
          go_wp2_with fail
          go_roundw
          case rel => exact ⟨i + 1, b'', b2, by omega, by omega, by go_num, ⟨qa3, qb3, HO.ne, HE.out⟩⟩
          case measure => simp [intOf]; omega
    | false =>
      obtain ⟨u, hu⟩ : ∃ u, used ns.length b s = u := ⟨_, rfl⟩
      have hu2 := hu
      rw [used_same H.eq] at hu2
      have U1 := Lib.hid hu
      have U2 := Lib.hid hu2
      have KK := H.qa.keep
      clear hu hu2
      go_wp2_with fail
      refine (used_is H.qa.q s u U1.out).mono ?_; rintro e w3 ⟨rfl, rfl⟩
      go_wp2_with fail
      refine (used_is H.qb.q s u U2.out).mono ?_; rintro e w4 ⟨rfl, rfl⟩
      go_wp2_with fail
      refine (awake_true _).mono ?_; rintro e w8 ⟨rfl, k8⟩
      go_wp2
      go_ret
      exact ⟨rfl, (KK.nob k8).done⟩
theorem QuotaAlone_walk (w : World) (A0 : Option Addr) (n0 c0 : Nat) (x0 : Ty.den (.sl 24 (.pair (.int .i64) (.pair (.int .i64) (.pair (.int .i64) .unit))))) (w0 : Holds w (.sl 24 (.pair (.int .i64) (.pair (.int .i64) (.pair (.int .i64) .unit)))) x0 [.slice A0 n0 c0]) (a1 : Int) (w1 : (Lit.int .i64 a1).wf = true) :
    Calls Try.prog 4 #[.slice A0 n0 c0, .int .i64 a1] w fun e w' => e = .returned (.bool true) ∧ Below w.heap.size w w' :=
  alone_core w A0 n0 c0 x0 w0 a1 (a1 % 256).toNat (a1 % 256 % 3).toNat (by rw [i64_and255]; omega) (by omega) (by rw [Int.tmod_eq_emod_of_nonneg (by omega)]; omega) (by omega)
end Go.Proofs.Ytnhbkkcllhgapaa
