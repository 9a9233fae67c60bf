/- The walk of QuotaPlays: any script over a Quota and over the document's own is answered alike. -/
import Derived.Test.YtnhbkkcllhgapaaLaw4b
namespace Go.Proofs.Ytnhbkkcllhgapaa
open Go.RowKit
set_option linter.unusedVariables false
set_option linter.unusedSimpArgs false
/-- A document's quota that a call has made, with its calls. -/
structure D0 (w0 w : World) (p : Nat) (A : Option Addr) (cap : Nat) (g : Nat → Nat) (ns : List Nat) (b : Nat → List Bool) : Prop where
  q : Dq w p A cap g ns b
  lo : ∀ i, i < ns.length → w0.heap.size ≤ g i
  keep : Keep (From w0.heap.size) w0 w
section
variable {w0 w w' : World} {p p2 : Nat} {A A2 : Option Addr} {cap cap2 : Nat} {g g2 : Nat → Nat} {ns : List Nat} {b b2 : Nat → List Bool}
theorem D0.nob (h : D0 w0 w p A cap g ns b) (k : Keep Nob w w') : D0 w0 w' p A cap g ns b := ⟨h.q.nob k, h.lo, h.keep.nob k⟩
theorem D0.rows (h : D0 w0 w p A cap g ns b) (k : Keep (Rw ns.length g) w w') : Keep (From w0.heap.size) w0 w' := h.keep.from_ k (fun x ⟨i, hi, e⟩ => e ▸ h.lo i hi)
theorem D0.alloc (h : D0 w0 w p A cap g ns b) (s v er : Int) (b' : Nat → List Bool) (hal : al ns.length b s = (v, er, b')) :
    Calls Try.prog 10 #[.pointer (some ⟨p, 0, none⟩), .int .i64 s] w fun e w' => e = .returned (.tuple #[.int .i64 v, .int .i64 er]) ∧ D0 w0 w' p A cap g ns b' ∧ Keep (Rw ns.length g) w w' :=
  (dalloc_is h.q s v er b' hal).mono fun e w' ⟨he, hq, hk⟩ => ⟨he, ⟨hq, h.lo, h.rows hk⟩, hk⟩
theorem D0.free (h : D0 w0 w p A cap g ns b) (s k er : Int) (b' : Nat → List Bool) (hfr : fr ns.length b s k = (er, b')) :
    Calls Try.prog 12 #[.pointer (some ⟨p, 0, none⟩), .int .i64 s, .int .i64 k] w fun e w' => e = .returned (.int .i64 er) ∧ D0 w0 w' p A cap g ns b' ∧ Keep (Rw ns.length g) w w' :=
  (dfree_is h.q s k er b' hfr).mono fun e w' ⟨he, hq, hk⟩ => ⟨he, ⟨hq, h.lo, h.rows hk⟩, hk⟩
theorem d0_new {A0 : Option Addr} {n0 c0 : Nat} {xs : List Int} (hx : Reads w A0 n0 (ints xs)) (ns : List Nat) (hns : sizes xs = ns) (hk : Keep (From w0.heap.size) w0 w) :
    Calls Try.prog 8 #[.slice A0 n0 c0] w fun e w' => ∃ p A cap g, e = .returned (.pointer (some ⟨p, 0, none⟩)) ∧ D0 w0 w' p A cap g ns (fun i => List.replicate (ns.getD i 0) false) ∧ (∀ i, i < ns.length → w.heap.size ≤ g i) ∧ Keep Nob w w' :=
  (dnew_is hx ns hns).mono fun e w' ⟨p, A, cap, g, he, hq, hlo, hkn⟩ => ⟨p, A, cap, g, he, ⟨hq, fun i hi => by have := hlo i hi; have := hk.size; omega, hk.nob hkn⟩, hlo, hkn⟩
theorem Q0.dother (h : Q0 w0 w p A cap g ns b) (h2 : D0 w0 w p2 A2 cap2 g2 ns b2) (ne : ∀ i j, i < ns.length → j < ns.length → g2 i ≠ g j) (k : Keep (Rw ns.length g) w w') : D0 w0 w' p2 A2 cap2 g2 ns b2 :=
  ⟨h2.q.far h.q (by decide) (by decide) ne k, h2.lo, h.rows k⟩
theorem D0.qother (h : D0 w0 w p2 A2 cap2 g2 ns b2) (h2 : Q0 w0 w p A cap g ns b) (ne : ∀ i j, i < ns.length → j < ns.length → g2 i ≠ g j) (k : Keep (Rw ns.length g2) w w') : Q0 w0 w' p A cap g ns b :=
  ⟨h2.q.far h.q (by decide) (by decide) (fun i j hi hj e => ne j i hj hi e.symm) k, h2.lo, h.rows k⟩
theorem D0.offT {x : Nat} {t : TypeId} {cs : List Value} (h : D0 w0 w p A cap g ns b) (hb : Blk w x t cs) (ht : t ≠ 4) (k : Keep (Rw ns.length g) w w') : Blk w' x t cs :=
  hb.keep k (fun ⟨i, hi, e⟩ => hb.ne_ (h.q.tab i hi) ht e.symm)
theorem owns_quiet (h : Quo w p A cap g ns b) (n : Nat) (s k : Int) (v : Bool) (hv : owns ns.length b s k = v) :
    Calls Try.prog 16 #[.pointer (some ⟨p, 0, none⟩), .int .i64 s, .int .i64 k] (w.drewN n) fun e w' => e = .returned (.bool v) ∧ ∃ m, w' = w.drewN m :=
  (owns_is (h.nob ((Keep.refl Nob w).drewN n)) s k v hv).mono fun e w' ⟨h1, h2⟩ => ⟨h1, n, h2.symm⟩
theorem downs_quiet (h : Dq w p A cap g ns b) (n : Nat) (s k : Int) (v : Bool) (hv : owns ns.length b s k = v) :
    Calls Try.prog 14 #[.pointer (some ⟨p, 0, none⟩), .int .i64 s, .int .i64 k] (w.drewN n) fun e w' => e = .returned (.bool v) ∧ ∃ m, w' = w.drewN m :=
  (downs_is (h.nob ((Keep.refl Nob w).drewN n)) s k v hv).mono fun e w' ⟨h1, h2⟩ => ⟨h1, n, h2.symm⟩
theorem used_quiet (h : Quo w p A cap g ns b) (n : Nat) (s v : Int) (hv : used ns.length b s = v) :
    Calls Try.prog 17 #[.pointer (some ⟨p, 0, none⟩), .int .i64 s] (w.drewN n) fun e w' => e = .returned (.int .i64 v) ∧ ∃ m, w' = w.drewN m :=
  (used_is (h.nob ((Keep.refl Nob w).drewN n)) s v hv).mono fun e w' ⟨h1, h2⟩ => ⟨h1, n, h2.symm⟩
theorem dused_quiet (h : Dq w p A cap g ns b) (n : Nat) (s v : Int) (hv : used ns.length b s = v) :
    Calls Try.prog 18 #[.pointer (some ⟨p, 0, none⟩), .int .i64 s] (w.drewN n) fun e w' => e = .returned (.int .i64 v) ∧ ∃ m, w' = w.drewN m :=
  (dused_is (h.nob ((Keep.refl Nob w).drewN n)) s v hv).mono fun e w' ⟨h1, h2⟩ => ⟨h1, n, h2.symm⟩
theorem first_quiet (h : Dq w p A cap g ns b) (n i : Nat) (hi : i ≤ ns.length) (x : Int) (hx : ((first ns i : Nat) : Int) = x) :
    Calls Try.prog 15 #[.pointer (some ⟨p, 0, none⟩), .int .i64 i] (w.drewN n) fun e w' => e = .returned (.int .i64 x) ∧ ∃ m, w' = w.drewN m :=
  (first_is (h.nob ((Keep.refl Nob w).drewN n)) i hi x hx).mono fun e w' ⟨h1, h2⟩ => ⟨h1, n, h2.symm⟩
end
/-- Between two steps. -/
structure QP (w0 w : World) (ns : List Nat) (p : Nat) (A : Option Addr) (cap : Nat) (g : Nat → Nat) (p2 : Nat) (A2 : Option Addr) (cap2 : Nat) (g2 : Nat → Nat) (b : Nat → List Bool) : Prop where
  qa : Q0 w0 w p A cap g ns b
  qd : D0 w0 w p2 A2 cap2 g2 ns b
  ne : ∀ i j, i < ns.length → j < ns.length → g2 i ≠ g j
theorem QP.nob {w0 w w' : World} {ns : List Nat} {p : Nat} {A : Option Addr} {cap : Nat} {g : Nat → Nat} {p2 : Nat} {A2 : Option Addr} {cap2 : Nat} {g2 : Nat → Nat} {b : Nat → List Bool} (h : QP w0 w ns p A cap g p2 A2 cap2 g2 b) (k : Keep Nob w w') : QP w0 w' ns p A cap g p2 A2 cap2 g2 b := ⟨h.qa.nob k, h.qd.nob k, h.ne⟩
set_option maxRecDepth 100000 in
set_option maxHeartbeats 16000000 in
theorem plays_core (w : World) (A0 : Option Addr) (n0 c0 : Nat) (x0 : List Int) (w0 : Holds w (.sl 8 (.int .i64)) x0 [.slice A0 n0 c0]) (A1 : Option Addr) (n1 c1 : Nat) (x1 : Ty.den (.sl 24 OpTy4)) (w1 : Holds w (.sl 24 OpTy4) x1 [.slice A1 n1 c1]) :
    Calls Try.prog 3 #[.slice A0 n0 c0, .slice A1 n1 c1] w fun e w' => e = .returned (.bool true) ∧ Below w.heap.size w w' := by
  have W0 := Lib.hid (holds_ints w0)
  have W1 := Lib.hid w1
  have hnc := (holds_len w0).2.1
  clear w0 w1
  by_cases h8 : (8 : Int) < n0
  · go_enter Try.func3, Try.ntmps3
    go_wp2_with fail
    refine (awake_true _).mono ?_; rintro e w8 ⟨rfl, k8⟩
    go_wp2
    go_ret
    exact ⟨rfl, ((Keep.refl (From w.heap.size) w).nob k8).done⟩
  obtain ⟨ns, hns⟩ : ∃ ns, sizes x0 = ns := ⟨_, rfl⟩
  have HN := Lib.hid hns
  clear hns
  go_enter Try.func3, Try.ntmps3
  go_wp2_with fail
  refine (q0_new W0.out hnc ns HN.out (Keep.refl (From w.heap.size) w)).mono ?_; rintro e wa ⟨p, A, cap, g, rfl, h1, -, k1⟩
  go_wp2_with fail
  refine (awake_true _).mono ?_; rintro e wb ⟨rfl, k2⟩
  have h2 := h1.nob k2
  go_wp2_with fail
  refine (d0_new ((W0.out.nob k1).nob k2) ns HN.out h2.keep).mono ?_; rintro e wc ⟨p2, A2, cap2, g2, rfl, h3, lo3, k3⟩
  have H0 : QP w wc ns p A cap g p2 A2 cap2 g2 (fun i => List.replicate (ns.getD i 0) false) :=
    ⟨h2.nob k3, h3, fun i j hi hj e => by have h4 := lo3 i hi; have h5 := (h2.q.tab j hj).lt; omega⟩
  clear h1 k1 k2 h2 lo3 h3 k3
  generalize (fun i => List.replicate (ns.getD i 0) false) = b0 at *
  go_wp2_with fail
  go_loopw [7] (fun s7 wx => ∃ (i : Nat) (b : Nat → List Bool), i ≤ n1 ∧ i ≤ 150 ∧ s7 = .int .i64 i ∧ QP w wx ns p A cap g p2 A2 cap2 g2 b) (fun s7 _ => 150 - (intOf s7).toNat)
  case atStart => exact ⟨0, _, Nat.zero_le _, Nat.zero_le _, rfl, H0⟩
  case round =>
    obtain ⟨i, b, hi, hi100, rfl, H⟩ := hrel
    obtain ⟨bo, hbo⟩ : ∃ bo, bo = decide (i < n1 ∧ i < 150) := ⟨_, rfl⟩
    have Hbo := Lib.hid hbo
    clear hbo H0
    go_upto_region 8 with fail
    go_cut [37] from 30 to 37 (fun s37 wx => s37 = .bool bo ∧ wx = wr)
    case first =>
      by_cases h1 : i < n1
      · by_cases h2 : i < 150
        · have h3 : decide (i < n1 ∧ i < 150) = true := by simp [h1, h2]
          go_wp2_with fail
          go_meet
          exact ⟨by (try rw [Hbo.out, h3]); (first | rfl | exact congrArg Value.bool (decide_eq_true (by omega)) | exact congrArg Value.bool (decide_eq_false (by omega)) | skip), rfl⟩
        · have h3 : decide (i < n1 ∧ i < 150) = false := by simp [h2]
          go_wp2_with fail
          go_meet
          exact ⟨by (try rw [Hbo.out, h3]); (first | rfl | exact congrArg Value.bool (decide_eq_true (by omega)) | exact congrArg Value.bool (decide_eq_false (by omega)) | skip), rfl⟩
      · have h3 : decide (i < n1 ∧ i < 150) = false := by simp [h1]
        go_wp2_with fail
        go_meet
        exact ⟨by (try rw [Hbo.out, h3]); (first | rfl | exact congrArg Value.bool (decide_eq_true (by omega)) | exact congrArg Value.bool (decide_eq_false (by omega)) | skip), rfl⟩
    case rest =>
    obtain ⟨rfl, hw⟩ := hcut
    have hw := hw.symm
    subst hw
    cases bo with
    | false =>
      have KK := H.qa.keep
      go_wp2
      go_ret
      exact ⟨rfl, KK.done⟩
    | true =>
      obtain ⟨hin, hi2⟩ : i < n1 ∧ i < 150 := of_decide_eq_true Hbo.out.symm
      obtain ⟨bb, off, cs', hA0, hcl, hcc, hk', hh⟩ := holds_at W1.out (by decide) hin
      obtain ⟨o0, o1, o2, rfl⟩ := op4_cells hh
      subst hA0
      have f0 := H.qa.keep.cell_from (hcc 0 _ rfl)
      have f1 := H.qa.keep.cell_from (hcc 1 _ rfl)
      have f2 := H.qa.keep.cell_from (hcc 2 _ rfl)
      simp only [show OpTy4.size = 3 from rfl, Nat.add_zero] at f0 f1 f2
      clear hcc hcl hh hk'
      have kO := (Keep.refl Nob wr).alloc (.cells #[.int .i64 o0, .int .i64 o1, .int .i64 o2] 30)
      have bO : Blk (wr.alloc (.cells #[.int .i64 o0, .int .i64 o1, .int .i64 o2] 30)) wr.heap.size 30 [.int .i64 o0, .int .i64 o1, .int .i64 o2] := Blk.new wr 30 _
      have HO := H.nob kO
      obtain ⟨v, er, b', hal⟩ : ∃ v er b', al ns.length b o1 = (v, er, b') := ⟨_, _, _, rfl⟩
      obtain ⟨ef, b'', hfr⟩ : ∃ ef b'', fr ns.length b o1 o2 = (ef, b'') := ⟨_, _, rfl⟩
      have HAL := Lib.hid hal
      have HFR := Lib.hid hfr
      clear H hal hfr kO
      by_cases ho : o0 = 0
      · subst ho
        go_wp2_with fail
        refine (HO.qa.alloc o1 v er b' HAL.out).mono ?_; rintro e w3 ⟨rfl, qa3, k3⟩
        have bO3 := HO.qa.offT bO (by decide) k3
        have qd3 := HO.qa.dother HO.qd HO.ne k3
        have c0 := bO3.cell 0
        have c1 := bO3.cell 1
        have c2 := bO3.cell 2
        simp only [List.getElem?_cons_zero, List.getElem?_cons_succ] at c0 c1 c2
        go_wp2_with fail
        refine (qd3.alloc o1 v er b' HAL.out).mono ?_; rintro e w4 ⟨rfl, qd4, k4⟩
        have qa4 := qd3.qother qa3 HO.ne k4
        have bO4 := qd3.offT bO3 (by decide) k4
        have hne := HO.ne
        clear f0 f1 f2 c0 c1 c2 bO3 qa3 qd3 k3 k4 HO bO HAL HFR
        generalize b' = bn at *
        generalize wr.heap.size = gO at bO4 ⊢
        have Q4 : QP w w4 ns p A cap g p2 A2 cap2 g2 bn := ⟨qa4, qd4, hne⟩
        clear qa4 qd4
        have c1 := bO4.cell 1
        have c2 := bO4.cell 2
        simp only [List.getElem?_cons_zero, List.getElem?_cons_succ] at c1 c2
        obtain ⟨u, hu0⟩ : ∃ u, used ns.length bn o1 = u := ⟨_, rfl⟩
        cases how0 : owns ns.length bn o1 o2 with
        | true =>
          obtain ⟨s, k, rfl, rfl, hs, hk, hg⟩ := owns_true how0
          have hf := first_le Q4.qa.q.small s (by omega)
          have hk64 := Q4.qa.q.size hs
          have hs4 := Q4.qa.q.few
          have fy := frame_yes Q4.qa.q s k hs hk hg
          have fq := fun n => first_quiet Q4.qd.q n s (by omega)
          generalize first ns s = f at *
          have hw1 : IntKind.i64.wrap ((f : Int) + k) = f + k := by simp [IntKind.wrap, IntKind.bits, IntKind.signed]; omega
          have FY := Lib.hid fy
          have FQ := Lib.hid fq
          have HOW := Lib.hid how0
          have HU := Lib.hid hu0
          clear fy fq how0 hu0 hg
          go_wp2_with fail
          refine (FY.out ((f : Int) + k) (by simp)).mono ?_; rintro e w5 ⟨rfl, rfl⟩
          go_wp2_with fail
          refine (downs_is Q4.qd.q s k true HOW.out).mono ?_; rintro e w5 ⟨rfl, rfl⟩
          go_wp2_with fail
          go_quiet (first | (go_at_call 15; exact FQ.out _ _ rfl))
          have Q5 := Q4.nob ((Keep.refl Nob w4).drewN nq)
          have d1 : (w4.drewN nq).cell? ⟨gO, 1, none⟩ = some (.int .i64 (s : Int)) := c1
          have d2 : (w4.drewN nq).cell? ⟨gO, 2, none⟩ = some (.int .i64 (k : Int)) := c2
          have how := HOW.out
          have hu := HU.out
          clear Q4 FY FQ c1 c2 bO4
          generalize w4.drewN nq = w5 at *
          clear HOW HU
          go_wp2_with fail
          go_quiet (first | (go_at_call 16; exact owns_quiet Q5.qa.q _ _ _ _ how) | (go_at_call 14; exact downs_quiet Q5.qd.q _ _ _ _ how) | (go_at_call 17; exact used_quiet Q5.qa.q _ _ _ hu) | (go_at_call 18; exact dused_quiet Q5.qd.q _ _ _ hu))
          have Q6 := Q5.nob ((Keep.refl Nob _).drewN nq)
          clear Q5
          go_wp2_with fail
          go_roundw
          case rel => exact ⟨i + 1, bn, by omega, by omega, by go_num, Q6⟩
          case measure => simp [intOf]; omega
        | false =>
          have HOW := Lib.hid how0
          have HU := Lib.hid hu0
          clear how0 hu0
          go_wp2_with fail
          refine (frame_no Q4.qa.q o1 o2 HOW.out).mono ?_; rintro e w5 ⟨rfl, rfl⟩
          go_wp2_with fail
          refine (downs_is Q4.qd.q o1 o2 false HOW.out).mono ?_; rintro e w5 ⟨rfl, rfl⟩
          have Q5 := Q4
          have how := HOW.out
          have hu := HU.out
          clear Q4 bO4 HOW HU
          go_wp2_with fail
          go_quiet (first | (go_at_call 16; exact owns_quiet Q5.qa.q _ _ _ _ how) | (go_at_call 14; exact downs_quiet Q5.qd.q _ _ _ _ how) | (go_at_call 17; exact used_quiet Q5.qa.q _ _ _ hu) | (go_at_call 18; exact dused_quiet Q5.qd.q _ _ _ hu))
          have Q6 := Q5.nob ((Keep.refl Nob _).drewN nq)
          clear Q5
          go_wp2_with fail
          go_roundw
          case rel => exact ⟨i + 1, bn, by omega, by omega, by go_num, Q6⟩
          case measure => simp [intOf]; omega
      · have hb0 : (o0 == 0) = false := by simp [ho]
        go_upto_region 16 with fail
        generalize hV : wr.alloc (.cells #[.int .i64 o0, .int .i64 o1, .int .i64 o2] 30) = V at bO HO ⊢
        generalize wr.heap.size = gO at bO ⊢
        clear f0 f1 f2 hV
        have sf : ∀ W, Blk W gO 30 [.int .i64 o0, .int .i64 o1, .int .i64 o2] → (W.cell? ⟨gO, 1, none⟩ = some (.int .i64 o1) ∧ W.cell? ⟨gO, 2, none⟩ = some (.int .i64 o2)) := fun W hW => ⟨hW.cell 1, hW.cell 2⟩
        have bD := bO.drew
        have HD := HO.nob (Keep.nobdrew V)
        have hne := HO.ne
        have hfr := HFR.out
        clear HO bO HAL HFR
        go_region_held3 (fun w' => w'.cell? ⟨gO, 1, none⟩ = some (.int .i64 o1) ∧ w'.cell? ⟨gO, 2, none⟩ = some (.int .i64 o2))
          (first | exact sf _ bO4 | exact sf _ bO3 | exact sf _ bO5 | exact sf _ bD)
          (first
            | (go_at_call 11; first
                | (refine (qa5.free o1 o2 ef b'' hfr).mono ?_; rintro e' w4 ⟨rfl, qa4, k4⟩; have qd4 := qa5.dother qd5 hne k4; have bO4 := qa5.offT bO5 (by decide) k4)
                | (refine (HD.qa.free o1 o2 ef b'' hfr).mono ?_; rintro e' w3 ⟨rfl, qa3, k3⟩; have qd3 := HD.qa.dother HD.qd hne k3; have bO3 := HD.qa.offT bD (by decide) k3))
            | (go_at_call 12; first
                | (refine (qd3.free o1 o2 ef b'' hfr).mono ?_; rintro e' w4 ⟨rfl, qd4, k4⟩; have qa4 := qd3.qother qa3 hne k4; have bO4 := qd3.offT bO3 (by decide) k4)
                | (refine (HD.qd.free o1 o2 ef b'' hfr).mono ?_; rintro e' w5 ⟨rfl, qd5, k5⟩; have qa5 := HD.qd.qother HD.qa hne k5; have bO5 := HD.qd.offT bD (by decide) k5)))
        all_goals
          generalize b'' = bn at *
          clear bD HD hfr sf
          have Q4 : QP w w4 ns p A cap g p2 A2 cap2 g2 bn := ⟨qa4, qd4, hne⟩
          clear qa4 qd4
          have c1 := bO4.cell 1
          have c2 := bO4.cell 2
          simp only [List.getElem?_cons_zero, List.getElem?_cons_succ] at c1 c2
          obtain ⟨u, hu0⟩ : ∃ u, used ns.length bn o1 = u := ⟨_, rfl⟩
          cases how0 : owns ns.length bn o1 o2 with
          | true =>
            obtain ⟨s, k, rfl, rfl, hs, hk, hg⟩ := owns_true how0
            have hf := first_le Q4.qa.q.small s (by omega)
            have hk64 := Q4.qa.q.size hs
            have hs4 := Q4.qa.q.few
            have fy := frame_yes Q4.qa.q s k hs hk hg
            have fq := fun n => first_quiet Q4.qd.q n s (by omega)
            generalize first ns s = f at *
            have hw1 : IntKind.i64.wrap ((f : Int) + k) = f + k := by simp [IntKind.wrap, IntKind.bits, IntKind.signed]; omega
            have FY := Lib.hid fy
            have FQ := Lib.hid fq
            have HOW := Lib.hid how0
            have HU := Lib.hid hu0
            clear fy fq how0 hu0 hg
            go_wp2_with fail
            refine (FY.out ((f : Int) + k) (by simp)).mono ?_; rintro e w5 ⟨rfl, rfl⟩
            go_wp2_with fail
            refine (downs_is Q4.qd.q s k true HOW.out).mono ?_; rintro e w5 ⟨rfl, rfl⟩
            go_wp2_with fail
            go_quiet (first | (go_at_call 15; exact FQ.out _ _ rfl))
            have Q5 := Q4.nob ((Keep.refl Nob w4).drewN nq)
            have d1 : (w4.drewN nq).cell? ⟨gO, 1, none⟩ = some (.int .i64 (s : Int)) := c1
            have d2 : (w4.drewN nq).cell? ⟨gO, 2, none⟩ = some (.int .i64 (k : Int)) := c2
            have how := HOW.out
            have hu := HU.out
            clear Q4 FY FQ c1 c2 bO4
            generalize w4.drewN nq = w5 at *
            clear HOW HU
            go_wp2_with fail
            go_quiet (first | (go_at_call 16; exact owns_quiet Q5.qa.q _ _ _ _ how) | (go_at_call 14; exact downs_quiet Q5.qd.q _ _ _ _ how) | (go_at_call 17; exact used_quiet Q5.qa.q _ _ _ hu) | (go_at_call 18; exact dused_quiet Q5.qd.q _ _ _ hu))
            have Q6 := Q5.nob ((Keep.refl Nob _).drewN nq)
            clear Q5
            go_wp2_with fail
            go_roundw
            case rel => exact ⟨i + 1, bn, by omega, by omega, by go_num, Q6⟩
            case measure => simp [intOf]; omega
          | false =>
            have HOW := Lib.hid how0
            have HU := Lib.hid hu0
            clear how0 hu0
            go_wp2_with fail
            refine (frame_no Q4.qa.q o1 o2 HOW.out).mono ?_; rintro e w5 ⟨rfl, rfl⟩
            go_wp2_with fail
            refine (downs_is Q4.qd.q o1 o2 false HOW.out).mono ?_; rintro e w5 ⟨rfl, rfl⟩
            have Q5 := Q4
            have how := HOW.out
            have hu := HU.out
            clear Q4 bO4 HOW HU
            go_wp2_with fail
            go_quiet (first | (go_at_call 16; exact owns_quiet Q5.qa.q _ _ _ _ how) | (go_at_call 14; exact downs_quiet Q5.qd.q _ _ _ _ how) | (go_at_call 17; exact used_quiet Q5.qa.q _ _ _ hu) | (go_at_call 18; exact dused_quiet Q5.qd.q _ _ _ hu))
            have Q6 := Q5.nob ((Keep.refl Nob _).drewN nq)
            clear Q5
            go_wp2_with fail
            go_roundw
            case rel => exact ⟨i + 1, bn, by omega, by omega, by go_num, Q6⟩
            case measure => simp [intOf]; omega
theorem QuotaPlays_walk (w : World) (A0 : Option Addr) (n0 c0 : Nat) (x0 : Ty.den (.sl 8 (.int .i64))) (w0 : Holds w (.sl 8 (.int .i64)) x0 [.slice A0 n0 c0]) (A1 : Option Addr) (n1 c1 : Nat) (x1 : Ty.den (.sl 24 (.pair (.int .i64) (.pair (.int .i64) (.pair (.int .i64) .unit))))) (w1 : Holds w (.sl 24 (.pair (.int .i64) (.pair (.int .i64) (.pair (.int .i64) .unit)))) x1 [.slice A1 n1 c1]) :
    Calls Try.prog 3 #[.slice A0 n0 c0, .slice A1 n1 c1] w fun e w' => e = .returned (.bool true) ∧ Below w.heap.size w w' :=
  plays_core w A0 n0 c0 x0 w0 A1 n1 c1 x1 w1
end Go.Proofs.Ytnhbkkcllhgapaa
