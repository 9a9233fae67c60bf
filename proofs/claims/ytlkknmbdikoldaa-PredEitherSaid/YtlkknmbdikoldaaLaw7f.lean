/- The walk of the statement PredEither (layer 7). -/
import Derived.Test.YtlkknmbdikoldaaLaw7c
import Derived.Test.YtlkknmbdikoldaaPrd6
namespace Go.Proofs.Ytlkknmbdikoldaa
open Go.RowKit
set_option linter.unusedVariables false
set_option linter.unusedSimpArgs false
theorem ev_more (view : List UInt8) (now : Int) (r : List Prim) : ∀ (l : List Prim) (s : Nat) (n : Int), (ev view now l s n).1 = true → (ev view now (l ++ r) s n).1 = true
  | [], _, _, h => by simp [ev] at h
  | x :: l, s + 1, n, h => by
    rw [ev] at h
    rw [List.cons_append, ev]
    exact ev_more view now r l s n h
  | x :: l, 0, n, h => by
    rw [ev] at h
    rw [List.cons_append, ev]
    by_cases h6 : x.op = 6
    · rw [if_pos h6]
    · rw [if_neg h6] at h ⊢
      by_cases h5 : x.op = 5
      · rw [if_pos h5] at h ⊢
        exact ev_more view now r l _ n h
      · rw [if_neg h5] at h ⊢
        exact ev_more view now r l _ _ h
theorem either_more {view : List UInt8} {now : Int} {l r : List Prim} (hl : check l = 0) (hb : both l r = true) {k k2 : Nat} {z : Bool} (h1 : eval view now l = (true, k)) (h2 : eval view now (eitherL l r) = (z, k2)) : z = true := by
  obtain ⟨a1, a2, a3⟩ := of_decide_eq_true hb
  unfold eval at h1 h2
  rw [if_pos hl] at h1
  unfold eitherL at h2
  rw [if_pos hb, check_append a1 a2, if_pos a3, if_pos rfl] at h2
  have h3 := ev_more view now r l 0 0 (by rw [h1])
  rw [h2] at h3
  exact h3
theorem both_nil (l : List Prim) : both l [] = decide (check l = 0) := by
  by_cases h : check l = 0
  · have := (check_zero h).1
    rw [decide_eq_true h]
    exact decide_eq_true ⟨h, rfl, by simp; omega⟩
  · rw [decide_eq_false h]
    exact decide_eq_false (fun e => h e.1)
theorem same_is2 {w : World} {A B : Option Addr} {n m c d : Nat} {l : List Prim} (h : IsProg w A n l) (h2 : IsProg w B m l) (hn : n ≤ 1000000) :
    Calls Try.prog 16 #[.slice A n c, .slice B m d] w fun e w' => e = .returned (.bool true) ∧ Keep Nob w w' := by
  obtain rfl : n = m := h.1.symm.trans h2.1
  exact same_is h h2 hn
section
variable {P : Program} {w : World} {ops : Array Oper} {rest : List Oper} {o : Oper} {a : Act} {Q : Exit → Act → World → Prop}
theorem wpList_want (hw : Region.wanted o (yielded ops a.tmps) = true) (h : o.wp P a w (wpList P ops Q rest) Q) : wpList P ops Q (o :: rest) a w := by
  unfold wpList
  rw [if_pos hw]
  exact .inl h
/-- wpList_ap for an operation that a guard lets by. -/
theorem wpList_apG (hw : Region.wanted o (yielded ops a.tmps) = true) (s x : Operand) (t : TypeId) (ho : o.op = .call { callee := .builtin .append, args := #[s, x], argTypes := #[t, t] })
    (e sz by_ : Nat) (z : Value) (ht : P.underlying t = some (.slice e)) (hinfo : (P.info? e).map (fun i => (i.zero, i.size, i.bytes)) = some (some z, sz, by_)) (hzs : z.cells.size = sz) (hsz : 0 < sz)
    (A : Option Addr) (n cap : Nat) (xs : List Value) (hs : a.eval s = .slice A n cap) (hv : Vec w e sz A n cap xs) (B : Option Addr) (m c : Nat) (news : List Value) (hx : a.eval x = .slice B m c) (q : Nat) (hq : m * sz = q) (hr : Reads w B q news) (h1 : ∀ u ∈ news, u.oneCell' = true)
    (h63 : n + m ≤ maxLen) (hby : (n + m) * by_ ≤ 140737488355328)
    (h : ∀ A' cap' w', Vec w' e sz A' (n + m) cap' (xs ++ news) → Keep (Own A) w w' → (∀ g, Own A' g → Own A g ∨ g = w.heap.size) → wpList P ops Q rest (a.put o.dst (.slice A' (n + m) cap')) w') :
    wpList P ops Q (o :: rest) a w := by
  subst hq
  refine wpList_want hw ?_
  obtain ⟨A', cap', w', h2, h3, h4, h5⟩ := run_ap (P := P) w t o.type e sz by_ z ht hinfo hzs hsz A n cap xs hv B m c news hr h1 h63 hby
  unfold Oper.wp
  simp [execOp, ho, resolve, invoke, builtin, hs, hx, h2, Result.andThen]
  exact h A' cap' w' h3 h4 h5
end
set_option maxHeartbeats 8000000 in
set_option maxRecDepth 100000 in
theorem PredEither_core (w : World) (A0 : Option Addr) (n0 c0 : Nat) (x0 : List Int) (w0 : Holds w (.sl 8 (.int .i64)) x0 [.slice A0 n0 c0]) (A1 : Option Addr) (n1 c1 : Nat) (x1 : List Int) (w1 : Holds w (.sl 8 (.int .i64)) x1 [.slice A1 n1 c1]) (A2 : Option Addr) (n2 c2 : Nat) (l2 : List Prim) (h2 : IsProg w A2 n2 l2) (A3 : Option Addr) (n3 c3 : Nat) (x3 : List UInt8) (hm : x3.length = n3) (hR : Reads w A3 n3 (bytes x3)) :
    Calls Try.prog 7 #[.slice A0 n0 c0, .slice A1 n1 c1, .slice A2 n2 c2, .slice A3 n3 c3] w fun e w' => e = .returned (.bool true) ∧ Below w.heap.size w w' := by
  have W0 := Lib.hid w0
  have W1 := Lib.hid w1
  have H2 := Lib.hid h2
  have HR := Lib.hid hR
  clear w0 w1 h2 hR
  by_cases h60 : 60 < n2
  · go_enter Try.func7, Try.ntmps7
    go_wp2_with fail
    refine (awake_true _).mono ?_; rintro e we ⟨rfl, k5⟩
    go_wp2_with fail
    go_ret
    exact ⟨rfl, k5.fin⟩
  by_cases h100 : 100 < n3
  · go_enter Try.func7, Try.ntmps7
    go_wp2_with fail
    refine (awake_true _).mono ?_; rintro e we ⟨rfl, k5⟩
    go_wp2_with fail
    go_ret
    exact ⟨rfl, k5.fin⟩
  go_enter Try.func7, Try.ntmps7
  go_wp2_with fail
  refine (tame_is W0.out).mono ?_; rintro e wa ⟨B, m, cap, l, rfl, hl, hl20, hlc, hvl, k1⟩
  go_wp2_with fail
  refine (tame_is (Holds.nob k1 _ _ _ W1.out)).mono ?_; rintro e wb ⟨D, q, cap2, r, rfl, hr, hr20, hrc, hvr, k2⟩
  have k12 := k1.nobt k2
  have hpl : IsProg wb B m l := (IsProg.of_vec hvl).nob k2
  have hpr : IsProg wb D q r := IsProg.of_vec hvr
  obtain ⟨z, hz⟩ : ∃ z, both l r = z := ⟨_, rfl⟩
  have hzd : z = decide (m + q ≤ 32) := by
    rw [← hz]
    unfold both
    rw [← hl, ← hr]
    simp [hlc, hrc]
  have HZD := Lib.hid hzd
  clear hzd
  obtain ⟨c, hc⟩ : ∃ c, eitherL l r = c := ⟨_, rfl⟩
  have HL := Lib.hid hpl
  have HRr := Lib.hid hpr
  clear hvl hvr k1 k2 hpl hpr
  go_wp2_with fail
  refine (either_is HL.out HRr.out c hc z hz).mono ?_; rintro e wc ⟨E, cap3, rfl, hpc, k3⟩
  obtain ⟨nc, hnc⟩ : ∃ nc, c.length = nc := ⟨_, rfl⟩
  rw [hnc] at hpc ⊢
  have hlen : z = true → nc = m + q := fun h => by rw [← hnc, ← hc]; unfold eitherL; rw [hz, h, if_pos rfl, List.length_append]; omega
  have hnil : z = false → nc = 0 := fun h => by rw [← hnc, ← hc]; unfold eitherL; rw [hz, h]; rfl
  have Hlen := Lib.hid (And.intro hlen hnil)
  have HNC := Lib.hid hnc
  have HCC := Lib.hid (And.intro hz hc)
  clear hlen hnil hnc hz hc
  have k13 := k12.nobt k3
  have HL := Lib.hid (HL.out.nob k3)
  have HRr := Lib.hid (HRr.out.nob k3)
  have HC := Lib.hid hpc
  clear k12 k3 hpc
  go_upto_region 5 with fail
  go_cut [13] from 39 to 44 (fun s13 wx => s13 = .bool z ∧ wx = wc)
  case first =>
    go_wp2_with fail
    go_meet
    refine ⟨?_, rfl⟩
    rw [HZD.out]
    congr 1
    first | rfl | (apply Bool.eq_iff_iff.2; simp; omega)
  case rest =>
  obtain ⟨rfl, hw⟩ := hcut
  have hw := hw.symm
  subst hw
  go_upto_region 6 with fail
  go_cut [69] from 45 to 68 (fun s69 wx => s69 = .bool false ∧ Keep Nob wc wx)
  case first =>
   cases z with
   | true =>
    have hmq : m + q ≤ 32 := of_decide_eq_true HZD.out.symm
    have HV0 : Vec (wc.alloc (.cells #[] 25)) 25 3 (some ⟨wc.heap.size, 0, none⟩) 0 0 (laid []) := Vec.of_blk (Blk.new wc 25 []) rfl (by decide)
    have kc := (Keep.refl Nob wc).alloc (.cells #[] 25)
    go_wp2_with (first
      | (at_builtin; go_loud (refine wpList_apG (by rfl) _ _ 26 rfl 25 3 24 (.agg #[.int .i64 0, .int .i64 0, .int .i64 0]) Try.underlying26 infoIns rfl (by decide) (some ⟨wc.heap.size, 0, none⟩) 0 0 _ rfl HV0 B m cap (laid l) rfl (m * 3) rfl (HL.out.nob kc).2 (laid_cells _) (by unfold maxLen; omega) (by omega) ?_); intro A4 cap4 w4 hv4 hk4 ho4; have hv4' : Vec w4 25 3 A4 m cap4 (laid l) := (by simpa [laid] using hv4); have k4 : Keep Nob wc w4 := kc.trans hk4 (fun b hb ho => (by obtain ⟨x, hx, rfl⟩ := ho; cases hx; exact Nat.lt_irrefl _ hb)); have hO4 : ∀ g, Own A4 g → wc.heap.size ≤ g := (fun g hg => (ho4 g hg).elim (fun ho => (by obtain ⟨x, hx, rfl⟩ := ho; cases hx; exact Nat.le_refl _)) (fun e => e ▸ kc.size)); clear hv4 hk4 ho4)
      | (at_builtin; go_loud (refine wpList_apG (by rfl) _ _ 26 rfl 25 3 24 (.agg #[.int .i64 0, .int .i64 0, .int .i64 0]) Try.underlying26 infoIns rfl (by decide) A4 m cap4 _ rfl hv4' D q cap2 (laid r) rfl (q * 3) rfl (HRr.out.nob k4).2 (laid_cells _) (by unfold maxLen; omega) (by omega) ?_); intro A5 cap5 w5 hv5 hk5 ho5; have hp5 : IsProg w5 A5 (m + q) c := (by have e : c = l ++ r := (by rw [← HCC.out.2]; unfold eitherL; rw [HCC.out.1]; rfl); rw [e]; exact IsProg.of_vec (by rw [laid_append]; exact hv5)); have k5 : Keep Nob wc w5 := k4.trans hk5 (fun b hb ho => absurd (hO4 b ho) (by omega)); clear hv5 hk5 ho5 hO4)
      | fail)
    refine (same_is2 (HC.out.nob k5) hp5 (by have := Hlen.out.1 (by first | rfl | trivial); omega)).mono ?_; rintro e w6 ⟨rfl, k6⟩
    go_wp2_with fail
    go_meet
    exact ⟨rfl, k5.nobt k6⟩
   | false =>
    obtain rfl : nc = 0 := Hlen.out.2 rfl
    go_wp2_with fail
    go_meet
    exact ⟨rfl, Keep.refl _ _⟩
  case rest =>
  obtain ⟨rfl, k6⟩ := hcut
  have k16 := k13.nobt k6
  have HL := Lib.hid (HL.out.nob k6)
  have HC := Lib.hid (HC.out.nob k6)
  obtain ⟨x, kx, hx⟩ : ∃ x k, eval x3 5 l = (x, k) := ⟨_, _, rfl⟩
  obtain ⟨y, ky, hy⟩ : ∃ y k, eval x3 5 c = (y, k) := ⟨_, _, rfl⟩
  have hxy : z = true → x = true → y = true := fun h1 h2 => either_more hlc (HCC.out.1.trans h1) (h2 ▸ hx) (HCC.out.2.symm ▸ hy)
  have hs := view_str (c := c3) HR.out k16
  clear k13 k6
  go_wp2_with fail
  refine (deval_is x3 5 HL.out x kx hx).mono ?_; rintro e w7 ⟨rfl, k7⟩
  have k17 := k16.nobt k7
  have HC := Lib.hid (HC.out.nob k7)
  clear hs k16 k7
  go_wp2_with fail
  refine (eval_is hm (HR.out.nob k17) 5 HC.out y ky hy).mono ?_; rintro e w8 ⟨rfl, k8⟩
  have k18 := k17.nobt k8
  clear k17 k8 hx hy
  have hn : (z && x && !y) = false := by
    cases z <;> cases x <;> cases y <;> first | rfl | exact absurd (hxy rfl rfl) (by simp)
  clear hxy
  go_upto_region 10 with fail
  go_cut [90] from 83 to 89 (fun s90 wx => s90 = .bool false ∧ wx = w8)
  case first =>
    cases z <;> cases x <;> cases y
    all_goals first | contradiction | (go_wp2_with fail; go_meet; exact ⟨rfl, rfl⟩)
  case rest =>
  obtain ⟨rfl, hw⟩ := hcut
  have hw := hw.symm
  subst hw
  have h2 := H2.out.nob k18
  have hb := both_nil l2
  obtain ⟨v, hv⟩ : ∃ v, check l2 = v := ⟨_, rfl⟩
  rw [hv] at hb
  go_wp2_with fail
  refine (either_is h2 (IsProg.nil_ _ none) _ rfl _ hb).mono ?_; rintro e w9 ⟨E2, cap9, rfl, _, k9⟩
  have k19 := k18.nobt k9
  have h2 := h2.nob k9
  clear k18 k9
  go_wp2_with fail
  refine (dcheck_is h2 v hv).mono ?_; rintro e w10 ⟨rfl, k10⟩
  have k110 := k19.nobt k10
  clear k19 k10 hv hb h2
  by_cases h0 : v = 0
  · subst h0
    go_wp2_with fail
    refine (awake_true _).mono ?_; rintro e w11 ⟨rfl, k11⟩
    go_wp2_with fail
    go_ret
    exact ⟨rfl, (k110.nobt k11).fin⟩
  · go_wp2_with fail
    refine (awake_true _).mono ?_; rintro e w11 ⟨rfl, k11⟩
    go_wp2_with fail
    go_ret
    exact ⟨by simp [h0], (k110.nobt k11).fin⟩
theorem PredEither_walk (w : World) (A0 : Option Addr) (n0 c0 : Nat) (x0 : Ty.den (.sl 8 (.int .i64))) (w0 : Holds w (.sl 8 (.int .i64)) x0 [.slice A0 n0 c0]) (A1 : Option Addr) (n1 c1 : Nat) (x1 : Ty.den (.sl 8 (.int .i64))) (w1 : Holds w (.sl 8 (.int .i64)) x1 [.slice A1 n1 c1]) (A2 : Option Addr) (n2 c2 : Nat) (x2 : Ty.den (.sl 24 (.pair (.int .i64) (.pair (.int .i64) (.pair (.int .i64) .unit))))) (w2 : Holds w (.sl 24 (.pair (.int .i64) (.pair (.int .i64) (.pair (.int .i64) .unit)))) x2 [.slice A2 n2 c2]) (A3 : Option Addr) (n3 c3 : Nat) (x3 : Ty.den (.sl 1 .byte)) (w3 : Holds w (.sl 1 .byte) x3 [.slice A3 n3 c3]) :
    Calls Try.prog 7 #[.slice A0 n0 c0, .slice A1 n1 c1, .slice A2 n2 c2, .slice A3 n3 c3] w fun e w' => e = .returned (.bool true) ∧ Below w.heap.size w w' := by
  obtain ⟨hm, hR, _, _⟩ := holds_bytes w3
  obtain ⟨l2, h2⟩ := holds_prog w2
  exact PredEither_core w A0 n0 c0 x0 w0 A1 n1 c1 x1 w1 A2 n2 c2 l2 h2 A3 n3 c3 x3 hm hR
end Go.Proofs.Ytlkknmbdikoldaa
