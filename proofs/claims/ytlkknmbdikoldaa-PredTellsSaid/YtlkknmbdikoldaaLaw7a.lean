/- The walks of the statements of layer 7 (pred): awake, PredSkips, PredEnds, PredTells. -/
import Derived.Test.YtlkknmbdikoldaaPrd4
namespace Go.Proofs.Ytlkknmbdikoldaa
open Go.RowKit
set_option linter.unusedVariables false
set_option linter.unusedSimpArgs false
theorem bytes_new (w : World) (b : UInt8) (x : Int) (hx : x = ((b.toNat : Nat) : Int)) : Reads (w.alloc (.cells #[.int .u8 x] 5)) (some ⟨w.heap.size, 0, none⟩) 1 (bytes [b]) := by
  subst hx
  have hb := Blk.new w 5 (bytes [b])
  exact reads_all hb rfl
set_option maxHeartbeats 2000000 in
theorem awake_true (w : World) : Calls Try.prog 8 #[] w fun e w' => e = .returned (.bool true) ∧ Keep Nob w w' := by
  have e0 : anyL 0 1 = [⟨1, 0, 0⟩, ⟨3, 1, 0⟩, ⟨7, 0, 0⟩, ⟨5, 1, 0⟩, ⟨6, 0, 0⟩] := rfl
  have hc : check [⟨1, 0, 0⟩, ⟨3, 1, 0⟩, ⟨7, 0, 0⟩, ⟨5, 1, 0⟩, ⟨6, 0, 0⟩] = 0 := by decide
  go_enter Try.func8, Try.ntmps8
  go_wp2_with fail
  refine (any_is _ 0 1).mono ?_; rintro e w1 ⟨B, c, rfl, hp, k1⟩
  rw [e0] at hp ⊢
  have a1 := (Keep.refl Nob w1).alloc (.cells #[.int .u8 1] 5)
  have k2 := k1.nobt a1
  go_wp2_with fail
  refine (eval_is (view := [1]) rfl (bytes_new w1 1 1 rfl) 0 (hp.nob a1) true 5 (by decide)).mono ?_; rintro e w2 ⟨rfl, k3⟩
  have k4 := k2.nobt k3
  have hp2 := (hp.nob a1).nob k3
  clear k1 a1 k2 k3 hp
  have a1 := (Keep.refl Nob w2).alloc (.cells #[.int .u8 2] 5)
  have k5 := k4.nobt a1
  go_wp2_with fail
  refine (eval_is (view := [2]) rfl (bytes_new w2 2 2 rfl) 0 (hp2.nob a1) false 4 (by decide)).mono ?_; rintro e w3 ⟨rfl, k6⟩
  have k7 := k5.nobt k6
  have hp3 := (hp2.nob a1).nob k6
  clear k4 a1 k5 k6 hp2
  go_wp2_with fail
  refine (check_is hp3 0 hc).mono ?_; rintro e w4 ⟨rfl, k8⟩
  go_wp2_with fail
  go_ret
  exact ⟨rfl, k7.nobt k8⟩
theorem Keep.fin {w w' : World} (k : Keep Nob w w') : Below w.heap.size w w' := k.below (Nat.le_refl _) (fun _ _ f => f)
/-- What an argument holds it holds where no block of it has turned. -/
theorem Holds.nob {w w' : World} (k : Keep Nob w w') : ∀ (ty : Ty) (x : ty.den) (cs : List Value), Holds w ty x cs → Holds w' ty x cs
  | .int _, _, _, h => h
  | .byte, _, _, h => h
  | .bool, _, _, h => h
  | .str, _, _, h => h
  | .unit, _, _, h => h
  | .pair a b, x, cs, h => by
    obtain ⟨c1, c2, e, h1, h2⟩ := h
    exact ⟨c1, c2, e, Holds.nob k a _ _ h1, Holds.nob k b _ _ h2⟩
  | .sl wd e, xs, cs, h => by
    obtain ⟨A, cap, e1, e2, e3, e4, e5, hi⟩ := h
    refine ⟨A, cap, e1, e2, e3, e4, e5, fun i hl => ?_⟩
    obtain ⟨ad, cs', f1, f2, f3, f4⟩ := hi i hl
    refine ⟨ad, cs', f1, f2, fun j v hv => ?_, Holds.nob k e _ _ f4⟩
    have hc := f3 j v hv
    rw [← hc]
    exact World.cell?_of_block (w := w) (k.block _ (block_lt_of_cell hc) (fun f => f))
/-- A program that was read as an argument. -/
theorem holds_prog {w : World} {wd : Nat} {A : Option Addr} {n c : Nat} {xs : Ty.den (.sl wd (.pair (.int .i64) (.pair (.int .i64) (.pair (.int .i64) .unit))))} (h : Holds w (.sl wd (.pair (.int .i64) (.pair (.int .i64) (.pair (.int .i64) .unit)))) xs [.slice A n c]) : ∃ l, IsProg w A n l := by
  have hone : ∀ k, k < n → ∃ (b off : Nat) (x : Prim), A = some ⟨b, off, none⟩ ∧ w.cell? ⟨b, off + k * 3, none⟩ = some (.int .i64 x.op) ∧ w.cell? ⟨b, off + k * 3 + 1, none⟩ = some (.int .i64 x.a) ∧ w.cell? ⟨b, off + k * 3 + 2, none⟩ = some (.int .i64 x.b) := by
    intro k hk
    obtain ⟨b, off, cs, e, hcl, hc, hk', hh⟩ := holds_at h (by decide) hk
    obtain ⟨d1, e1, rfl, ⟨rfl, _⟩, d2, e2, rfl, ⟨rfl, _⟩, d3, e3, rfl, ⟨rfl, _⟩, rfl⟩ := hh
    have sz : (Ty.pair (.int .i64) (.pair (.int .i64) (.pair (.int .i64) .unit))).size = 3 := rfl
    rw [sz] at hc
    exact ⟨b, off, ⟨_, _, _⟩, e, hc 0 _ rfl, hc 1 _ rfl, hc 2 _ rfl⟩
  clear h
  have hall : ∀ m, m ≤ n → ∃ l : List Prim, l.length = m ∧ ∀ i x, l[i]? = some x → ∃ (b off : Nat), A = some ⟨b, off, none⟩ ∧ w.cell? ⟨b, off + i * 3, none⟩ = some (.int .i64 x.op) ∧ w.cell? ⟨b, off + i * 3 + 1, none⟩ = some (.int .i64 x.a) ∧ w.cell? ⟨b, off + i * 3 + 2, none⟩ = some (.int .i64 x.b) := by
    intro m
    induction m with
    | zero => intro _; exact ⟨[], rfl, fun i x h => by simp at h⟩
    | succ m ih =>
      intro hm
      obtain ⟨l, hl, hx⟩ := ih (by omega)
      obtain ⟨b, off, x, e⟩ := hone m (by omega)
      refine ⟨l ++ [x], by simp [hl], fun i y hy => ?_⟩
      rcases Nat.lt_or_ge i l.length with h1 | h1
      · rw [List.getElem?_append_left h1] at hy
        exact hx i y hy
      · have := get_lt hy
        obtain rfl : i = m := by simp at this; omega
        rw [List.getElem?_append_right h1, hl, Nat.sub_self] at hy
        simp at hy
        subst hy
        exact ⟨b, off, e⟩
  obtain ⟨l, hl, hx⟩ := hall n (Nat.le_refl _)
  refine ⟨l, hl, ⟨by rw [laid_len, hl], fun h0 => ?_⟩⟩
  obtain ⟨b, off, x, rfl, _⟩ := hone 0 (by omega)
  refine ⟨_, rfl, fun j u hu => ?_⟩
  have hj := get_lt hu
  rw [laid_len] at hj
  obtain ⟨k, t, rfl, ht⟩ : ∃ k t, j = k * 3 + t ∧ t < 3 := ⟨j / 3, j % 3, by omega, by omega⟩
  have hk : l[k]? = some (l[k]'(by omega)) := List.getElem?_eq_getElem (by omega)
  obtain ⟨b', off', e, g0, g1, g2⟩ := hx k _ hk
  cases e
  obtain ⟨f0, f1, f2⟩ := laid_at hk
  rw [add_lit]
  rcases (by omega : t = 0 ∨ t = 1 ∨ t = 2) with rfl | rfl | rfl
  · rw [Nat.add_zero, f0] at hu
    cases hu
    exact g0
  · rw [f1] at hu
    cases hu
    exact g1
  · rw [f2] at hu
    cases hu
    exact g2
/-- A program that has no PTrue is not true. -/
def hasTrue (l : List Prim) : Bool := l.any fun x => decide (x.op = 6)
theorem ev_some (view : List UInt8) (now : Int) : ∀ (l : List Prim) (s : Nat) (n : Int), (ev view now l s n).1 = true → hasTrue l = true
  | [], _, _, h => by simp [ev] at h
  | x :: l, s + 1, n, h => by
    rw [ev] at h
    simp [hasTrue] at *
    exact .inr (by have := ev_some view now l s n h; simpa [hasTrue] using this)
  | x :: l, 0, n, h => by
    rw [ev] at h
    by_cases h6 : x.op = 6
    · simp [hasTrue, h6]
    · rw [if_neg h6] at h
      have : hasTrue l = true := by
        split at h
        · exact ev_some view now l _ n h
        · exact ev_some view now l _ _ h
      simp [hasTrue] at *
      exact .inr this
theorem eval_some {view : List UInt8} {now : Int} {l : List Prim} {k : Nat} (h : eval view now l = (true, k)) : hasTrue l = true := by
  unfold eval at h
  split at h
  · exact ev_some view now l 0 0 (by rw [h])
  · cases h
theorem eval_le (view : List UInt8) (now : Int) (l : List Prim) : (eval view now l).2 ≤ l.length := by
  unfold eval
  split
  · exact ev_le view now l 0 0
  · simp
theorem hasTrue_at {l : List Prim} {i : Nat} {x : Prim} (hx : l[i]? = some x) : hasTrue (l.take (i + 1)) = (hasTrue (l.take i) || decide (x.op = 6)) := by
  unfold hasTrue
  rw [List.take_add_one, hx, List.any_append]
  simp
set_option maxHeartbeats 4000000 in
theorem PredEnds_walk (w : World) (A0 : Option Addr) (n0 c0 : Nat) (x0 : Ty.den (.sl 8 (.int .i64))) (w0 : Holds w (.sl 8 (.int .i64)) x0 [.slice A0 n0 c0]) (A1 : Option Addr) (n1 c1 : Nat) (x1 : Ty.den (.sl 1 .byte)) (w1 : Holds w (.sl 1 .byte) x1 [.slice A1 n1 c1]) (a2 : Int) (w2 : (Lit.int .i64 a2).wf = true) :
    Calls Try.prog 5 #[.slice A0 n0 c0, .slice A1 n1 c1, .int .i64 a2] w fun e w' => e = .returned (.bool true) ∧ Below w.heap.size w w' := by
  obtain ⟨hm, hR, _, _⟩ := holds_bytes w1
  have W0 := Lib.hid w0
  have HR := Lib.hid hR
  clear w0 w1 w2 hR
  go_enter Try.func5, Try.ntmps5
  go_wp2_with fail
  refine (tame_is W0.out).mono ?_; rintro e wa ⟨B, m, cap, l, rfl, hl, hm20, hc, hv, k1⟩
  have hp : IsProg wa B m l := IsProg.of_vec hv
  obtain ⟨z, k, hz⟩ : ∃ z k, eval x1 a2 l = (z, k) := ⟨_, _, rfl⟩
  have hk := eval_le x1 a2 l
  rw [hz] at hk
  dsimp only at hk
  clear hv
  have HP := Lib.hid hp
  clear hp
  go_wp2_with fail
  refine (eval_is hm (HR.out.nob k1) a2 HP.out z k hz).mono ?_; rintro e wb ⟨rfl, k2⟩
  have k12 := k1.nobt k2
  go_wp2_with fail
  refine (eval_is hm (HR.out.nob k12) a2 (HP.out.nob k2) z k hz).mono ?_; rintro e wc ⟨rfl, k3⟩
  have k13 := k12.nobt k3
  go_wp2_with fail
  refine (check_is ((HP.out.nob k2).nob k3) 0 hc).mono ?_; rintro e wd ⟨rfl, k4⟩
  have hpd := ((HP.out.nob k2).nob k3).nob k4
  have k14 := k13.nobt k4
  have hzb : (z != z) = false := by cases z <;> rfl
  have HD := Lib.hid hpd
  clear k1 k2 k3 k4 k12 k13 hpd
  have hst := fun h : z = true => eval_some (h ▸ hz)
  have HST := Lib.hid hst
  clear hst hz
  go_wp2_with fail
  go_loopw [12, 13] (fun s12 s13 wx => ∃ (i : Nat), i ≤ m ∧ s13 = .int .i64 i ∧ s12 = .bool (hasTrue (l.take i)) ∧ wx = wd) (fun _ s13 _ => m - (intOf s13).toNat)
  case atStart => exact ⟨0, Nat.zero_le _, rfl, rfl, rfl⟩
  case round =>
    obtain ⟨i, hi, rfl, rfl, hw⟩ := hrel
    have hw := hw.symm
    subst hw
    by_cases hlt : i < m
    · obtain ⟨b, off, ⟨op, a, d⟩, rfl, hx, d0, d1, d2⟩ := HD.out.at_ hlt
      have ht := hasTrue_at hx
      dsimp only at d0 d1 d2 ht
      obtain ⟨t, htt⟩ : ∃ t, hasTrue (l.take i) = t := ⟨_, rfl⟩
      rw [htt] at ht ⊢
      cases t with
      | true =>
        go_wp2_with fail
        go_roundw
        case rel => exact ⟨i + 1, by omega, by go_num, by rw [ht]; rfl, (by first | rfl | trivial)⟩
        case measure => simp [intOf]; omega
      | false =>
        by_cases h6 : op = 6
        · subst h6
          go_wp2_with fail
          go_roundw
          case rel => exact ⟨i + 1, by omega, by go_num, by rw [ht]; rfl, (by first | rfl | trivial)⟩
          case measure => simp [intOf]; omega
        · go_wp2_with fail
          go_roundw
          case rel => exact ⟨i + 1, by omega, by go_num, by rw [ht]; simp [h6], (by first | rfl | trivial)⟩
          case measure => simp [intOf]; omega
    · obtain rfl : i = m := by omega
      rw [List.take_of_length_le (by omega)]
      obtain ⟨t, htt⟩ : ∃ t, hasTrue l = t := ⟨_, rfl⟩
      rw [htt] at HST ⊢
      cases z with
      | true =>
        obtain rfl : t = true := HST.out rfl
        go_wp2_with fail
        refine (awake_true _).mono ?_; rintro e we ⟨rfl, k5⟩
        go_wp2_with fail
        go_ret
        exact ⟨rfl, (k14.nobt k5).fin⟩
      | false =>
        cases t
        all_goals
          go_wp2_with fail
          refine (awake_true _).mono ?_; rintro e we ⟨rfl, k5⟩
          go_wp2_with fail
          go_ret
          exact ⟨rfl, (k14.nobt k5).fin⟩
end Go.Proofs.Ytlkknmbdikoldaa
