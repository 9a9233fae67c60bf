/- The walks of CapsParts and CapsFull. -/
import Derived.Test.YtjkmbffcmgeknaaLaw3a
namespace Go.Proofs.Ytjkmbffcmgeknaa
open Go.RowKit
set_option linter.unusedVariables false
set_option linter.unusedSimpArgs false
theorem wbit {x : Int} (h : 0 ≤ x ∧ x ≤ 7) : (sub x 5 = true ∧ bits .and .i64 x 2 = 0) ∨ (sub x 5 = false ∧ bits .and .i64 x 2 = 2) := by
  rcases (show x = 0 ∨ x = 1 ∨ x = 2 ∨ x = 3 ∨ x = 4 ∨ x = 5 ∨ x = 6 ∨ x = 7 by omega) with rfl | rfl | rfl | rfl | rfl | rfl | rfl | rfl <;> decide
theorem two_sorted {U : List Rf} {x y : Rf} (hp : U.Perm [x, y]) (hs : U.Pairwise (fun a b => ¬ ltR b a)) (hlt : ltR x y) : U = [x, y] := by
  have hl := hp.length_eq
  match U, hl with
  | [a, b], _ =>
    have ha : a ∈ [x, y] := hp.mem_iff.1 (by simp)
    have hb : b ∈ [x, y] := hp.mem_iff.1 (by simp)
    have hx : x ∈ [a, b] := hp.mem_iff.2 (by simp)
    have hy : y ∈ [a, b] := hp.mem_iff.2 (by simp)
    have hne : x ≠ y := by rintro rfl; unfold ltR at hlt; omega
    simp only [List.pairwise_cons, List.mem_singleton, forall_eq] at hs
    simp only [List.mem_cons, List.not_mem_nil, or_false] at ha hb hx hy
    rcases ha with rfl | rfl
    · rcases hb with rfl | rfl
      · rcases hy with e | e <;> exact absurd e.symm hne
      · rfl
    · rcases hb with rfl | rfl
      · exact absurd hlt hs.1
      · rcases hx with e | e <;> exact absurd e hne
set_option maxRecDepth 100000 in
set_option maxHeartbeats 4000000 in
theorem parts_core (w : World) (a0 a1 a2 a3 a4 lo n at_ m rt : Int) (h0 : bits .and .i64 a0 63 = lo) (h1 : bits .and .i64 a1 63 = n) (h2 : bits .and .i64 a2 127 = at_) (h3 : bits .and .i64 a3 127 = m) (h4 : bits .and .i64 a4 7 = rt)
    (r0 : 0 ≤ lo ∧ lo ≤ 63) (r1 : 0 ≤ n ∧ n ≤ 63) (r2 : 0 ≤ at_ ∧ at_ ≤ 127) (r3 : 0 ≤ m ∧ m ≤ 127) (r4 : 0 ≤ rt ∧ rt ≤ 7) :
    Calls Try.prog 4 #[.int .i64 a0, .int .i64 a1, .int .i64 a2, .int .i64 a3, .int .i64 a4] w fun e w' => e = .returned (.bool true) ∧ Keep (From w.heap.size) w w' := by
  go_enter Try.func4, Try.ntmps4
  go_wp2_with fail
  refine (new0 (w0 := w) 3 3 (by omega) (Keep.refl _ w)).mono ?_; rintro e w1 ⟨s, B, p, r, rfl, S1, _, _⟩
  go_wp2_with fail
  refine (S1.put 0 (by decide) ⟨4, 7, 10, 200, (0, 0)⟩ (by decide) (by decide) (by decide)).mono ?_; rintro e w2 ⟨a, er, T2, rfl, hA, S2, _⟩
  obtain ⟨rfl, hn1, hh1⟩ := hA.room S1.inv (by decide) rfl
  have i1 : T2 1 = init 1 := hA.other (by decide)
  have i2 : T2 2 = init 2 := hA.other (by decide)
  have ch2 : Chain T2 3 [((((0 : Nat) : Int), a), (⟨4, 7, 10, 200, (0, 0)⟩ : Cp))] := Chain.one (fun σ d => by rw [hh1]; exact ⟨fun h => h.elim (fun h => (init_has h).elim) id, .inr⟩) rfl
  go_wp2_with fail
  refine (S2.grant 1 (by decide) ⟨4, 7, 10, 200, (0, 0)⟩ ((hh1 _ _).2 (.inr ⟨rfl, rfl⟩)) (by decide) (by decide) (by decide) (by dsimp only; omega)).mono ?_; rintro e w3 ⟨b, er, T3, rfl, hB, S3, _⟩
  obtain ⟨rfl, hn2, hh2⟩ := hB.room S2.inv (by decide) i1
  have i3 : T3 2 = init 2 := (hB.other (by decide)).trans i2
  have ch3 := ch2.add (k := 0) rfl rfl hn2 hh2 rfl
  have g0 : Has T3 3 (0, a) ⟨4, 7, 10, 200, (0, 0)⟩ := (hh2 _ _).2 (.inl ((hh1 _ _).2 (.inr ⟨rfl, rfl⟩)))
  have g1 : Has T3 3 (1, b) ⟨4, 5, 10 + lo, n, (0, a)⟩ := (hh2 _ _).2 (.inr ⟨rfl, rfl⟩)
  clear i1 i2 hA hB
  go_wp2_with fail
  rcases wbit r4 with ⟨hsub, hbit⟩ | ⟨hsub, hbit⟩
  · by_cases hat : at_ ≤ n ∧ m ≤ n - at_
    · refine (S3.grant 2 (by decide) _ g1 (show sub 4 5 = true by decide) hsub r4 (by dsimp only; omega)).mono ?_; rintro e w4 ⟨c, er, T4, rfl, hC, S4, _⟩
      obtain ⟨rfl, hn4, hh4⟩ := hC.room S3.inv (by decide) i3
      have ch4 := ch3.add (k := 1) rfl rfl hn4 hh4 rfl
      have f0 : Has T4 3 (0, a) ⟨4, 7, 10, 200, (0, 0)⟩ := (hh4 _ _).2 (.inl g0)
      have f2 : Has T4 3 (2, c) ⟨4, rt, 10 + lo + at_, m, (1, b)⟩ := (hh4 _ _).2 (.inr ⟨rfl, rfl⟩)
      obtain ⟨q1, q2⟩ := hat
      clear i3 hC hsub
      go_wp2_with fail
      refine (S4.get _ f2).mono ?_; rintro e w5 ⟨rfl, S5, _⟩
      unfold cval
      have bA : Blk (w5.alloc (.cells #[.int .i64 4, .int .i64 rt, .int .i64 (10 + lo + at_), .int .i64 m, .int .i64 1, .int .i64 b] 29)) w5.heap.size 29 [.int .i64 4, .int .i64 rt, .int .i64 (10 + lo + at_), .int .i64 m, .int .i64 1, .int .i64 b] := Blk.new w5 _ [.int .i64 4, .int .i64 rt, .int .i64 (10 + lo + at_), .int .i64 m, .int .i64 1, .int .i64 b]
      have S6 := S5.nob ((Keep.refl Nob w5).alloc (.cells #[.int .i64 4, .int .i64 rt, .int .i64 (10 + lo + at_), .int .i64 m, .int .i64 1, .int .i64 b] 29))
      go_wp2_with fail
      refine (S6.under _ f0).mono ?_; rintro e w7 ⟨A, cap, U, he, hU1, hU2, hU3, hv, S7, k7⟩
      have hp : U.Perm [((1 : Int), b), ((2 : Int), c)] := ch4.under S6.inv (k := 0) rfl hU1 hU2
      have hU := two_sorted hp hU3 (.inl (show (1 : Int) < 2 by decide))
      subst hU
      subst he
      have bA7 := bA.nob k7
      have d0 := bA7.cell 0
      have d1 := bA7.cell 1
      have d2 := bA7.cell 2
      have d3 := bA7.cell 3
      have d4 := bA7.cell 4
      have d5 := bA7.cell 5
      simp only [List.getElem?_cons_zero, List.getElem?_cons_succ] at d0 d1 d2 d3 d4 d5
      obtain ⟨g, rfl, u0, u1⟩ := hv.rf (j := 0) rfl
      obtain ⟨g', hg', v0, v1⟩ := hv.rf (j := 1) rfl
      cases hg'
      have heq : ∀ W, (Op.equalIn 10000 29 (.agg #[.int .i64 4, .int .i64 rt, .int .i64 (10 + lo + at_), .int .i64 m, .int .i64 1, .int .i64 b]) (.agg #[.int .i64 4, .int .i64 rt, .int .i64 (10 + lo + at_), .int .i64 m, .int .i64 1, .int .i64 b])).run Try.prog W = .ok true W := fun W => cap_same 9997 _ _ _ _ _ _ W
      have req1 : ∀ W, (Op.equalIn 10000 27 (.agg #[.int .i64 1, .int .i64 b]) (.agg #[.int .i64 1, .int .i64 b])).run Try.prog W = .ok true W := fun W => ref_same 9998 _ _ W
      have req2 : ∀ W, (Op.equalIn 10000 27 (.agg #[.int .i64 2, .int .i64 c]) (.agg #[.int .i64 2, .int .i64 c])).run Try.prog W = .ok true W := fun W => ref_same 9998 _ _ W
      clear bA bA7 S6 hv
      clear hU1 hU2 hU3 hp
      go_wp2_with fail
      refine (awake_true _).mono ?_; rintro e w8 ⟨rfl, k8⟩
      go_wp2
      go_ret
      exact ⟨rfl, S7.keep.nob k8⟩
    · refine (S3.grant_nopart _ g1 (show sub 4 5 = true by decide) hsub (fun ⟨_, _, _, _, q1, q2⟩ => hat ⟨by dsimp only at q1 q2; omega, by dsimp only at q1 q2; omega⟩)).mono ?_; rintro e w4 ⟨rfl, S4, _⟩
      by_cases q : at_ ≤ n
      · have q2 : n - at_ < m := by
          have : ¬ m ≤ n - at_ := fun h => hat ⟨q, h⟩
          omega
        clear hat i3 hsub
        go_wp2_with fail
        refine (awake_true _).mono ?_; rintro e w8 ⟨rfl, k8⟩
        go_wp2
        go_ret
        exact ⟨rfl, S4.keep.nob k8⟩
      · clear hat i3 hsub
        go_wp2_with fail
        refine (awake_true _).mono ?_; rintro e w8 ⟨rfl, k8⟩
        go_wp2
        go_ret
        exact ⟨rfl, S4.keep.nob k8⟩
  · refine (S3.grant_noright _ g1 (fun ⟨_, h⟩ => by rw [hsub] at h; cases h)).mono ?_; rintro e w4 ⟨rfl, S4, _⟩
    clear i3 hsub
    go_wp2_with fail
    refine (awake_true _).mono ?_; rintro e w8 ⟨rfl, k8⟩
    go_wp2
    go_ret
    exact ⟨rfl, S4.keep.nob k8⟩
theorem CapsParts_walk (w : World) (a0 : Int) (w0 : (Lit.int .i64 a0).wf = true) (a1 : Int) (w1 : (Lit.int .i64 a1).wf = true) (a2 : Int) (w2 : (Lit.int .i64 a2).wf = true) (a3 : Int) (w3 : (Lit.int .i64 a3).wf = true) (a4 : Int) (w4 : (Lit.int .i64 a4).wf = true) :
    Calls Try.prog 4 #[.int .i64 a0, .int .i64 a1, .int .i64 a2, .int .i64 a3, .int .i64 a4] w fun e w' => e = .returned (.bool true) ∧ Below w.heap.size w w' :=
  (parts_core w a0 a1 a2 a3 a4 _ _ _ _ _ rfl rfl rfl rfl rfl (by rw [i64_and63]; omega) (by rw [i64_and63]; omega) (by rw [i64_and127]; omega) (by rw [i64_and127]; omega) (by rw [i64_and7]; omega)).mono fun _ _ ⟨he, k⟩ => ⟨he, k.done⟩
/-- An environment whose first k places hold c. -/
def fill (c : Cp) (k : Nat) : List Q := mk 32 fun j => if j < k then ⟨1, true, c⟩ else ⟨1, false, zcap⟩
theorem fill_none (c : Cp) (e : Nat) : init e = fill c 0 := by
  unfold init fill
  rw [mk_rep]
  exact mk_congr (fun i _ => by rw [if_neg (Nat.not_lt_zero i)])
theorem fill_step {T T' : St} {c : Cp} {k : Nat} {nm er : Int} (hT : T 0 = fill c k) (hk : k < 32) (h : Added T 3 0 c nm er T') : er = 0 ∧ T' 0 = fill c (k + 1) := by
  have hfree : (⟨1, false, zcap⟩ : Q).pl.free = true := by decide
  have hbusy : (⟨1, true, c⟩ : Q).pl.free = false := by simp [Q.pl, Pl.free]
  cases h with
  | full hb =>
    have := hb k ⟨1, false, zcap⟩ (by rw [hT, fill, mk_get hk, if_neg (Nat.lt_irrefl k)])
    rw [hfree] at this
    cases this
  | put i q hq hf hb =>
    rw [hT, fill] at hq
    obtain ⟨hi, rfl⟩ := mk_some hq
    have : i = k := by
      rcases Nat.lt_trichotomy i k with h1 | h1 | h1
      · rw [if_pos h1, hbusy] at hf
        cases hf
      · exact h1
      · have := hb k ⟨1, false, zcap⟩ h1 (by rw [hT, fill, mk_get hk, if_neg (Nat.lt_irrefl k)])
        rw [hfree] at this
        cases this
    subst this
    refine ⟨rfl, ?_⟩
    unfold up
    rw [if_pos rfl, hT, if_neg (Nat.lt_irrefl i)]
    refine mk_set _ (fun j hj => ?_)
    by_cases e : j = i
    · subst e; simp
    · have : (j < i) = (j < i + 1) := by simp; omega
      simp [e, this]
theorem fill_full {T T' : St} {c : Cp} {nm er : Int} (hT : T 0 = fill c 32) (h : Added T 3 0 c nm er T') : er = 4 ∧ T' = T := by
  cases h with
  | full hb => exact ⟨rfl, rfl⟩
  | put i q hq hf hb =>
    rw [hT, fill] at hq
    obtain ⟨hi, rfl⟩ := mk_some hq
    rw [if_pos hi] at hf
    simp [Q.pl, Pl.free] at hf
theorem fill_names (c : Cp) (k : Nat) : ∀ m, m ≤ 32 → (names ((fill c k).map Q.pl) m).length = min m k
  | 0, _ => by simp [names]
  | m + 1, hm => by
    have ih := fill_names c k m (by omega)
    have hg : ((fill c k).map Q.pl)[m]? = some (if m < k then ⟨1, true, c⟩ else ⟨1, false, zcap⟩ : Q).pl := by rw [List.getElem?_map, fill, mk_get (by omega)]; rfl
    by_cases h : m < k
    · rw [if_pos h] at hg
      rw [names_on hg rfl, List.length_append, ih]
      simp
      omega
    · rw [if_neg h] at hg
      rw [names_off hg rfl, ih]
      omega
theorem has_mono {T T' : St} {n e : Nat} {c d : Cp} {nm er : Int} {ρ : Rf} (I : Inv T n) (he : e < n) (h : Added T n e c nm er T') (hd : Has T n ρ d) : Has T' n ρ d := by
  rcases h.has I he with ⟨_, _, rfl, _⟩ | ⟨_, _, h1⟩
  · exact hd
  · exact (h1 _ _).2 (.inl hd)
/-- What the round i of CapsFull knows. -/
structure FullAt (w wx : World) (s B : Nat) (p r : Nat → Nat) (a : Int) (c : Cp) (i : Nat) (T : St) : Prop where
  S : Sp0 w wx s B 3 p r T
  z : T 0 = fill c (min i 32)
  o : T 1 = init 1
  t : Has T 3 (2, a) ⟨0, 7, 0, 10, (0, 0)⟩
theorem FullAt.next {w wx wy : World} {s B i : Nat} {p r : Nat → Nat} {a nm er : Int} {c : Cp} {T T' : St} (h : FullAt w wx s B p r a c i T) (hA : Added T 3 0 c nm er T') (S : Sp0 w wy s B 3 p r T') :
    er = (if i < 32 then 0 else 4) ∧ FullAt w wy s B p r a c (i + 1) T' := by
  by_cases hi : i < 32
  · have hz := h.z
    rw [Nat.min_eq_left (by omega)] at hz
    obtain ⟨h1, h2⟩ := fill_step hz hi hA
    rw [if_pos hi]
    exact ⟨h1, S, by rw [Nat.min_eq_left (by omega)]; exact h2, (hA.other (by decide)).trans h.o, has_mono h.S.inv (by decide) hA h.t⟩
  · have hz := h.z
    rw [Nat.min_eq_right (by omega)] at hz
    obtain ⟨h1, rfl⟩ := fill_full hz hA
    rw [if_neg hi]
    exact ⟨h1, S, by rw [Nat.min_eq_right (by omega)]; exact hz, h.o, h.t⟩
theorem Sp0.names0 {w0 w : World} {s B n : Nat} {p r : Nat → Nat} {T : St} (h : Sp0 w0 w s B n p r T) (he : 0 < n) (k : Nat) (hk : (names ((T 0).map Q.pl) (T 0).length).length = k) :
    Calls Try.prog 12 #[.pointer (some ⟨s, 0, none⟩), .int .i64 0] w fun e' w' => ∃ A cap, e' = .returned (.slice A k cap) ∧ Sp0 w0 w' s B n p r T := by
  refine (snames_is (e := 0) h.sp he).mono ?_
  rintro e' w' ⟨A, cap, rfl, _, hK⟩
  exact ⟨A, cap, by rw [hk], h.nob hK⟩
set_option maxRecDepth 100000 in
set_option maxHeartbeats 4000000 in
theorem full_core (w : World) (a0 : Int) (g : Bool) (m : Nat) (h0 : bits .and .i64 a0 15 = m) (hm : m ≤ 15) :
    Calls Try.prog 6 #[.int .i64 a0, .bool g] w fun e w' => e = .returned (.bool true) ∧ Keep (From w.heap.size) w w' := by
  go_enter Try.func6, Try.ntmps6
  go_wp2_with fail
  refine (new0 (w0 := w) 3 3 (by omega) (Keep.refl _ w)).mono ?_; rintro e w1 ⟨s, B, p, r, rfl, S1, _, _⟩
  go_wp2_with fail
  refine (S1.put 2 (by decide) ⟨0, 7, 0, 10, (0, 0)⟩ (by decide) (by decide) (by decide)).mono ?_; rintro e w2 ⟨a, er, T2, rfl, hA, S2, _⟩
  obtain ⟨rfl, hn1, hh1⟩ := hA.room S1.inv (by decide) rfl
  obtain ⟨c, hc⟩ : ∃ c : Cp, c = if g then ⟨0, 1, 0, 1, (2, a)⟩ else ⟨0, 1, 0, 0, (0, 0)⟩ := ⟨_, rfl⟩
  have F0 : FullAt w w2 s B p r a c 0 T2 := ⟨S2, (hA.other (by decide)).trans (fill_none c 0), hA.other (by decide), (hh1 _ _).2 (.inr ⟨rfl, rfl⟩)⟩
  have Hc := Lib.hid hc
  clear hc hA hh1 hn1 S2 S1
  go_wp2
  go_loopw [8] (fun s8 wx => ∃ (i : Nat) (T : St), i ≤ m + 25 ∧ s8 = .int .i64 i ∧ FullAt w wx s B p r a c i T) (fun s8 _ => m + 25 - (intOf s8).toNat)
  case atStart => exact ⟨0, T2, Nat.zero_le _, rfl, F0⟩
  case round =>
    obtain ⟨i, T, hi, rfl, F⟩ := hrel
    by_cases hlt : i < m + 25
    · cases g with
      | true =>
        have hc : c = ⟨0, 1, 0, 1, (2, a)⟩ := Hc.out
        go_wp2_with fail
        refine (F.S.grant 0 (by decide) ⟨0, 7, 0, 10, (0, 0)⟩ F.t (by decide) (by decide) (by decide) (by decide)).mono ?_; rintro e w3 ⟨nm, er, T', rfl, hA, S3, _⟩
        obtain ⟨he, F'⟩ := F.next (c := c) (by rw [hc]; exact hA) S3
        clear hc
        by_cases h32 : i < 32
        · rw [if_pos h32] at he
          subst he
          go_wp2
          go_roundw
          case rel => exact ⟨i + 1, T', by omega, by go_num, F'⟩
          case measure => simp [intOf]; omega
        · rw [if_neg h32] at he
          subst he
          go_wp2
          go_roundw
          case rel => exact ⟨i + 1, T', by omega, by go_num, F'⟩
          case measure => simp [intOf]; omega
      | false =>
        have hc : c = ⟨0, 1, 0, 0, (0, 0)⟩ := Hc.out
        go_wp2_with fail
        refine (F.S.put 0 (by decide) ⟨0, 1, 0, 0, (0, 0)⟩ (by decide) (by decide) (by decide)).mono ?_; rintro e w3 ⟨nm, er, T', rfl, hA, S3, _⟩
        obtain ⟨he, F'⟩ := F.next (c := c) (by rw [hc]; exact hA) S3
        clear hc
        by_cases h32 : i < 32
        · rw [if_pos h32] at he
          subst he
          go_wp2
          go_roundw
          case rel => exact ⟨i + 1, T', by omega, by go_num, F'⟩
          case measure => simp [intOf]; omega
        · rw [if_neg h32] at he
          subst he
          go_wp2
          go_roundw
          case rel => exact ⟨i + 1, T', by omega, by go_num, F'⟩
          case measure => simp [intOf]; omega
    · obtain rfl : i = m + 25 := by omega
      go_wp2_with fail
      refine (F.S.put 1 (by decide) zcap (by decide) (by decide) (by decide)).mono ?_; rintro e w3 ⟨nm, er, T', rfl, hA, S3, _⟩
      obtain ⟨rfl, _, _⟩ := hA.room F.S.inv (by decide) F.o
      have hz : T' 0 = fill c (min (m + 25) 32) := (hA.other (by decide)).trans F.z
      go_wp2_with fail
      refine (S3.put_no 3 zcap (fun h => absurd h.2.1 (by decide))).mono ?_; rintro e w4 ⟨rfl, S4, _⟩
      go_wp2_with fail
      refine (S4.put_no 0 ⟨0, 8, 0, 0, (0, 0)⟩ (fun h => absurd h.2.2.1 (by decide))).mono ?_; rintro e w5 ⟨rfl, S5, _⟩
      have hnl : (names ((T' 0).map Q.pl) (T' 0).length).length = min (m + 25) 32 := by
        rw [S5.inv.len 0 (by decide), hz, fill_names _ _ _ (Nat.le_refl _)]
        omega
      go_wp2_with fail
      refine (S5.names0 (by decide) _ hnl).mono ?_; rintro e w6 ⟨A, cap, rfl, S6⟩
      go_wp2_with fail
      refine (snames_no (-1) S6.sp (.inl (by decide))).mono ?_; rintro e w7 ⟨rfl, rfl⟩
      go_wp2_with fail
      refine (awake_true _).mono ?_; rintro e w8 ⟨rfl, k8⟩
      go_wp2
      go_ret
      exact ⟨rfl, S6.keep.nob k8⟩
theorem CapsFull_walk (w : World) (a0 : Int) (w0 : (Lit.int .i64 a0).wf = true) (a1 : Bool) :
    Calls Try.prog 6 #[.int .i64 a0, .bool a1] w fun e w' => e = .returned (.bool true) ∧ Below w.heap.size w w' :=
  (full_core w a0 a1 (a0 % 16).toNat (by rw [i64_and15]; omega) (by omega)).mono fun _ _ ⟨he, k⟩ => ⟨he, k.done⟩
end Go.Proofs.Ytjkmbffcmgeknaa
