/- Contracts of package caps: New, Put, Grant. -/
import Derived.Test.YtompckcnpidbdaaGreatCaps1
namespace Go.Proofs.YtompckcnpidbdaaGreat
open Go.RowKit
set_option linter.unusedVariables false
set_option linter.unusedSimpArgs false
/-- Places at the beginning. -/
def init : St := fun _ => List.replicate 32 ⟨1, false, zcap⟩
theorem init_has {n : Nat} {ρ : Rf} {c : Cp} : ¬ Has init n ρ c := by
  rintro ⟨e, i, q, _, _, h3, h4, _⟩
  have : q = ⟨1, false, zcap⟩ := by
    unfold init at h3
    rw [List.getElem?_replicate] at h3
    split at h3
    · exact (Option.some.inj h3).symm
    · cases h3
  rw [this] at h4
  cases h4
theorem init_inv {n : Nat} (hn : n ≤ 40) : Inv init n := by
  refine ⟨hn, fun e he => by simp [init], ?_, fun ρ c h => (init_has h).elim, fun ρ c h => (init_has h).elim, ⟨fun _ => 0, fun ρ c h _ => (init_has h).elim⟩⟩
  intro e i q he hq
  unfold init at hq
  rw [List.getElem?_replicate] at hq
  split at hq
  · obtain rfl := (Option.some.inj hq)
    exact ⟨Nat.le_refl _, fun h => by cases h⟩
  · cases hq
/-- What is so behind an add that found room. -/
theorem Added.inv {T T' : St} {n e : Nat} {c : Cp} {nm er : Int} (I : Inv T n) (he : e < n) (h : Added T n e c nm er T') (h1 : 0 ≤ c.rights ∧ c.rights ≤ 7 ∧ 0 ≤ c.lo ∧ 0 ≤ c.n ∧ c.lo + c.n ≤ 131072) (h2 : c.root = (0, 0) ∨ ∃ c', Has T n c.root c') : Inv T' n := by
  cases h with
  | full _ => exact I
  | put i q hq hf hb =>
    obtain ⟨ho, hg⟩ := free_off hf
    have hh := up_has (c := c) I.len256 he hq ho
    have hnew := fun d => new_ref I.len256 he hq ho d
    refine ⟨I.n40, fun j hj => ?_, fun j k y hj hy => ?_, fun ρ d hd => ?_, fun ρ d hd => ?_, ?_⟩
    · unfold up
      split
      · rw [List.length_set]; exact I.len e he
      · exact I.len j hj
    · unfold up at hy
      split at hy
      · subst_vars
        by_cases hk : i = k
        · subst hk
          rw [List.getElem?_set_self (get_lt hq)] at hy
          cases hy
          exact ⟨(I.gen _ _ _ he hq).1, fun _ => hg⟩
        · rw [List.getElem?_set_ne hk] at hy
          exact I.gen _ _ _ he hy
      · exact I.gen _ _ _ hj hy
    · rcases (hh ρ d).1 hd with h | ⟨_, rfl⟩
      · exact I.cap ρ d h
      · exact h1
    · rcases (hh ρ d).1 hd with h | ⟨_, rfl⟩
      · rcases I.root ρ d h with h3 | ⟨c', h3⟩
        · exact .inl h3
        · exact .inr ⟨c', (hh _ _).2 (.inl h3)⟩
      · rcases h2 with h3 | ⟨c', h3⟩
        · exact .inl h3
        · exact .inr ⟨c', (hh _ _).2 (.inl h3)⟩
    · obtain ⟨rk, hrk⟩ := I.rank
      have hroot : ∀ ρ d, Has T n ρ d → d.root ≠ (0, 0) → d.root ≠ ((e : Int), (i : Int) + 256 * (q.gen : Int)) := fun ρ d h h0 e1 => by
        rcases I.root ρ d h with h3 | ⟨c', h3⟩
        · exact h0 h3
        · exact hnew c' (by rw [← e1]; exact h3)
      refine ⟨fun ρ => if ρ = ((e : Int), (i : Int) + 256 * (q.gen : Int)) then rk c.root + 1 else rk ρ, fun ρ d hd h0 => ?_⟩
      show (if d.root = ((e : Int), (i : Int) + 256 * (q.gen : Int)) then rk c.root + 1 else rk d.root) < (if ρ = ((e : Int), (i : Int) + 256 * (q.gen : Int)) then rk c.root + 1 else rk ρ)
      rcases (hh ρ d).1 hd with h | ⟨h3, h4⟩
      · rw [if_neg (hroot ρ d h h0), if_neg (fun e1 => hnew d (by rw [← e1]; exact h))]
        exact hrk ρ d h h0
      · subst h4
        rw [if_pos h3, if_neg (fun e1 => ?_)]
        · exact Nat.lt_succ_self _
        · rcases h2 with h5 | ⟨c', h5⟩
          · exact h0 h5
          · exact hnew c' (by rw [← e1]; exact h5)
theorem Added.has {T T' : St} {n e : Nat} {c : Cp} {nm er : Int} (I : Inv T n) (he : e < n) (h : Added T n e c nm er T') :
    (er = 4 ∧ nm = 0 ∧ T' = T ∧ ∀ (j : Nat) (q : Q), (T e)[j]? = some q → q.pl.free = false) ∨ (er = 0 ∧ (∀ d, ¬ Has T n ((e : Int), nm) d) ∧ ∀ ρ d, Has T' n ρ d ↔ Has T n ρ d ∨ (ρ = ((e : Int), nm) ∧ d = c)) := by
  cases h with
  | full hb => exact .inl ⟨rfl, rfl, rfl, hb⟩
  | put i q hq hf hb =>
    obtain ⟨ho, hg⟩ := free_off hf
    exact .inr ⟨rfl, fun d => new_ref I.len256 he hq ho d, up_has I.len256 he hq ho⟩
/-- What Put asks. -/
def PutOk (n : Nat) (env : Int) (c : Cp) : Prop := 0 ≤ env ∧ env < n ∧ sub c.rights 7 = true ∧ 0 ≤ c.lo ∧ c.lo ≤ 65536 ∧ 0 ≤ c.n ∧ c.n ≤ 65536
set_option maxRecDepth 100000 in
set_option maxHeartbeats 2000000 in
theorem put_no {w : World} {s B n : Nat} {p r : Nat → Nat} {T : St} {env : Int} {c : Cp} (h : IsSp w s B n p r T) (hno : ¬ PutOk n env c) :
    Calls Tryz.prog 58 #[.pointer (some ⟨s, 0, none⟩), .int .i64 env, cval c] w fun e' w' => e' = .returned (.tuple #[.int .i64 0, .int .i64 1]) ∧ Keep Nob w w' := by
  unfold cval
  have k0 := (Keep.refl Nob w).alloc (.cells #[.int .i64 c.obj, .int .i64 c.rights, .int .i64 c.lo, .int .i64 c.n, .int .i64 c.root.1, .int .i64 c.root.2] 61)
  have h0 := h.nob k0
  by_cases a1 : 0 ≤ env ∧ env < n
  · by_cases a2 : sub c.rights 7 = true
    · by_cases a3 : 0 ≤ c.lo ∧ c.lo ≤ 65536
      · have a4 : (decide (0 ≤ c.n) && decide (c.n ≤ 65536)) = false := by
          cases hb : (decide (0 ≤ c.n) && decide (c.n ≤ 65536)) with
          | false => rfl
          | true =>
            simp at hb
            exact absurd ⟨a1.1, a1.2, a2, a3.1, a3.2, hb.1, hb.2⟩ hno
        clear hno
        have A3 := Lib.hid a3
        have A1 := Lib.hid a1
        clear a3 a1
        go_enter Tryz.func58, Tryz.ntmps58
        go_wp2_with fail
        refine (has_is h0 env true (by simp [A1.out.1, A1.out.2])).mono ?_; rintro e' w' ⟨rfl, rfl⟩
        go_wp2_with fail
        refine (rights_is 7 c.rights _ true a2).mono ?_; rintro e' w' ⟨rfl, rfl⟩
        go_wp2_with fail
        refine (bounds_is c.lo _ true (by simp [A3.out.1, A3.out.2])).mono ?_; rintro e' w' ⟨rfl, rfl⟩
        go_wp2_with fail
        refine (bounds_is c.n _ false a4).mono ?_; rintro e' w' ⟨rfl, rfl⟩
        go_wp2
        go_ret2
        exact ⟨rfl, k0⟩
      · have a4 : (decide (0 ≤ c.lo) && decide (c.lo ≤ 65536)) = false := by
          cases hb : (decide (0 ≤ c.lo) && decide (c.lo ≤ 65536)) with
          | false => rfl
          | true =>
            simp at hb
            exact absurd hb a3
        clear hno a3
        have A1 := Lib.hid a1
        clear a1
        go_enter Tryz.func58, Tryz.ntmps58
        go_wp2_with fail
        refine (has_is h0 env true (by simp [A1.out.1, A1.out.2])).mono ?_; rintro e' w' ⟨rfl, rfl⟩
        go_wp2_with fail
        refine (rights_is 7 c.rights _ true a2).mono ?_; rintro e' w' ⟨rfl, rfl⟩
        go_wp2_with fail
        refine (bounds_is c.lo _ false a4).mono ?_; rintro e' w' ⟨rfl, rfl⟩
        go_wp2
        go_ret2
        exact ⟨rfl, k0⟩
    · have a4 : sub c.rights 7 = false := by cases hb : sub c.rights 7 <;> simp_all
      clear hno a2
      have A1 := Lib.hid a1
      clear a1
      go_enter Tryz.func58, Tryz.ntmps58
      go_wp2_with fail
      refine (has_is h0 env true (by simp [A1.out.1, A1.out.2])).mono ?_; rintro e' w' ⟨rfl, rfl⟩
      go_wp2_with fail
      refine (rights_is 7 c.rights _ false a4).mono ?_; rintro e' w' ⟨rfl, rfl⟩
      go_wp2
      go_ret2
      exact ⟨rfl, k0⟩
  · have a4 : false = (decide (0 ≤ env) && decide (env < n)) := by
      cases hb : (decide (0 ≤ env) && decide (env < n)) with
      | false => rfl
      | true =>
        simp at hb
        exact absurd hb a1
    have A4 := Lib.hid a4
    clear hno a1 a4
    go_enter Tryz.func58, Tryz.ntmps58
    go_wp2_with fail
    refine (has_is h0 env false A4.out).mono ?_; rintro e' w' ⟨rfl, rfl⟩
    go_wp2
    go_ret2
    exact ⟨rfl, k0⟩
set_option maxHeartbeats 1000000 in
theorem put_yes {w : World} {s B n e : Nat} {p r : Nat → Nat} {T : St} {c : Cp} (h : IsSp w s B n p r T) (he : e < n) (hok : PutOk n e c) :
    Calls Tryz.prog 58 #[.pointer (some ⟨s, 0, none⟩), .int .i64 e, cval c] w fun e' w' => ∃ nm er T', e' = .returned (.tuple #[.int .i64 nm, .int .i64 er]) ∧ Added T n e ⟨c.obj, c.rights, c.lo, c.n, (0, 0)⟩ nm er T' ∧ IsSp w' s B n p r T' ∧ Keep (· = r e) w w' := by
  obtain ⟨_, _, a2, b1, b2, b3, b4⟩ := hok
  have A3 := Lib.hid (And.intro b1 b2)
  have A4 := Lib.hid (And.intro b3 b4)
  clear b1 b2 b3 b4
  have hadd := fun W (k : Keep Nob w W) => sadd_is (h.nob k) he ⟨c.obj, c.rights, c.lo, c.n, (0, 0)⟩
  unfold cval at hadd ⊢
  go_enter Tryz.func58, Tryz.ntmps58
  go_wp2_with (refine wpList_box rfl 61 _ rfl _ rfl ?_; intro w1 hb1 hk1 hs1)
  have h0 := h.nob hk1
  have d0 : w1.cell? ⟨w.heap.size, 0, none⟩ = some (.int .i64 c.obj) := hb1.cell 0
  have d1 : w1.cell? ⟨w.heap.size, 1, none⟩ = some (.int .i64 c.rights) := hb1.cell 1
  have d2 : w1.cell? ⟨w.heap.size, 2, none⟩ = some (.int .i64 c.lo) := hb1.cell 2
  have d3 : w1.cell? ⟨w.heap.size, 3, none⟩ = some (.int .i64 c.n) := hb1.cell 3
  have d4 : w1.cell? ⟨w.heap.size, 4, none⟩ = some (.int .i64 c.root.1) := hb1.cell 4
  have d5 : w1.cell? ⟨w.heap.size, 5, none⟩ = some (.int .i64 c.root.2) := hb1.cell 5
  have f4 := hb1.frozen 4
  have f5 := hb1.frozen 5
  have hkl : Keep Nob w ((w1.setCell ⟨w.heap.size, 4, none⟩ (.int .i64 0)).setCell ⟨w.heap.size, 5, none⟩ (.int .i64 0)) := (hk1.setCell _ _ (fun h => absurd h (Nat.lt_irrefl _))).setCell _ _ (fun h => absurd h (Nat.lt_irrefl _))
  have hcl := hadd _ hkl
  clear hadd hb1 hs1
  go_wp2_with fail
  refine (has_is h0 (e : Int) true (by simp [he])).mono ?_; rintro e' w' ⟨rfl, rfl⟩
  go_wp2_with fail
  refine (rights_is 7 c.rights _ true a2).mono ?_; rintro e' w' ⟨rfl, rfl⟩
  go_wp2_with fail
  refine (bounds_is c.lo _ true (by simp [A3.out.1, A3.out.2])).mono ?_; rintro e' w' ⟨rfl, rfl⟩
  go_wp2_with fail
  refine (bounds_is c.n _ true (by simp [A4.out.1, A4.out.2])).mono ?_; rintro e' w' ⟨rfl, rfl⟩
  go_wp2_with fail
  refine hcl.mono ?_; rintro e' w2 ⟨nm, er, T', rfl, hA, hS, hk⟩
  go_wp2
  go_ret2
  exact ⟨nm, er, T', rfl, hA, hS, (hkl.mono (M' := (· = r e)) (fun _ _ f => f.elim)).trans hk (fun _ _ e => e)⟩
/-- What Grant asks of the range, and of whom it is granted to. -/
def PartOk (n : Nat) (c : Cp) (to lo m : Int) : Prop := 0 ≤ to ∧ to < n ∧ 0 ≤ lo ∧ 0 ≤ m ∧ m ≤ c.n ∧ lo ≤ c.n - m
set_option maxRecDepth 100000 in
set_option maxHeartbeats 2000000 in
theorem grant_nocap {w : World} {s B n : Nat} {p r : Nat → Nat} {T : St} {a b to rights lo m : Int} (h : IsSp w s B n p r T) (hno : ∀ c, ¬ Has T n (a, b) c) :
    Calls Tryz.prog 35 #[.pointer (some ⟨s, 0, none⟩), .int .i64 a, .int .i64 b, .int .i64 to, .int .i64 rights, .int .i64 lo, .int .i64 m] w fun e' w' => e' = .returned (.tuple #[.int .i64 0, .int .i64 2]) ∧ Keep Nob w w' := by
  go_enter Tryz.func35, Tryz.ntmps35
  go_wp2_with fail
  refine (sget_no h hno).mono ?_; rintro e' w1 ⟨rfl, hk1⟩
  unfold cval zcap
  go_wp2
  go_ret2
  exact ⟨rfl, hk1.alloc _⟩
set_option maxRecDepth 100000 in
set_option maxHeartbeats 2000000 in
theorem grant_noright {w : World} {s B n : Nat} {p r : Nat → Nat} {T : St} {a b to rights lo m : Int} (h : IsSp w s B n p r T) (c : Cp) (hc : Has T n (a, b) c) (hno : ¬ (sub 4 c.rights = true ∧ sub rights c.rights = true)) :
    Calls Tryz.prog 35 #[.pointer (some ⟨s, 0, none⟩), .int .i64 a, .int .i64 b, .int .i64 to, .int .i64 rights, .int .i64 lo, .int .i64 m] w fun e' w' => e' = .returned (.tuple #[.int .i64 0, .int .i64 3]) ∧ Keep Nob w w' := by
  by_cases h4 : sub 4 c.rights = true
  · have h5 : sub rights c.rights = false := by cases hb : sub rights c.rights <;> simp_all
    clear hno
    go_enter Tryz.func35, Tryz.ntmps35
    go_wp2_with fail
    refine (sget_yes h c hc).mono ?_; rintro e' w1 ⟨rfl, hk1⟩
    unfold cval
    go_wp2_with fail
    refine (rights_is c.rights 4 _ true h4).mono ?_; rintro e' w' ⟨rfl, rfl⟩
    go_wp2_with fail
    refine (rights_is c.rights rights _ false h5).mono ?_; rintro e' w' ⟨rfl, rfl⟩
    go_wp2
    go_ret2
    exact ⟨rfl, hk1.alloc _⟩
  · have h5 : sub 4 c.rights = false := by cases hb : sub 4 c.rights <;> simp_all
    clear hno h4
    go_enter Tryz.func35, Tryz.ntmps35
    go_wp2_with fail
    refine (sget_yes h c hc).mono ?_; rintro e' w1 ⟨rfl, hk1⟩
    unfold cval
    go_wp2_with fail
    refine (rights_is c.rights 4 _ false h5).mono ?_; rintro e' w' ⟨rfl, rfl⟩
    go_wp2
    go_ret2
    exact ⟨rfl, hk1.alloc _⟩
set_option maxRecDepth 100000 in
set_option maxHeartbeats 2000000 in
theorem grant_nopart {w : World} {s B n : Nat} {p r : Nat → Nat} {T : St} {a b to rights lo m : Int} (h : IsSp w s B n p r T) (I : Inv T n) (c : Cp) (hc : Has T n (a, b) c) (h4 : sub 4 c.rights = true) (h5 : sub rights c.rights = true) (hno : ¬ PartOk n c to lo m) :
    Calls Tryz.prog 35 #[.pointer (some ⟨s, 0, none⟩), .int .i64 a, .int .i64 b, .int .i64 to, .int .i64 rights, .int .i64 lo, .int .i64 m] w fun e' w' => e' = .returned (.tuple #[.int .i64 0, .int .i64 1]) ∧ Keep Nob w w' := by
  have hcap := I.cap _ _ hc
  have Hc := Lib.hid hcap
  clear hcap
  by_cases a1 : 0 ≤ to ∧ to < n
  · have a4 : (decide (0 ≤ lo) && (decide (0 ≤ m) && (decide (m ≤ c.n) && decide (lo ≤ c.n - m)))) = false := by
      cases hb : (decide (0 ≤ lo) && (decide (0 ≤ m) && (decide (m ≤ c.n) && decide (lo ≤ c.n - m)))) with
      | false => rfl
      | true =>
        simp at hb
        exact absurd ⟨a1.1, a1.2, hb.1, hb.2.1, hb.2.2.1, hb.2.2.2⟩ hno
    have A4 := Lib.hid a4
    have A1 := Lib.hid a1
    clear hno a4 a1
    go_enter Tryz.func35, Tryz.ntmps35
    go_wp2_with fail
    refine (sget_yes h c hc).mono ?_; rintro e' w1 ⟨rfl, hk1⟩
    have h1 := h.nob (hk1.alloc (.cells #[.int .i64 c.obj, .int .i64 c.rights, .int .i64 c.lo, .int .i64 c.n, .int .i64 c.root.1, .int .i64 c.root.2] 61))
    unfold cval
    go_wp2_with fail
    refine (rights_is c.rights 4 _ true h4).mono ?_; rintro e' w' ⟨rfl, rfl⟩
    go_wp2_with fail
    refine (rights_is c.rights rights _ true h5).mono ?_; rintro e' w' ⟨rfl, rfl⟩
    go_wp2_with fail
    refine (has_is h1 to true (by simp [A1.out.1, A1.out.2])).mono ?_; rintro e' w' ⟨rfl, rfl⟩
    go_wp2_with fail
    refine (part_is lo m c.n _ false Hc.out.2.2.2.1 (by have := Hc.out; omega) A4.out).mono ?_; rintro e' w' ⟨rfl, rfl⟩
    go_wp2
    go_ret2
    exact ⟨rfl, hk1.alloc _⟩
  · have a4 : false = (decide (0 ≤ to) && decide (to < n)) := by
      cases hb : (decide (0 ≤ to) && decide (to < n)) with
      | false => rfl
      | true =>
        simp at hb
        exact absurd hb a1
    have A4 := Lib.hid a4
    clear hno a4 a1
    go_enter Tryz.func35, Tryz.ntmps35
    go_wp2_with fail
    refine (sget_yes h c hc).mono ?_; rintro e' w1 ⟨rfl, hk1⟩
    have h1 := h.nob (hk1.alloc (.cells #[.int .i64 c.obj, .int .i64 c.rights, .int .i64 c.lo, .int .i64 c.n, .int .i64 c.root.1, .int .i64 c.root.2] 61))
    unfold cval
    go_wp2_with fail
    refine (rights_is c.rights 4 _ true h4).mono ?_; rintro e' w' ⟨rfl, rfl⟩
    go_wp2_with fail
    refine (rights_is c.rights rights _ true h5).mono ?_; rintro e' w' ⟨rfl, rfl⟩
    go_wp2_with fail
    refine (has_is h1 to false A4.out).mono ?_; rintro e' w' ⟨rfl, rfl⟩
    go_wp2
    go_ret2
    exact ⟨rfl, hk1.alloc _⟩
set_option maxRecDepth 100000 in
set_option maxHeartbeats 2000000 in
theorem grant_yes {w : World} {s B n f : Nat} {p r : Nat → Nat} {T : St} {a b rights lo m : Int} (h : IsSp w s B n p r T) (I : Inv T n) (c : Cp) (hc : Has T n (a, b) c) (h4 : sub 4 c.rights = true) (h5 : sub rights c.rights = true) (hf : f < n) (hok : PartOk n c f lo m) :
    Calls Tryz.prog 35 #[.pointer (some ⟨s, 0, none⟩), .int .i64 a, .int .i64 b, .int .i64 f, .int .i64 rights, .int .i64 lo, .int .i64 m] w fun e' w' => ∃ nm er T', e' = .returned (.tuple #[.int .i64 nm, .int .i64 er]) ∧ Added T n f ⟨c.obj, rights, c.lo + lo, m, (a, b)⟩ nm er T' ∧ IsSp w' s B n p r T' ∧ Keep (· = r f) w w' := by
  have hcap := I.cap _ _ hc
  obtain ⟨_, _, o1, o2, o3, o4⟩ := hok
  have Hok := Lib.hid (And.intro (And.intro o1 o2) (And.intro o3 o4))
  have Hc := Lib.hid hcap
  have q1 : -9223372036854775808 ≤ c.lo + lo := by omega
  have q2 : c.lo + lo ≤ 9223372036854775807 := by omega
  have hadd := fun W (k : Keep Nob w W) => sadd_is (h.nob k) hf ⟨c.obj, rights, c.lo + lo, m, (a, b)⟩
  clear o1 o2 o3 o4 hcap
  unfold cval at hadd
  go_enter Tryz.func35, Tryz.ntmps35
  go_wp2_with fail
  refine (sget_yes h c hc).mono ?_; rintro e' w1 ⟨rfl, hk1⟩
  have kk := hk1.alloc (.cells #[.int .i64 c.obj, .int .i64 c.rights, .int .i64 c.lo, .int .i64 c.n, .int .i64 c.root.1, .int .i64 c.root.2] 61)
  have h1 := h.nob kk
  have hcl := hadd _ kk
  clear hadd
  unfold cval
  go_wp2_with fail
  refine (rights_is c.rights 4 _ true h4).mono ?_; rintro e' w' ⟨rfl, rfl⟩
  go_wp2_with fail
  refine (rights_is c.rights rights _ true h5).mono ?_; rintro e' w' ⟨rfl, rfl⟩
  go_wp2_with fail
  refine (has_is h1 (f : Int) true (by simp [hf])).mono ?_; rintro e' w' ⟨rfl, rfl⟩
  go_wp2_with fail
  refine (part_is lo m c.n _ true Hc.out.2.2.2.1 (by have := Hc.out; omega) (by have := Hok.out; simp; omega)).mono ?_; rintro e' w' ⟨rfl, rfl⟩
  go_wp2_with fail
  refine hcl.mono ?_; rintro e' w2 ⟨nm, er, T', rfl, hA, hS, hk⟩
  go_wp2
  go_ret2
  exact ⟨nm, er, T', rfl, hA, hS, (kk.mono (M' := (· = r f)) (fun _ _ f => f.elim)).trans hk (fun _ _ e => e)⟩
/-- The Space under way: k tables lie. -/
structure Half (w : World) (s B n k : Nat) (p r : Nat → Nat) (lo : Nat) : Prop where
  obj : Blk w s 109 [.slice (some ⟨B, 0, none⟩) n n]
  row : Blk w B 106 (mk n fun i => if i < k then .pointer (some ⟨p i, 0, none⟩) else .pointer none)
  tab : ∀ i, i < k → Tab w (p i) (r i) (List.replicate 32 ⟨1, false, zcap.cells⟩)
  pinj : ∀ i j, i < k → j < k → p i = p j → i = j
  rinj : ∀ i j, i < k → j < k → r i = r j → i = j
  lop : ∀ i, i < k → lo ≤ p i ∧ lo ≤ r i
theorem Half.next {w w1 w2 : World} {s B n k pk rk lo : Nat} {p r : Nat → Nat} (h : Half w s B n k p r lo) (hk : k < n) (ht : Tab w1 pk rk (List.replicate 32 ⟨1, false, zcap.cells⟩)) (hp : w.heap.size ≤ pk) (hr : w.heap.size ≤ rk) (hlo : lo ≤ w.heap.size) (k1 : Keep Nob w w1)
    (hb : Blk w2 B 106 ((Go.Proofs.YtompckcnpidbdaaGreat.mk n fun i => if i < k then Value.pointer (some ⟨p i, 0, none⟩) else .pointer none).set k (.pointer (some ⟨pk, 0, none⟩)))) (k2 : Keep (· = B) w1 w2) :
    Half w2 s B n (k + 1) (fun i => if i = k then pk else p i) (fun i => if i = k then rk else r i) lo := by
  have hrow := h.row.nob k1
  have old : ∀ i, i < k → p i < w.heap.size ∧ r i < w.heap.size := fun i hi => ⟨(h.tab i hi).obj.lt, (h.tab i hi).row.lt⟩
  refine ⟨(h.obj.nob k1).keep k2 ((h.obj.nob k1).ne_ hrow (by decide)), ?_, fun i hi => ?_, fun i j hi hj e => ?_, fun i j hi hj e => ?_, fun i hi => ?_⟩
  · rwa [mk_set _ (g := fun i => if i < k + 1 then Value.pointer (some ⟨if i = k then pk else p i, 0, none⟩) else .pointer none) (fun j hj => ?_)] at hb
    by_cases e : j = k
    · subst e; simp
    · rw [if_neg e, if_neg e]
      by_cases h1 : j < k
      · rw [if_pos h1, if_pos (by omega)]
      · rw [if_neg h1, if_neg (by omega)]
  · (try dsimp only)
    by_cases e : i = k
    · rw [if_pos e, if_pos e]
      exact ht.keep k2 (ht.obj.ne_ hrow (by decide)) (ht.row.ne_ hrow (by decide))
    · rw [if_neg e, if_neg e]
      have := (h.tab i (by omega)).nob k1
      exact this.keep k2 (this.obj.ne_ hrow (by decide)) (this.row.ne_ hrow (by decide))
  · (try dsimp only at e)
    by_cases e1 : i = k <;> by_cases e2 : j = k
    · omega
    · rw [if_pos e1, if_neg e2] at e
      have := (old j (by omega)).1
      omega
    · rw [if_neg e1, if_pos e2] at e
      have := (old i (by omega)).1
      omega
    · rw [if_neg e1, if_neg e2] at e
      exact h.pinj i j (by omega) (by omega) e
  · (try dsimp only at e)
    by_cases e1 : i = k <;> by_cases e2 : j = k
    · omega
    · rw [if_pos e1, if_neg e2] at e
      have := (old j (by omega)).2
      omega
    · rw [if_neg e1, if_pos e2] at e
      have := (old i (by omega)).2
      omega
    · rw [if_neg e1, if_neg e2] at e
      exact h.rinj i j (by omega) (by omega) e
  · (try dsimp only)
    by_cases e : i = k
    · rw [if_pos e, if_pos e]; omega
    · rw [if_neg e, if_neg e]; exact h.lop i (by omega)
theorem Half.sp {w : World} {s B n lo : Nat} {p r : Nat → Nat} (h : Half w s B n n p r lo) : IsSp w s B n p r init := by
  refine ⟨h.obj, ?_, fun i hi => ?_, h.pinj, h.rinj⟩
  · have := h.row
    rwa [mk_congr (g := fun i => Value.pointer (some ⟨p i, 0, none⟩)) (fun i hi => if_pos hi)] at this
  · have := h.tab i hi
    have e : (init i).map Q.pl = List.replicate 32 ⟨1, false, zcap.cells⟩ := by simp [init, Q.pl]
    rw [e]
    exact this
theorem infoPT : (Tryz.prog.info? 106).map (fun i => (i.zero, i.size, i.bytes)) = some (some (.pointer none), 1, 8) := by kernel_rfl
def NewSp (n : Nat) (w : World) (e : Ending) (w' : World) : Prop := ∃ s B p r, e = .returned (.pointer (some ⟨s, 0, none⟩)) ∧ IsSp w' s B n p r init ∧ w.heap.size ≤ s ∧ (∀ i, i < n → w.heap.size ≤ r i) ∧ Keep Nob w w'
set_option maxRecDepth 100000 in
set_option maxHeartbeats 2000000 in
theorem new_sp (a : Int) (n : Nat) (hn : (min (max a 0) 40).toNat = n) (w : World) : Calls Tryz.prog 25 #[.int .i64 a] w (NewSp n w) := by
  have hn40 : n ≤ 40 := by omega
  rcases (show a < 0 ∨ 40 < a ∨ (0 ≤ a ∧ a ≤ 40) from by omega) with h | h | ⟨h, h'⟩
  all_goals
    have Hn := Lib.hid hn
    clear hn
    go_enter Tryz.func25, Tryz.ntmps25
    go_wp2_with (refine wpList_mk rfl _ _ 107 rfl 106 (.pointer none) 8 Tryz.underlying107 infoPT rfl .i64 .i64 n _ (by have := Hn.out; omega) rfl rfl (by omega) (by omega) ?_; intro w1 hb1 hk1 hs1)
    have hH : Half (w1.alloc (.cells #[.slice (some ⟨w.heap.size, 0, none⟩) n n] 109)) (w.heap.size + 1) w.heap.size n 0 (fun _ => 0) (fun _ => 0) w.heap.size := by
      refine ⟨?_, ?_, fun i hi => absurd hi (by omega), fun i j hi => absurd hi (by omega), fun i j hi => absurd hi (by omega), fun i hi => absurd hi (by omega)⟩
      · have := Blk.new w1 109 [.slice (some ⟨w.heap.size, 0, none⟩) n n]
        rw [hs1] at this
        exact this
      · have := hb1.alloc (.cells #[.slice (some ⟨w.heap.size, 0, none⟩) n n] 109)
        rw [mk_rep] at this
        exact this
    have K1 := hk1.alloc (.cells #[.slice (some ⟨w.heap.size, 0, none⟩) n n] 109)
    have hh := hH.obj.cell 0
    clear hs1 hb1
    go_wp2
    clear hh
    go_loopw [16] (fun s16 wx => ∃ (k : Nat) (p r : Nat → Nat), k ≤ n ∧ s16 = .int .i64 k ∧ Half wx (w.heap.size + 1) w.heap.size n k p r w.heap.size ∧ Keep Nob w wx) (fun s16 _ => n - (intOf s16).toNat)
    case atStart => exact ⟨0, _, _, Nat.zero_le _, rfl, hH, K1⟩
    case round =>
      obtain ⟨k, p, r, hk, rfl, hX, hK⟩ := hrel
      by_cases hlt : k < n
      · have hsz := hX.row.lt
        have hKs := hK.size
        have kd : Keep (· = w.heap.size) wr wr.drew := (Keep.refl _ _).drew
        have hne : w.heap.size + 1 ≠ w.heap.size := by omega
        have sf : ∀ W, Keep (· = w.heap.size) wr W → W.cell? ⟨w.heap.size + 1, 0, none⟩ = some (.slice (some ⟨w.heap.size, 0, none⟩) n n) := fun W kk => (hX.obj.keep kk hne).cell 0
        have hrow0 : Blk wr w.heap.size 106 (mk n fun i => if i < k then .pointer (some ⟨p i, 0, none⟩) else .pointer none) := hX.row
        go_wp2_with fail
        go_region_held3 (fun w' => w'.cell? ⟨w.heap.size + 1, 0, none⟩ = some (.slice (some ⟨w.heap.size, 0, none⟩) n n))
          (first | exact sf _ kd | exact sf _ k1 | exact sf _ (k1.setCell _ _ (fun _ => rfl)))
          (first | (go_at_call 55; refine (TabC.new_is 32 32 rfl _).mono ?_; rintro e' w2 ⟨pk, rk, rfl, ht, hp, hr, hk2⟩; have k1 := kd.trans hk2 (fun _ _ f => f.elim); have hrow2 := (hrow0.nob (Keep.nobdrew _)).nob hk2; have z0 : w2.cell? ⟨w.heap.size, k, none⟩ = some (.pointer none) := (by rw [hrow2.cell, mk_get hlt, if_neg (Nat.lt_irrefl _)]); have f0 := hrow2.frozen k))
        have hN := hX.next hlt ht hp hr hKs ((Keep.nobdrew wr).nobt hk2) (hrow2.setCell k (.pointer (some ⟨pk, 0, none⟩))) ((Keep.refl _ w2).setCell _ _ (fun _ => rfl))
        have hK2 := ((hK.nobt (Keep.nobdrew wr)).nobt hk2).setCell ⟨w.heap.size, k, none⟩ (.pointer (some ⟨pk, 0, none⟩)) (fun h => absurd h (Nat.lt_irrefl _))
        go_wp2
        go_roundw
        case rel => exact ⟨k + 1, _, _, by omega, by go_num, hN, hK2⟩
        case measure => simp [intOf]; omega
      · obtain rfl : k = n := by omega
        go_wp2
        go_ret
        exact ⟨_, _, p, r, rfl, hX.sp, by omega, fun i hi => (hX.lop i hi).2, hK⟩
end Go.Proofs.YtompckcnpidbdaaGreat
