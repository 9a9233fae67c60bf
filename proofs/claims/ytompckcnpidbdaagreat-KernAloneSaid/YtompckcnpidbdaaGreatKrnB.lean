/- A kernel of two sessions: Do of whatever call; what one session sees of it. -/
import Derived.Test.YtompckcnpidbdaaGreatKrnA
namespace Go.Proofs.YtompckcnpidbdaaGreat
open Go.RowKit
set_option linter.unusedVariables false
set_option linter.unusedSimpArgs false
set_option maxHeartbeats 2000000 in
theorem al_do {w : World} {K : Kn} {i : Nat} {st : Sx} (h : IsKn w K) (I : In8 i K st) (hi : i ≤ 60) (e : Nat) (he : e < 4) (op cap at_ n to_ on : Int) (A : Option Addr) (m c : Nat) (bs : List UInt8) (hb : Reads w A m (bytes bs)) (ans : Ans) (st' : Sx) (hs : step st e op cap at_ n to_ on bs = (ans, st')) :
    Calls Tryz.prog 10 #[.pointer (some ⟨K.k, 0, none⟩), .int .i64 e, Calc op cap at_ n to_ on A m c] w fun x w' => ∃ A' l c' K', x = .returned (.agg #[.int .i64 ans.1, .int .i64 ans.2.1, .slice A' l c']) ∧ Reads w' A' l (bytes ans.2.2) ∧ (∀ ad, A' = some ad → w.heap.size ≤ ad.block ∨ l = 0) ∧ To w K K' w' ∧ In8 (i + 1) K' st' ∧ K'.k = K.k := by
  have hbl : bs.length = m := by have := hb.1; simpa using this
  obtain ⟨hss, hee⟩ := I.sess he
  have hl4 : K.envs.length = 4 := by rw [I.envs]; rfl
  have I1 := I.le (Nat.le_succ i)
  have plain : ∀ (er nm : Int) (K' : Kn) (w' : World) (st2 : Sx), To w K K' w' → In8 (i + 1) K' st2 → K'.k = K.k → ∃ A' l c' K'', Ending.returned (.agg #[.int .i64 er, .int .i64 nm, .slice none 0 0]) = .returned (.agg #[.int .i64 er, .int .i64 nm, .slice A' l c']) ∧ Reads w' A' l (bytes []) ∧ (∀ ad, A' = some ad → w.heap.size ≤ ad.block ∨ l = 0) ∧ To w K K'' w' ∧ In8 (i + 1) K'' st2 ∧ K''.k = K.k :=
    fun er nm K' w' st2 t hI hk => ⟨none, 0, 0, K', rfl, Reads.nil_ _ _, fun ad e => (by cases e), t, hI, hk⟩
  have hasno : ∀ {cp : Int}, ¬ (cp = 256 ∧ st.al e = true) → ∀ c, ¬ Has K.T K.envs.length ((e : Int), cp) c := fun h1 c hc => by
    rw [hl4] at hc
    obtain ⟨e2, h2, h3, h4, _⟩ := (I.has _ _).1 hc
    simp at h4
    have : e = e2 := by omega
    subst this
    exact h1 ⟨h4.2, h3⟩
  have bytesTo : ∀ (ys : List UInt8), ys.length = 384 → In8 (i + 1) { K with xs := ys } { st with xs := ys } := fun ys hy => ⟨I1.now, I1.n0, I1.n1, I1.envs, I1.ns, I1.L, rfl, hy, I1.b, I1.has, I1.gates⟩
  have hbase : base e ≤ 192 := by unfold base; omega
  have he2 : e / 2 < 2 := by omega
  rcases (show op = 1 ∨ op = 2 ∨ op = 3 ∨ op = 4 ∨ op = 5 ∨ op = 6 ∨ op = 7 ∨ op = 8 ∨ op = 9 ∨ op = 10 ∨ (op < 1 ∨ 10 < op) by omega) with rfl | rfl | rfl | rfl | rfl | rfl | rfl | rfl | rfl | rfl | hop
  · have hr := I.reach he 1 (.inl rfl) cap at_ n
    unfold step at hs
    rw [if_pos rfl] at hs
    by_cases h0 : (rv st e cap at_ n).2 = 0
    · rw [if_pos h0] at hs
      cases hs
      obtain ⟨r1, r2, r3, r4⟩ := rv_ok he h0
      rw [h0] at hr
      obtain ⟨v, hv⟩ := Int.eq_ofNat_of_zero_le (show 0 ≤ (rv st e cap at_ n).1 by omega)
      obtain ⟨k, rfl⟩ := Int.eq_ofNat_of_zero_le r2
      rw [hv] at hr ⊢
      refine (k_read h e hee cap at_ to_ on A m c k v hr _ rfl k rfl).mono ?_
      rintro x w2 ⟨A', c', rfl, hrd, hfr, t⟩
      rw [I.xs] at hrd
      exact ⟨A', k, c', K, rfl, hrd, fun ad e => .inl (hfr ad e), t, I1, rfl⟩
    · rw [if_neg h0] at hs
      cases hs
      refine (k_read_no h e hee cap at_ n to_ on A m c _ hr h0).mono ?_
      rintro x w2 ⟨A', c', rfl, t⟩
      exact ⟨A', 0, c', K, rfl, Reads.nil_ _ _, fun ad e => .inr rfl, t, I1, rfl⟩
  · have hr := I.reach he 2 (.inr rfl) cap at_ bs.length
    unfold step at hs
    rw [if_neg (by decide), if_pos rfl] at hs
    by_cases h0 : (rv st e cap at_ bs.length).2 = 0
    · rw [if_pos h0] at hs
      cases hs
      obtain ⟨r1, r2, r3, r4⟩ := rv_ok he h0
      rw [h0] at hr
      obtain ⟨v, hv⟩ := Int.eq_ofNat_of_zero_le (show 0 ≤ (rv st e cap at_ bs.length).1 by omega)
      rw [hv, hbl] at hr
      rw [hv]
      refine (k_write h e hee cap at_ n to_ on A m c v bs hr hb _ rfl).mono ?_
      rintro x w2 ⟨rfl, t⟩
      rw [I.xs] at t
      refine plain 0 0 _ w2 _ t (bytesTo _ ?_) rfl
      rw [Se.splice_len _ _ _ (by rw [I.len]; omega), I.len]
    · rw [if_neg h0] at hs
      cases hs
      rw [hbl] at hr
      refine (k_write_no h e hee cap at_ n to_ on A m c _ hr (by rw [← hbl]; exact h0)).mono ?_
      rintro x w2 ⟨rfl, t⟩
      rw [hbl]
      exact plain _ 0 K w2 _ t I1 rfl
  · have hr := I.reach he 1 (.inl rfl) cap at_ n
    have hr2 := I.reach he 2 (.inr rfl) to_ on n
    unfold step at hs
    rw [if_neg (by decide), if_neg (by decide), if_pos rfl] at hs
    by_cases h0 : (rv st e cap at_ n).2 = 0
    · rw [if_pos h0] at hs
      obtain ⟨r1, r2, r3, r4⟩ := rv_ok he h0
      obtain ⟨v, hv⟩ := Int.eq_ofNat_of_zero_le (show 0 ≤ (rv st e cap at_ n).1 by omega)
      obtain ⟨k, rfl⟩ := Int.eq_ofNat_of_zero_le r2
      rw [h0, hv] at hr
      by_cases h02 : (rv st e to_ on k).2 = 0
      · rw [if_pos h02] at hs
        cases hs
        obtain ⟨q1, q2, q3, q4⟩ := rv_ok he h02
        obtain ⟨v2, hv2⟩ := Int.eq_ofNat_of_zero_le (show 0 ≤ (rv st e to_ on k).1 by omega)
        rw [h02, hv2] at hr2
        rw [hv, hv2]
        refine (k_copy h e hee cap at_ to_ on A m c k v v2 hr hr2 _ rfl).mono ?_
        rintro x w2 ⟨rfl, t⟩
        rw [I.xs] at t
        refine plain 0 0 _ w2 _ t (bytesTo _ ?_) rfl
        have hlen := I.len
        rw [Se.splice_len _ _ _ (by rw [hlen]; simp [hlen]; omega), hlen]
      · rw [if_neg h02] at hs
        cases hs
        refine (k_copy_no h e hee cap at_ k to_ on A m c _ (fun W kk => rcopy_no2 (h.nob kk).reg hr hr2 h02)).mono ?_
        rintro x w2 ⟨rfl, t⟩
        exact plain _ 0 K w2 _ t I1 rfl
    · rw [if_neg h0] at hs
      cases hs
      refine (k_copy_no h e hee cap at_ n to_ on A m c _ (fun W kk => rcopy_no1 (h.nob kk).reg hr h0)).mono ?_
      rintro x w2 ⟨rfl, t⟩
      exact plain _ 0 K w2 _ t I1 rfl
  · unfold step at hs
    rw [if_neg (by decide), if_neg (by decide), if_neg (by decide), if_pos rfl] at hs
    by_cases h1 : cap = 256 ∧ st.al e = true
    · rw [if_pos h1] at hs
      cases hs
      refine (k_grant_noright h e hee cap at_ n to_ on A m c ⟨(e / 2 : Nat), 3, 0, 100, (0, 0)⟩ (by rw [hl4]; exact (I.has _ _).2 ⟨e, he, h1.2, by rw [h1.1], rfl⟩) (by dsimp only; intro h; exact absurd h.1 (by decide))).mono ?_
      rintro x w2 ⟨rfl, t⟩
      exact plain 3 0 K w2 _ t I1 rfl
    · rw [if_neg h1] at hs
      cases hs
      refine (k_grant_nocap h e hee cap at_ n to_ on A m c (hasno h1)).mono ?_
      rintro x w2 ⟨rfl, t⟩
      exact plain 2 0 K w2 _ t I1 rfl
  · unfold step at hs
    rw [if_neg (by decide), if_neg (by decide), if_neg (by decide), if_neg (by decide), if_pos rfl] at hs
    by_cases h1 : cap = 256 ∧ st.al e = true
    · rw [if_pos h1] at hs
      cases hs
      have hroot : ∀ ρ d, Has K.T K.envs.length ρ d → d.root = (0, 0) := fun ρ d hd => by
        rw [hl4] at hd
        obtain ⟨_, _, _, _, rfl⟩ := (I.has _ _).1 hd
        rfl
      have hno : ∀ ρ, ¬ Desc K.T K.envs.length ((e : Int), cap) ρ := fun ρ hd => by
        have h256 : ((e : Int), cap) ≠ (0, 0) := by rw [h1.1]; simp
        induction hd with
        | child a b => exact h256 (b.symm.trans (hroot _ _ a))
        | step a b c ih => exact ih
      refine (k_revoke h e hee cap at_ n to_ on A m c ⟨(e / 2 : Nat), 3, 0, 100, (0, 0)⟩ (by rw [hl4]; exact (I.has _ _).2 ⟨e, he, h1.2, by rw [h1.1], rfl⟩) hno).mono ?_
      rintro x w2 ⟨rfl, t⟩
      refine plain 0 1 _ w2 _ t ⟨I1.now, I1.n0, I1.n1, I1.envs, I1.ns, I1.L, I1.xs, I1.len, I1.b, fun ρ d => ?_, I1.gates⟩ rfl
      dsimp only
      rw [gone_has, I.has]
      unfold upA
      constructor
      · rintro ⟨⟨e2, a1, a2, a3, a4⟩, a5⟩
        refine ⟨e2, a1, ?_, a3, a4⟩
        rw [if_neg (fun e3 => a5 (by rw [a3, e3, h1.1]; simp))]
        exact a2
      · rintro ⟨e2, a1, a2, a3, a4⟩
        by_cases e3 : e2 = e
        · rw [if_pos e3] at a2
          cases a2
        · rw [if_neg e3] at a2
          refine ⟨⟨e2, a1, a2, a3, a4⟩, fun a5 => e3 ?_⟩
          rw [a3] at a5
          simp at a5
          omega
    · rw [if_neg h1] at hs
      cases hs
      refine (k_revoke_no h e hee cap at_ n to_ on A m c (hasno h1)).mono ?_
      rintro x w2 ⟨rfl, t⟩
      exact plain 2 0 K w2 _ t I1 rfl
  · unfold step at hs
    rw [if_neg (by decide), if_neg (by decide), if_neg (by decide), if_neg (by decide), if_neg (by decide), if_pos rfl] at hs
    cases hs
    refine (k_alloc h e hee cap at_ n to_ on A m c _ hss (Qu.al 2 st.b (e / 2 : Nat)).1 (Qu.al 2 st.b (e / 2 : Nat)).2.1 (Qu.al 2 st.b (e / 2 : Nat)).2.2 (by rw [I.ns, I.b]; rfl)).mono ?_
    rintro x w2 ⟨rfl, t⟩
    exact plain _ _ _ w2 _ t ⟨I1.now, I1.n0, I1.n1, I1.envs, I1.ns, I1.L, I1.xs, I1.len, rfl, I1.has, I1.gates⟩ rfl
  · unfold step at hs
    rw [if_neg (by decide), if_neg (by decide), if_neg (by decide), if_neg (by decide), if_neg (by decide), if_neg (by decide), if_pos rfl] at hs
    cases hs
    refine (k_free h e hee cap at_ n to_ on A m c _ hss (Qu.fr 2 st.b (e / 2 : Nat) n).1 (Qu.fr 2 st.b (e / 2 : Nat) n).2 (by rw [I.ns, I.b]; rfl)).mono ?_
    rintro x w2 ⟨rfl, t⟩
    exact plain _ _ _ w2 _ t ⟨I1.now, I1.n0, I1.n1, I1.envs, I1.ns, I1.L, I1.xs, I1.len, rfl, I1.has, I1.gates⟩ rfl
  · unfold step at hs
    rw [if_neg (by decide), if_neg (by decide), if_neg (by decide), if_neg (by decide), if_neg (by decide), if_neg (by decide), if_neg (by decide), if_pos rfl] at hs
    by_cases h1 : n = (e / 2 : Nat)
    · rw [if_pos h1] at hs
      cases hs
      obtain ⟨G, hG, hm, hsec, hst⟩ := I.gate he2
      have hin := I.n1
      refine (k_enter h e hee cap at_ n to_ on A m c _ hss (e / 2) h1 G hG (by rw [hm]; simp) (by rw [I.now]; omega) (by omega) ((sec st (e / 2)).enter e st.now).1 ((sec st (e / 2)).enter e st.now).2.1 ((sec st (e / 2)).enter e st.now).2.2 (by rw [hsec, I.now])).mono ?_
      rintro x w2 ⟨rfl, A', c', t⟩
      refine plain _ _ _ w2 _ t (I.setGate he2 hG (X := { G with A := A', cap := c', s := _ }) rfl ?_) rfl
      have := Se.Sec.enter_stamps (sec st (e / 2)) e st.now
      rw [hsec] at hst
      dsimp only
      omega
    · rw [if_neg h1] at hs
      cases hs
      have hmay : May K ((e / 2 : Nat) : Int) n false := by
        by_cases h2 : 0 ≤ n ∧ n < 2
        · obtain ⟨j, rfl⟩ := Int.eq_ofNat_of_zero_le h2.1
          obtain ⟨G, hG, hm, _, _⟩ := I.gate (s := j) (by omega)
          have := May.at_ (K := K) (ss := ((e / 2 : Nat) : Int)) j G rfl hG
          rw [hm, decide_eq_false (by simp; omega)] at this
          exact this
        · obtain ⟨G0, G1, hg, _⟩ := I.gates
          exact .out (by rw [hg]; simp; omega)
      refine (k_enter_no h e hee cap at_ n to_ on A m c _ hss hmay).mono ?_
      rintro x w2 ⟨rfl, t⟩
      exact plain 8 0 K w2 _ t I1 rfl
  · unfold step at hs
    rw [if_neg (by decide), if_neg (by decide), if_neg (by decide), if_neg (by decide), if_neg (by decide), if_neg (by decide), if_neg (by decide), if_neg (by decide), if_pos rfl] at hs
    by_cases h1 : n = (e / 2 : Nat)
    · rw [if_pos h1] at hs
      cases hs
      obtain ⟨G, hG, hm, hsec, hst⟩ := I.gate he2
      refine (k_leave h e hee cap at_ n to_ on A m c _ hss (e / 2) h1 G hG (by rw [hm]; simp) ((sec st (e / 2)).leave e at_).1 ((sec st (e / 2)).leave e at_).2 (by rw [hsec]) _ rfl).mono ?_
      rintro x w2 ⟨rfl, t⟩
      refine plain _ _ _ w2 _ t (I.setGate he2 hG (X := { G with s := _ }) rfl ?_) rfl
      rw [hsec] at hst
      have : ((sec st (e / 2)).leave e at_).2.stamps = (sec st (e / 2)).stamps := by unfold Se.Sec.leave; split <;> rfl
      dsimp only
      omega
    · rw [if_neg h1] at hs
      cases hs
      have hmay : May K ((e / 2 : Nat) : Int) n false := by
        by_cases h2 : 0 ≤ n ∧ n < 2
        · obtain ⟨j, rfl⟩ := Int.eq_ofNat_of_zero_le h2.1
          obtain ⟨G, hG, hm, _, _⟩ := I.gate (s := j) (by omega)
          have := May.at_ (K := K) (ss := ((e / 2 : Nat) : Int)) j G rfl hG
          rw [hm, decide_eq_false (by simp; omega)] at this
          exact this
        · obtain ⟨G0, G1, hg, _⟩ := I.gates
          exact .out (by rw [hg]; simp; omega)
      refine (k_leave_no h e hee cap at_ n to_ on A m c _ hss hmay).mono ?_
      rintro x w2 ⟨rfl, t⟩
      exact plain 8 0 K w2 _ t I1 rfl
  · unfold step at hs
    rw [if_neg (by decide), if_neg (by decide), if_neg (by decide), if_neg (by decide), if_neg (by decide), if_neg (by decide), if_neg (by decide), if_neg (by decide), if_neg (by decide), if_pos rfl] at hs
    cases hs
    refine (do_now h e hee cap at_ n to_ on A m c st.now I.now).mono ?_
    rintro x w2 ⟨rfl, t⟩
    exact plain 0 _ K w2 _ t I1 rfl
  · unfold step at hs
    rw [if_neg (by omega), if_neg (by omega), if_neg (by omega), if_neg (by omega), if_neg (by omega), if_neg (by omega), if_neg (by omega), if_neg (by omega), if_neg (by omega), if_neg (by omega)] at hs
    cases hs
    refine (do_other h e hee cap at_ n to_ on A m c op hop).mono ?_
    rintro x w2 ⟨rfl, t⟩
    exact plain 7 0 K w2 _ t I1 rfl
/-- What the first session sees is the same. -/
structure Sim (a b : Sx) : Prop where
  now : a.now = b.now
  al : ∀ e, e < 2 → a.al e = b.al e
  la : a.xs.length = 384
  lb : b.xs.length = 384
  xs : ∀ k, k < 100 → a.xs.getD k 0 = b.xs.getD k 0
  bb : a.b 0 = b.b 0
  s0 : a.s0 = b.s0
theorem cut_same {xs ys : List UInt8} (lx : xs.length = 384) (ly : ys.length = 384) (h : ∀ k, k < 100 → xs.getD k 0 = ys.getD k 0) {v k : Nat} (hv : v + k ≤ 100) : (xs.drop v).take k = (ys.drop v).take k := by
  apply List.ext_getElem?
  intro j
  rw [List.getElem?_take, List.getElem?_take]
  by_cases hj : j < k
  · rw [if_pos hj, if_pos hj, List.getElem?_drop, List.getElem?_drop]
    have := h (v + j) (by omega)
    rw [List.getD_eq_getElem?_getD, List.getD_eq_getElem?_getD, List.getElem?_eq_getElem (by omega), List.getElem?_eq_getElem (by omega)] at this
    rw [List.getElem?_eq_getElem (by omega), List.getElem?_eq_getElem (by omega)]
    exact congrArg some this
  · rw [if_neg hj, if_neg hj]
theorem splice_same {xs ys : List UInt8} (h : ∀ k, k < 100 → xs.getD k 0 = ys.getD k 0) (lx : xs.length = 384) (ly : ys.length = 384) (v : Nat) (bs : List UInt8) (hv : v + bs.length ≤ 384) : ∀ k, k < 100 → (splice xs v bs).getD k 0 = (splice ys v bs).getD k 0 := fun k hk => by
  rw [splice_getD _ _ _ (by omega), splice_getD _ _ _ (by omega)]
  split
  · rfl
  · exact h k hk
theorem splice_far {xs : List UInt8} (lx : xs.length = 384) (v : Nat) (bs : List UInt8) (hv : v + bs.length ≤ 384) (h100 : 100 ≤ v) : ∀ k, k < 100 → (splice xs v bs).getD k 0 = xs.getD k 0 := fun k hk => by
  rw [splice_getD _ _ _ (by omega), if_neg (by omega)]
theorem Sim.rv {a b : Sx} (h : Sim a b) {e : Nat} (he : e < 2) (cap at_ n : Int) : rv a e cap at_ n = rv b e cap at_ n := by
  unfold Go.Proofs.YtompckcnpidbdaaGreat.rv
  rw [h.al e he]
/-- The first session's calls. -/
theorem Sim.step {a b a' : Sx} (h : Sim a b) {e : Nat} (he : e < 2) {op cap at_ n to_ on : Int} {bs : List UInt8} {ans : Ans} (hs : step a e op cap at_ n to_ on bs = (ans, a')) : ∃ b', step b e op cap at_ n to_ on bs = (ans, b') ∧ Sim a' b' := by
  have h2 : e / 2 = 0 := by omega
  have hb : base e = 0 := by unfold base; omega
  unfold Go.Proofs.YtompckcnpidbdaaGreat.step at hs ⊢
  rw [← h.rv he, ← h.rv he, ← h.rv he, ← h.al e he, ← h.now]
  rw [h2] at hs ⊢
  by_cases o1 : op = 1
  · rw [if_pos o1] at hs ⊢
    by_cases h0 : (Go.Proofs.YtompckcnpidbdaaGreat.rv a e cap at_ n).2 = 0
    · rw [if_pos h0] at hs ⊢
      cases hs
      obtain ⟨r1, r2, r3, r4⟩ := rv_ok (by omega) h0
      exact ⟨b, by rw [cut_same h.la h.lb h.xs (by omega)], h⟩
    · rw [if_neg h0] at hs ⊢
      cases hs
      exact ⟨b, rfl, h⟩
  rw [if_neg o1] at hs ⊢
  by_cases o2 : op = 2
  · rw [if_pos o2] at hs ⊢
    by_cases h0 : (Go.Proofs.YtompckcnpidbdaaGreat.rv a e cap at_ bs.length).2 = 0
    · rw [if_pos h0] at hs ⊢
      cases hs
      obtain ⟨r1, r2, r3, r4⟩ := rv_ok (by omega) h0
      exact ⟨_, rfl, rfl, h.al, by dsimp only; rw [Se.splice_len _ _ _ (by rw [h.la]; omega)]; exact h.la, by dsimp only; rw [Se.splice_len _ _ _ (by rw [h.lb]; omega)]; exact h.lb, splice_same h.xs h.la h.lb _ _ (by omega), h.bb, h.s0⟩
    · rw [if_neg h0] at hs ⊢
      cases hs
      exact ⟨b, rfl, h⟩
  rw [if_neg o2] at hs ⊢
  by_cases o3 : op = 3
  · rw [if_pos o3] at hs ⊢
    by_cases h0 : (Go.Proofs.YtompckcnpidbdaaGreat.rv a e cap at_ n).2 = 0
    · rw [if_pos h0] at hs ⊢
      obtain ⟨r1, r2, r3, r4⟩ := rv_ok (by omega) h0
      by_cases h02 : (Go.Proofs.YtompckcnpidbdaaGreat.rv a e to_ on n).2 = 0
      · rw [if_pos h02] at hs ⊢
        cases hs
        obtain ⟨q1, q2, q3, q4⟩ := rv_ok (by omega) h02
        have hc := cut_same h.la h.lb h.xs (v := (Go.Proofs.YtompckcnpidbdaaGreat.rv a e cap at_ n).1.toNat) (k := n.toNat) (by omega)
        have hcl : ((b.xs.drop (Go.Proofs.YtompckcnpidbdaaGreat.rv a e cap at_ n).1.toNat).take n.toNat).length = n.toNat := by simp [h.lb]; omega
        refine ⟨_, rfl, rfl, h.al, ?_, ?_, ?_, h.bb, h.s0⟩
        · dsimp only
          rw [hc, Se.splice_len _ _ _ (by rw [h.la, hcl]; omega)]
          exact h.la
        · dsimp only
          rw [Se.splice_len _ _ _ (by rw [h.lb, hcl]; omega)]
          exact h.lb
        · dsimp only
          rw [hc]
          exact splice_same h.xs h.la h.lb _ _ (by rw [hcl]; omega)
      · rw [if_neg h02] at hs ⊢
        cases hs
        exact ⟨b, rfl, h⟩
    · rw [if_neg h0] at hs ⊢
      cases hs
      exact ⟨b, rfl, h⟩
  rw [if_neg o3] at hs ⊢
  by_cases o4 : op = 4
  · rw [if_pos o4] at hs ⊢
    split at hs
    · rename_i h1
      rw [if_pos h1]
      cases hs
      exact ⟨b, rfl, h⟩
    · rename_i h1
      rw [if_neg h1]
      cases hs
      exact ⟨b, rfl, h⟩
  rw [if_neg o4] at hs ⊢
  by_cases o5 : op = 5
  · rw [if_pos o5] at hs ⊢
    split at hs
    · rename_i h1
      rw [if_pos h1]
      cases hs
      refine ⟨_, rfl, rfl, fun x hx => ?_, h.la, h.lb, h.xs, h.bb, h.s0⟩
      dsimp only
      unfold upA
      split
      · rfl
      · exact h.al x hx
    · rename_i h1
      rw [if_neg h1]
      cases hs
      exact ⟨b, rfl, h⟩
  rw [if_neg o5] at hs ⊢
  by_cases o6 : op = 6
  · rw [if_pos o6] at hs ⊢
    cases hs
    obtain ⟨b2, e1, e2⟩ := Qu.al_same (n := 2) (s := 0) h.bb (v := (Qu.al 2 a.b ((0 : Nat) : Int)).1) (er := (Qu.al 2 a.b ((0 : Nat) : Int)).2.1) (b' := (Qu.al 2 a.b ((0 : Nat) : Int)).2.2) rfl
    rw [e1]
    exact ⟨_, rfl, rfl, h.al, h.la, h.lb, h.xs, e2, h.s0⟩
  rw [if_neg o6] at hs ⊢
  by_cases o7 : op = 7
  · rw [if_pos o7] at hs ⊢
    cases hs
    obtain ⟨b2, e1, e2⟩ := Qu.fr_same (n := 2) (s := 0) h.bb (k := n) (er := (Qu.fr 2 a.b ((0 : Nat) : Int) n).1) (b' := (Qu.fr 2 a.b ((0 : Nat) : Int) n).2) rfl
    rw [e1]
    exact ⟨_, rfl, rfl, h.al, h.la, h.lb, h.xs, e2, h.s0⟩
  rw [if_neg o7] at hs ⊢
  have hsec : sec a 0 = sec b 0 := h.s0
  rw [← hsec]
  by_cases o8 : op = 8
  · rw [if_pos o8] at hs ⊢
    split at hs
    · rename_i h1
      rw [if_pos h1]
      cases hs
      exact ⟨_, rfl, h.now, h.al, h.la, h.lb, h.xs, h.bb, rfl⟩
    · rename_i h1
      rw [if_neg h1]
      cases hs
      exact ⟨b, rfl, h⟩
  rw [if_neg o8] at hs ⊢
  by_cases o9 : op = 9
  · rw [if_pos o9] at hs ⊢
    split at hs
    · rename_i h1
      rw [if_pos h1]
      cases hs
      exact ⟨_, rfl, h.now, h.al, h.la, h.lb, h.xs, h.bb, rfl⟩
    · rename_i h1
      rw [if_neg h1]
      cases hs
      exact ⟨b, rfl, h⟩
  rw [if_neg o9] at hs ⊢
  by_cases o10 : op = 10
  · rw [if_pos o10] at hs ⊢
    cases hs
    exact ⟨b, rfl, h⟩
  rw [if_neg o10] at hs ⊢
  cases hs
  exact ⟨b, rfl, h⟩
/-- The other session's calls. -/
theorem Sim.other {a b a' : Sx} (h : Sim a b) {e : Nat} (he : 2 ≤ e) (he4 : e < 4) {op cap at_ n to_ on : Int} {bs : List UInt8} {ans : Ans} (hs : Go.Proofs.YtompckcnpidbdaaGreat.step a e op cap at_ n to_ on bs = (ans, a')) : Sim a' b := by
  have h2 : e / 2 = 1 := by omega
  have hb : base e = 192 := by unfold base; omega
  unfold Go.Proofs.YtompckcnpidbdaaGreat.step at hs
  rw [h2] at hs
  have wr : ∀ (v : Nat) (ys : List UInt8), v + ys.length ≤ 384 → 100 ≤ v → Sim { a with xs := splice a.xs v ys } b := fun v ys h1 h3 =>
    ⟨h.now, h.al, by dsimp only; rw [Se.splice_len _ _ _ (by rw [h.la]; omega)]; exact h.la, h.lb, fun k hk => (splice_far h.la v ys h1 h3 k hk).trans (h.xs k hk), h.bb, h.s0⟩
  by_cases o1 : op = 1
  · rw [if_pos o1] at hs
    split at hs <;> (cases hs; exact h)
  rw [if_neg o1] at hs
  by_cases o2 : op = 2
  · rw [if_pos o2] at hs
    by_cases h0 : (Go.Proofs.YtompckcnpidbdaaGreat.rv a e cap at_ bs.length).2 = 0
    · rw [if_pos h0] at hs
      cases hs
      obtain ⟨r1, r2, r3, r4⟩ := rv_ok he4 h0
      exact wr _ _ (by omega) (by omega)
    · rw [if_neg h0] at hs
      cases hs
      exact h
  rw [if_neg o2] at hs
  by_cases o3 : op = 3
  · rw [if_pos o3] at hs
    by_cases h0 : (Go.Proofs.YtompckcnpidbdaaGreat.rv a e cap at_ n).2 = 0
    · rw [if_pos h0] at hs
      obtain ⟨r1, r2, r3, r4⟩ := rv_ok he4 h0
      by_cases h02 : (Go.Proofs.YtompckcnpidbdaaGreat.rv a e to_ on n).2 = 0
      · rw [if_pos h02] at hs
        cases hs
        obtain ⟨q1, q2, q3, q4⟩ := rv_ok he4 h02
        have hcl : ((a.xs.drop (Go.Proofs.YtompckcnpidbdaaGreat.rv a e cap at_ n).1.toNat).take n.toNat).length = n.toNat := by simp [h.la]; omega
        exact wr _ _ (by rw [hcl]; omega) (by omega)
      · rw [if_neg h02] at hs
        cases hs
        exact h
    · rw [if_neg h0] at hs
      cases hs
      exact h
  rw [if_neg o3] at hs
  by_cases o4 : op = 4
  · rw [if_pos o4] at hs
    split at hs <;> (cases hs; exact h)
  rw [if_neg o4] at hs
  by_cases o5 : op = 5
  · rw [if_pos o5] at hs
    split at hs
    · cases hs
      refine ⟨h.now, fun x hx => ?_, h.la, h.lb, h.xs, h.bb, h.s0⟩
      dsimp only
      unfold upA
      rw [if_neg (by omega)]
      exact h.al x hx
    · cases hs
      exact h
  rw [if_neg o5] at hs
  by_cases o6 : op = 6
  · rw [if_pos o6] at hs
    cases hs
    exact ⟨h.now, h.al, h.la, h.lb, h.xs, (Qu.al_other (n := 2) (s := 0) (t := 1) (by decide) (v := (Qu.al 2 a.b ((1 : Nat) : Int)).1) (er := (Qu.al 2 a.b ((1 : Nat) : Int)).2.1) rfl).trans h.bb, h.s0⟩
  rw [if_neg o6] at hs
  by_cases o7 : op = 7
  · rw [if_pos o7] at hs
    cases hs
    exact ⟨h.now, h.al, h.la, h.lb, h.xs, (Qu.fr_other (n := 2) (s := 0) (t := 1) (by decide) (k := n) (er := (Qu.fr 2 a.b ((1 : Nat) : Int) n).1) rfl).trans h.bb, h.s0⟩
  rw [if_neg o7] at hs
  by_cases o8 : op = 8
  · rw [if_pos o8] at hs
    split at hs <;> (cases hs; exact ⟨h.now, h.al, h.la, h.lb, h.xs, h.bb, h.s0⟩)
  rw [if_neg o8] at hs
  by_cases o9 : op = 9
  · rw [if_pos o9] at hs
    split at hs <;> (cases hs; exact ⟨h.now, h.al, h.la, h.lb, h.xs, h.bb, h.s0⟩)
  rw [if_neg o9] at hs
  by_cases o10 : op = 10
  · rw [if_pos o10] at hs
    cases hs
    exact h
  rw [if_neg o10] at hs
  cases hs
  exact h
end Go.Proofs.YtompckcnpidbdaaGreat
