/- A kernel of two sessions that share nothing: what each call answers, and what becomes of it; what one session sees. -/
import Derived.Test.YtompckcnpidbdaaGreatKrn9
import Derived.Test.YtompckcnpidbdaaGreatQuoS
import Derived.Test.YtompckcnpidbdaaGreatSec5
namespace Go.Proofs.YtompckcnpidbdaaGreat
open Go.RowKit
set_option linter.unusedVariables false
set_option linter.unusedSimpArgs false
/-- The state of the two. -/
structure Sx where
  now : Int
  al : Nat → Bool
  xs : List UInt8
  b : Nat → List Bool
  s0 : Se.Sec
  s1 : Se.Sec
def base (e : Nat) : Nat := 192 * (e / 2)
/-- What a name reaches. -/
def rv (st : Sx) (e : Nat) (cap at_ n : Int) : Int × Int :=
  if cap = 256 ∧ st.al e = true then (if 0 ≤ at_ ∧ 0 ≤ n ∧ at_ + n ≤ 100 then ((base e : Int) + at_, 0) else (0, 1)) else (0, 2)
def sec (st : Sx) (s : Nat) : Se.Sec := if s = 0 then st.s0 else st.s1
def setSec (st : Sx) (s : Nat) (S : Se.Sec) : Sx := if s = 0 then { st with s0 := S } else { st with s1 := S }
def upA (al : Nat → Bool) (e : Nat) : Nat → Bool := fun i => if i = e then false else al i
abbrev Ans := Int × Int × List UInt8
/-- A call of environment e. -/
def step (st : Sx) (e : Nat) (op cap at_ n to_ on : Int) (bs : List UInt8) : Ans × Sx :=
  if op = 1 then (if (rv st e cap at_ n).2 = 0 then ((0, 0, (st.xs.drop (rv st e cap at_ n).1.toNat).take n.toNat), st) else (((rv st e cap at_ n).2, 0, []), st))
  else if op = 2 then (if (rv st e cap at_ bs.length).2 = 0 then ((0, 0, []), { st with xs := splice st.xs (rv st e cap at_ bs.length).1.toNat bs }) else (((rv st e cap at_ bs.length).2, 0, []), st))
  else if op = 3 then (if (rv st e cap at_ n).2 = 0 then (if (rv st e to_ on n).2 = 0 then ((0, 0, []), { st with xs := splice st.xs (rv st e to_ on n).1.toNat ((st.xs.drop (rv st e cap at_ n).1.toNat).take n.toNat) }) else (((rv st e to_ on n).2, 0, []), st)) else (((rv st e cap at_ n).2, 0, []), st))
  else if op = 4 then (if cap = 256 ∧ st.al e = true then ((3, 0, []), st) else ((2, 0, []), st))
  else if op = 5 then (if cap = 256 ∧ st.al e = true then ((0, 1, []), { st with al := upA st.al e }) else ((2, 0, []), st))
  else if op = 6 then (((Qu.al 2 st.b (e / 2 : Nat)).2.1, (Qu.al 2 st.b (e / 2 : Nat)).1, []), { st with b := (Qu.al 2 st.b (e / 2 : Nat)).2.2 })
  else if op = 7 then (((Qu.fr 2 st.b (e / 2 : Nat) n).1, 0, []), { st with b := (Qu.fr 2 st.b (e / 2 : Nat) n).2 })
  else if op = 8 then (if n = (e / 2 : Nat) then ((0, ((sec st (e / 2)).enter e st.now).1, []), setSec st (e / 2) ((sec st (e / 2)).enter e st.now).2.2) else ((8, 0, []), st))
  else if op = 9 then (if n = (e / 2 : Nat) then (((if ((sec st (e / 2)).leave e at_).1 = true then 0 else 8), 0, []), setSec st (e / 2) ((sec st (e / 2)).leave e at_).2) else ((8, 0, []), st))
  else if op = 10 then ((0, st.now, []), st)
  else ((7, 0, []), st)
/-- How a kernel is in a state. -/
structure In8 (i : Nat) (K : Kn) (st : Sx) : Prop where
  now : K.now = st.now
  n0 : 0 ≤ st.now
  n1 : st.now ≤ 1000 * i
  envs : K.envs = [0, 0, 1, 1]
  ns : K.ns = [3, 3]
  L : K.L = [(0, 100), (192, 100)]
  xs : K.xs = st.xs
  len : st.xs.length = 384
  b : K.bq = st.b
  has : ∀ ρ c, Has K.T 4 ρ c ↔ ∃ e : Nat, e < 4 ∧ st.al e = true ∧ ρ = ((e : Int), 256) ∧ c = ⟨(e / 2 : Nat), 3, 0, 100, (0, 0)⟩
  gates : ∃ G0 G1, K.gates = [G0, G1] ∧ G0.may = [0] ∧ G1.may = [1] ∧ G0.s = st.s0 ∧ G1.s = st.s1 ∧ st.s0.stamps ≤ i ∧ st.s1.stamps ≤ i
theorem In8.le {i j : Nat} {K : Kn} {st : Sx} (h : In8 i K st) (hj : i ≤ j) : In8 j K st := by
  obtain ⟨G0, G1, g1, g2, g3, g4, g5, g6, g7⟩ := h.gates
  exact ⟨h.now, h.n0, by have := h.n1; omega, h.envs, h.ns, h.L, h.xs, h.len, h.b, h.has, G0, G1, g1, g2, g3, g4, g5, by omega, by omega⟩
theorem In8.sess {i : Nat} {K : Kn} {st : Sx} (h : In8 i K st) {e : Nat} (he : e < 4) : K.envs.getD e 0 = ((e / 2 : Nat) : Int) ∧ e < K.envs.length := by
  rw [h.envs]
  rcases (show e = 0 ∨ e = 1 ∨ e = 2 ∨ e = 3 by omega) with rfl | rfl | rfl | rfl <;> exact ⟨rfl, by decide⟩
theorem In8.gate {i : Nat} {K : Kn} {st : Sx} (h : In8 i K st) {s : Nat} (hs : s < 2) : ∃ G, K.gates[s]? = some G ∧ G.may = [(s : Int)] ∧ G.s = sec st s ∧ G.s.stamps ≤ i := by
  obtain ⟨G0, G1, g1, g2, g3, g4, g5, g6, g7⟩ := h.gates
  rw [g1]
  rcases (show s = 0 ∨ s = 1 by omega) with rfl | rfl
  · exact ⟨G0, rfl, g2, g4, by rw [g4]; exact g6⟩
  · exact ⟨G1, rfl, g3, g5, by rw [g5]; exact g7⟩
theorem In8.setGate {i : Nat} {K : Kn} {st : Sx} (h : In8 i K st) {s : Nat} (hs : s < 2) {G : Gt} (hG : K.gates[s]? = some G) {X : Gt} (hm : X.may = G.may) (hst : X.s.stamps ≤ i + 1) : In8 (i + 1) { K with gates := K.gates.set s X } (setSec st s X.s) := by
  obtain ⟨G0, G1, g1, g2, g3, g4, g5, g6, g7⟩ := h.gates
  have hi := h.n1
  rw [g1] at hG
  rcases (show s = 0 ∨ s = 1 by omega) with rfl | rfl
  · simp at hG
    subst hG
    exact ⟨h.now, h.n0, by show st.now ≤ _; omega, h.envs, h.ns, h.L, h.xs, h.len, h.b, h.has, X, G1, by dsimp only; rw [g1]; rfl, hm.trans g2, g3, rfl, g5, hst, by show st.s1.stamps ≤ _; omega⟩
  · simp at hG
    subst hG
    exact ⟨h.now, h.n0, by show st.now ≤ _; omega, h.envs, h.ns, h.L, h.xs, h.len, h.b, h.has, G0, X, by dsimp only; rw [g1]; rfl, g2, hm.trans g3, g4, rfl, by show st.s0.stamps ≤ _; omega, hst⟩
/-- What a name reaches, as regions tell it. -/
theorem In8.reach {i : Nat} {K : Kn} {st : Sx} (h : In8 i K st) {e : Nat} (he : e < 4) (right : Int) (hr : right = 1 ∨ right = 2) (cap at_ n : Int) : Reach K.T K.envs.length K.L e cap right at_ n (rv st e cap at_ n).1 (rv st e cap at_ n).2 := by
  have hl : K.envs.length = 4 := by rw [h.envs]; rfl
  rw [hl]
  unfold rv
  by_cases h1 : cap = 256 ∧ st.al e = true
  · rw [if_pos h1]
    have hc : Has K.T 4 ((e : Int), cap) ⟨(e / 2 : Nat), 3, 0, 100, (0, 0)⟩ := (h.has _ _).2 ⟨e, he, h1.2, by rw [h1.1], rfl⟩
    have hx : K.L[((e / 2 : Nat) : Int).toNat]? = some ((base e : Int), 100) := by
      rw [h.L, Int.toNat_natCast]
      unfold base
      rcases (show e / 2 = 0 ∨ e / 2 = 1 by omega) with h2 | h2 <;> rw [h2] <;> rfl
    have hb : (bits .and .i64 3 right == 0) = false := by rcases hr with rfl | rfl <;> decide
    by_cases h2 : 0 ≤ at_ ∧ 0 ≤ n ∧ at_ + n ≤ 100
    · rw [if_pos h2]
      exact .yes _ _ _ hc hb ⟨h2.1, h2.2.1, h2.2.2, by dsimp only; omega, hx, by dsimp only; omega⟩ (by dsimp only; omega)
    · rw [if_neg h2]
      exact .noarg _ hc hb (fun x hf => h2 ⟨hf.1, hf.2.1, hf.2.2.1⟩)
  · rw [if_neg h1]
    refine .nocap fun c hc => ?_
    obtain ⟨e2, h2, h3, h4, _⟩ := (h.has _ _).1 hc
    simp at h4
    have : e = e2 := by omega
    subst this
    exact h1 ⟨h4.2, h3⟩
theorem rv_ok {st : Sx} {e : Nat} (he : e < 4) {cap at_ n : Int} (h : (rv st e cap at_ n).2 = 0) : 0 ≤ at_ ∧ 0 ≤ n ∧ at_ + n ≤ 100 ∧ (rv st e cap at_ n).1 = (base e : Int) + at_ := by
  unfold rv at h ⊢
  split
  · rename_i h1
    rw [if_pos h1] at h
    split
    · rename_i h2
      exact ⟨h2.1, h2.2.1, h2.2.2, rfl⟩
    · rename_i h2
      rw [if_neg h2] at h
      cases h
  · rename_i h1
    rw [if_neg h1] at h
    cases h
theorem rv_er {st : Sx} {e : Nat} {cap at_ n : Int} : True := trivial
section
variable {w w' : World} {K : Kn}
theorem k_copy (h : IsKn w K) (i : Nat) (hi : i < K.envs.length) (cap at_ to_ on : Int) (A : Option Addr) (m c : Nat) (k a b : Nat) (hv : Reach K.T K.envs.length K.L i cap 1 at_ k a 0) (hv2 : Reach K.T K.envs.length K.L i to_ 2 on k b 0) (ys : List UInt8) (hy : splice K.xs b ((K.xs.drop a).take k) = ys) :
    Calls Tryz.prog 10 #[.pointer (some ⟨K.k, 0, none⟩), .int .i64 i, Calc 3 cap at_ k to_ on A m c] w fun e w' => e = .returned (.agg #[.int .i64 0, .int .i64 0, .slice none 0 0]) ∧ To w K { K with xs := ys } w' := by
  refine (do_copy h i hi cap at_ k to_ on A m c _ (stay_xs K ys) 0 (fun ss hs W kk => (rcopy_yes (h.nob kk).reg hv hv2).mono ?_)).mono ?_
  · rintro e w2 ⟨rfl, hR, k2⟩
    rw [hy] at hR
    exact ⟨rfl, _, rfl, (h.nob kk).bytes hR k2⟩
  · rintro e w2 ⟨rfl, K', rfl, t⟩
    exact ⟨rfl, t⟩
theorem k_copy_no (h : IsKn w K) (i : Nat) (hi : i < K.envs.length) (cap at_ n to_ on : Int) (A : Option Addr) (m c : Nat) (er : Int) (hcall : ∀ W, Keep Nob w W → Calls Tryz.prog 33 #[.pointer (some ⟨K.q, 0, none⟩), .int .i64 i, .int .i64 cap, .int .i64 at_, .int .i64 to_, .int .i64 on, .int .i64 n] W fun e w' => e = .returned (.int .i64 er) ∧ Keep Nob W w') :
    Calls Tryz.prog 10 #[.pointer (some ⟨K.k, 0, none⟩), .int .i64 i, Calc 3 cap at_ n to_ on A m c] w fun e w' => e = .returned (.agg #[.int .i64 er, .int .i64 0, .slice none 0 0]) ∧ To w K K w' := by
  refine (do_copy h i hi cap at_ n to_ on A m c _ (stay_same K) er (fun ss hs W kk => (hcall W kk).mono ?_)).mono ?_
  · rintro e w2 ⟨rfl, k2⟩
    exact ⟨rfl, _, rfl, To.still (h.nob kk) k2⟩
  · rintro e w2 ⟨rfl, K', rfl, t⟩
    exact ⟨rfl, t⟩
theorem k_grant_nocap (h : IsKn w K) (i : Nat) (hi : i < K.envs.length) (cap at_ n to_ on : Int) (A : Option Addr) (m cc : Nat) (hno : ∀ c, ¬ Has K.T K.envs.length ((i : Int), cap) c) :
    Calls Tryz.prog 10 #[.pointer (some ⟨K.k, 0, none⟩), .int .i64 i, Calc 4 cap at_ n to_ on A m cc] w fun e w' => e = .returned (.agg #[.int .i64 2, .int .i64 0, .slice none 0 0]) ∧ To w K K w' := by
  refine (do_grant h i hi cap at_ n to_ on A m cc _ (stay_same K) 0 2 (fun W kk => (grant_nocap (h.nob kk).reg.sp hno).mono ?_)).mono ?_
  · rintro e w2 ⟨rfl, k2⟩
    exact ⟨rfl, _, rfl, To.still (h.nob kk) k2⟩
  · rintro e w2 ⟨rfl, K', rfl, t⟩
    exact ⟨rfl, t⟩
theorem k_revoke_no (h : IsKn w K) (i : Nat) (hi : i < K.envs.length) (cap at_ n to_ on : Int) (A : Option Addr) (m cc : Nat) (hno : ∀ c, ¬ Has K.T K.envs.length ((i : Int), cap) c) :
    Calls Tryz.prog 10 #[.pointer (some ⟨K.k, 0, none⟩), .int .i64 i, Calc 5 cap at_ n to_ on A m cc] w fun e w' => e = .returned (.agg #[.int .i64 2, .int .i64 0, .slice none 0 0]) ∧ To w K K w' := by
  refine (do_revoke h i hi cap at_ n to_ on A m cc _ (stay_same K) 0 2 (fun W kk => (revoke_no (h.nob kk).reg.sp hno).mono ?_)).mono ?_
  · rintro e w2 ⟨rfl, k2⟩
    exact ⟨rfl, _, rfl, To.still (h.nob kk) k2⟩
  · rintro e w2 ⟨rfl, K', rfl, t⟩
    exact ⟨rfl, t⟩
/-- A Cap of which nothing was granted on. -/
theorem k_revoke (h : IsKn w K) (i : Nat) (hi : i < K.envs.length) (cap at_ n to_ on : Int) (A : Option Addr) (m cc : Nat) (c : Cp) (hc : Has K.T K.envs.length ((i : Int), cap) c) (hno : ∀ ρ, ¬ Desc K.T K.envs.length ((i : Int), cap) ρ) :
    Calls Tryz.prog 10 #[.pointer (some ⟨K.k, 0, none⟩), .int .i64 i, Calc 5 cap at_ n to_ on A m cc] w fun e w' => e = .returned (.agg #[.int .i64 0, .int .i64 1, .slice none 0 0]) ∧ To w K { K with T := gone K.T [((i : Int), cap)] } w' := by
  refine (do_revoke h i hi cap at_ n to_ on A m cc _ (stay_T K (gone K.T [((i : Int), cap)])) 1 0 (fun W kk => (revoke_yes (h.nob kk).reg.sp (h.nob kk).reg.inv c hc).mono ?_)).mono ?_
  · rintro e w2 ⟨U, rfl, _, hU, hS, hI, k2⟩
    obtain rfl : U = [] := by
      cases U with
      | nil => rfl
      | cons x l => exact absurd ((hU x).1 (by simp)) (hno x)
    exact ⟨rfl, _, rfl, (h.nob kk).space hS hI k2⟩
  · rintro e w2 ⟨rfl, K', rfl, t⟩
    exact ⟨rfl, t⟩
end
end Go.Proofs.YtompckcnpidbdaaGreat
