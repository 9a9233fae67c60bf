/- CapsAlone: two Spaces of two environments, of which the first one's rows are the same; no Cap has a root. -/
import Derived.Test.YtjkmbffcmgeknaaLaw3c
import Derived.Deep.QuietTactic
import Derived.BigQuiet
namespace Go.Proofs.Ytjkmbffcmgeknaa
open Go.RowKit
set_option linter.unusedVariables false
set_option linter.unusedSimpArgs false
def Flat (T : St) : Prop := ∀ ρ c, Has T 2 ρ c → c.root = (0, 0)
theorem flat_init : Flat init := fun _ _ h => (init_has h).elim
theorem Flat.gone {T : St} (h : Flat T) (l : List Rf) : Flat (gone T l) := fun ρ c hc => h ρ c (gone_has.1 hc).1
theorem Flat.added {T T' : St} {e : Nat} {c : Cp} {nm er : Int} (h : Flat T) (I : Inv T 2) (he : e < 2) (hA : Added T 2 e c nm er T') (hr : c.root = (0, 0)) : Flat T' := by
  rcases hA.has I he with ⟨_, _, h1, _⟩ | ⟨_, _, h1⟩
  · rw [h1]; exact h
  · intro ρ d hd
    rcases (h1 ρ d).1 hd with h2 | ⟨_, rfl⟩
    · exact h _ _ h2
    · exact hr
theorem Flat.none {T : St} (h : Flat T) (I : Inv T 2) {top ρ : Rf} {c : Cp} (hc : Has T 2 top c) (hd : Desc T 2 top ρ) : False := by
  cases hd with
  | child h1 h2 => exact I.not0 hc (by rw [← h2]; exact h _ _ h1)
  | step h1 h2 h3 =>
    obtain ⟨d, hd⟩ := h1.has
    exact I.not0 hd (by rw [← h3]; exact h _ _ h2)
theorem Flat.nil {T : St} (h : Flat T) (I : Inv T 2) {top : Rf} {c : Cp} (hc : Has T 2 top c) {U : List Rf} (hU : ∀ ρ, ρ ∈ U ↔ Desc T 2 top ρ) : U = [] :=
  List.eq_nil_iff_forall_not_mem.2 fun ρ hm => h.none I hc ((hU ρ).1 hm)
theorem has_row {T1 T2 : St} (h : T1 0 = T2 0) {m : Int} {c : Cp} : Has T1 2 ((0 : Int), m) c → Has T2 2 ((0 : Int), m) c := by
  rintro ⟨e, i, q, h1, h2, h3, h4, h5⟩
  have h6 : (0 : Int) = (e : Int) := congrArg Prod.fst h1
  obtain rfl : e = 0 := by omega
  exact ⟨0, i, q, h1, h2, by rw [← h]; exact h3, h4, h5⟩
theorem Added.same {T1 T2 T1' T2' : St} {c : Cp} {nm er nm2 er2 : Int} (h : T1 0 = T2 0) (h1 : Added T1 2 0 c nm er T1') (h2 : Added T2 2 0 c nm2 er2 T2') : nm = nm2 ∧ er = er2 ∧ T1' 0 = T2' 0 := by
  cases h1 with
  | full a =>
    cases h2 with
    | full b => exact ⟨rfl, rfl, h⟩
    | put j y b1 b2 b3 =>
      have := a j y (by rw [h]; exact b1)
      rw [b2] at this
      cases this
  | put i q a1 a2 a3 =>
    cases h2 with
    | full b =>
      have := b i q (by rw [← h]; exact a1)
      rw [a2] at this
      cases this
    | put j y b1 b2 b3 =>
      have hij : i = j := by
        rcases Nat.lt_trichotomy i j with hl | hl | hl
        · have := b3 i q hl (by rw [← h]; exact a1)
          rw [a2] at this
          cases this
        · exact hl
        · have := a3 j y hl (by rw [h]; exact b1)
          rw [b2] at this
          cases this
      subst hij
      rw [h, b1] at a1
      cases a1
      refine ⟨rfl, rfl, ?_⟩
      unfold up
      simp only [if_true]
      rw [h]
theorem gone_row {T1 T2 : St} (h : T1 0 = T2 0) (l : List Rf) : gone T1 l 0 = gone T2 l 0 := by unfold gone; rw [h]
theorem gone_row1 (T : St) (m : Int) : gone T [((1 : Int), m)] 0 = T 0 := by
  apply List.ext_getElem?
  intro i
  rw [gone_get]
  cases (T 0)[i]? <;> simp [goneQ]
/-- Two Spaces, whose rows lie apart. -/
structure Two (w0 w : World) (s1 B1 : Nat) (p1 r1 : Nat → Nat) (T1 : St) (s2 B2 : Nat) (p2 r2 : Nat → Nat) (T2 : St) : Prop where
  a : Sp0 w0 w s1 B1 2 p1 r1 T1
  b : Sp0 w0 w s2 B2 2 p2 r2 T2
  ne : ∀ i j, i < 2 → j < 2 → r1 i ≠ r2 j
  eq : T1 0 = T2 0
  fa : Flat T1
  fb : Flat T2
theorem Sp0.other {w0 w w' : World} {s B : Nat} {p r : Nat → Nat} {T : St} {s2 B2 : Nat} {p2 r2 : Nat → Nat} {T2 : St} (h : Sp0 w0 w s B 2 p r T) (h2 : Sp0 w0 w s2 B2 2 p2 r2 T2) (ne : ∀ i j, i < 2 → j < 2 → r i ≠ r2 j) (k : Keep (Rows_ 2 r) w w') : Sp0 w0 w' s2 B2 2 p2 r2 T2 :=
  ⟨h2.sp.keep k (fun ⟨i, hi, e⟩ => h2.sp.obj.ne_ (h.sp.tab i hi).row (by decide) e) (fun ⟨i, hi, e⟩ => h2.sp.row.ne_ (h.sp.tab i hi).row (by decide) e)
    (fun j hj => ⟨fun ⟨i, hi, e⟩ => (h2.sp.tab j hj).obj.ne_ (h.sp.tab i hi).row (by decide) e, fun ⟨i, hi, e⟩ => ne i j hi hj e.symm⟩), h2.inv, h2.lor, h.rows k⟩
section
variable {w0 w w' : World} {s1 B1 : Nat} {p1 r1 : Nat → Nat} {T1 T1' : St} {s2 B2 : Nat} {p2 r2 : Nat → Nat} {T2 T2' : St}
theorem Two.nob (h : Two w0 w s1 B1 p1 r1 T1 s2 B2 p2 r2 T2) (k : Keep Nob w w') : Two w0 w' s1 B1 p1 r1 T1 s2 B2 p2 r2 T2 := ⟨h.a.nob k, h.b.nob k, h.ne, h.eq, h.fa, h.fb⟩
theorem Two.vec {e sz m cap : Nat} {A : Option Addr} {xs : List Value} (h : Two w0 w s1 B1 p1 r1 T1 s2 B2 p2 r2 T2) (hv : Vec w e sz A m cap xs) (ht : e ≠ 68) (k : Keep (Rows_ 2 r1) w w') : Vec w' e sz A m cap xs := h.a.offV hv ht k
end
/-- What a round of CapsAlone knows: the two Spaces; mine and theirs are rows of whole numbers, each the call's own. -/
structure AloneAt (w0 w : World) (s1 B1 : Nat) (p1 r1 : Nat → Nat) (T1 : St) (s2 B2 : Nat) (p2 r2 : Nat → Nat) (T2 : St) (A : Option Addr) (m c : Nat) (xs : List Int) (A' : Option Addr) (m' c' : Nat) (ys : List Int) : Prop where
  two : Two w0 w s1 B1 p1 r1 T1 s2 B2 p2 r2 T2
  v : Vec w 3 1 A m c (ints xs)
  u : Vec w 3 1 A' m' c' (ints ys)
  ov : ∀ g, Own A g → w0.heap.size ≤ g
  ou : ∀ g, Own A' g → w0.heap.size ≤ g
  ne : ∀ g, Own A g → ¬ Own A' g
theorem AloneAt.nob {w0 w w' : World} {s1 B1 : Nat} {p1 r1 : Nat → Nat} {T1 : St} {s2 B2 : Nat} {p2 r2 : Nat → Nat} {T2 : St} {A : Option Addr} {m c : Nat} {xs : List Int} {A' : Option Addr} {m' c' : Nat} {ys : List Int} (h : AloneAt w0 w s1 B1 p1 r1 T1 s2 B2 p2 r2 T2 A m c xs A' m' c' ys) (k : Keep Nob w w') : AloneAt w0 w' s1 B1 p1 r1 T1 s2 B2 p2 r2 T2 A m c xs A' m' c' ys :=
  ⟨h.two.nob k, h.v.nob k, h.u.nob k, h.ov, h.ou, h.ne⟩
theorem ints_snoc (xs : List Int) (x : Int) : ints xs ++ [.int .i64 x] = ints (xs ++ [x]) := by simp [ints]
theorem AloneAt.app1 {w0 w w' : World} {s1 B1 : Nat} {p1 r1 : Nat → Nat} {T1 : St} {s2 B2 : Nat} {p2 r2 : Nat → Nat} {T2 : St} {A : Option Addr} {m c : Nat} {xs : List Int} {A' : Option Addr} {m' c' : Nat} {ys : List Int} (h : AloneAt w0 w s1 B1 p1 r1 T1 s2 B2 p2 r2 T2 A m c xs A' m' c' ys) {x : Int} {A2 : Option Addr} {c2 : Nat} (hv : Vec w' 3 1 A2 (m + 1) c2 (ints xs ++ [.int .i64 x])) (k : Keep (Own A) w w') (ho : ∀ g, Own A2 g → Own A g ∨ g = w.heap.size) : AloneAt w0 w' s1 B1 p1 r1 T1 s2 B2 p2 r2 T2 A2 (m + 1) c2 (xs ++ [x]) A' m' c' ys :=
  ⟨⟨h.two.a.farV h.v (by decide) (by decide) (by decide) (by decide) h.ov k, h.two.b.farV h.v (by decide) (by decide) (by decide) (by decide) h.ov k, h.two.ne, h.two.eq, h.two.fa, h.two.fb⟩, by rw [← ints_snoc]; exact hv, h.u.keep k (fun g h1 h2 => h.ne g h2 h1),
    fun g hg => (ho g hg).elim (h.ov g) (fun e => e ▸ h.two.a.keep.size), h.ou, fun g hg hg' => (ho g hg).elim (fun h1 => h.ne g h1 hg') (fun e => by have := h.u.lt g hg'; omega)⟩
theorem AloneAt.app2 {w0 w w' : World} {s1 B1 : Nat} {p1 r1 : Nat → Nat} {T1 : St} {s2 B2 : Nat} {p2 r2 : Nat → Nat} {T2 : St} {A : Option Addr} {m c : Nat} {xs : List Int} {A' : Option Addr} {m' c' : Nat} {ys : List Int} (h : AloneAt w0 w s1 B1 p1 r1 T1 s2 B2 p2 r2 T2 A m c xs A' m' c' ys) {x : Int} {A2 : Option Addr} {c2 : Nat} (hv : Vec w' 3 1 A2 (m' + 1) c2 (ints ys ++ [.int .i64 x])) (k : Keep (Own A') w w') (ho : ∀ g, Own A2 g → Own A' g ∨ g = w.heap.size) : AloneAt w0 w' s1 B1 p1 r1 T1 s2 B2 p2 r2 T2 A m c xs A2 (m' + 1) c2 (ys ++ [x]) :=
  ⟨⟨h.two.a.farV h.u (by decide) (by decide) (by decide) (by decide) h.ou k, h.two.b.farV h.u (by decide) (by decide) (by decide) (by decide) h.ou k, h.two.ne, h.two.eq, h.two.fa, h.two.fb⟩, h.v.keep k (fun g h1 h2 => h.ne g h1 h2), by rw [← ints_snoc]; exact hv,
    h.ov, fun g hg => (ho g hg).elim (h.ou g) (fun e => e ▸ h.two.a.keep.size), fun g hg hg' => (ho g hg').elim (fun h1 => h.ne g hg h1) (fun e => by have := h.v.lt g hg; omega)⟩
set_option maxHeartbeats 1000000 in
theorem same_yes {A B : Option Addr} {n c d : Nat} {l : List Int} {w : World} (ha : Vec w 3 1 A n c (ints l)) (hb : Vec w 3 1 B n d (ints l)) (hl : l.length ≤ 1000000) :
    Calls Try.prog 11 #[.slice A n c, .slice B n d] w fun e w' => e = .returned (.bool true) ∧ Keep Nob w w' := by
  have hn : n = l.length := by have := ha.len; rw [ints_len] at this; omega
  go_enter Try.func11, Try.ntmps11
  go_wp2
  go_loopw [5] (fun s wx => ∃ k : Nat, k ≤ n ∧ s = .int .i64 k ∧ Keep Nob w wx) (fun s _ => n - (intOf s).toNat)
  case atStart => exact ⟨0, Nat.zero_le _, rfl, Keep.refl _ _⟩
  case round =>
    obtain ⟨k, hk, rfl, hK⟩ := hrel
    by_cases hlt : k < n
    · obtain ⟨ga, _, rfl, ba, _, _, ta⟩ := (ha.keep hK (fun _ _ f => f)).at_ (by omega)
      obtain ⟨gb, _, rfl, bb, _, _, tb⟩ := (hb.keep hK (fun _ _ f => f)).at_ (by omega)
      obtain ⟨x, hx⟩ : ∃ x, (ints l)[k]? = some (.int .i64 x) := ⟨l.getD k 0, by rw [ints_get, List.getElem?_eq_getElem (by omega), List.getD_eq_getElem?_getD, List.getElem?_eq_getElem (by omega)]; rfl⟩
      have ca : wr.cell? ⟨ga, k, none⟩ = some (.int .i64 x) := by rw [ba.cell, ← hx, ← ta, List.getElem?_take, if_pos (by omega)]
      have cb : wr.cell? ⟨gb, k, none⟩ = some (.int .i64 x) := by rw [bb.cell, ← hx, ← tb, List.getElem?_take, if_pos (by omega)]
      clear ba bb ta tb hx
      go_wp2_with fail
      go_region
      go_wp2
      go_roundw
      case rel => exact ⟨k + 1, by omega, by go_num, hK.drew⟩
      case measure => simp [intOf]; omega
    · obtain rfl : k = n := by omega
      go_wp2
      go_ret
      exact ⟨rfl, hK⟩
end Go.Proofs.Ytjkmbffcmgeknaa
