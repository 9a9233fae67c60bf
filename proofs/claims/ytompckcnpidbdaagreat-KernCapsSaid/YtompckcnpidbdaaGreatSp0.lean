/- A Space that a call has made: its calls one behind the other; rows of grants. -/
import Derived.Test.YtompckcnpidbdaaGreatCaps2
import Derived.Test.YtompckcnpidbdaaGreatCaps6
import Derived.Test.YtompckcnpidbdaaGreatRead
namespace Go.Proofs.YtompckcnpidbdaaGreat
open Go.RowKit
set_option linter.unusedVariables false
set_option linter.unusedSimpArgs false
/-- A Space that a call has made, since the world w0. -/
structure Sp0 (w0 w : World) (s B n : Nat) (p r : Nat → Nat) (T : St) : Prop where
  sp : IsSp w s B n p r T
  inv : Inv T n
  lor : ∀ i, i < n → w0.heap.size ≤ r i
  keep : Keep (From w0.heap.size) w0 w
section
variable {w0 w w' : World} {s B n : Nat} {p r : Nat → Nat} {T : St}
theorem Sp0.nob (h : Sp0 w0 w s B n p r T) (k : Keep Nob w w') : Sp0 w0 w' s B n p r T := ⟨h.sp.nob k, h.inv, h.lor, h.keep.nob k⟩
theorem Sp0.rows (h : Sp0 w0 w s B n p r T) (k : Keep (Rows_ n r) w w') : Keep (From w0.heap.size) w0 w' := h.keep.from_ k (fun b ⟨i, hi, e⟩ => e ▸ h.lor i hi)
theorem sub7 {a : Int} (h : 0 ≤ a ∧ a ≤ 7) : sub a 7 = true := by
  rcases (show a = 0 ∨ a = 1 ∨ a = 2 ∨ a = 3 ∨ a = 4 ∨ a = 5 ∨ a = 6 ∨ a = 7 by omega) with rfl | rfl | rfl | rfl | rfl | rfl | rfl | rfl <;> decide
theorem new0 (a : Int) (n : Nat) (hn : (min (max a 0) 40).toNat = n) (h : Keep (From w0.heap.size) w0 w) : Calls Tryz.prog 25 #[.int .i64 a] w fun e w' => ∃ s B p r, e = .returned (.pointer (some ⟨s, 0, none⟩)) ∧ Sp0 w0 w' s B n p r init ∧ Keep Nob w w' ∧ (∀ i, i < n → w.heap.size ≤ r i) := by
  refine (new_sp a n hn w).mono ?_
  rintro e w' ⟨s, B, p, r, rfl, h1, h2, h3, h4⟩
  have := h.size
  exact ⟨s, B, p, r, rfl, ⟨h1, init_inv (by omega), fun i hi => Nat.le_trans this (h3 i hi), h.nob h4⟩, h4, h3⟩
theorem Sp0.put (h : Sp0 w0 w s B n p r T) (e : Nat) (he : e < n) (c : Cp) (h1 : 0 ≤ c.rights ∧ c.rights ≤ 7) (h2 : 0 ≤ c.lo ∧ c.lo ≤ 65536) (h3 : 0 ≤ c.n ∧ c.n ≤ 65536) :
    Calls Tryz.prog 58 #[.pointer (some ⟨s, 0, none⟩), .int .i64 e, cval c] w fun e' w' => ∃ nm er T', e' = .returned (.tuple #[.int .i64 nm, .int .i64 er]) ∧ Added T n e ⟨c.obj, c.rights, c.lo, c.n, (0, 0)⟩ nm er T' ∧ Sp0 w0 w' s B n p r T' ∧ Keep (Rows_ n r) w w' := by
  refine (put_yes h.sp he ⟨by omega, by omega, sub7 h1, h2.1, h2.2, h3.1, h3.2⟩).mono ?_
  rintro e' w' ⟨nm, er, T', rfl, hA, hS, hk⟩
  have hk' := hk.rows he
  exact ⟨nm, er, T', rfl, hA, ⟨hS, hA.inv h.inv he ⟨h1.1, h1.2, h2.1, h3.1, by dsimp only; omega⟩ (.inl rfl), h.lor, h.rows hk'⟩, hk'⟩
theorem Sp0.put_no (h : Sp0 w0 w s B n p r T) (env : Int) (c : Cp) (hno : ¬ PutOk n env c) :
    Calls Tryz.prog 58 #[.pointer (some ⟨s, 0, none⟩), .int .i64 env, cval c] w fun e' w' => e' = .returned (.tuple #[.int .i64 0, .int .i64 1]) ∧ Sp0 w0 w' s B n p r T ∧ Keep Nob w w' :=
  (YtompckcnpidbdaaGreat.put_no h.sp hno).mono fun _ _ ⟨he, k⟩ => ⟨he, h.nob k, k⟩
theorem Sp0.get (h : Sp0 w0 w s B n p r T) {a b : Int} (c : Cp) (hc : Has T n (a, b) c) :
    Calls Tryz.prog 18 #[.pointer (some ⟨s, 0, none⟩), .int .i64 a, .int .i64 b] w fun e' w' => e' = .returned (.tuple #[cval c, .int .i64 0]) ∧ Sp0 w0 w' s B n p r T ∧ Keep Nob w w' :=
  (sget_yes h.sp c hc).mono fun _ _ ⟨he, k⟩ => ⟨he, h.nob k, k⟩
theorem Sp0.get_no (h : Sp0 w0 w s B n p r T) {a b : Int} (hc : ∀ c, ¬ Has T n (a, b) c) :
    Calls Tryz.prog 18 #[.pointer (some ⟨s, 0, none⟩), .int .i64 a, .int .i64 b] w fun e' w' => e' = .returned (.tuple #[cval zcap, .int .i64 2]) ∧ Sp0 w0 w' s B n p r T ∧ Keep Nob w w' :=
  (sget_no h.sp hc).mono fun _ _ ⟨he, k⟩ => ⟨he, h.nob k, k⟩
theorem Sp0.grant (h : Sp0 w0 w s B n p r T) {a b rights lo m : Int} (f : Nat) (hf : f < n) (c : Cp) (hc : Has T n (a, b) c) (h4 : sub 4 c.rights = true) (h5 : sub rights c.rights = true) (h6 : 0 ≤ rights ∧ rights ≤ 7) (h7 : 0 ≤ lo ∧ 0 ≤ m ∧ lo + m ≤ c.n) :
    Calls Tryz.prog 35 #[.pointer (some ⟨s, 0, none⟩), .int .i64 a, .int .i64 b, .int .i64 f, .int .i64 rights, .int .i64 lo, .int .i64 m] w fun e' w' => ∃ nm er T', e' = .returned (.tuple #[.int .i64 nm, .int .i64 er]) ∧
      Added T n f ⟨c.obj, rights, c.lo + lo, m, (a, b)⟩ nm er T' ∧ Sp0 w0 w' s B n p r T' ∧ Keep (Rows_ n r) w w' := by
  refine (grant_yes h.sp h.inv c hc h4 h5 hf ⟨by omega, by omega, by omega, by omega, by omega, by omega⟩).mono ?_
  rintro e' w' ⟨nm, er, T', rfl, hA, hS, hk⟩
  have hk' := hk.rows hf
  have hcap := h.inv.cap _ _ hc
  exact ⟨nm, er, T', rfl, hA, ⟨hS, hA.inv h.inv hf ⟨h6.1, h6.2, by dsimp only; omega, h7.2.1, by dsimp only; omega⟩ (.inr ⟨c, hc⟩), h.lor, h.rows hk'⟩, hk'⟩
theorem Sp0.grant_noright (h : Sp0 w0 w s B n p r T) {a b to rights lo m : Int} (c : Cp) (hc : Has T n (a, b) c) (hno : ¬ (sub 4 c.rights = true ∧ sub rights c.rights = true)) :
    Calls Tryz.prog 35 #[.pointer (some ⟨s, 0, none⟩), .int .i64 a, .int .i64 b, .int .i64 to, .int .i64 rights, .int .i64 lo, .int .i64 m] w fun e' w' => e' = .returned (.tuple #[.int .i64 0, .int .i64 3]) ∧ Sp0 w0 w' s B n p r T ∧ Keep Nob w w' :=
  (YtompckcnpidbdaaGreat.grant_noright h.sp c hc hno).mono fun _ _ ⟨he, k⟩ => ⟨he, h.nob k, k⟩
theorem Sp0.grant_nopart (h : Sp0 w0 w s B n p r T) {a b to rights lo m : Int} (c : Cp) (hc : Has T n (a, b) c) (h4 : sub 4 c.rights = true) (h5 : sub rights c.rights = true) (hno : ¬ PartOk n c to lo m) :
    Calls Tryz.prog 35 #[.pointer (some ⟨s, 0, none⟩), .int .i64 a, .int .i64 b, .int .i64 to, .int .i64 rights, .int .i64 lo, .int .i64 m] w fun e' w' => e' = .returned (.tuple #[.int .i64 0, .int .i64 1]) ∧ Sp0 w0 w' s B n p r T ∧ Keep Nob w w' :=
  (YtompckcnpidbdaaGreat.grant_nopart h.sp h.inv c hc h4 h5 hno).mono fun _ _ ⟨he, k⟩ => ⟨he, h.nob k, k⟩
theorem Sp0.under (h : Sp0 w0 w s B n p r T) {a b : Int} (c : Cp) (hc : Has T n (a, b) c) :
    Calls Tryz.prog 65 #[.pointer (some ⟨s, 0, none⟩), .int .i64 a, .int .i64 b] w fun e w' => ∃ A cap U, e = .returned (.tuple #[.slice A U.length cap, .int .i64 0]) ∧ U.Nodup ∧ (∀ ρ, ρ ∈ U ↔ Desc T n (a, b) ρ) ∧ U.Pairwise (fun x y => ¬ ltR y x) ∧ Vec w' 59 2 A U.length cap (refs U) ∧
      Sp0 w0 w' s B n p r T ∧ Keep Nob w w' :=
  (under_yes h.sp h.inv c hc).mono fun _ _ ⟨A, cap, U, h1, h2, h3, h4, h5, k⟩ => ⟨A, cap, U, h1, h2, h3, h4, h5, h.nob k, k⟩
theorem Sp0.revoke (h : Sp0 w0 w s B n p r T) {a b : Int} (c : Cp) (hc : Has T n (a, b) c) :
    Calls Tryz.prog 36 #[.pointer (some ⟨s, 0, none⟩), .int .i64 a, .int .i64 b] w fun e w' => ∃ U : List Rf, e = .returned (.tuple #[.int .i64 (1 + (U.length : Int)), .int .i64 0]) ∧ U.Nodup ∧ (∀ ρ, ρ ∈ U ↔ Desc T n (a, b) ρ) ∧
      Sp0 w0 w' s B n p r (gone T ((a, b) :: U)) ∧ Keep (Rows_ n r) w w' :=
  (revoke_yes h.sp h.inv c hc).mono fun _ _ ⟨U, h1, h2, h3, h4, h5, k⟩ => ⟨U, h1, h2, h3, ⟨h4, h5, h.lor, h.rows k⟩, k⟩
theorem Sp0.revoke_no (h : Sp0 w0 w s B n p r T) {a b : Int} (hc : ∀ c, ¬ Has T n (a, b) c) :
    Calls Tryz.prog 36 #[.pointer (some ⟨s, 0, none⟩), .int .i64 a, .int .i64 b] w fun e w' => e = .returned (.tuple #[.int .i64 0, .int .i64 2]) ∧ Sp0 w0 w' s B n p r T ∧ Keep Nob w w' :=
  (YtompckcnpidbdaaGreat.revoke_no h.sp hc).mono fun _ _ ⟨he, k⟩ => ⟨he, h.nob k, k⟩
/-- What lies elsewhere, in a block of another type, a Space's calls leave as it is. -/
theorem Sp0.off {g : Nat} {t : TypeId} {cs : List Value} (h : Sp0 w0 w s B n p r T) (hb : Blk w g t cs) (ht : t ≠ 144) (k : Keep (Rows_ n r) w w') : Blk w' g t cs :=
  hb.keep k (fun ⟨i, hi, e⟩ => hb.ne_ (h.sp.tab i hi).row ht e)
theorem Sp0.offV {e sz m cap : Nat} {A : Option Addr} {xs : List Value} (h : Sp0 w0 w s B n p r T) (hv : Vec w e sz A m cap xs) (ht : e ≠ 144) (k : Keep (Rows_ n r) w w') : Vec w' e sz A m cap xs :=
  hv.keep k (fun g ho ⟨i, hi, e1⟩ => by obtain ⟨cur, hc⟩ := hv.blk ho; exact hc.ne_ (h.sp.tab i hi).row ht e1)
theorem Added.other {T' : St} {e : Nat} {c : Cp} {nm er : Int} (h : Added T n e c nm er T') {j : Nat} (hj : j ≠ e) : T' j = T j := by
  cases h with
  | full _ => rfl
  | put i q _ _ _ => unfold up; rw [if_neg hj]
/-- Where all is as at the beginning there is room. -/
theorem Added.room {T' : St} {e : Nat} {c : Cp} {nm er : Int} (I : Inv T n) (he : e < n) (h : Added T n e c nm er T') (hi : T e = init e) : er = 0 ∧ (∀ d, ¬ Has T n ((e : Int), nm) d) ∧ ∀ ρ d, Has T' n ρ d ↔ Has T n ρ d ∨ (ρ = ((e : Int), nm) ∧ d = c) := by
  rcases h.has I he with ⟨_, _, _, h4⟩ | h1
  · have := h4 0 ⟨1, false, zcap⟩ (by rw [hi]; rfl)
    exact absurd this (by decide)
  · exact h1
end
/-- From place k on an environment is as at the beginning. -/
def Empties (T : St) (e k : Nat) : Prop := ∀ j, k ≤ j → j < 32 → (T e)[j]? = some ⟨1, false, zcap⟩
theorem empties_init (e : Nat) : Empties init e 0 := fun j _ hj => by
  unfold init
  rw [List.getElem?_replicate, if_pos hj]
theorem Empties.of_eq {T T' : St} {e k : Nat} (h : Empties T e k) (he : T' e = T e) : Empties T' e k := fun j h1 h2 => by rw [he]; exact h j h1 h2
theorem Empties.le {T : St} {e k k' : Nat} (h : Empties T e k) (hk : k ≤ k') : Empties T e k' := fun j h1 h2 => h j (by omega) h2
theorem Added.next {T T' : St} {n e k : Nat} {c : Cp} {nm er : Int} (h : Added T n e c nm er T') (he : Empties T e k) (hk : k < 32) : er = 0 ∧ Empties T' e (k + 1) := by
  have hfree : (⟨1, false, zcap⟩ : Q).pl.free = true := by decide
  cases h with
  | full hb =>
    have := hb k _ (he k (Nat.le_refl _) hk)
    rw [hfree] at this
    cases this
  | put i q hq hf hb =>
    have hi : i ≤ k := by
      rcases Nat.lt_or_ge k i with h1 | h1
      · have := hb k _ h1 (he k (Nat.le_refl _) hk)
        rw [hfree] at this
        cases this
      · exact h1
    refine ⟨rfl, fun j h1 h2 => ?_⟩
    unfold up
    rw [if_pos rfl, List.getElem?_set_ne (by omega)]
    exact he j (by omega) h2
/-- Where a place is left there is room. -/
theorem Added.room_at {T T' : St} {n e k : Nat} {c : Cp} {nm er : Int} (I : Inv T n) (hn : e < n) (h : Added T n e c nm er T') (he : Empties T e k) (hk : k < 32) :
    er = 0 ∧ Empties T' e (k + 1) ∧ (∀ d, ¬ Has T n ((e : Int), nm) d) ∧ ∀ ρ d, Has T' n ρ d ↔ Has T n ρ d ∨ (ρ = ((e : Int), nm) ∧ d = c) := by
  obtain ⟨rfl, h2⟩ := h.next he hk
  rcases h.has I hn with ⟨h3, _⟩ | ⟨_, h3⟩
  · cases h3
  · exact ⟨rfl, h2, h3⟩
/-- What is there is one row of grants: each of the one ahead. -/
structure Chain (T : St) (n : Nat) (L : List (Rf × Cp)) : Prop where
  has : ∀ ρ d, Has T n ρ d ↔ (ρ, d) ∈ L
  nd : (L.map (·.1)).Nodup
  first : ∀ x, L[0]? = some x → x.2.root = (0, 0)
  link : ∀ (j : Nat) x y, L[j]? = some x → L[j + 1]? = some y → y.2.root = x.1
section
variable {T T' : St} {n : Nat} {L : List (Rf × Cp)}
theorem Chain.idx (h : Chain T n L) {i j : Nat} {x y : Rf × Cp} (hx : L[i]? = some x) (hy : L[j]? = some y) (e : x.1 = y.1) : i = j := by
  have hi := get_lt hx
  have hj := get_lt hy
  refine (List.getElem_inj (xs := L.map (·.1)) (h₀ := by simpa using hi) (h₁ := by simpa using hj) h.nd).1 ?_
  simp only [List.getElem_map]
  rw [(List.getElem?_eq_some_iff.1 hx).2, (List.getElem?_eq_some_iff.1 hy).2, e]
theorem Chain.not0 (h : Chain T n L) (I : Inv T n) {i : Nat} {x : Rf × Cp} (hx : L[i]? = some x) : x.1 ≠ (0, 0) := I.not0 ((h.has x.1 x.2).2 (List.mem_of_getElem? hx))
/-- Whose root is the k-th is the next one. -/
theorem Chain.kid (h : Chain T n L) (I : Inv T n) {k : Nat} {x : Rf × Cp} (hx : L[k]? = some x) {ρ : Rf} {c : Cp} (hc : Has T n ρ c) (hr : c.root = x.1) : L[k + 1]? = some (ρ, c) := by
  obtain ⟨j, hj⟩ := List.getElem?_of_mem ((h.has ρ c).1 hc)
  cases j with
  | zero => exact absurd ((h.first _ hj).symm.trans hr) (fun e => h.not0 I hx e.symm)
  | succ j =>
    obtain ⟨y, hy⟩ : ∃ y, L[j]? = some y := ⟨_, List.getElem?_eq_getElem (by have := get_lt hj; omega)⟩
    have := h.link j y _ hy hj
    have := h.idx hy hx (this.symm.trans hr)
    subst this
    exact hj
theorem Chain.desc (h : Chain T n L) (I : Inv T n) {k : Nat} {x : Rf × Cp} (hx : L[k]? = some x) (ρ : Rf) : Desc T n x.1 ρ ↔ ρ ∈ (L.drop (k + 1)).map (·.1) := by
  constructor
  · intro hd
    have key : ∃ (j : Nat) (y : Rf × Cp), k < j ∧ L[j]? = some y ∧ y.1 = ρ := by
      induction hd with
      | child h1 h2 => exact ⟨k + 1, _, by omega, h.kid I hx h1 h2, rfl⟩
      | step h1 h2 h3 ih =>
        obtain ⟨j, y, hj, hy, e⟩ := ih
        exact ⟨j + 1, _, by omega, h.kid I hy h2 (h3.trans e.symm), rfl⟩
    obtain ⟨j, y, hj, hy, rfl⟩ := key
    refine List.mem_map.2 ⟨y, List.mem_iff_getElem?.2 ⟨j - (k + 1), ?_⟩, rfl⟩
    rw [List.getElem?_drop, show k + 1 + (j - (k + 1)) = j by omega]
    exact hy
  · intro hm
    obtain ⟨y, hy, rfl⟩ := List.mem_map.1 hm
    obtain ⟨i, hi⟩ := List.getElem?_of_mem hy
    rw [List.getElem?_drop] at hi
    clear hm hy
    induction i generalizing y with
    | zero =>
      exact .child ((h.has y.1 y.2).2 (List.mem_of_getElem? hi)) (h.link k x y hx hi)
    | succ i ih =>
      obtain ⟨z, hz⟩ : ∃ z, L[k + 1 + i]? = some z := ⟨_, List.getElem?_eq_getElem (by have := get_lt hi; omega)⟩
      exact .step (ih z hz) ((h.has y.1 y.2).2 (List.mem_of_getElem? hi)) (h.link _ z y hz hi)
theorem Chain.drop_nd (h : Chain T n L) (k : Nat) : ((L.drop k).map (·.1)).Nodup := ((List.drop_sublist k L).map _).nodup h.nd
theorem Chain.under (h : Chain T n L) (I : Inv T n) {k : Nat} {x : Rf × Cp} (hx : L[k]? = some x) {U : List Rf} (hn : U.Nodup) (hm : ∀ ρ, ρ ∈ U ↔ Desc T n x.1 ρ) : U.Perm ((L.drop (k + 1)).map (·.1)) :=
  (List.perm_ext_iff_of_nodup hn (h.drop_nd _)).2 fun ρ => (hm ρ).trans (h.desc I hx ρ)
theorem Chain.gone (h : Chain T n L) (I : Inv T n) {k : Nat} {x : Rf × Cp} (hx : L[k]? = some x) {U : List Rf} (hm : ∀ ρ, ρ ∈ U ↔ Desc T n x.1 ρ) : Chain (gone T (x.1 :: U)) n (L.take k) := by
  have hk := get_lt hx
  refine ⟨fun ρ d => ?_, ((List.take_sublist k L).map _).nodup h.nd, fun y hy => ?_, fun j y z hy hz => ?_⟩
  · rw [gone_has, h.has, List.mem_cons, not_or]
    constructor
    · rintro ⟨h1, h2, h3⟩
      obtain ⟨j, hj⟩ := List.getElem?_of_mem h1
      refine List.mem_iff_getElem?.2 ⟨j, ?_⟩
      rw [List.getElem?_take]
      by_cases hjk : j < k
      · rw [if_pos hjk]; exact hj
      · exfalso
        by_cases e : j = k
        · subst e
          rw [hx] at hj
          cases hj
          exact h2 rfl
        · refine h3 ((hm ρ).2 ((h.desc I hx ρ).2 (List.mem_map.2 ⟨(ρ, d), List.mem_iff_getElem?.2 ⟨j - (k + 1), ?_⟩, rfl⟩)))
          rw [List.getElem?_drop, show k + 1 + (j - (k + 1)) = j by omega]
          exact hj
    · intro h1
      obtain ⟨j, hj⟩ := List.getElem?_of_mem h1
      rw [List.getElem?_take] at hj
      split at hj
      · rename_i hjk
        refine ⟨List.mem_of_getElem? hj, fun e => ?_, fun hu => ?_⟩
        · have := h.idx hj hx e
          omega
        · obtain ⟨y, hy, e⟩ := List.mem_map.1 ((h.desc I hx ρ).1 ((hm ρ).1 hu))
          obtain ⟨i, hi⟩ := List.getElem?_of_mem hy
          rw [List.getElem?_drop] at hi
          have := h.idx hi hj e
          omega
      · cases hj
  · rw [List.getElem?_take] at hy
    split at hy
    · exact h.first y hy
    · cases hy
  · rw [List.getElem?_take] at hy hz
    split at hz
    · rw [if_pos (by omega)] at hy
      exact h.link j y z hy hz
    · cases hz
theorem Chain.one {c : Cp} {ρ : Rf} (hh : ∀ σ d, Has T n σ d ↔ (σ = ρ ∧ d = c)) (hr : c.root = (0, 0)) : Chain T n [(ρ, c)] := by
  refine ⟨fun σ d => by rw [hh]; simp, by simp, fun x hx => ?_, fun j x y _ hy => ?_⟩
  · simp at hx; rw [← hx]; exact hr
  · simp at hy
theorem Chain.add (h : Chain T n L) {k : Nat} {x : Rf × Cp} (hk : L.length = k + 1) (hx : L[k]? = some x) {ρ : Rf} {c : Cp} (hnew : ∀ d, ¬ Has T n ρ d) (hh : ∀ σ d, Has T' n σ d ↔ Has T n σ d ∨ (σ = ρ ∧ d = c)) (hr : c.root = x.1) : Chain T' n (L ++ [(ρ, c)]) := by
  refine ⟨fun σ d => by rw [hh, h.has, List.mem_append]; simp, ?_, fun y hy => ?_, fun j y z hy hz => ?_⟩
  · rw [List.map_append]
    refine List.nodup_append.2 ⟨h.nd, by simp, fun a ha b hb e => ?_⟩
    simp at hb
    subst hb e
    obtain ⟨y, hy, rfl⟩ := List.mem_map.1 ha
    exact hnew y.2 ((h.has _ _).2 hy)
  · rw [List.getElem?_append_left (by omega)] at hy
    exact h.first y hy
  · by_cases hj : j + 1 < L.length
    · rw [List.getElem?_append_left (by omega)] at hy
      rw [List.getElem?_append_left hj] at hz
      exact h.link j y z hy hz
    · have : j + 1 < (L ++ [(ρ, c)]).length := get_lt hz
      simp at this
      obtain rfl : j = k := by omega
      rw [List.getElem?_append_left (by omega), hx] at hy
      cases hy
      rw [List.getElem?_append_right (by omega), hk, Nat.sub_self] at hz
      simp at hz
      rw [← hz]
      exact hr
end
end Go.Proofs.YtompckcnpidbdaaGreat
