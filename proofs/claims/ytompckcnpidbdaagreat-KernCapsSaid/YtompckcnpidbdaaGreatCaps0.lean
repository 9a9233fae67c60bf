/- Caps as plain data: who has what, what hangs on what, the work list that finds all under one. -/
import Derived.Test.YtompckcnpidbdaaGreatTab1
namespace Go.Proofs.YtompckcnpidbdaaGreat
open Go.RowKit
set_option linter.unusedVariables false
set_option linter.unusedSimpArgs false
/-- A Ref as a pair: Env, Name. -/
abbrev Rf := Int × Int
/-- A Cap. -/
structure Cp where
  obj : Int
  rights : Int
  lo : Int
  n : Int
  root : Rf
deriving DecidableEq
def Cp.cells (c : Cp) : List Value := [.int .i64 c.obj, .int .i64 c.rights, .int .i64 c.lo, .int .i64 c.n, .int .i64 c.root.1, .int .i64 c.root.2]
def zcap : Cp := ⟨0, 0, 0, 0, (0, 0)⟩
/-- A place of an environment's table. -/
structure Q where
  gen : Nat
  on : Bool
  c : Cp
def Q.pl (q : Q) : Pl := ⟨q.gen, q.on, q.c.cells⟩
abbrev St := Nat → List Q
/-- The Ref ρ is there, and is the Cap c. -/
def Has (T : St) (n : Nat) (ρ : Rf) (c : Cp) : Prop := ∃ (e i : Nat) (q : Q), ρ = ((e : Int), (i : Int) + 256 * (q.gen : Int)) ∧ e < n ∧ (T e)[i]? = some q ∧ q.on = true ∧ q.c = c
/-- What lies in an environment, by place, of the first k places. -/
def ents (L : List Q) (e : Nat) : Nat → List (Rf × Cp)
  | 0 => []
  | k + 1 => ents L e k ++ (match L[k]? with | some q => if q.on then [(((e : Int), (k : Int) + 256 * (q.gen : Int)), q.c)] else [] | none => [])
theorem ents_on {L : List Q} {e k : Nat} {q : Q} (hq : L[k]? = some q) (h : q.on = true) : ents L e (k + 1) = ents L e k ++ [(((e : Int), (k : Int) + 256 * (q.gen : Int)), q.c)] := by
  rw [ents, hq]
  dsimp only
  rw [if_pos h]
theorem ents_off {L : List Q} {e k : Nat} {q : Q} (hq : L[k]? = some q) (h : q.on = false) : ents L e (k + 1) = ents L e k := by
  rw [ents, hq]
  dsimp only
  rw [if_neg (by rw [h]; decide), List.append_nil]
theorem ents_names (L : List Q) (e : Nat) : ∀ k, names (L.map Q.pl) k = (ents L e k).map (fun x => x.1.2)
  | 0 => rfl
  | k + 1 => by
    unfold names ents
    rw [List.map_append, ents_names L e k, List.getElem?_map]
    congr 1
    cases L[k]? with
    | none => rfl
    | some q => cases h : q.on <;> simp [Q.pl, h]
theorem ents_mem {L : List Q} {e : Nat} {x : Rf × Cp} : ∀ k, x ∈ ents L e k ↔ ∃ (i : Nat) (q : Q), i < k ∧ L[i]? = some q ∧ q.on = true ∧ x = (((e : Int), (i : Int) + 256 * (q.gen : Int)), q.c)
  | 0 => by simp [ents]
  | k + 1 => by
    unfold ents
    rw [List.mem_append, ents_mem k]
    constructor
    · rintro (⟨i, q, h1, h2⟩ | h)
      · exact ⟨i, q, by omega, h2⟩
      · cases hL : L[k]? with
        | none => rw [hL] at h; simp at h
        | some q =>
          rw [hL] at h
          cases ho : q.on with
          | false => simp [ho] at h
          | true => exact ⟨k, q, by omega, hL, ho, by simpa [ho] using h⟩
    · rintro ⟨i, q, h1, h2, h3, h4⟩
      by_cases hi : i < k
      · exact .inl ⟨i, q, hi, h2, h3, h4⟩
      · obtain rfl : i = k := by omega
        right
        rw [h2]
        simp [h3, h4]
/-- All that lie in the first n environments. -/
def all (T : St) : Nat → List (Rf × Cp)
  | 0 => []
  | e + 1 => all T e ++ ents (T e) e (T e).length
theorem all_mem {T : St} {x : Rf × Cp} : ∀ n, x ∈ all T n ↔ Has T n x.1 x.2
  | 0 => by simp [all, Has]
  | n + 1 => by
    unfold all
    rw [List.mem_append, all_mem n, ents_mem]
    constructor
    · rintro (⟨e, i, q, h1, h2, h3⟩ | ⟨i, q, h1, h2, h3, h4⟩)
      · exact ⟨e, i, q, h1, by omega, h3⟩
      · exact ⟨n, i, q, by rw [h4], by omega, h2, h3, by rw [h4]⟩
    · rintro ⟨e, i, q, h1, h2, h3, h4, h5⟩
      by_cases he : e < n
      · exact .inl ⟨e, i, q, h1, he, h3, h4, h5⟩
      · obtain rfl : e = n := by omega
        exact .inr ⟨i, q, get_lt h3, h3, h4, by rw [← h1, h5]⟩
theorem ents_nodup {L : List Q} {e : Nat} (hl : L.length ≤ 256) : ∀ k, k ≤ L.length → ((ents L e k).map (·.1)).Nodup
  | 0, _ => by simp [ents]
  | k + 1, hk => by
    obtain ⟨q, hq⟩ : ∃ q, L[k]? = some q := ⟨_, List.getElem?_eq_getElem (by omega)⟩
    cases ho : q.on with
    | false => rw [ents_off hq ho]; exact ents_nodup hl k (by omega)
    | true =>
      rw [ents_on hq ho, List.map_append]
      refine List.nodup_append.2 ⟨ents_nodup hl k (by omega), by simp, ?_⟩
      intro a ha b hb
      obtain ⟨x, hx, rfl⟩ := List.mem_map.1 ha
      obtain ⟨i, q', h1, h2, h3, rfl⟩ := (ents_mem k).1 hx
      simp at hb
      subst hb
      intro e1
      have := congrArg Prod.snd e1
      simp at this
      omega
theorem all_nodup {T : St} : ∀ n, (∀ e, e < n → (T e).length ≤ 256) → ((all T n).map (·.1)).Nodup
  | 0, _ => by simp [all]
  | n + 1, h => by
    unfold all
    rw [List.map_append]
    refine List.nodup_append.2 ⟨all_nodup n (fun e he => h e (by omega)), ents_nodup (h n (by omega)) _ (Nat.le_refl _), ?_⟩
    intro a ha b hb
    obtain ⟨x, hx, rfl⟩ := List.mem_map.1 ha
    obtain ⟨y, hy, rfl⟩ := List.mem_map.1 hb
    obtain ⟨e, i, q, h1, h2, _⟩ := (all_mem n).1 hx
    obtain ⟨i', q', _, _, _, rfl⟩ := (ents_mem _).1 hy
    intro e1
    rw [h1] at e1
    have := congrArg Prod.fst e1
    simp at this
    omega
/-- Those of X whose root is κ. -/
def grp (X : List (Rf × Cp)) (κ : Rf) : List Rf := (X.filter (fun x => x.2.root = κ)).map (·.1)
theorem grp_add (X : List (Rf × Cp)) (x : Rf × Cp) (κ : Rf) : grp (X ++ [x]) κ = grp X κ ++ (if x.2.root = κ then [x.1] else []) := by
  unfold grp
  rw [List.filter_append, List.map_append]
  by_cases h : x.2.root = κ <;> simp [h]
theorem grp_len (X : List (Rf × Cp)) (κ : Rf) : (grp X κ).length ≤ X.length := by
  unfold grp
  rw [List.length_map]
  exact List.length_filter_le _ _
theorem grp_mem {X : List (Rf × Cp)} {κ ρ : Rf} : ρ ∈ grp X κ ↔ ∃ c, (ρ, c) ∈ X ∧ c.root = κ := by
  unfold grp
  constructor
  · intro h
    obtain ⟨⟨a, c⟩, hx, rfl⟩ := List.mem_map.1 h
    obtain ⟨h1, h2⟩ := List.mem_filter.1 hx
    exact ⟨c, h1, by simpa using h2⟩
  · rintro ⟨c, h1, h2⟩
    exact List.mem_map.2 ⟨(ρ, c), List.mem_filter.2 ⟨h1, by simpa using h2⟩, rfl⟩
theorem grp_nodup {X : List (Rf × Cp)} (h : (X.map (·.1)).Nodup) (κ : Rf) : (grp X κ).Nodup := ((List.filter_sublist).map _).nodup h
theorem Has.fun_ {T : St} {n : Nat} {ρ : Rf} {c c' : Cp} (hl : ∀ e, e < n → (T e).length ≤ 256) (h : Has T n ρ c) (h' : Has T n ρ c') : c = c' := by
  obtain ⟨e, i, q, h1, h2, h3, h4, h5⟩ := h
  obtain ⟨e', i', q', h1', h2', h3', h4', h5'⟩ := h'
  rw [h1] at h1'
  have a := congrArg Prod.fst h1'
  have b := congrArg Prod.snd h1'
  simp only at a b
  obtain rfl : e = e' := by omega
  have := hl e h2
  have hi := get_lt h3
  have hi' := get_lt h3'
  obtain rfl : i = i' := by omega
  rw [h3] at h3'
  cases h3'
  rw [← h5, ← h5']
/-- What holds of every Space. -/
structure Inv (T : St) (n : Nat) : Prop where
  n40 : n ≤ 40
  len : ∀ e, e < n → (T e).length = 32
  gen : ∀ e (i : Nat) q, e < n → (T e)[i]? = some q → 1 ≤ q.gen ∧ (q.on = true → q.gen ≤ 1000000)
  cap : ∀ ρ c, Has T n ρ c → 0 ≤ c.rights ∧ c.rights ≤ 7 ∧ 0 ≤ c.lo ∧ 0 ≤ c.n ∧ c.lo + c.n ≤ 131072
  root : ∀ ρ c, Has T n ρ c → c.root = (0, 0) ∨ ∃ c', Has T n c.root c'
  rank : ∃ rk : Rf → Nat, ∀ ρ c, Has T n ρ c → c.root ≠ (0, 0) → rk c.root < rk ρ
theorem Inv.len256 {T : St} {n : Nat} (h : Inv T n) : ∀ e, e < n → (T e).length ≤ 256 := fun e he => by rw [h.len e he]; decide
theorem Inv.not0 {T : St} {n : Nat} (h : Inv T n) {ρ : Rf} {c : Cp} (hh : Has T n ρ c) : ρ ≠ (0, 0) := by
  obtain ⟨e, i, q, h1, h2, h3, h4, h5⟩ := hh
  have := (h.gen e i q h2 h3).1
  rw [h1]
  intro e1
  have := congrArg Prod.snd e1
  simp at this
  omega
theorem Inv.range {T : St} {n : Nat} (h : Inv T n) {ρ : Rf} {c : Cp} (hh : Has T n ρ c) : 0 ≤ ρ.1 ∧ ρ.1 < n ∧ 256 ≤ ρ.2 ∧ ρ.2 ≤ 256000031 := by
  obtain ⟨e, i, q, h1, h2, h3, h4, h5⟩ := hh
  have g := h.gen e i q h2 h3
  have g2 := g.2 h4
  have hi := get_lt h3
  rw [h.len e h2] at hi
  rw [h1]
  dsimp only
  omega
/-- ρ hangs on top. -/
inductive Desc (T : St) (n : Nat) (top : Rf) : Rf → Prop
  | child {ρ c} : Has T n ρ c → c.root = top → Desc T n top ρ
  | step {σ ρ c} : Desc T n top σ → Has T n ρ c → c.root = σ → Desc T n top ρ
theorem Desc.has {T : St} {n : Nat} {top ρ : Rf} (h : Desc T n top ρ) : ∃ c, Has T n ρ c := by
  cases h with
  | child h _ => exact ⟨_, h⟩
  | step _ h _ => exact ⟨_, h⟩
/-- Children of κ. -/
abbrev kids (T : St) (n : Nat) (κ : Rf) : List Rf := grp (all T n) κ
theorem kids_mem {T : St} {n : Nat} {κ ρ : Rf} : ρ ∈ kids T n κ ↔ ∃ c, Has T n ρ c ∧ c.root = κ := by
  unfold kids
  rw [grp_mem]
  constructor
  · rintro ⟨c, h1, h2⟩; exact ⟨c, (all_mem n).1 h1, h2⟩
  · rintro ⟨c, h1, h2⟩; exact ⟨c, (all_mem n).2 h1, h2⟩
theorem nodup_le {α : Type} [DecidableEq α] : ∀ {a b : List α}, a.Nodup → (∀ x ∈ a, x ∈ b) → a.length ≤ b.length
  | [], _, _, _ => by simp
  | x :: a, b, h, hs => by
    have hx := hs x (by simp)
    rw [List.nodup_cons] at h
    have := nodup_le (b := b.erase x) h.2 (fun y hy => (List.mem_erase_of_ne (by rintro rfl; exact h.1 hy)).2 (hs y (by simp [hy])))
    rw [List.length_erase_of_mem hx] at this
    have := List.length_pos_of_mem hx
    simp
    omega
/-- The work list under way: W is still to be looked at, F was found. -/
structure Work (T : St) (n : Nat) (top : Rf) (W F : List Rf) : Prop where
  fnd : F.Nodup
  wnd : W.Nodup
  tf : top ∉ F
  desc : ∀ ρ ∈ F, Desc T n top ρ
  sub : ∀ ρ ∈ W, ρ = top ∨ ρ ∈ F
  done : ∀ ρ, (ρ = top ∨ ρ ∈ F) → ρ ∉ W → ∀ σ ∈ kids T n ρ, σ ∈ F
  from_ : ∀ ρ ∈ F, ∃ κ, ρ ∈ kids T n κ ∧ (κ = top ∨ κ ∈ F) ∧ κ ∉ W
theorem Work.start (T : St) (n : Nat) (top : Rf) : Work T n top [top] [] :=
  ⟨by simp, by simp, by simp, by simp, by simp, by intro ρ h1 h2; simp at h1 h2; exact absurd h1 h2, by simp⟩
section
variable {T : St} {n : Nat} {top of : Rf} {W F : List Rf}
theorem Work.apart (I : Inv T n) (ht : ∃ c, Has T n top c) (h : Work T n top (W ++ [of]) F) {σ : Rf} (hs : σ ∈ kids T n of) : σ ∉ F ∧ σ ≠ top := by
  have hof : of = top ∨ of ∈ F := h.sub of (by simp)
  obtain ⟨c, hc, hr⟩ := kids_mem.1 hs
  constructor
  · intro hf
    obtain ⟨κ, h1, _, h3⟩ := h.from_ σ hf
    obtain ⟨c', hc', hr'⟩ := kids_mem.1 h1
    have := hc.fun_ I.len256 hc'
    subst this
    rw [hr] at hr'
    subst hr'
    exact h3 (by simp)
  · rintro rfl
    obtain ⟨rk, hrk⟩ := I.rank
    have key : ∀ τ, Desc T n σ τ → rk σ < rk τ := by
      intro τ hd
      induction hd with
      | child h1 h2 =>
        have := hrk _ _ h1 (by rw [h2]; exact I.not0 hc)
        rwa [h2] at this
      | step h1 h2 h3 ih =>
        obtain ⟨c', hc'⟩ := h1.has
        have := hrk _ _ h2 (by rw [h3]; exact I.not0 hc')
        rw [h3] at this
        omega
    have hof0 : of ≠ (0, 0) := by
      rcases hof with rfl | hof
      · exact I.not0 hc
      · obtain ⟨c', hc'⟩ := (h.desc of hof).has
        exact I.not0 hc'
    have h1 := hrk _ _ hc (by rw [hr]; exact hof0)
    rw [hr] at h1
    rcases hof with rfl | hof
    · omega
    · have := key of (h.desc of hof)
      omega
theorem Work.next (I : Inv T n) (ht : ∃ c, Has T n top c) (h : Work T n top (W ++ [of]) F) : Work T n top (W ++ kids T n of) (F ++ kids T n of) := by
  have hof : of = top ∨ of ∈ F := h.sub of (by simp)
  have hap := fun {σ} => h.apart I ht (σ := σ)
  have hk := grp_nodup (all_nodup n I.len256) of
  have hW := List.nodup_append.1 h.wnd
  have hofk : of ∉ kids T n of := fun hm => by
    have := hap hm
    rcases hof with e | e
    · exact this.2 e
    · exact this.1 e
  have hofW : of ∉ W := fun hm => hW.2.2 of hm of (by simp) rfl
  refine ⟨List.nodup_append.2 ⟨h.fnd, hk, fun a ha b hb e => (hap hb).1 (e ▸ ha)⟩, List.nodup_append.2 ⟨hW.1, hk, fun a ha b hb e => ?_⟩, ?_, ?_, ?_, ?_, ?_⟩
  · subst e
    rcases h.sub a (by simp [ha]) with e | e
    · exact (hap hb).2 e
    · exact (hap hb).1 e
  · intro hm
    rcases List.mem_append.1 hm with h1 | h1
    · exact h.tf h1
    · exact (hap h1).2 rfl
  · intro ρ hm
    rcases List.mem_append.1 hm with h1 | h1
    · exact h.desc ρ h1
    · obtain ⟨c, hc, hr⟩ := kids_mem.1 h1
      rcases hof with e | e
      · exact .child hc (hr.trans e)
      · exact .step (h.desc of e) hc hr
  · intro ρ hm
    rcases List.mem_append.1 hm with h1 | h1
    · rcases h.sub ρ (by simp [h1]) with e | e
      · exact .inl e
      · exact .inr (by simp [e])
    · exact .inr (by simp [h1])
  · intro ρ h1 h2 σ hσ
    by_cases he : ρ = of
    · subst he; simp [hσ]
    · rw [List.mem_append, not_or] at h2
      have h3 : ρ = top ∨ ρ ∈ F := by
        rcases h1 with h1 | h1
        · exact .inl h1
        · rcases List.mem_append.1 h1 with h1 | h1
          · exact .inr h1
          · exact absurd h1 h2.2
      have := h.done ρ h3 (by simp [h2.1, he]) σ hσ
      simp [this]
  · intro ρ hm
    rcases List.mem_append.1 hm with h1 | h1
    · obtain ⟨κ, a, b, c⟩ := h.from_ ρ h1
      refine ⟨κ, a, by rcases b with b | b <;> simp [b], ?_⟩
      rw [List.mem_append, not_or] at c ⊢
      refine ⟨c.1, fun hm2 => ?_⟩
      rcases b with b | b
      · exact (hap hm2).2 b
      · exact (hap hm2).1 b
    · refine ⟨of, h1, by rcases hof with b | b <;> simp [b], ?_⟩
      rw [List.mem_append, not_or]
      exact ⟨hofW, hofk⟩
theorem Work.end_ (h : Work T n top [] F) (ρ : Rf) : ρ ∈ F ↔ Desc T n top ρ := by
  refine ⟨h.desc ρ, fun hd => ?_⟩
  induction hd with
  | child h1 h2 => exact h.done top (.inl rfl) (by simp) _ (kids_mem.2 ⟨_, h1, h2⟩)
  | step h1 h2 h3 ih => exact h.done _ (.inr ih) (by simp) _ (kids_mem.2 ⟨_, h2, h3⟩)
theorem Work.le (h : Work T n top W F) : F.length ≤ (all T n).length := by
  have : ∀ ρ ∈ F, ρ ∈ (all T n).map (·.1) := fun ρ hr => by
    obtain ⟨c, hc⟩ := (h.desc ρ hr).has
    exact List.mem_map.2 ⟨(ρ, c), (all_mem n).2 hc, rfl⟩
  have := nodup_le h.fnd this
  simpa using this
end
theorem ents_le (L : List Q) (e : Nat) : ∀ k, (ents L e k).length ≤ k
  | 0 => by simp [ents]
  | k + 1 => by
    have := ents_le L e k
    unfold ents
    rw [List.length_append]
    split
    · split <;> simp <;> omega
    · simp; omega
theorem all_le {T : St} {n : Nat} (h : ∀ e, e < n → (T e).length = 32) : ∀ k, k ≤ n → (all T k).length ≤ 32 * k
  | 0, _ => by simp [all]
  | k + 1, hk => by
    have := all_le h k (by omega)
    have h2 := ents_le (T k) k (T k).length
    rw [h k (by omega)] at h2
    unfold all
    rw [List.length_append, h k (by omega)]
    omega
def rcells (x : Rf) : List Value := [.int .i64 x.1, .int .i64 x.2]
def rval (x : Rf) : Value := .agg #[.int .i64 x.1, .int .i64 x.2]
def refs (l : List Rf) : List Value := (l.map rcells).flatten
theorem refs_len (l : List Rf) : (refs l).length = l.length * 2 := by
  rw [refs, flatten_len (W := 2) _ (by intro c hc; obtain ⟨x, _, rfl⟩ := List.mem_map.1 hc; rfl), List.length_map]
theorem refs_append (a b : List Rf) : refs (a ++ b) = refs a ++ refs b := by simp [refs]
theorem refs_get {l : List Rf} {i j : Nat} {x : Rf} (hx : l[i]? = some x) (hj : j < 2) : (refs l)[i * 2 + j]? = (rcells x)[j]? := by
  rw [refs, flatten_get (W := 2) _ (by intro c hc; obtain ⟨x, _, rfl⟩ := List.mem_map.1 hc; rfl) i j hj, List.getElem?_map, hx]
  rfl
theorem refs_one (l : List Rf) : ∀ v ∈ refs l, v.oneCell' = true := by
  intro v hv
  obtain ⟨c, hc, hv⟩ := List.mem_flatten.1 hv
  obtain ⟨x, _, rfl⟩ := List.mem_map.1 hc
  simp [rcells] at hv
  rcases hv with rfl | rfl <;> rfl
/-- The two cells of an element. -/
theorem Vec.rf {w : World} {e : TypeId} {n cap : Nat} {A : Option Addr} {l : List Rf} (h : Vec w e 2 A n cap (refs l)) {j : Nat} {ρ : Rf} (hj : l[j]? = some ρ) :
    ∃ g, A = some ⟨g, 0, none⟩ ∧ w.cell? ⟨g, j * 2, none⟩ = some (.int .i64 ρ.1) ∧ w.cell? ⟨g, j * 2 + 1, none⟩ = some (.int .i64 ρ.2) := by
  have hl := h.len
  rw [refs_len] at hl
  have hjl := get_lt hj
  obtain ⟨g, cur, hA, hb, _, _, ht⟩ := h.at_ (by omega)
  refine ⟨g, hA, ?_, ?_⟩
  · rw [hb.cell]
    have e1 : (cur.take (n * 2))[j * 2 + 0]? = (refs l)[j * 2 + 0]? := by rw [ht]
    rw [List.getElem?_take, if_pos (by omega), refs_get hj (by omega)] at e1
    exact e1
  · rw [hb.cell]
    have e1 : (cur.take (n * 2))[j * 2 + 1]? = (refs l)[j * 2 + 1]? := by rw [ht]
    rw [List.getElem?_take, if_pos (by omega), refs_get hj (by omega)] at e1
    exact e1
end Go.Proofs.YtompckcnpidbdaaGreat
