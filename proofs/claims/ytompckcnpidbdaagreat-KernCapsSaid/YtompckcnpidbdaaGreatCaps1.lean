/- Contracts of package caps, its small calls: has, hasRights, inBounds, isPart, add, Get, Names. -/
import Derived.Test.YtompckcnpidbdaaGreatRows
import Derived.Test.YtompckcnpidbdaaGreatCaps0
import Derived.Test.YtompckcnpidbdaaGreatTabC
import Derived.Laws.ResultCell
import Derived.Deep.QuietTactic
import Derived.BigQuiet
import Derived.StillTailTactics
import Derived.Deep.RegionHeld3
namespace Go.Proofs.YtompckcnpidbdaaGreat
open Go.RowKit
set_option linter.unusedVariables false
set_option linter.unusedSimpArgs false
abbrev Tab := TabC.Tab
/-- The value of a Cap. -/
def cval (c : Cp) : Value := .agg #[.int .i64 c.obj, .int .i64 c.rights, .int .i64 c.lo, .int .i64 c.n, .int .i64 c.root.1, .int .i64 c.root.2]
/-- s points at a Space of n environments, whose tables p lie over the rows r and hold T. -/
structure IsSp (w : World) (s B n : Nat) (p r : Nat → Nat) (T : St) : Prop where
  obj : Blk w s 109 [.slice (some ⟨B, 0, none⟩) n n]
  row : Blk w B 106 (mk n fun i => .pointer (some ⟨p i, 0, none⟩))
  tab : ∀ i, i < n → Tab w (p i) (r i) ((T i).map Q.pl)
  pinj : ∀ i j, i < n → j < n → p i = p j → i = j
  rinj : ∀ i j, i < n → j < n → r i = r j → i = j
/-- Place i of environment e is now q. -/
def up (T : St) (e i : Nat) (q : Q) : St := fun j => if j = e then (T e).set i q else T j
/-- Blocks of the tables' rows. -/
def Rows_ (n : Nat) (r : Nat → Nat) : Nat → Prop := fun b => ∃ i, i < n ∧ b = r i
section
variable {w w' : World} {s B n : Nat} {p r : Nat → Nat} {T : St}
theorem IsSp.head (h : IsSp w s B n p r T) : w.cell? ⟨s, 0, none⟩ = some (.slice (some ⟨B, 0, none⟩) n n) := h.obj.cell 0
theorem IsSp.ptr (h : IsSp w s B n p r T) {e : Nat} (he : e < n) : w.cell? ⟨B, e, none⟩ = some (.pointer (some ⟨p e, 0, none⟩)) := by
  rw [h.row.cell, mk_get he]
theorem IsSp.keep {M : Nat → Prop} (h : IsSp w s B n p r T) (k : Keep M w w') (h1 : ¬ M s) (h2 : ¬ M B) (h3 : ∀ i, i < n → ¬ M (p i) ∧ ¬ M (r i)) : IsSp w' s B n p r T :=
  ⟨h.obj.keep k h1, h.row.keep k h2, fun i hi => (h.tab i hi).keep k (h3 i hi).1 (h3 i hi).2, h.pinj, h.rinj⟩
theorem IsSp.nob (h : IsSp w s B n p r T) (k : Keep Nob w w') : IsSp w' s B n p r T := h.keep k (fun f => f) (fun f => f) (fun _ _ => ⟨fun f => f, fun f => f⟩)
/-- What is done from a world on to its new blocks alone. -/
theorem IsSp.from_ (h : IsSp w s B n p r T) (k : Keep (From w.heap.size) w w') : IsSp w' s B n p r T :=
  h.keep k (fun m => by have := h.obj.lt; have : w.heap.size ≤ s := m; omega) (fun m => by have := h.row.lt; have : w.heap.size ≤ B := m; omega)
    (fun i hi => ⟨fun m => by have := (h.tab i hi).obj.lt; have : w.heap.size ≤ p i := m; omega, fun m => by have := (h.tab i hi).row.lt; have : w.heap.size ≤ r i := m; omega⟩)
/-- One table was turned. -/
theorem IsSp.put (h : IsSp w s B n p r T) {e i : Nat} {q : Q} (he : e < n) (k : Keep (· = r e) w w') (ht : Tab w' (p e) (r e) (((T e).map Q.pl).set i q.pl)) : IsSp w' s B n p r (up T e i q) := by
  have hr := (h.tab e he).row
  refine ⟨h.obj.keep k (h.obj.ne_ hr (by decide)), h.row.keep k (h.row.ne_ hr (by decide)), fun j hj => ?_, h.pinj, h.rinj⟩
  unfold up
  by_cases hje : j = e
  · subst hje
    rw [if_pos rfl, List.map_set]
    exact ht
  · rw [if_neg hje]
    exact (h.tab j hj).keep k ((h.tab j hj).obj.ne_ hr (by decide)) (fun e1 => hje (h.rinj j e hj he e1))
theorem IsSp.cells {e i : Nat} {q : Q} (_ : IsSp w s B n p r T) (hq : (T e)[i]? = some q) : ((T e).map Q.pl)[i]? = some q.pl := by rw [List.getElem?_map, hq]; rfl
end
theorem has_is {w : World} {s B n : Nat} {p r : Nat → Nat} {T : St} (h : IsSp w s B n p r T) (env : Int) (b : Bool) (hb : b = (decide (0 ≤ env) && decide (env < n))) :
    Calls Tryz.prog 44 #[.pointer (some ⟨s, 0, none⟩), .int .i64 env] w fun e w' => e = .returned (.bool b) ∧ w = w' := by
  have hc := h.head
  by_cases h0 : 0 ≤ env
  · obtain rfl : b = decide (env < n) := by rw [hb]; simp [h0]
    clear hb
    go_enter Tryz.func44, Tryz.ntmps44
    go_wp2
    go_ret
    exact ⟨rfl, rfl⟩
  · obtain rfl : b = false := by rw [hb]; simp [h0]
    clear hb
    go_enter Tryz.func44, Tryz.ntmps44
    go_wp2
    go_ret
    exact ⟨rfl, rfl⟩
/-- Are all rights of a among those of b? -/
def sub (a b : Int) : Bool := bits .andNot .i64 a b == 0
theorem rights_is (a b : Int) (w : World) (v : Bool) (hv : sub b a = v) : Calls Tryz.prog 62 #[.int .i64 a, .int .i64 b] w fun e w' => e = .returned (.bool v) ∧ w = w' := by
  unfold sub at hv
  go_enter Tryz.func62, Tryz.ntmps62
  go_wp2
  go_ret
  exact ⟨rfl, rfl⟩
theorem bounds_is (a : Int) (w : World) (v : Bool) (hv : (decide (0 ≤ a) && decide (a ≤ 65536)) = v) : Calls Tryz.prog 81 #[.int .i64 a] w fun e w' => e = .returned (.bool v) ∧ w = w' := by
  by_cases h0 : 0 ≤ a
  · obtain rfl : v = decide (a ≤ 65536) := by rw [← hv]; simp [h0]
    clear hv
    go_enter Tryz.func81, Tryz.ntmps81
    go_wp2
    go_ret
    exact ⟨rfl, rfl⟩
  · obtain rfl : v = false := by rw [← hv]; simp [h0]
    clear hv
    go_enter Tryz.func81, Tryz.ntmps81
    go_wp2
    go_ret
    exact ⟨rfl, rfl⟩
theorem part_is (lo n all : Int) (w : World) (v : Bool) (h1 : 0 ≤ all) (h2 : all ≤ 131072) (hv : (decide (0 ≤ lo) && (decide (0 ≤ n) && (decide (n ≤ all) && decide (lo ≤ all - n)))) = v) :
    Calls Tryz.prog 63 #[.int .i64 lo, .int .i64 n, .int .i64 all] w fun e w' => e = .returned (.bool v) ∧ w = w' := by
  by_cases a1 : 0 ≤ lo
  · by_cases a2 : 0 ≤ n
    · by_cases a3 : n ≤ all
      · obtain rfl : v = decide (lo ≤ all - n) := by rw [← hv]; simp [a1, a2, a3]
        clear hv
        go_enter Tryz.func63, Tryz.ntmps63
        go_wp2
        go_ret
        exact ⟨rfl, rfl⟩
      · obtain rfl : v = false := by rw [← hv]; simp [a3]
        clear hv
        go_enter Tryz.func63, Tryz.ntmps63
        go_wp2
        go_ret
        exact ⟨rfl, rfl⟩
    · obtain rfl : v = false := by rw [← hv]; simp [a2]
      clear hv
      go_enter Tryz.func63, Tryz.ntmps63
      go_wp2
      go_ret
      exact ⟨rfl, rfl⟩
  · obtain rfl : v = false := by rw [← hv]; simp [a1]
    clear hv
    go_enter Tryz.func63, Tryz.ntmps63
    go_wp2
    go_ret
    exact ⟨rfl, rfl⟩
theorem mixed_ : Tryz.prog.follows .mixedOrders = true := by kernel_rfl
/-- What the region of add reads. -/
def AddS (s B n e g : Nat) (pe : Nat) (c : Cp) (w' : World) : Prop :=
  w'.cell? ⟨s, 0, none⟩ = some (.slice (some ⟨B, 0, none⟩) n n) ∧ w'.cell? ⟨B, e, none⟩ = some (.pointer (some ⟨pe, 0, none⟩)) ∧
  w'.cell? ⟨g, 0, none⟩ = some (.int .i64 c.obj) ∧ w'.cell? ⟨g, 1, none⟩ = some (.int .i64 c.rights) ∧ w'.cell? ⟨g, 2, none⟩ = some (.int .i64 c.lo) ∧ w'.cell? ⟨g, 3, none⟩ = some (.int .i64 c.n) ∧ w'.cell? ⟨g, 4, none⟩ = some (.int .i64 c.root.1) ∧ w'.cell? ⟨g, 5, none⟩ = some (.int .i64 c.root.2)
set_option maxRecDepth 100000 in
set_option maxHeartbeats 2000000 in
theorem add_is {w : World} {s B n e : Nat} {p r : Nat → Nat} {T : St} (h : IsSp w s B n p r T) (he : e < n) (c : Cp) (x : Int) (v : Bool) (R : World → Prop)
    (hcall : ∀ W, Keep Nob w W → Calls Tryz.prog 84 #[.pointer (some ⟨p e, 0, none⟩), cval c] W fun e' w' => e' = .returned (.tuple #[.int .i64 x, .bool v]) ∧ R w' ∧ Keep (· = r e) W w') :
    Calls Tryz.prog 64 #[.pointer (some ⟨s, 0, none⟩), .int .i64 e, cval c] w fun e' w' => e' = .returned (.tuple #[.int .i64 (if v then x else 0), .int .i64 (if v then 0 else 4)]) ∧ (∃ w1, R w1 ∧ Keep Nob w1 w') ∧ Keep (· = r e) w w' := by
  have hrow := (h.tab e he).row
  have hlt := hrow.lt
  have n1 := h.obj.ne_ hrow (by decide)
  have n2 := h.row.ne_ hrow (by decide)
  unfold cval at hcall ⊢
  go_enter Tryz.func64, Tryz.ntmps64
  go_wp2_with (refine wpList_box rfl 61 _ rfl _ rfl ?_; intro w1 hb1 hk1 hs1)
  have h1 := h.nob hk1
  have sf : ∀ W, Keep (· = r e) w1 W → AddS s B n e w.heap.size (p e) c W := by
    intro W k
    have b := hb1.keep k (by omega)
    exact ⟨(h1.obj.keep k n1).cell 0, by rw [(h1.row.keep k n2).cell, mk_get he], b.cell 0, b.cell 1, b.cell 2, b.cell 3, b.cell 4, b.cell 5⟩
  have hh := h1.head
  have hp := h1.ptr he
  have kd : Keep (· = r e) w1 w1.drew := (Keep.refl _ _).drew
  have hcl := hcall w1.drew hk1.drew
  unfold AddS at sf
  clear hcall h1 hb1 hs1
  go_region_held3 (fun w' => w'.cell? ⟨s, 0, none⟩ = some (.slice (some ⟨B, 0, none⟩) n n) ∧ w'.cell? ⟨B, e, none⟩ = some (.pointer (some ⟨p e, 0, none⟩)) ∧ w'.cell? ⟨w.heap.size, 0, none⟩ = some (.int .i64 c.obj) ∧ w'.cell? ⟨w.heap.size, 1, none⟩ = some (.int .i64 c.rights) ∧ w'.cell? ⟨w.heap.size, 2, none⟩ = some (.int .i64 c.lo) ∧ w'.cell? ⟨w.heap.size, 3, none⟩ = some (.int .i64 c.n) ∧ w'.cell? ⟨w.heap.size, 4, none⟩ = some (.int .i64 c.root.1) ∧ w'.cell? ⟨w.heap.size, 5, none⟩ = some (.int .i64 c.root.2))
    (first | exact sf _ kd | exact sf _ k1)
    (first | (go_at_call 84; refine hcl.mono ?_; rintro e w' ⟨rfl, hR, hk⟩; have k1 := kd.trans hk (fun _ _ e => e)))
  cases v
  all_goals
    go_wp2
    go_ret2
    exact ⟨rfl, ⟨_, hR, Keep.refl _ _⟩, (hk1.mono (fun _ _ f => f.elim)).trans k1 (fun _ _ e => e)⟩
/-- A Cap is added where there is room: a new Ref, and what lies there. -/
theorem up_has {T : St} {n e i : Nat} {q : Q} {c : Cp} (hl : ∀ e, e < n → (T e).length ≤ 256) (he : e < n) (hq : (T e)[i]? = some q) (ho : q.on = false) (ρ : Rf) (d : Cp) :
    Has (up T e i ⟨q.gen, true, c⟩) n ρ d ↔ Has T n ρ d ∨ (ρ = ((e : Int), (i : Int) + 256 * (q.gen : Int)) ∧ d = c) := by
  have hi := get_lt hq
  constructor
  · rintro ⟨e', i', q', h1, h2, h3, h4, h5⟩
    unfold up at h3
    by_cases hee : e' = e
    · subst hee
      rw [if_pos rfl] at h3
      by_cases hii : i = i'
      · subst hii
        rw [List.getElem?_set_self hi] at h3
        cases h3
        exact .inr ⟨h1, h5.symm⟩
      · rw [List.getElem?_set_ne hii] at h3
        exact .inl ⟨e', i', q', h1, h2, h3, h4, h5⟩
    · rw [if_neg hee] at h3
      exact .inl ⟨e', i', q', h1, h2, h3, h4, h5⟩
  · rintro (⟨e', i', q', h1, h2, h3, h4, h5⟩ | ⟨h1, h2⟩)
    · refine ⟨e', i', q', h1, h2, ?_, h4, h5⟩
      unfold up
      by_cases hee : e' = e
      · subst hee
        rw [if_pos rfl]
        by_cases hii : i = i'
        · subst hii
          rw [hq] at h3
          cases h3
          rw [ho] at h4
          cases h4
        · rw [List.getElem?_set_ne hii]
          exact h3
      · rw [if_neg hee]
        exact h3
    · refine ⟨e, i, ⟨q.gen, true, c⟩, h1, he, ?_, rfl, h2.symm⟩
      unfold up
      rw [if_pos rfl, List.getElem?_set_self hi]
theorem new_ref {T : St} {n e i : Nat} {q : Q} (hl : ∀ e, e < n → (T e).length ≤ 256) (he : e < n) (hq : (T e)[i]? = some q) (ho : q.on = false) (d : Cp) : ¬ Has T n ((e : Int), (i : Int) + 256 * (q.gen : Int)) d := by
  rintro ⟨e', i', q', h1, h2, h3, h4, h5⟩
  have a := congrArg Prod.fst h1
  have b := congrArg Prod.snd h1
  simp only at a b
  obtain rfl : e = e' := by omega
  have := hl e he
  have hi := get_lt hq
  have hi' := get_lt h3
  obtain rfl : i = i' := by omega
  rw [hq] at h3
  cases h3
  rw [ho] at h4
  cases h4
/-- What add does: it finds no room, and nothing has turned; or a new Ref is there. -/
inductive Added (T : St) (n e : Nat) (c : Cp) : Int → Int → St → Prop
  | full : (∀ (j : Nat) (q : Q), (T e)[j]? = some q → q.pl.free = false) → Added T n e c 0 4 T
  | put (i : Nat) (q : Q) : (T e)[i]? = some q → q.pl.free = true → (∀ (j : Nat) (y : Q), j < i → (T e)[j]? = some y → y.pl.free = false) → Added T n e c ((i : Int) + 256 * (q.gen : Int)) 0 (up T e i ⟨q.gen, true, c⟩)
theorem sadd_is {w : World} {s B n e : Nat} {p r : Nat → Nat} {T : St} (h : IsSp w s B n p r T) (he : e < n) (c : Cp) :
    Calls Tryz.prog 64 #[.pointer (some ⟨s, 0, none⟩), .int .i64 e, cval c] w fun e' w' => ∃ nm er T', e' = .returned (.tuple #[.int .i64 nm, .int .i64 er]) ∧ Added T n e c nm er T' ∧ IsSp w' s B n p r T' ∧ Keep (· = r e) w w' := by
  rcases first_free ((T e).map Q.pl) with ⟨i, y, hy, hf, hb⟩ | hb
  · obtain ⟨q, hq, rfl⟩ : ∃ q, (T e)[i]? = some q ∧ q.pl = y := by
      rw [List.getElem?_map] at hy
      exact Option.map_eq_some_iff.1 hy
    refine (add_is h he c ((i : Int) + 256 * (q.gen : Int)) true (fun w' => IsSp w' s B n p r (up T e i ⟨q.gen, true, c⟩)) ?_).mono ?_
    · intro W hk
      have hW := h.nob hk
      refine (TabC.add_yes c.obj c.rights c.lo c.n c.root.1 c.root.2 (hW.tab e he) hy hf hb).mono ?_
      rintro e' w' ⟨rfl, ht, k⟩
      exact ⟨rfl, hW.put he k ht, k⟩
    · rintro e' w' ⟨rfl, ⟨w1, h1, k1⟩, k⟩
      exact ⟨_, _, _, rfl, .put i q hq hf (fun j y hj hy => hb j y.pl hj (by rw [List.getElem?_map, hy]; rfl)), h1.nob k1, k⟩
  · refine (add_is h he c 0 false (fun w' => IsSp w' s B n p r T) ?_).mono ?_
    · intro W hk
      have hW := h.nob hk
      refine (TabC.add_no c.obj c.rights c.lo c.n c.root.1 c.root.2 (hW.tab e he) hb).mono ?_
      rintro e' w' ⟨rfl, k⟩
      exact ⟨rfl, hW.nob k, k.mono (fun _ _ f => f.elim)⟩
    · rintro e' w' ⟨rfl, ⟨w1, h1, k1⟩, k⟩
      exact ⟨_, _, _, rfl, .full (fun j y hy => hb j y.pl (by rw [List.getElem?_map, hy]; rfl)), h1.nob k1, k⟩
set_option maxHeartbeats 2000000 in
theorem sget_yes {w : World} {s B n : Nat} {p r : Nat → Nat} {T : St} {a b : Int} (h : IsSp w s B n p r T) (c : Cp) (hh : Has T n (a, b) c) :
    Calls Tryz.prog 18 #[.pointer (some ⟨s, 0, none⟩), .int .i64 a, .int .i64 b] w fun e' w' => e' = .returned (.tuple #[cval c, .int .i64 0]) ∧ Keep Nob w w' := by
  obtain ⟨e, i, q, h1, he, hq, ho, rfl⟩ := hh
  have ha : a = e := congrArg Prod.fst h1
  have hb := Lib.hid (show b = (i : Int) + 256 * (q.gen : Int) from congrArg Prod.snd h1)
  clear h1
  subst ha
  unfold cval
  have k0 := (Keep.refl Nob w).alloc (.cells #[.int .i64 0, .int .i64 0, .int .i64 0, .int .i64 0, .int .i64 0, .int .i64 0] 61)
  have b0 : Blk (w.alloc (.cells #[.int .i64 0, .int .i64 0, .int .i64 0, .int .i64 0, .int .i64 0, .int .i64 0] 61)) w.heap.size 61 [.int .i64 0, .int .i64 0, .int .i64 0, .int .i64 0, .int .i64 0, .int .i64 0] := Blk.new w 61 [.int .i64 0, .int .i64 0, .int .i64 0, .int .i64 0, .int .i64 0, .int .i64 0]
  have h0 := h.nob k0
  have hc := h0.head
  have hp := h0.ptr he
  go_enter Tryz.func18, Tryz.ntmps18
  go_wp2_with fail
  refine (has_is h0 (e : Int) true (by simp [he])).mono ?_; rintro e' w' ⟨rfl, rfl⟩
  go_wp2_with fail
  refine (TabC.get_yes q.c.obj q.c.rights q.c.lo q.c.n q.c.root.1 q.c.root.2 (h0.tab e he) (h0.cells hq) ho hb.out rfl).mono ?_; rintro e' W ⟨rfl, hk⟩
  have hz := b0.nob hk
  have kk := k0.nobt hk
  have hlt := hz.lt
  have z0 : W.cell? ⟨w.heap.size, 0, none⟩ = some (.int .i64 0) := hz.cell 0
  have z1 : W.cell? ⟨w.heap.size, 1, none⟩ = some (.int .i64 0) := hz.cell 1
  have z2 : W.cell? ⟨w.heap.size, 2, none⟩ = some (.int .i64 0) := hz.cell 2
  have z3 : W.cell? ⟨w.heap.size, 3, none⟩ = some (.int .i64 0) := hz.cell 3
  have z4 : W.cell? ⟨w.heap.size, 4, none⟩ = some (.int .i64 0) := hz.cell 4
  have z5 : W.cell? ⟨w.heap.size, 5, none⟩ = some (.int .i64 0) := hz.cell 5
  have f0 := hz.frozen 0
  have f1 := hz.frozen 1
  have f2 := hz.frozen 2
  have f3 := hz.frozen 3
  have f4 := hz.frozen 4
  have f5 := hz.frozen 5
  clear hz b0 k0 hk h0 hc hp
  go_wp2
  (try simp only [Exit.inBlock, Exit.then])
  refine bodyPost_ret (v := .tuple #[.agg #[.int .i64 q.c.obj, .int .i64 q.c.rights, .int .i64 q.c.lo, .int .i64 q.c.n, .int .i64 q.c.root.1, .int .i64 q.c.root.2], .int .i64 0]) ?_ rfl ?_
  · rw [results_cell_tmp rfl]
    go_simp
  exact ⟨rfl, ((((((kk.setCell _ _ (fun h => absurd h (Nat.lt_irrefl _))).setCell _ _ (fun h => absurd h (Nat.lt_irrefl _))).setCell _ _ (fun h => absurd h (Nat.lt_irrefl _))).setCell _ _ (fun h => absurd h (Nat.lt_irrefl _))).setCell _ _ (fun h => absurd h (Nat.lt_irrefl _))).setCell _ _ (fun h => absurd h (Nat.lt_irrefl _))).alloc _⟩
set_option maxHeartbeats 400000 in
theorem sget_no {w : World} {s B n : Nat} {p r : Nat → Nat} {T : St} {a b : Int} (h : IsSp w s B n p r T) (hh : ∀ c, ¬ Has T n (a, b) c) :
    Calls Tryz.prog 18 #[.pointer (some ⟨s, 0, none⟩), .int .i64 a, .int .i64 b] w fun e' w' => e' = .returned (.tuple #[cval zcap, .int .i64 2]) ∧ Keep Nob w w' := by
  show Calls Tryz.prog 18 #[.pointer (some ⟨s, 0, none⟩), .int .i64 a, .int .i64 b] w fun e' w' => e' = .returned (.tuple #[.agg #[.int .i64 0, .int .i64 0, .int .i64 0, .int .i64 0, .int .i64 0, .int .i64 0], .int .i64 2]) ∧ Keep Nob w w'
  have k0 := (Keep.refl Nob w).alloc (.cells #[.int .i64 0, .int .i64 0, .int .i64 0, .int .i64 0, .int .i64 0, .int .i64 0] 61)
  have b0 : Blk (w.alloc (.cells #[.int .i64 0, .int .i64 0, .int .i64 0, .int .i64 0, .int .i64 0, .int .i64 0] 61)) w.heap.size 61 [.int .i64 0, .int .i64 0, .int .i64 0, .int .i64 0, .int .i64 0, .int .i64 0] := Blk.new w 61 [.int .i64 0, .int .i64 0, .int .i64 0, .int .i64 0, .int .i64 0, .int .i64 0]
  have h0 := h.nob k0
  have hc := h0.head
  by_cases hin : 0 ≤ a ∧ a < n
  · obtain ⟨e, rfl⟩ := Int.eq_ofNat_of_zero_le hin.1
    have he : e < n := by omega
    have hp := h0.ptr he
    have hno : ∀ (i : Nat) (q : Pl), ((T e).map Q.pl)[i]? = some q → q.on = true → b ≠ i + 256 * (q.gen : Int) := by
      intro i y hy ho e1
      rw [List.getElem?_map] at hy
      obtain ⟨q, hq, rfl⟩ := Option.map_eq_some_iff.1 hy
      exact hh q.c ⟨e, i, q, by rw [e1]; rfl, he, hq, ho, rfl⟩
    clear hh hin
    go_enter Tryz.func18, Tryz.ntmps18
    go_wp2_with fail
    refine (has_is h0 (e : Int) true (by simp [he])).mono ?_; rintro e' w' ⟨rfl, rfl⟩
    go_wp2_with fail
    refine (TabC.get_no (h0.tab e he) hno).mono ?_; rintro e' W ⟨rfl, hk⟩
    have hz := b0.nob hk
    have kk := k0.nobt hk
    have hlt := hz.lt
    have z0 : W.cell? ⟨w.heap.size, 0, none⟩ = some (.int .i64 0) := hz.cell 0
    have z1 : W.cell? ⟨w.heap.size, 1, none⟩ = some (.int .i64 0) := hz.cell 1
    have z2 : W.cell? ⟨w.heap.size, 2, none⟩ = some (.int .i64 0) := hz.cell 2
    have z3 : W.cell? ⟨w.heap.size, 3, none⟩ = some (.int .i64 0) := hz.cell 3
    have z4 : W.cell? ⟨w.heap.size, 4, none⟩ = some (.int .i64 0) := hz.cell 4
    have z5 : W.cell? ⟨w.heap.size, 5, none⟩ = some (.int .i64 0) := hz.cell 5
    have f0 := hz.frozen 0
    have f1 := hz.frozen 1
    have f2 := hz.frozen 2
    have f3 := hz.frozen 3
    have f4 := hz.frozen 4
    have f5 := hz.frozen 5
    clear hz b0 k0 hk h0 hc hp
    go_wp2
    (try simp only [Exit.inBlock, Exit.then])
    (refine bodyPost_ret (v := .tuple #[.agg #[.int .i64 0, .int .i64 0, .int .i64 0, .int .i64 0, .int .i64 0, .int .i64 0], .int .i64 2]) ?_ rfl ?_)
    · rw [results_cell_tmp rfl]
      go_simp
    exact ⟨rfl, ((((((kk.setCell _ _ (fun h => absurd h (Nat.lt_irrefl _))).setCell _ _ (fun h => absurd h (Nat.lt_irrefl _))).setCell _ _ (fun h => absurd h (Nat.lt_irrefl _))).setCell _ _ (fun h => absurd h (Nat.lt_irrefl _))).setCell _ _ (fun h => absurd h (Nat.lt_irrefl _))).setCell _ _ (fun h => absurd h (Nat.lt_irrefl _))).alloc _⟩
  · clear hh
    go_enter Tryz.func18, Tryz.ntmps18
    go_wp2_with fail
    refine (has_is h0 a false (by
      by_cases h1 : 0 ≤ a
      · have : ¬ a < n := fun h2 => hin ⟨h1, h2⟩
        simp [this]
      · simp [h1])).mono ?_; rintro e' W ⟨rfl, hWe⟩
    have hz := hWe ▸ b0
    have kk := hWe ▸ k0
    clear hin
    have z0 : W.cell? ⟨w.heap.size, 0, none⟩ = some (.int .i64 0) := hz.cell 0
    have z1 : W.cell? ⟨w.heap.size, 1, none⟩ = some (.int .i64 0) := hz.cell 1
    have z2 : W.cell? ⟨w.heap.size, 2, none⟩ = some (.int .i64 0) := hz.cell 2
    have z3 : W.cell? ⟨w.heap.size, 3, none⟩ = some (.int .i64 0) := hz.cell 3
    have z4 : W.cell? ⟨w.heap.size, 4, none⟩ = some (.int .i64 0) := hz.cell 4
    have z5 : W.cell? ⟨w.heap.size, 5, none⟩ = some (.int .i64 0) := hz.cell 5
    have f0 := hz.frozen 0
    have f1 := hz.frozen 1
    have f2 := hz.frozen 2
    have f3 := hz.frozen 3
    have f4 := hz.frozen 4
    have f5 := hz.frozen 5
    clear hz b0 k0 h0 hc hWe
    go_wp2
    (try simp only [Exit.inBlock, Exit.then])
    (refine bodyPost_ret (v := .tuple #[.agg #[.int .i64 0, .int .i64 0, .int .i64 0, .int .i64 0, .int .i64 0, .int .i64 0], .int .i64 2]) ?_ rfl ?_)
    · rw [results_cell_tmp rfl]
      go_simp
    exact ⟨rfl, ((((((kk.setCell _ _ (fun h => absurd h (Nat.lt_irrefl _))).setCell _ _ (fun h => absurd h (Nat.lt_irrefl _))).setCell _ _ (fun h => absurd h (Nat.lt_irrefl _))).setCell _ _ (fun h => absurd h (Nat.lt_irrefl _))).setCell _ _ (fun h => absurd h (Nat.lt_irrefl _))).setCell _ _ (fun h => absurd h (Nat.lt_irrefl _)))⟩
set_option maxHeartbeats 2000000 in
theorem snames_is {w : World} {s B n e : Nat} {p r : Nat → Nat} {T : St} (h : IsSp w s B n p r T) (he : e < n) :
    Calls Tryz.prog 17 #[.pointer (some ⟨s, 0, none⟩), .int .i64 e] w fun e' w' => ∃ A cap, e' = .returned (.slice A (names ((T e).map Q.pl) (T e).length).length cap) ∧ Vec w' 3 1 A (names ((T e).map Q.pl) (T e).length).length cap (ints (names ((T e).map Q.pl) (T e).length)) ∧ Keep Nob w w' := by
  have hc := h.head
  have hp := h.ptr he
  have hn := TabC.names_is (h.tab e he)
  rw [List.length_map] at hn
  generalize names ((T e).map Q.pl) (T e).length = l at hn ⊢
  go_enter Tryz.func17, Tryz.ntmps17
  go_wp2_with fail
  refine (has_is h (e : Int) true (by simp [he])).mono ?_; rintro e' w' ⟨rfl, rfl⟩
  go_wp2_with fail
  refine hn.mono ?_; rintro e' W ⟨A, cap, rfl, hv, hk⟩
  go_wp2
  go_ret
  exact ⟨A, cap, rfl, hv, hk⟩
theorem snames_no {w : World} {s B n : Nat} {p r : Nat → Nat} {T : St} (a : Int) (h : IsSp w s B n p r T) (ha : a < 0 ∨ n ≤ a) :
    Calls Tryz.prog 17 #[.pointer (some ⟨s, 0, none⟩), .int .i64 a] w fun e' w' => e' = .returned (.slice none 0 0) ∧ w = w' := by
  go_enter Tryz.func17, Tryz.ntmps17
  go_wp2_with fail
  refine (has_is h a false (by rcases ha with h1 | h1 <;> simp <;> omega)).mono ?_; rintro e' w' ⟨rfl, rfl⟩
  go_wp2
  go_ret
  exact ⟨rfl, rfl⟩
end Go.Proofs.YtompckcnpidbdaaGreat
