import Derived.StillTailTactics
import Derived.Deep.RegionHeld3
import Derived.Test.YtgcikpgcoemfnaaGreatPs11
set_option maxRecDepth 100000
set_option maxHeartbeats 8000000
set_option linter.unusedVariables false
set_option linter.unusedSimpArgs false
namespace Go.Proofs.YtgcikpgcoemfnaaGreat
open Go.RowKit
abbrev Tab := TabC.Tab
def dG (c : Cp) : Value := .agg #[.int .i64 c.obj, .int .i64 c.rights, .int .i64 c.lo, .int .i64 c.n, .int .i64 c.root.1, .int .i64 c.root.2]
structure dg (w : World) (s B n : Nat) (p r : Nat → Nat) (T : St) : Prop where
 obj : Blk w s 272 [.slice (some ⟨B, 0, none⟩) n n]
 row : Blk w B 269 (mk n fun i => .pointer (some ⟨p i, 0, none⟩))
 tab : ∀ i, i < n → Tab w (p i) (r i) ((T i).map Q.pl)
 pinj : ∀ i j, i < n → j < n → p i = p j → i = j
 rinj : ∀ i j, i < n → j < n → r i = r j → i = j
def up (T : St) (e i : Nat) (q : Q) : St := fun j => if j = e then (T e).set i q else T j
def gZ (n : Nat) (r : Nat → Nat) : Nat → Prop := fun b => ∃ i, i < n ∧ b = r i
section
variable {w w' : World} {s B n : Nat} {p r : Nat → Nat} {T : St}
theorem dg.head (h : dg w s B n p r T) : w.cell? ⟨s, 0, none⟩ = some (.slice (some ⟨B, 0, none⟩) n n) := h.obj.cell 0
theorem dg.ptr (h : dg w s B n p r T) {e : Nat} (he : e < n) : w.cell? ⟨B, e, none⟩ = some (.pointer (some ⟨p e, 0, none⟩)) := by
 rw [h.row.cell, dn he]
theorem dg.keep {M : Nat → Prop} (h : dg w s B n p r T) (k : Keep M w w') (h1 : ¬ M s) (h2 : ¬ M B) (h3 : ∀ i, i < n → ¬ M (p i) ∧ ¬ M (r i)) : dg w' s B n p r T :=
 ⟨h.obj.keep k h1, h.row.keep k h2, fun i hi => (h.tab i hi).keep k (h3 i hi).1 (h3 i hi).2, h.pinj, h.rinj⟩
theorem dg.nob (h : dg w s B n p r T) (k : Keep Nob w w') : dg w' s B n p r T := h.keep k (fun f => f) (fun f => f) (fun _ _ => ⟨fun f => f, fun f => f⟩)
theorem dg.put (h : dg w s B n p r T) {e i : Nat} {q : Q} (he : e < n) (k : Keep (· = r e) w w') (ht : Tab w' (p e) (r e) (((T e).map Q.pl).set i q.pl)) : dg w' s B n p r (up T e i q) := by
 have hr := (h.tab e he).row
 refine ⟨h.obj.keep k (h.obj.ne_ hr (by decide)), h.row.keep k (h.row.ne_ hr (by decide)), fun j hj => ?_, h.pinj, h.rinj⟩
 unfold up
 by_cases hje : j = e
 ·subst hje
  rw [if_pos rfl, List.map_set]
  exact ht
 ·rw [if_neg hje]
  exact (h.tab j hj).keep k ((h.tab j hj).obj.ne_ hr (by decide)) (fun e1 => hje (h.rinj j e hj he e1))
theorem dg.cells {e i : Nat} {q : Q} (_ : dg w s B n p r T) (hq : (T e)[i]? = some q) : ((T e).map Q.pl)[i]? = some q.pl := by rw [List.getElem?_map, hq]; rfl
end
theorem dW {w : World} {s B n : Nat} {p r : Nat → Nat} {T : St} (h : dg w s B n p r T) (env : Int) (b : Bool) (hb : b = (decide (0 ≤ env) && decide (env < n))) :
  Calls Tryz.prog 175 #[.pointer (some ⟨s, 0, none⟩), .int .i64 env] w fun e w' => e = .returned (.bool b) ∧ w = w' := by
 have hc := h.head
 by_cases h0 : 0 ≤ env
 ·obtain rfl : b = decide (env < n) := by rw [hb]; simp [h0]
  clear hb
  go_enter Tryz.func175, Tryz.ntmps175
  go_wp2
  go_ret
  exact ⟨rfl, rfl⟩
 ·obtain rfl : b = false := by rw [hb]; simp [h0]
  clear hb
  go_enter Tryz.func175, Tryz.ntmps175
  go_wp2
  go_ret
  exact ⟨rfl, rfl⟩
def sub (a b : Int) : Bool := bits .andNot .i64 a b == 0
theorem rights_is (a b : Int) (w : World) (v : Bool) (hv : sub b a = v) : Calls Tryz.prog 174 #[.int .i64 a, .int .i64 b] w fun e w' => e = .returned (.bool v) ∧ w = w' := by
 unfold sub at hv
 go_enter Tryz.func174, Tryz.ntmps174
 go_wp2
 go_ret
 exact ⟨rfl, rfl⟩
theorem bounds_is (a : Int) (w : World) (v : Bool) (hv : (decide (0 ≤ a) && decide (a ≤ 65536)) = v) : Calls Tryz.prog 322 #[.int .i64 a] w fun e w' => e = .returned (.bool v) ∧ w = w' := by
 by_cases h0 : 0 ≤ a
 ·obtain rfl : v = decide (a ≤ 65536) := by rw [← hv]; simp [h0]
  clear hv
  go_enter Tryz.func322, Tryz.ntmps322
  go_wp2
  go_ret
  exact ⟨rfl, rfl⟩
 ·obtain rfl : v = false := by rw [← hv]; simp [h0]
  clear hv
  go_enter Tryz.func322, Tryz.ntmps322
  go_wp2
  go_ret
  exact ⟨rfl, rfl⟩
def AddS (s B n e g : Nat) (pe : Nat) (c : Cp) (w' : World) : Prop :=
 w'.cell? ⟨s, 0, none⟩ = some (.slice (some ⟨B, 0, none⟩) n n) ∧ w'.cell? ⟨B, e, none⟩ = some (.pointer (some ⟨pe, 0, none⟩)) ∧
 w'.cell? ⟨g, 0, none⟩ = some (.int .i64 c.obj) ∧ w'.cell? ⟨g, 1, none⟩ = some (.int .i64 c.rights) ∧ w'.cell? ⟨g, 2, none⟩ = some (.int .i64 c.lo) ∧ w'.cell? ⟨g, 3, none⟩ = some (.int .i64 c.n) ∧ w'.cell? ⟨g, 4, none⟩ = some (.int .i64 c.root.1) ∧ w'.cell? ⟨g, 5, none⟩ = some (.int .i64 c.root.2)
theorem add_is {w : World} {s B n e : Nat} {p r : Nat → Nat} {T : St} (h : dg w s B n p r T) (he : e < n) (c : Cp) (x : Int) (v : Bool) (R : World → Prop)
  (hcall : ∀ W, Keep Nob w W → Calls Tryz.prog 271 #[.pointer (some ⟨p e, 0, none⟩), dG c] W fun e' w' => e' = .returned (.tuple #[.int .i64 x, .bool v]) ∧ R w' ∧ Keep (· = r e) W w') :
  Calls Tryz.prog 177 #[.pointer (some ⟨s, 0, none⟩), .int .i64 e, dG c] w fun e' w' => e' = .returned (.tuple #[.int .i64 (if v then x else 0), .int .i64 (if v then 0 else 4)]) ∧ (∃ w1, R w1 ∧ Keep Nob w1 w') ∧ Keep (· = r e) w w' := by
 have hrow := (h.tab e he).row
 have hlt := hrow.lt
 have n1 := h.obj.ne_ hrow (by decide)
 have n2 := h.row.ne_ hrow (by decide)
 unfold dG at hcall ⊢
 go_enter Tryz.func177, Tryz.ntmps177
 go_wp2_with (refine af rfl 255 _ rfl _ rfl ?_; intro w1 hb1 hk1 hs1)
 have h1 := h.nob hk1
 have sf : ∀ W, Keep (· = r e) w1 W → AddS s B n e w.heap.size (p e) c W := by
  intro W k
  have b := hb1.keep k (by omega)
  exact ⟨(h1.obj.keep k n1).cell 0, by rw [(h1.row.keep k n2).cell, dn he], b.cell 0, b.cell 1, b.cell 2, b.cell 3, b.cell 4, b.cell 5⟩
 have hh := h1.head
 have hp := h1.ptr he
 have kd : Keep (· = r e) w1 w1.drew := (Keep.refl _ _).drew
 have hcl := hcall w1.drew hk1.drew
 unfold AddS at sf
 clear hcall h1 hb1 hs1
 go_region_held3 (fun w' => w'.cell? ⟨s, 0, none⟩ = some (.slice (some ⟨B, 0, none⟩) n n) ∧ w'.cell? ⟨B, e, none⟩ = some (.pointer (some ⟨p e, 0, none⟩)) ∧ w'.cell? ⟨w.heap.size, 0, none⟩ = some (.int .i64 c.obj) ∧ w'.cell? ⟨w.heap.size, 1, none⟩ = some (.int .i64 c.rights) ∧ w'.cell? ⟨w.heap.size, 2, none⟩ = some (.int .i64 c.lo) ∧ w'.cell? ⟨w.heap.size, 3, none⟩ = some (.int .i64 c.n) ∧ w'.cell? ⟨w.heap.size, 4, none⟩ = some (.int .i64 c.root.1) ∧ w'.cell? ⟨w.heap.size, 5, none⟩ = some (.int .i64 c.root.2))
  (first | exact sf _ kd | exact sf _ k1)
  (first | (go_at_call 271; refine hcl.mono ?_; rintro e w' ⟨rfl, hR, hk⟩; have k1 := kd.trans hk (fun _ _ e => e)))
 cases v
 all_goals
  go_wp2
  go_ret2
  exact ⟨rfl, ⟨_, hR, Keep.refl _ _⟩, (hk1.mono (fun _ _ f => f.elim)).trans k1 (fun _ _ e => e)⟩
theorem up_has {T : St} {n e i : Nat} {q : Q} {c : Cp} (hl : ∀ e, e < n → (T e).length ≤ 256) (he : e < n) (hq : (T e)[i]? = some q) (ho : q.on = false) (ρ : Rf) (d : Cp) :
  Has (up T e i ⟨q.gen, true, c⟩) n ρ d ↔ Has T n ρ d ∨ (ρ = ((e : Int), (i : Int) + 256 * (q.gen : Int)) ∧ d = c) := by
 have hi := aP hq
 constructor
 ·rintro ⟨e', i', q', h1, h2, h3, h4, h5⟩
  unfold up at h3
  by_cases hee : e' = e
  ·subst hee
   rw [if_pos rfl] at h3
   by_cases hii : i = i'
   ·subst hii
    rw [List.getElem?_set_self hi] at h3
    cases h3
    exact .inr ⟨h1, h5.symm⟩
   ·rw [List.getElem?_set_ne hii] at h3
    exact .inl ⟨e', i', q', h1, h2, h3, h4, h5⟩
  ·rw [if_neg hee] at h3
   exact .inl ⟨e', i', q', h1, h2, h3, h4, h5⟩
 ·rintro (⟨e', i', q', h1, h2, h3, h4, h5⟩ | ⟨h1, h2⟩)
  ·refine ⟨e', i', q', h1, h2, ?_, h4, h5⟩
   unfold up
   by_cases hee : e' = e
   ·subst hee
    rw [if_pos rfl]
    by_cases hii : i = i'
    ·subst hii
     rw [hq] at h3
     cases h3
     rw [ho] at h4
     cases h4
    ·rw [List.getElem?_set_ne hii]
     exact h3
   ·rw [if_neg hee]
    exact h3
  ·refine ⟨e, i, ⟨q.gen, true, c⟩, h1, he, ?_, rfl, h2.symm⟩
   unfold up
   rw [if_pos rfl, List.getElem?_set_self hi]
theorem new_ref {T : St} {n e i : Nat} {q : Q} (hl : ∀ e, e < n → (T e).length ≤ 256) (he : e < n) (hq : (T e)[i]? = some q) (ho : q.on = false) (d : Cp) : ¬ Has T n ((e : Int), (i : Int) + 256 * (q.gen : Int)) d := by
 rintro ⟨e', i', q', h1, h2, h3, h4, h5⟩
 have a := congrArg Prod.fst h1
 have b := congrArg Prod.snd h1
 simp only at a b
 obtain rfl : e = e' := by omega
 have := hl e he
 have hi := aP hq
 have hi' := aP h3
 obtain rfl : i = i' := by omega
 rw [hq] at h3
 cases h3
 rw [ho] at h4
 cases h4
inductive iE (T : St) (n e : Nat) (c : Cp) : Int → Int → St → Prop
 | full : (∀ (j : Nat) (q : Q), (T e)[j]? = some q → q.pl.free = false) → iE T n e c 0 4 T
 | put (i : Nat) (q : Q) : (T e)[i]? = some q → q.pl.free = true → (∀ (j : Nat) (y : Q), j < i → (T e)[j]? = some y → y.pl.free = false) → iE T n e c ((i : Int) + 256 * (q.gen : Int)) 0 (up T e i ⟨q.gen, true, c⟩)
theorem sadd_is {w : World} {s B n e : Nat} {p r : Nat → Nat} {T : St} (h : dg w s B n p r T) (he : e < n) (c : Cp) :
  Calls Tryz.prog 177 #[.pointer (some ⟨s, 0, none⟩), .int .i64 e, dG c] w fun e' w' => ∃ nm er T', e' = .returned (.tuple #[.int .i64 nm, .int .i64 er]) ∧ iE T n e c nm er T' ∧ dg w' s B n p r T' ∧ Keep (· = r e) w w' := by
 rcases kX ((T e).map Q.pl) with ⟨i, y, hy, hf, hb⟩ | hb
 ·obtain ⟨q, hq, rfl⟩ : ∃ q, (T e)[i]? = some q ∧ q.pl = y := by
   rw [List.getElem?_map] at hy
   exact Option.map_eq_some_iff.1 hy
  refine (add_is h he c ((i : Int) + 256 * (q.gen : Int)) true (fun w' => dg w' s B n p r (up T e i ⟨q.gen, true, c⟩)) ?_).mono ?_
  ·intro W hk
   have hW := h.nob hk
   refine (TabC.add_yes c.obj c.rights c.lo c.n c.root.1 c.root.2 (hW.tab e he) hy hf hb).mono ?_
   rintro e' w' ⟨rfl, ht, k⟩
   exact ⟨rfl, hW.put he k ht, k⟩
  ·rintro e' w' ⟨rfl, ⟨w1, h1, k1⟩, k⟩
   exact ⟨_, _, _, rfl, .put i q hq hf (fun j y hj hy => hb j y.pl hj (by rw [List.getElem?_map, hy]; rfl)), h1.nob k1, k⟩
 ·refine (add_is h he c 0 false (fun w' => dg w' s B n p r T) ?_).mono ?_
  ·intro W hk
   have hW := h.nob hk
   refine (TabC.add_no c.obj c.rights c.lo c.n c.root.1 c.root.2 (hW.tab e he) hb).mono ?_
   rintro e' w' ⟨rfl, k⟩
   exact ⟨rfl, hW.nob k, k.mono (fun _ _ f => f.elim)⟩
  ·rintro e' w' ⟨rfl, ⟨w1, h1, k1⟩, k⟩
   exact ⟨_, _, _, rfl, .full (fun j y hy => hb j y.pl (by rw [List.getElem?_map, hy]; rfl)), h1.nob k1, k⟩
theorem lm {w : World} {s B n : Nat} {p r : Nat → Nat} {T : St} {a b : Int} (h : dg w s B n p r T) (c : Cp) (hh : Has T n (a, b) c) :
  Calls Tryz.prog 173 #[.pointer (some ⟨s, 0, none⟩), .int .i64 a, .int .i64 b] w fun e' w' => e' = .returned (.tuple #[dG c, .int .i64 0]) ∧ Keep Nob w w' := by
 obtain ⟨e, i, q, h1, he, hq, ho, rfl⟩ := hh
 have ha : a = e := congrArg Prod.fst h1
 have hb := aa (show b = (i : Int) + 256 * (q.gen : Int) from congrArg Prod.snd h1)
 clear h1
 subst ha
 unfold dG
 have k0 := (Keep.refl Nob w).alloc (.cells #[.int .i64 0, .int .i64 0, .int .i64 0, .int .i64 0, .int .i64 0, .int .i64 0] 255)
 have b0 : Blk (w.alloc (.cells #[.int .i64 0, .int .i64 0, .int .i64 0, .int .i64 0, .int .i64 0, .int .i64 0] 255)) w.heap.size 255 [.int .i64 0, .int .i64 0, .int .i64 0, .int .i64 0, .int .i64 0, .int .i64 0] := Blk.new w 255 [.int .i64 0, .int .i64 0, .int .i64 0, .int .i64 0, .int .i64 0, .int .i64 0]
 have h0 := h.nob k0
 have hc := h0.head
 have hp := h0.ptr he
 go_enter Tryz.func173, Tryz.ntmps173
 go_wp2_with fail
 refine (dW h0 (e : Int) true (by simp [he])).mono ?_; rintro e' w' ⟨rfl, rfl⟩
 go_wp2_with fail
 refine (TabC.get_yes q.c.obj q.c.rights q.c.lo q.c.n q.c.root.1 q.c.root.2 (h0.tab e he) (h0.cells hq) ho hb.out rfl).mono ?_; rintro e' W ⟨rfl, hk⟩
 have hz := b0.nob hk
 have kk := k0.nobt hk
 have hlt := hz.lt
 have z0 : W.cell? ⟨w.heap.size, 0, none⟩ = some (.int .i64 0) := hz.cell 0
 have z1 : W.cell? ⟨w.heap.size, 1, none⟩ = some (.int .i64 0) := hz.cell 1
 have z2 : W.cell? ⟨w.heap.size, 2, none⟩ = some (.int .i64 0) := hz.cell 2
 have z3 : W.cell? ⟨w.heap.size, 3, none⟩ = some (.int .i64 0) := hz.cell 3
 have z4 : W.cell? ⟨w.heap.size, 4, none⟩ = some (.int .i64 0) := hz.cell 4
 have z5 : W.cell? ⟨w.heap.size, 5, none⟩ = some (.int .i64 0) := hz.cell 5
 have f0 := hz.frozen 0
 have f1 := hz.frozen 1
 have f2 := hz.frozen 2
 have f3 := hz.frozen 3
 have f4 := hz.frozen 4
 have f5 := hz.frozen 5
 clear hz b0 k0 hk h0 hc hp
 go_wp2
 (try simp only [Exit.inBlock, Exit.then])
 refine bodyPost_ret (v := .tuple #[.agg #[.int .i64 q.c.obj, .int .i64 q.c.rights, .int .i64 q.c.lo, .int .i64 q.c.n, .int .i64 q.c.root.1, .int .i64 q.c.root.2], .int .i64 0]) ?_ rfl ?_
 ·rw [results_cell_tmp rfl]
  go_simp
 exact ⟨rfl, ((((((kk.setCell _ _ (fun h => absurd h (Nat.lt_irrefl _))).setCell _ _ (fun h => absurd h (Nat.lt_irrefl _))).setCell _ _ (fun h => absurd h (Nat.lt_irrefl _))).setCell _ _ (fun h => absurd h (Nat.lt_irrefl _))).setCell _ _ (fun h => absurd h (Nat.lt_irrefl _))).setCell _ _ (fun h => absurd h (Nat.lt_irrefl _))).alloc _⟩
theorem sget_no {w : World} {s B n : Nat} {p r : Nat → Nat} {T : St} {a b : Int} (h : dg w s B n p r T) (hh : ∀ c, ¬ Has T n (a, b) c) :
  Calls Tryz.prog 173 #[.pointer (some ⟨s, 0, none⟩), .int .i64 a, .int .i64 b] w fun e' w' => e' = .returned (.tuple #[dG cX, .int .i64 2]) ∧ Keep Nob w w' := by
 show Calls Tryz.prog 173 #[.pointer (some ⟨s, 0, none⟩), .int .i64 a, .int .i64 b] w fun e' w' => e' = .returned (.tuple #[.agg #[.int .i64 0, .int .i64 0, .int .i64 0, .int .i64 0, .int .i64 0, .int .i64 0], .int .i64 2]) ∧ Keep Nob w w'
 have k0 := (Keep.refl Nob w).alloc (.cells #[.int .i64 0, .int .i64 0, .int .i64 0, .int .i64 0, .int .i64 0, .int .i64 0] 255)
 have b0 : Blk (w.alloc (.cells #[.int .i64 0, .int .i64 0, .int .i64 0, .int .i64 0, .int .i64 0, .int .i64 0] 255)) w.heap.size 255 [.int .i64 0, .int .i64 0, .int .i64 0, .int .i64 0, .int .i64 0, .int .i64 0] := Blk.new w 255 [.int .i64 0, .int .i64 0, .int .i64 0, .int .i64 0, .int .i64 0, .int .i64 0]
 have h0 := h.nob k0
 have hc := h0.head
 by_cases hin : 0 ≤ a ∧ a < n
 ·obtain ⟨e, rfl⟩ := Int.eq_ofNat_of_zero_le hin.1
  have he : e < n := by omega
  have hp := h0.ptr he
  have hno : ∀ (i : Nat) (q : Pl), ((T e).map Q.pl)[i]? = some q → q.on = true → b ≠ i + 256 * (q.gen : Int) := by
   intro i y hy ho e1
   rw [List.getElem?_map] at hy
   obtain ⟨q, hq, rfl⟩ := Option.map_eq_some_iff.1 hy
   exact hh q.c ⟨e, i, q, by rw [e1]; rfl, he, hq, ho, rfl⟩
  clear hh hin
  go_enter Tryz.func173, Tryz.ntmps173
  go_wp2_with fail
  refine (dW h0 (e : Int) true (by simp [he])).mono ?_; rintro e' w' ⟨rfl, rfl⟩
  go_wp2_with fail
  refine (TabC.get_no (h0.tab e he) hno).mono ?_; rintro e' W ⟨rfl, hk⟩
  have hz := b0.nob hk
  have kk := k0.nobt hk
  have hlt := hz.lt
  have z0 : W.cell? ⟨w.heap.size, 0, none⟩ = some (.int .i64 0) := hz.cell 0
  have z1 : W.cell? ⟨w.heap.size, 1, none⟩ = some (.int .i64 0) := hz.cell 1
  have z2 : W.cell? ⟨w.heap.size, 2, none⟩ = some (.int .i64 0) := hz.cell 2
  have z3 : W.cell? ⟨w.heap.size, 3, none⟩ = some (.int .i64 0) := hz.cell 3
  have z4 : W.cell? ⟨w.heap.size, 4, none⟩ = some (.int .i64 0) := hz.cell 4
  have z5 : W.cell? ⟨w.heap.size, 5, none⟩ = some (.int .i64 0) := hz.cell 5
  have f0 := hz.frozen 0
  have f1 := hz.frozen 1
  have f2 := hz.frozen 2
  have f3 := hz.frozen 3
  have f4 := hz.frozen 4
  have f5 := hz.frozen 5
  clear hz b0 k0 hk h0 hc hp
  go_wp2
  (try simp only [Exit.inBlock, Exit.then])
  (refine bodyPost_ret (v := .tuple #[.agg #[.int .i64 0, .int .i64 0, .int .i64 0, .int .i64 0, .int .i64 0, .int .i64 0], .int .i64 2]) ?_ rfl ?_)
  ·rw [results_cell_tmp rfl]
   go_simp
  exact ⟨rfl, ((((((kk.setCell _ _ (fun h => absurd h (Nat.lt_irrefl _))).setCell _ _ (fun h => absurd h (Nat.lt_irrefl _))).setCell _ _ (fun h => absurd h (Nat.lt_irrefl _))).setCell _ _ (fun h => absurd h (Nat.lt_irrefl _))).setCell _ _ (fun h => absurd h (Nat.lt_irrefl _))).setCell _ _ (fun h => absurd h (Nat.lt_irrefl _))).alloc _⟩
 ·clear hh
  go_enter Tryz.func173, Tryz.ntmps173
  go_wp2_with fail
  refine (dW h0 a false (by
   by_cases h1 : 0 ≤ a
   ·have : ¬ a < n := fun h2 => hin ⟨h1, h2⟩
    simp [this]
   ·simp [h1])).mono ?_; rintro e' W ⟨rfl, hWe⟩
  have hz := hWe ▸ b0
  have kk := hWe ▸ k0
  clear hin
  have z0 : W.cell? ⟨w.heap.size, 0, none⟩ = some (.int .i64 0) := hz.cell 0
  have z1 : W.cell? ⟨w.heap.size, 1, none⟩ = some (.int .i64 0) := hz.cell 1
  have z2 : W.cell? ⟨w.heap.size, 2, none⟩ = some (.int .i64 0) := hz.cell 2
  have z3 : W.cell? ⟨w.heap.size, 3, none⟩ = some (.int .i64 0) := hz.cell 3
  have z4 : W.cell? ⟨w.heap.size, 4, none⟩ = some (.int .i64 0) := hz.cell 4
  have z5 : W.cell? ⟨w.heap.size, 5, none⟩ = some (.int .i64 0) := hz.cell 5
  have f0 := hz.frozen 0
  have f1 := hz.frozen 1
  have f2 := hz.frozen 2
  have f3 := hz.frozen 3
  have f4 := hz.frozen 4
  have f5 := hz.frozen 5
  clear hz b0 k0 h0 hc hWe
  go_wp2
  (try simp only [Exit.inBlock, Exit.then])
  (refine bodyPost_ret (v := .tuple #[.agg #[.int .i64 0, .int .i64 0, .int .i64 0, .int .i64 0, .int .i64 0, .int .i64 0], .int .i64 2]) ?_ rfl ?_)
  ·rw [results_cell_tmp rfl]
   go_simp
  exact ⟨rfl, ((((((kk.setCell _ _ (fun h => absurd h (Nat.lt_irrefl _))).setCell _ _ (fun h => absurd h (Nat.lt_irrefl _))).setCell _ _ (fun h => absurd h (Nat.lt_irrefl _))).setCell _ _ (fun h => absurd h (Nat.lt_irrefl _))).setCell _ _ (fun h => absurd h (Nat.lt_irrefl _))).setCell _ _ (fun h => absurd h (Nat.lt_irrefl _)))⟩
end Go.Proofs.YtgcikpgcoemfnaaGreat
namespace Go.Proofs.YtgcikpgcoemfnaaGreat
open Go.RowKit
theorem eM (lo n all : Int) (w : World) (v : Bool) (h1 : 0 ≤ all) (h2 : all ≤ 131072) (hv : (decide (0 ≤ lo) && (decide (0 ≤ n) && (decide (n ≤ all) && decide (lo ≤ all - n)))) = v) :
  Calls Tryz.prog 269 #[.int .i64 lo, .int .i64 n, .int .i64 all] w fun e w' => e = .returned (.bool v) ∧ w = w' := by
 by_cases a1 : 0 ≤ lo
 ·by_cases a2 : 0 ≤ n
  ·by_cases a3 : n ≤ all
   ·obtain rfl : v = decide (lo ≤ all - n) := by rw [← hv]; simp [a1, a2, a3]
    clear hv
    go_enter Tryz.func269, Tryz.ntmps269
    go_wp2
    go_ret
    exact ⟨rfl, rfl⟩
   ·obtain rfl : v = false := by rw [← hv]; simp [a3]
    clear hv
    go_enter Tryz.func269, Tryz.ntmps269
    go_wp2
    go_ret
    exact ⟨rfl, rfl⟩
  ·obtain rfl : v = false := by rw [← hv]; simp [a2]
   clear hv
   go_enter Tryz.func269, Tryz.ntmps269
   go_wp2
   go_ret
   exact ⟨rfl, rfl⟩
 ·obtain rfl : v = false := by rw [← hv]; simp [a1]
  clear hv
  go_enter Tryz.func269, Tryz.ntmps269
  go_wp2
  go_ret
  exact ⟨rfl, rfl⟩
structure Reg (w : World) (q m mr s B n : Nat) (p r : Nat → Nat) (A : Option Addr) (cap : Nat) (xs : List UInt8) (T : St) (L : List Rf) : Prop where
 mem : eS w m mr xs
 sp : dg w s B n p r T
 inv : Inv T n
 obj : Blk w q 125 [.pointer (some ⟨m, 0, none⟩), .pointer (some ⟨s, 0, none⟩), .slice A L.length cap]
 row : Vec w 121 2 A L.length cap (cU L)
 ok : ∀ x ∈ L, 0 ≤ x.1 ∧ 0 ≤ x.2 ∧ x.1 + x.2 ≤ xs.length
 le : L.length ≤ 32
section
variable {w w' : World} {q m mr s B n : Nat} {p r : Nat → Nat} {A : Option Addr} {cap : Nat} {xs : List UInt8} {T : St} {L : List Rf}
theorem Reg.keep {M : Nat → Prop} (h : Reg w q m mr s B n p r A cap xs T L) (k : Keep M w w') (h1 : ¬ M q) (h2 : ¬ M m) (h3 : ¬ M mr) (h4 : ¬ M s) (h5 : ¬ M B) (h6 : ∀ i, i < n → ¬ M (p i) ∧ ¬ M (r i)) (h7 : ∀ g, Own A g → ¬ M g) : Reg w' q m mr s B n p r A cap xs T L :=
 ⟨h.mem.keep k h2 h3, h.sp.keep k h4 h5 h6, h.inv, h.obj.keep k h1, h.row.keep k h7, h.ok, h.le⟩
theorem Reg.nob (h : Reg w q m mr s B n p r A cap xs T L) (k : Keep Nob w w') : Reg w' q m mr s B n p r A cap xs T L :=
 h.keep k (fun f => f) (fun f => f) (fun f => f) (fun f => f) (fun f => f) (fun _ _ => ⟨fun f => f, fun f => f⟩) (fun _ _ f => f)
theorem Reg.bytes_ (h : Reg w q m mr s B n p r A cap xs T L) {ys : List UInt8} (hm : eS w' m mr ys) (k : Keep (· = mr) w w') (hl : ys.length = xs.length) : Reg w' q m mr s B n p r A cap ys T L := by
 refine ⟨hm, h.sp.keep k (h.sp.obj.ne_ h.mem.row (by decide)) (h.sp.row.ne_ h.mem.row (by decide)) (fun i hi => ⟨(h.sp.tab i hi).obj.ne_ h.mem.row (by decide), (h.sp.tab i hi).row.ne_ h.mem.row (by decide)⟩), h.inv, h.obj.keep k (h.obj.ne_ h.mem.row (by decide)),
  h.row.keep k (fun g hg => by obtain ⟨cur, hc⟩ := h.row.blk hg; exact hc.ne_ h.mem.row (by decide)), by rw [hl]; exact h.ok, h.le⟩
theorem Reg.space (h : Reg w q m mr s B n p r A cap xs T L) {T' : St} (hs : dg w' s B n p r T') (I : Inv T' n) (k : Keep (gZ n r) w w') : Reg w' q m mr s B n p r A cap xs T' L := by
 have off : ∀ {g : Nat} {t : TypeId} {cs : List Value}, Blk w g t cs → t ≠ 372 → Blk w' g t cs := fun hb ht => hb.keep k (fun ⟨i, hi, e⟩ => hb.ne_ (h.sp.tab i hi).row ht e)
 exact ⟨⟨off h.mem.obj (by decide), off h.mem.row (by decide), h.mem.len⟩, hs, I, off h.obj (by decide), h.row.keep k (fun g ho ⟨i, hi, e1⟩ => by obtain ⟨cur, hc⟩ := h.row.blk ho; exact hc.ne_ (h.sp.tab i hi).row (by decide) e1), h.ok, h.le⟩
theorem jZ (h : Reg w q m mr s B n p r A cap xs T L) (k : Int) (b : Bool) (hb : b = (decide (0 ≤ k) && decide (k < L.length))) :
  Calls Tryz.prog 64 #[.pointer (some ⟨q, 0, none⟩), .int .i64 k] w fun e w' => e = .returned (.bool b) ∧ w = w' := by
 have hc : w.cell? ⟨q, 2, none⟩ = some (.slice A L.length cap) := h.obj.cell 2
 by_cases h0 : 0 ≤ k
 ·obtain rfl : b = decide (k < L.length) := by rw [hb]; simp [h0]
  clear hb
  go_enter Tryz.func64, Tryz.ntmps64
  go_wp2
  go_ret
  exact ⟨rfl, rfl⟩
 ·obtain rfl : b = false := by rw [hb]; simp [h0]
  clear hb
  go_enter Tryz.func64, Tryz.ntmps64
  go_wp2
  go_ret
  exact ⟨rfl, rfl⟩
end
def Fits (L : List Rf) (c : Cp) (at_ k : Int) (x : Rf) : Prop := 0 ≤ at_ ∧ 0 ≤ k ∧ at_ + k ≤ c.n ∧ 0 ≤ c.obj ∧ L[c.obj.toNat]? = some x ∧ c.lo + at_ + k ≤ x.2
inductive bo (T : St) (n : Nat) (L : List Rf) (env name right at_ k : Int) : Int → Int → Prop
 | nocap : (∀ c, ¬ Has T n (env, name) c) → bo T n L env name right at_ k 0 2
 | noright (c : Cp) : Has T n (env, name) c → (bits .and .i64 c.rights right == 0) = true → bo T n L env name right at_ k 0 3
 | noarg (c : Cp) : Has T n (env, name) c → (bits .and .i64 c.rights right == 0) = false → (∀ x, ¬ Fits L c at_ k x) → bo T n L env name right at_ k 0 1
 | yes (c : Cp) (x : Rf) (v : Int) : Has T n (env, name) c → (bits .and .i64 c.rights right == 0) = false → Fits L c at_ k x → v = x.1 + c.lo + at_ → bo T n L env name right at_ k v 0
section
variable {w w' : World} {q m mr s B n : Nat} {p r : Nat → Nat} {A : Option Addr} {cap : Nat} {xs : List UInt8} {T : St} {L : List Rf}
theorem bo.range (h : Reg w q m mr s B n p r A cap xs T L) {env name right at_ k v : Int} (hv : bo T n L env name right at_ k v 0) : 0 ≤ v ∧ 0 ≤ k ∧ v + k ≤ xs.length := by
 generalize he : (0 : Int) = er at hv
 cases hv with
 | nocap _ => cases he
 | noright _ _ _ => cases he
 | noarg _ _ _ _ => cases he
 | yes c x _ h1 _ h3 h4 =>
  obtain ⟨a1, a2, a3, a4, a5, a6⟩ := h3
  have hx := h.ok x (List.mem_of_getElem? a5)
  have hc := h.inv.cap _ _ h1
  omega
theorem cM (h : Reg w q m mr s B n p r A cap xs T L) {env name right at_ k v er : Int} (hv : bo T n L env name right at_ k v er) :
  Calls Tryz.prog 171 #[.pointer (some ⟨q, 0, none⟩), .int .i64 env, .int .i64 name, .int .i64 right, .int .i64 at_, .int .i64 k] w fun e w' => e = .returned (.tuple #[.int .i64 v, .int .i64 er]) ∧ Keep Nob w w' := by
 have ho : w.cell? ⟨q, 1, none⟩ = some (.pointer (some ⟨s, 0, none⟩)) := h.obj.cell 1
 cases hv with
 | nocap hn =>
  go_enter Tryz.func171, Tryz.ntmps171
  go_wp2_with fail
  refine (sget_no h.sp hn).mono ?_; rintro e w1 ⟨rfl, k1⟩
  unfold dG cX
  go_wp2
  go_ret2
  exact ⟨rfl, k1.alloc _⟩
 | noright c hc hb =>
  go_enter Tryz.func171, Tryz.ntmps171
  go_wp2_with fail
  refine (lm h.sp c hc).mono ?_; rintro e w1 ⟨rfl, k1⟩
  unfold dG
  go_wp2
  go_ret2
  exact ⟨rfl, k1.alloc _⟩
 | noarg c hc hb hno =>
  have hcc := h.inv.cap _ _ hc
  go_enter Tryz.func171, Tryz.ntmps171
  go_wp2_with fail
  refine (lm h.sp c hc).mono ?_; rintro e w1 ⟨rfl, k1⟩
  unfold dG
  have kA := k1.alloc (.cells #[.int .i64 c.obj, .int .i64 c.rights, .int .i64 c.lo, .int .i64 c.n, .int .i64 c.root.1, .int .i64 c.root.2] 255)
  have hA := h.nob kA
  by_cases hpart : 0 ≤ at_ ∧ 0 ≤ k ∧ k ≤ c.n ∧ at_ ≤ c.n - k
  ·by_cases hobj : 0 ≤ c.obj ∧ c.obj < L.length
   ·obtain ⟨i, hi⟩ := Int.eq_ofNat_of_zero_le hobj.1
    have hil : i < L.length := by omega
    obtain ⟨x, hx⟩ : ∃ x, L[i]? = some x := ⟨_, List.getElem?_eq_getElem hil⟩
    have hok := h.ok x (List.mem_of_getElem? hx)
    have hml := h.mem.len
    obtain ⟨g, rfl, e0, e1⟩ := hA.row.rf hx
    have ho2 : (w1.alloc (.cells #[.int .i64 c.obj, .int .i64 c.rights, .int .i64 c.lo, .int .i64 c.n, .int .i64 c.root.1, .int .i64 c.root.2] 255)).cell? ⟨q, 2, none⟩ = some (.slice (some ⟨g, 0, none⟩) L.length cap) := hA.obj.cell 2
    have hZ := hA.nob ((Keep.refl Nob _).alloc (.cells #[.int .i64 0, .int .i64 0] 121))
    have ho3 : ((w1.alloc (.cells #[.int .i64 c.obj, .int .i64 c.rights, .int .i64 c.lo, .int .i64 c.n, .int .i64 c.root.1, .int .i64 c.root.2] 255)).alloc (.cells #[.int .i64 0, .int .i64 0] 121)).cell? ⟨q, 2, none⟩ = some (.slice (some ⟨g, 0, none⟩) L.length cap) := hZ.obj.cell 2
    obtain ⟨g', hg', e2, e3⟩ := hZ.row.rf hx
    cases hg'
    clear hZ
    have hlast : (decide (0 ≤ c.lo + at_) && (decide (0 ≤ k) && (decide (k ≤ x.2) && decide (c.lo + at_ ≤ x.2 - k)))) = false := by
     have := hno x
     unfold Fits at this
     rw [hi, Int.toNat_natCast] at this
     rw [Bool.eq_false_iff]
     intro hh
     simp at hh
     exact this ⟨hpart.1, hpart.2.1, by omega, by omega, hx, by omega⟩
    obtain ⟨q1, q2, q3, q4⟩ := hpart
    have hw : -9223372036854775808 ≤ c.lo + at_ ∧ c.lo + at_ ≤ 9223372036854775807 := by omega
    have HX := aa hok
    have HN := aa hno
    have HHas := aa hc
    clear hok hno hc hobj
    generalize c.lo = clo at *
    generalize c.n = cn at *
    generalize c.rights = cr at *
    generalize c.root.1 = c4 at *
    generalize c.root.2 = c5 at *
    generalize c.obj = co at *
    subst hi
    go_wp2_with fail
    refine (eM at_ k cn _ true hcc.2.2.2.1 (by omega) (by simp; omega)).mono ?_; rintro e w2 ⟨rfl, rfl⟩
    go_wp2_with fail
    refine (jZ hA i true (by simp; omega)).mono ?_; rintro e w2 ⟨rfl, rfl⟩
    go_wp2_with fail
    go_region
    go_wp2_with fail
    refine (eM (clo + at_) k x.2 _ false HX.out.2.1 (by have := HX.out; omega) hlast).mono ?_; rintro e w2 ⟨rfl, rfl⟩
    go_wp2
    go_ret2
    exact ⟨rfl, kA.drew.alloc _⟩
   ·have hobj' : (decide (0 ≤ c.obj) && decide (c.obj < L.length)) = false := by rw [Bool.eq_false_iff]; intro hh; simp at hh; exact hobj ⟨hh.1, by omega⟩
    go_wp2_with fail
    refine (eM at_ k c.n _ true hcc.2.2.2.1 (by omega) (by simp; omega)).mono ?_; rintro e w2 ⟨rfl, rfl⟩
    go_wp2_with fail
    refine (jZ hA c.obj false hobj'.symm).mono ?_; rintro e w2 ⟨rfl, rfl⟩
    go_wp2
    go_ret2
    exact ⟨rfl, kA⟩
  ·have hp : (decide (0 ≤ at_) && (decide (0 ≤ k) && (decide (k ≤ c.n) && decide (at_ ≤ c.n - k)))) = false := by rw [Bool.eq_false_iff]; intro hh; simp at hh; exact hpart ⟨hh.1, hh.2.1, hh.2.2.1, hh.2.2.2⟩
   go_wp2_with fail
   refine (eM at_ k c.n _ false hcc.2.2.2.1 (by omega) hp).mono ?_; rintro e w2 ⟨rfl, rfl⟩
   go_wp2
   go_ret2
   exact ⟨rfl, kA⟩
 | yes c x _ hc hb hf hve =>
  have hcc := h.inv.cap _ _ hc
  obtain ⟨q1, q2, q3, q4, q5, q6⟩ := hf
  obtain ⟨i, hi⟩ := Int.eq_ofNat_of_zero_le q4
  rw [hi, Int.toNat_natCast] at q5
  have hil := aP q5
  have hok := h.ok x (List.mem_of_getElem? q5)
  have hml := h.mem.len
  go_enter Tryz.func171, Tryz.ntmps171
  go_wp2_with fail
  refine (lm h.sp c hc).mono ?_; rintro e w1 ⟨rfl, k1⟩
  unfold dG
  have kA := k1.alloc (.cells #[.int .i64 c.obj, .int .i64 c.rights, .int .i64 c.lo, .int .i64 c.n, .int .i64 c.root.1, .int .i64 c.root.2] 255)
  have hA := h.nob kA
  obtain ⟨g, rfl, e0, e1⟩ := hA.row.rf q5
  have ho2 : (w1.alloc (.cells #[.int .i64 c.obj, .int .i64 c.rights, .int .i64 c.lo, .int .i64 c.n, .int .i64 c.root.1, .int .i64 c.root.2] 255)).cell? ⟨q, 2, none⟩ = some (.slice (some ⟨g, 0, none⟩) L.length cap) := hA.obj.cell 2
  have hZ := hA.nob ((Keep.refl Nob _).alloc (.cells #[.int .i64 0, .int .i64 0] 121))
  have ho3 : ((w1.alloc (.cells #[.int .i64 c.obj, .int .i64 c.rights, .int .i64 c.lo, .int .i64 c.n, .int .i64 c.root.1, .int .i64 c.root.2] 255)).alloc (.cells #[.int .i64 0, .int .i64 0] 121)).cell? ⟨q, 2, none⟩ = some (.slice (some ⟨g, 0, none⟩) L.length cap) := hZ.obj.cell 2
  obtain ⟨g', hg', e2, e3⟩ := hZ.row.rf q5
  cases hg'
  clear hZ
  have HHas := aa hc
  clear hc
  generalize c.lo = clo at *
  generalize c.n = cn at *
  generalize c.rights = cr at *
  generalize c.root.1 = c4 at *
  generalize c.root.2 = c5 at *
  generalize c.obj = co at *
  subst hi
  have HV := aa hve
  clear hve
  have t1 : clo + at_ ≤ 131072 := by omega
  go_wp2_with fail
  refine (eM at_ k cn _ true hcc.2.2.2.1 (by omega) (by simp; omega)).mono ?_; rintro e w2 ⟨rfl, rfl⟩
  go_wp2_with fail
  refine (jZ hA i true (by simp; omega)).mono ?_; rintro e w2 ⟨rfl, rfl⟩
  go_wp2_with fail
  go_region
  go_wp2_with fail
  refine (eM (clo + at_) k x.2 _ true hok.2.1 (by omega) (by simp; omega)).mono ?_; rintro e w2 ⟨rfl, rfl⟩
  go_wp2
  go_ret2
  have hv1 := HV.out
  subst hv1
  exact ⟨rfl, kA.drew.alloc _⟩
theorem bo.er_ {env name right at_ k v er : Int} (hv : bo T n L env name right at_ k v er) : er = 0 ∨ er = 1 ∨ er = 2 ∨ er = 3 := by
 cases hv <;> simp
theorem read_yes (h : Reg w q m mr s B n p r A cap xs T L) {env name at_ : Int} {k a : Nat} (hv : bo T n L env name 1 at_ k a 0) :
  Calls Tryz.prog 80 #[.pointer (some ⟨q, 0, none⟩), .int .i64 env, .int .i64 name, .int .i64 at_, .int .i64 k] w (iu ((xs.drop a).take k) w) := by
 have hr := hv.range h
 go_enter Tryz.func80, Tryz.ntmps80
 go_wp2_with fail
 refine (cM h hv).mono ?_; rintro e w1 ⟨rfl, k1⟩
 have h1 := h.nob k1
 have ho : w1.cell? ⟨q, 0, none⟩ = some (.pointer (some ⟨m, 0, none⟩)) := h1.obj.cell 0
 go_wp2_with fail
 refine (load_yes m mr a k xs w1 h1.mem (by omega)).mono ?_; rintro e w2 ⟨g, he, hb, hg, k2⟩
 have hl : ((xs.drop a).take k).length = k := by simp; omega
 rw [hl] at he
 subst he
 have HL := aa hl
 clear hl
 go_wp2
 go_ret2
 exact ⟨g, by rw [HL.out]; rfl, hb, Nat.le_trans k1.size hg, k1.nobt k2⟩
theorem read_no (h : Reg w q m mr s B n p r A cap xs T L) {env name at_ k v er : Int} (hv : bo T n L env name 1 at_ k v er) (he : er ≠ 0) :
  Calls Tryz.prog 80 #[.pointer (some ⟨q, 0, none⟩), .int .i64 env, .int .i64 name, .int .i64 at_, .int .i64 k] w fun e w' => e = .returned (.tuple #[.slice none 0 0, .int .i64 er]) ∧ Keep Nob w w' := by
 have hr := cM h hv
 rcases hv.er_ with rfl | rfl | rfl | rfl
 ·exact absurd rfl he
 all_goals
  clear hv
  go_enter Tryz.func80, Tryz.ntmps80
  go_wp2_with fail
  refine hr.mono ?_; rintro e w1 ⟨rfl, k1⟩
  go_wp2
  go_ret2
  exact ⟨rfl, k1⟩
theorem gV (h : Reg w q m mr s B n p r A cap xs T L) {env name at_ : Int} {k a c : Nat} {A' : Option Addr} {bs : List UInt8} (hv : bo T n L env name 2 at_ k a 0) (hb : ae w A' k (bytes bs)) :
  Calls Tryz.prog 81 #[.pointer (some ⟨q, 0, none⟩), .int .i64 env, .int .i64 name, .int .i64 at_, .slice A' k c] w fun e w' => e = .returned (.int .i64 0) ∧ Reg w' q m mr s B n p r A cap (splice xs a bs) T L ∧ Keep (· = mr) w w' := by
 have hr := hv.range h
 have hbl : bs.length = k := by have := hb.1; simpa using this
 have HB := aa hbl
 clear hbl
 go_enter Tryz.func81, Tryz.ntmps81
 go_wp2_with fail
 refine (cM h hv).mono ?_; rintro e w1 ⟨rfl, k1⟩
 have h1 := h.nob k1
 have ho : w1.cell? ⟨q, 0, none⟩ = some (.pointer (some ⟨m, 0, none⟩)) := h1.obj.cell 0
 have hb1 := hb.nob k1
 go_wp2_with fail
 refine (store_yes m mr a k c A' xs bs w1 h1.mem HB.out hb1 (by omega)).mono ?_; rintro e w2 ⟨rfl, hm2, k2, -⟩
 have h2 := h1.bytes_ hm2 k2 (aX _ _ _ (by rw [HB.out]; omega))
 go_wp2
 go_ret
 exact ⟨rfl, h2, (k1.mono (fun _ _ f => f.elim)).trans k2 (fun _ _ e => e)⟩
theorem write_no (h : Reg w q m mr s B n p r A cap xs T L) {env name at_ v er : Int} {k c : Nat} {A' : Option Addr} (hv : bo T n L env name 2 at_ k v er) (he : er ≠ 0) :
  Calls Tryz.prog 81 #[.pointer (some ⟨q, 0, none⟩), .int .i64 env, .int .i64 name, .int .i64 at_, .slice A' k c] w fun e w' => e = .returned (.int .i64 er) ∧ Keep Nob w w' := by
 have hr := cM h hv
 rcases hv.er_ with rfl | rfl | rfl | rfl
 ·exact absurd rfl he
 all_goals
  clear hv
  go_enter Tryz.func81, Tryz.ntmps81
  go_wp2_with fail
  refine hr.mono ?_; rintro e w1 ⟨rfl, k1⟩
  go_wp2
  go_ret
  exact ⟨rfl, k1⟩
theorem infospan : (Tryz.prog.info? 121).map (fun i => (i.zero, i.size, i.bytes)) = some (some (.agg #[.int .i64 0, .int .i64 0]), 2, 16) := by kernel_rfl
theorem radd_yes (h : Reg w q m mr s B n p r A cap xs T L) {lo k : Int} (hok : 0 ≤ lo ∧ 0 ≤ k ∧ lo + k ≤ xs.length) (hl : L.length < 32) :
  Calls Tryz.prog 263 #[.pointer (some ⟨q, 0, none⟩), .int .i64 lo, .int .i64 k] w fun e w' => ∃ A' cap', e = .returned (.tuple #[.int .i64 L.length, .int .i64 0]) ∧ Reg w' q m mr s B n p r A' cap' xs T (L ++ [(lo, k)]) ∧
   Keep (fun b => b = q ∨ Own A b) w w' ∧ (∀ g, Own A' g → Own A g ∨ w.heap.size ≤ g) := by
 have ho : w.cell? ⟨q, 0, none⟩ = some (.pointer (some ⟨m, 0, none⟩)) := h.obj.cell 0
 have ho2 : w.cell? ⟨q, 2, none⟩ = some (.slice A L.length cap) := h.obj.cell 2
 have hml := h.mem.len
 have hp : (decide (0 ≤ lo) && (decide (0 ≤ k) && (decide (k ≤ xs.length) && decide (lo ≤ xs.length - k)))) = true := by simp; omega
 have kA := (Keep.refl Nob w).alloc (.cells #[.int .i64 lo, .int .i64 k] 121)
 have hA := h.nob kA
 have bN : Blk (w.alloc (.cells #[.int .i64 lo, .int .i64 k] 121)) w.heap.size 121 [.int .i64 lo, .int .i64 k] := Blk.new w _ _
 have hq := h.obj.lt
 have Hok := aa hok
 clear hok
 go_enter Tryz.func263, Tryz.ntmps263
 go_wp2_with fail
 refine (size_any m mr xs w h.mem).mono ?_; rintro e w1 ⟨rfl, rfl⟩
 go_wp2_with fail
 refine (eM lo k xs.length _ true (by omega) (by have := Hok.out; omega) hp).mono ?_; rintro e w1 ⟨rfl, rfl⟩
 clear hp
 go_wp2_with (refine aN rfl _ _ 123 rfl 121 2 16 (.agg #[.int .i64 0, .int .i64 0]) Tryz.underlying123 infospan rfl (by decide) A L.length cap (cU L) rfl hA.row (some ⟨w.heap.size, 0, none⟩) 1 1 (cU [(lo, k)]) rfl 2 rfl (aj bN rfl) (refs_one _) (by simp [maxLen]; omega) (by omega) ?_; intro A' cap' w2 hv2 hk2 hown2; have ob2 := hA.obj.keep hk2 (fun ⟨a, ha, e⟩ => by obtain ⟨cur, hc⟩ := hA.row.blk ⟨a, ha, rfl⟩; exact hA.obj.ne_ hc (by decide) e.symm); have oc2 := ob2.cell 2; have of2 := ob2.frozen 2; simp only [List.getElem?_cons_zero, List.getElem?_cons_succ] at oc2)
 have hnq : ∀ {g : Nat} {t : TypeId} {cs : List Value}, Blk (w.alloc (.cells #[.int .i64 lo, .int .i64 k] 121)) g t cs → t ≠ 125 → t ≠ 121 → Blk (w2.setCell ⟨q, 2, none⟩ (.slice A' (L.length + 1) cap')) g t cs := fun hb h1 h2 =>
  (hb.keep hk2 (fun ho => by obtain ⟨cur, hc⟩ := hA.row.blk ho; exact hb.ne_ hc h2 rfl)).far (hb.ne_ hA.obj h1) _
 have hqA : ∀ g, Own A' g → g ≠ q := fun g ho e => by obtain ⟨cur, hc⟩ := hv2.blk ho; subst e; exact hc.ne_ ob2 (by decide) rfl
 have fin : Reg (w2.setCell ⟨q, 2, none⟩ (.slice A' (L.length + 1) cap')) q m mr s B n p r A' cap' xs T (L ++ [(lo, k)]) := by
  refine ⟨⟨hnq hA.mem.obj (by decide) (by decide), hnq hA.mem.row (by decide) (by decide), hA.mem.len⟩, ⟨hnq hA.sp.obj (by decide) (by decide), hnq hA.sp.row (by decide) (by decide), fun i hi => ?_, hA.sp.pinj, hA.sp.rinj⟩, hA.inv, ?_, ?_, ?_, by simp; omega⟩
  ·have ht := hA.sp.tab i hi
   exact ⟨hnq ht.obj (by decide) (by decide), hnq ht.row (by decide) (by decide), ht.pl, ht.ne⟩
  ·have := ob2.setCell 2 (.slice A' (L.length + 1) cap')
   simpa using this
  ·rw [List.length_append]
   have e1 : cU (L ++ [(lo, k)]) = cU L ++ cU [(lo, k)] := jJ _ _
   rw [e1]
   exact hv2.keep ((Keep.refl (· = q) _).setCell _ _ (fun _ => rfl)) hqA
  ·intro x hx
   rcases List.mem_append.1 hx with hx | hx
   ·exact hA.ok x hx
   ·simp at hx
    subst hx
    exact Hok.out
 have kf : Keep (fun b => b = q ∨ Own A b) w (w2.setCell ⟨q, 2, none⟩ (.slice A' (L.length + 1) cap')) :=
  ((kA.mono (fun _ _ f => f.elim)).trans hk2 (fun _ _ m => .inr m)).setCell _ _ (fun _ => .inl rfl)
 have Fin := aa fin
 clear fin hnq hv2 hqA hA
 go_wp2_with fail
 go_ret2
 exact ⟨A', cap', rfl, Fin.out, kf, fun g hg => (hown2 g hg).imp id (fun e => by subst e; simp)⟩
theorem rnew_is {xs : List UInt8} {T : St} (hm : eS w m mr xs) (hs : dg w s B n p r T) (I : Inv T n) :
  Calls Tryz.prog 157 #[.pointer (some ⟨m, 0, none⟩), .pointer (some ⟨s, 0, none⟩)] w fun e w' => ∃ q, e = .returned (.pointer (some ⟨q, 0, none⟩)) ∧ Reg w' q m mr s B n p r none 0 xs T [] ∧ w.heap.size ≤ q ∧ Keep Nob w w' := by
 have k1 := (Keep.refl Nob w).alloc (.cells #[.pointer (some ⟨m, 0, none⟩), .pointer (some ⟨s, 0, none⟩), .slice none 0 0] 125)
 have b1 : Blk (w.alloc (.cells #[.pointer (some ⟨m, 0, none⟩), .pointer (some ⟨s, 0, none⟩), .slice none 0 0] 125)) w.heap.size 125 [.pointer (some ⟨m, 0, none⟩), .pointer (some ⟨s, 0, none⟩), .slice none 0 0] := Blk.new w _ _
 go_enter Tryz.func157, Tryz.ntmps157
 go_wp2
 go_ret
 exact ⟨_, rfl, ⟨hm.keep k1 (fun f => f) (fun f => f), hs.nob k1, I, b1, Vec.nil _ _ _, by simp, by simp⟩, Nat.le_refl _, k1⟩
end
end Go.Proofs.YtgcikpgcoemfnaaGreat
namespace Go.Proofs.YtgcikpgcoemfnaaGreat
open Go.RowKit
def dU : St := fun _ => List.replicate 32 ⟨1, false, cX⟩
theorem kG {n : Nat} {ρ : Rf} {c : Cp} : ¬ Has dU n ρ c := by
 rintro ⟨e, i, q, _, _, h3, h4, _⟩
 have : q = ⟨1, false, cX⟩ := by
  unfold dU at h3
  rw [List.getElem?_replicate] at h3
  split at h3
  ·exact (Option.some.inj h3).symm
  ·cases h3
 rw [this] at h4
 cases h4
theorem init_inv {n : Nat} (hn : n ≤ 40) : Inv dU n := by
 refine ⟨hn, fun e he => by simp [dU], ?_, fun ρ c h => (kG h).elim, fun ρ c h => (kG h).elim, ⟨fun _ => 0, fun ρ c h _ => (kG h).elim⟩⟩
 intro e i q he hq
 unfold dU at hq
 rw [List.getElem?_replicate] at hq
 split at hq
 ·obtain rfl := (Option.some.inj hq)
  exact ⟨Nat.le_refl _, fun h => by cases h⟩
 ·cases hq
theorem iE.inv {T T' : St} {n e : Nat} {c : Cp} {nm er : Int} (I : Inv T n) (he : e < n) (h : iE T n e c nm er T') (h1 : 0 ≤ c.rights ∧ c.rights ≤ 7 ∧ 0 ≤ c.lo ∧ 0 ≤ c.n ∧ c.lo + c.n ≤ 131072) (h2 : c.root = (0, 0) ∨ ∃ c', Has T n c.root c') : Inv T' n := by
 cases h with
 | full _ => exact I
 | put i q hq hf hb =>
  obtain ⟨ho, hg⟩ := free_off hf
  have hh := up_has (c := c) I.len256 he hq ho
  have hnew := fun d => new_ref I.len256 he hq ho d
  refine ⟨I.n40, fun j hj => ?_, fun j k y hj hy => ?_, fun ρ d hd => ?_, fun ρ d hd => ?_, ?_⟩
  ·unfold up
   split
   ·rw [List.length_set]; exact I.len e he
   ·exact I.len j hj
  ·unfold up at hy
   split at hy
   ·subst_vars
    by_cases hk : i = k
    ·subst hk
     rw [List.getElem?_set_self (aP hq)] at hy
     cases hy
     exact ⟨(I.gen _ _ _ he hq).1, fun _ => hg⟩
    ·rw [List.getElem?_set_ne hk] at hy
     exact I.gen _ _ _ he hy
   ·exact I.gen _ _ _ hj hy
  ·rcases (hh ρ d).1 hd with h | ⟨_, rfl⟩
   ·exact I.cap ρ d h
   ·exact h1
  ·rcases (hh ρ d).1 hd with h | ⟨_, rfl⟩
   ·rcases I.root ρ d h with h3 | ⟨c', h3⟩
    ·exact .inl h3
    ·exact .inr ⟨c', (hh _ _).2 (.inl h3)⟩
   ·rcases h2 with h3 | ⟨c', h3⟩
    ·exact .inl h3
    ·exact .inr ⟨c', (hh _ _).2 (.inl h3)⟩
  ·obtain ⟨rk, hrk⟩ := I.rank
   have hroot : ∀ ρ d, Has T n ρ d → d.root ≠ (0, 0) → d.root ≠ ((e : Int), (i : Int) + 256 * (q.gen : Int)) := fun ρ d h h0 e1 => by
    rcases I.root ρ d h with h3 | ⟨c', h3⟩
    ·exact h0 h3
    ·exact hnew c' (by rw [← e1]; exact h3)
   refine ⟨fun ρ => if ρ = ((e : Int), (i : Int) + 256 * (q.gen : Int)) then rk c.root + 1 else rk ρ, fun ρ d hd h0 => ?_⟩
   show (if d.root = ((e : Int), (i : Int) + 256 * (q.gen : Int)) then rk c.root + 1 else rk d.root) < (if ρ = ((e : Int), (i : Int) + 256 * (q.gen : Int)) then rk c.root + 1 else rk ρ)
   rcases (hh ρ d).1 hd with h | ⟨h3, h4⟩
   ·rw [if_neg (hroot ρ d h h0), if_neg (fun e1 => hnew d (by rw [← e1]; exact h))]
    exact hrk ρ d h h0
   ·subst h4
    rw [if_pos h3, if_neg (fun e1 => ?_)]
    ·exact Nat.lt_succ_self _
    ·rcases h2 with h5 | ⟨c', h5⟩
     ·exact h0 h5
     ·exact hnew c' (by rw [← e1]; exact h5)
def PutOk (n : Nat) (env : Int) (c : Cp) : Prop := 0 ≤ env ∧ env < n ∧ sub c.rights 7 = true ∧ 0 ≤ c.lo ∧ c.lo ≤ 65536 ∧ 0 ≤ c.n ∧ c.n ≤ 65536
theorem put_yes {w : World} {s B n e : Nat} {p r : Nat → Nat} {T : St} {c : Cp} (h : dg w s B n p r T) (he : e < n) (hok : PutOk n e c) :
  Calls Tryz.prog 265 #[.pointer (some ⟨s, 0, none⟩), .int .i64 e, dG c] w fun e' w' => ∃ nm er T', e' = .returned (.tuple #[.int .i64 nm, .int .i64 er]) ∧ iE T n e ⟨c.obj, c.rights, c.lo, c.n, (0, 0)⟩ nm er T' ∧ dg w' s B n p r T' ∧ Keep (· = r e) w w' := by
 obtain ⟨_, _, a2, b1, b2, b3, b4⟩ := hok
 have A3 := aa (And.intro b1 b2)
 have A4 := aa (And.intro b3 b4)
 clear b1 b2 b3 b4
 have hadd := fun W (k : Keep Nob w W) => sadd_is (h.nob k) he ⟨c.obj, c.rights, c.lo, c.n, (0, 0)⟩
 unfold dG at hadd ⊢
 go_enter Tryz.func265, Tryz.ntmps265
 go_wp2_with (refine af rfl 255 _ rfl _ rfl ?_; intro w1 hb1 hk1 hs1)
 have h0 := h.nob hk1
 have d0 : w1.cell? ⟨w.heap.size, 0, none⟩ = some (.int .i64 c.obj) := hb1.cell 0
 have d1 : w1.cell? ⟨w.heap.size, 1, none⟩ = some (.int .i64 c.rights) := hb1.cell 1
 have d2 : w1.cell? ⟨w.heap.size, 2, none⟩ = some (.int .i64 c.lo) := hb1.cell 2
 have d3 : w1.cell? ⟨w.heap.size, 3, none⟩ = some (.int .i64 c.n) := hb1.cell 3
 have d4 : w1.cell? ⟨w.heap.size, 4, none⟩ = some (.int .i64 c.root.1) := hb1.cell 4
 have d5 : w1.cell? ⟨w.heap.size, 5, none⟩ = some (.int .i64 c.root.2) := hb1.cell 5
 have f4 := hb1.frozen 4
 have f5 := hb1.frozen 5
 have hkl : Keep Nob w ((w1.setCell ⟨w.heap.size, 4, none⟩ (.int .i64 0)).setCell ⟨w.heap.size, 5, none⟩ (.int .i64 0)) := (hk1.setCell _ _ (fun h => absurd h (Nat.lt_irrefl _))).setCell _ _ (fun h => absurd h (Nat.lt_irrefl _))
 have hcl := hadd _ hkl
 clear hadd hb1 hs1
 go_wp2_with fail
 refine (dW h0 (e : Int) true (by simp [he])).mono ?_; rintro e' w' ⟨rfl, rfl⟩
 go_wp2_with fail
 refine (rights_is 7 c.rights _ true a2).mono ?_; rintro e' w' ⟨rfl, rfl⟩
 go_wp2_with fail
 refine (bounds_is c.lo _ true (by simp [A3.out.1, A3.out.2])).mono ?_; rintro e' w' ⟨rfl, rfl⟩
 go_wp2_with fail
 refine (bounds_is c.n _ true (by simp [A4.out.1, A4.out.2])).mono ?_; rintro e' w' ⟨rfl, rfl⟩
 go_wp2_with fail
 refine hcl.mono ?_; rintro e' w2 ⟨nm, er, T', rfl, hA, hS, hk⟩
 go_wp2
 go_ret2
 exact ⟨nm, er, T', rfl, hA, hS, (hkl.mono (M' := (· = r e)) (fun _ _ f => f.elim)).trans hk (fun _ _ e => e)⟩
structure Half (w : World) (s B n k : Nat) (p r : Nat → Nat) (lo : Nat) : Prop where
 obj : Blk w s 272 [.slice (some ⟨B, 0, none⟩) n n]
 row : Blk w B 269 (mk n fun i => if i < k then .pointer (some ⟨p i, 0, none⟩) else .pointer none)
 tab : ∀ i, i < k → Tab w (p i) (r i) (List.replicate 32 ⟨1, false, cX.cells⟩)
 pinj : ∀ i j, i < k → j < k → p i = p j → i = j
 rinj : ∀ i j, i < k → j < k → r i = r j → i = j
 lop : ∀ i, i < k → lo ≤ p i ∧ lo ≤ r i
theorem Half.next {w w1 w2 : World} {s B n k pk rk lo : Nat} {p r : Nat → Nat} (h : Half w s B n k p r lo) (hk : k < n) (ht : Tab w1 pk rk (List.replicate 32 ⟨1, false, cX.cells⟩)) (hp : w.heap.size ≤ pk) (hr : w.heap.size ≤ rk) (hlo : lo ≤ w.heap.size) (k1 : Keep Nob w w1)
  (hb : Blk w2 B 269 ((Go.Proofs.YtgcikpgcoemfnaaGreat.mk n fun i => if i < k then Value.pointer (some ⟨p i, 0, none⟩) else .pointer none).set k (.pointer (some ⟨pk, 0, none⟩)))) (k2 : Keep (· = B) w1 w2) :
  Half w2 s B n (k + 1) (fun i => if i = k then pk else p i) (fun i => if i = k then rk else r i) lo := by
 have hrow := h.row.nob k1
 have old : ∀ i, i < k → p i < w.heap.size ∧ r i < w.heap.size := fun i hi => ⟨(h.tab i hi).obj.lt, (h.tab i hi).row.lt⟩
 refine ⟨(h.obj.nob k1).keep k2 ((h.obj.nob k1).ne_ hrow (by decide)), ?_, fun i hi => ?_, fun i j hi hj e => ?_, fun i j hi hj e => ?_, fun i hi => ?_⟩
 ·rwa [mk_set _ (g := fun i => if i < k + 1 then Value.pointer (some ⟨if i = k then pk else p i, 0, none⟩) else .pointer none) (fun j hj => ?_)] at hb
  by_cases e : j = k
  ·subst e; simp
  ·rw [if_neg e, if_neg e]
   by_cases h1 : j < k
   ·rw [if_pos h1, if_pos (by omega)]
   ·rw [if_neg h1, if_neg (by omega)]
 ·(try dsimp only)
  by_cases e : i = k
  ·rw [if_pos e, if_pos e]
   exact ht.keep k2 (ht.obj.ne_ hrow (by decide)) (ht.row.ne_ hrow (by decide))
  ·rw [if_neg e, if_neg e]
   have := (h.tab i (by omega)).nob k1
   exact this.keep k2 (this.obj.ne_ hrow (by decide)) (this.row.ne_ hrow (by decide))
 ·(try dsimp only at e)
  by_cases e1 : i = k <;> by_cases e2 : j = k
  ·omega
  ·rw [if_pos e1, if_neg e2] at e
   have := (old j (by omega)).1
   omega
  ·rw [if_neg e1, if_pos e2] at e
   have := (old i (by omega)).1
   omega
  ·rw [if_neg e1, if_neg e2] at e
   exact h.pinj i j (by omega) (by omega) e
 ·(try dsimp only at e)
  by_cases e1 : i = k <;> by_cases e2 : j = k
  ·omega
  ·rw [if_pos e1, if_neg e2] at e
   have := (old j (by omega)).2
   omega
  ·rw [if_neg e1, if_pos e2] at e
   have := (old i (by omega)).2
   omega
  ·rw [if_neg e1, if_neg e2] at e
   exact h.rinj i j (by omega) (by omega) e
 ·(try dsimp only)
  by_cases e : i = k
  ·rw [if_pos e, if_pos e]; omega
  ·rw [if_neg e, if_neg e]; exact h.lop i (by omega)
theorem Half.sp {w : World} {s B n lo : Nat} {p r : Nat → Nat} (h : Half w s B n n p r lo) : dg w s B n p r dU := by
 refine ⟨h.obj, ?_, fun i hi => ?_, h.pinj, h.rinj⟩
 ·have := h.row
  rwa [gu (g := fun i => Value.pointer (some ⟨p i, 0, none⟩)) (fun i hi => if_pos hi)] at this
 ·have := h.tab i hi
  have e : (dU i).map Q.pl = List.replicate 32 ⟨1, false, cX.cells⟩ := by simp [dU, Q.pl]
  rw [e]
  exact this
theorem infoPT : (Tryz.prog.info? 269).map (fun i => (i.zero, i.size, i.bytes)) = some (some (.pointer none), 1, 8) := by kernel_rfl
def NewSp (n : Nat) (w : World) (e : Ending) (w' : World) : Prop := ∃ s B p r, e = .returned (.pointer (some ⟨s, 0, none⟩)) ∧ dg w' s B n p r dU ∧ w.heap.size ≤ s ∧ (∀ i, i < n → w.heap.size ≤ r i) ∧ Keep Nob w w'
theorem new_sp (a : Int) (n : Nat) (hn : (min (max a 0) 40).toNat = n) (w : World) : Calls Tryz.prog 156 #[.int .i64 a] w (NewSp n w) := by
 have hn40 : n ≤ 40 := by omega
 rcases (show a < 0 ∨ 40 < a ∨ (0 ≤ a ∧ a ≤ 40) from by omega) with h | h | ⟨h, h'⟩
 all_goals
  have Hn := aa hn
  clear hn
  go_enter Tryz.func156, Tryz.ntmps156
  go_wp2_with (refine bu rfl _ _ 270 rfl 269 (.pointer none) 8 Tryz.underlying270 infoPT rfl .i64 .i64 n _ (by have := Hn.out; omega) rfl rfl (by omega) (by omega) ?_; intro w1 hb1 hk1 hs1)
  have hH : Half (w1.alloc (.cells #[.slice (some ⟨w.heap.size, 0, none⟩) n n] 272)) (w.heap.size + 1) w.heap.size n 0 (fun _ => 0) (fun _ => 0) w.heap.size := by
   refine ⟨?_, ?_, fun i hi => absurd hi (by omega), fun i j hi => absurd hi (by omega), fun i j hi => absurd hi (by omega), fun i hi => absurd hi (by omega)⟩
   ·have := Blk.new w1 272 [.slice (some ⟨w.heap.size, 0, none⟩) n n]
    rw [hs1] at this
    exact this
   ·have := hb1.alloc (.cells #[.slice (some ⟨w.heap.size, 0, none⟩) n n] 272)
    rw [mk_rep] at this
    exact this
  have K1 := hk1.alloc (.cells #[.slice (some ⟨w.heap.size, 0, none⟩) n n] 272)
  have hh := hH.obj.cell 0
  clear hs1 hb1
  go_wp2
  clear hh
  go_loopw [16] (fun s16 wx => ∃ (k : Nat) (p r : Nat → Nat), k ≤ n ∧ s16 = .int .i64 k ∧ Half wx (w.heap.size + 1) w.heap.size n k p r w.heap.size ∧ Keep Nob w wx) (fun s16 _ => n - (intOf s16).toNat)
  case atStart => exact ⟨0, _, _, Nat.zero_le _, rfl, hH, K1⟩
  case round =>
   obtain ⟨k, p, r, hk, rfl, hX, hK⟩ := hrel
   by_cases hlt : k < n
   ·have hsz := hX.row.lt
    have hKs := hK.size
    have kd : Keep (· = w.heap.size) wr wr.drew := (Keep.refl _ _).drew
    have hne : w.heap.size + 1 ≠ w.heap.size := by omega
    have sf : ∀ W, Keep (· = w.heap.size) wr W → W.cell? ⟨w.heap.size + 1, 0, none⟩ = some (.slice (some ⟨w.heap.size, 0, none⟩) n n) := fun W kk => (hX.obj.keep kk hne).cell 0
    have hrow0 : Blk wr w.heap.size 269 (mk n fun i => if i < k then .pointer (some ⟨p i, 0, none⟩) else .pointer none) := hX.row
    go_wp2_with fail
    go_region_held3 (fun w' => w'.cell? ⟨w.heap.size + 1, 0, none⟩ = some (.slice (some ⟨w.heap.size, 0, none⟩) n n))
     (first | exact sf _ kd | exact sf _ k1 | exact sf _ (k1.setCell _ _ (fun _ => rfl)))
     (first | (go_at_call 262; refine (TabC.new_is 32 32 rfl _).mono ?_; rintro e' w2 ⟨pk, rk, rfl, ht, hp, hr, hk2⟩; have k1 := kd.trans hk2 (fun _ _ f => f.elim); have hrow2 := (hrow0.nob (Keep.nobdrew _)).nob hk2; have z0 : w2.cell? ⟨w.heap.size, k, none⟩ = some (.pointer none) := (by rw [hrow2.cell, dn hlt, if_neg (Nat.lt_irrefl _)]); have f0 := hrow2.frozen k))
    have hN := hX.next hlt ht hp hr hKs ((Keep.nobdrew wr).nobt hk2) (hrow2.setCell k (.pointer (some ⟨pk, 0, none⟩))) ((Keep.refl _ w2).setCell _ _ (fun _ => rfl))
    have hK2 := ((hK.nobt (Keep.nobdrew wr)).nobt hk2).setCell ⟨w.heap.size, k, none⟩ (.pointer (some ⟨pk, 0, none⟩)) (fun h => absurd h (Nat.lt_irrefl _))
    go_wp2
    go_roundw
    case rel => exact ⟨k + 1, _, _, by omega, by go_num, hN, hK2⟩
    case measure => simp [intOf]; omega
   ·obtain rfl : k = n := by omega
    go_wp2
    go_ret
    exact ⟨_, _, p, r, rfl, hX.sp, by omega, fun i hi => (hX.lop i hi).2, hK⟩
end Go.Proofs.YtgcikpgcoemfnaaGreat
namespace Go.Proofs.YtgcikpgcoemfnaaGreat.TabC
open Go.RowKit
theorem names_new {p r : Nat} {L : List Pl} {w : World} (h : Tab w p r L) :
  Calls Tryz.prog 267 #[.pointer (some ⟨p, 0, none⟩)] w fun e w' => ∃ A cap, e = .returned (.slice A (names L L.length).length cap) ∧ Vec w' 3 1 A (names L L.length).length cap (ab (names L L.length)) ∧ Keep Nob w w' ∧ ∀ g, Own A g → w.heap.size ≤ g := by
 have hc := h.head
 have hl := h.pl.len
 go_enter Tryz.func267, Tryz.ntmps267
 go_wp2
 go_loopw [3, 10] (fun s t wx => ∃ (k : Nat) (A : Option Addr) (cap : Nat), k ≤ L.length ∧ t = .int .i64 k ∧ s = .slice A (names L k).length cap ∧ Vec wx 3 1 A (names L k).length cap (ab (names L k)) ∧ Keep Nob w wx ∧ ∀ g, Own A g → w.heap.size ≤ g) (fun _ t _ => L.length - (intOf t).toNat)
 case atStart => exact ⟨0, none, 0, Nat.zero_le _, rfl, rfl, Vec.nil _ _ _, Keep.refl _ _, fun g ⟨a, ha, _⟩ => by cases ha⟩
 case round =>
  obtain ⟨k, A, cap, hk, rfl, rfl, hv, hK, hA⟩ := hrel
  have hx := h.nob hK
  have hc2 := hx.head
  by_cases hlt : k < L.length
  ·obtain ⟨q, hq⟩ : ∃ q, L[k]? = some q := ⟨_, List.getElem?_eq_getElem hlt⟩
   have ho := hx.on_ hq
   have hle := km L k
   cases hb : q.on with
   | false =>
    rw [hb] at ho
    have he := jg hq hb
    go_wp2
    go_roundw
    case rel => exact ⟨k + 1, A, cap, by omega, by go_num, by rw [he], by rw [he]; exact hv, hK, hA⟩
    case measure => simp [intOf]; omega
   | true =>
    rw [hb] at ho
    have he := kD hq hb
    have hel : (names L (k + 1)).length = (names L k).length + 1 := by rw [he, List.length_append]; rfl
    go_wp2_with fail
    refine (jW hx hq).mono ?_; rintro e w' ⟨rfl, rfl⟩
    go_wp2_with (at_builtin; go_loud (refine aN rfl _ _ 42 rfl 3 1 8 (.int .i64 0) Tryz.underlying42 infoint rfl (by decide) A (names L k).length cap (ab (names L k)) rfl (hv.keep ((Keep.refl Nob wr).alloc _) (fun _ _ f => f)) (some ⟨wr.heap.size, 0, none⟩) 1 1 [.int .i64 ((k : Int) + 256 * (q.gen : Int))] rfl _ (Nat.mul_one _) (aj (Blk.new wr 3 [.int .i64 ((k : Int) + 256 * (q.gen : Int))]) rfl) (by simp [Value.oneCell']) (by unfold maxLen; omega) (by omega) ?_); intro A' cap' w2 hv2 hk2 ho2)
    go_roundw
    case rel => exact ⟨k + 1, A', cap', by omega, by go_num, by rw [hel], by rw [hel, he, fh]; exact hv2, (hK.alloc _).trans hk2 (fun b hb ho => by have := hA b ho; omega), fun g hg => by
     rcases ho2 g hg with h1 | h1
     ·exact hA g h1
     ·rw [h1]; have := hK.size; simp; omega⟩
    case measure => simp [intOf]; omega
  ·obtain rfl : k = L.length := by omega
   go_wp2
   go_ret
   exact ⟨A, cap, rfl, hv, hK, hA⟩
end Go.Proofs.YtgcikpgcoemfnaaGreat.TabC
namespace Go.Proofs.YtgcikpgcoemfnaaGreat
open Go.RowKit
theorem lx {w : World} {s B n e : Nat} {p r : Nat → Nat} {T : St} (h : dg w s B n p r T) (he : e < n) :
  Calls Tryz.prog 169 #[.pointer (some ⟨s, 0, none⟩), .int .i64 e] w fun e' w' => ∃ A cap, e' = .returned (.slice A (names ((T e).map Q.pl) (T e).length).length cap) ∧ Vec w' 3 1 A (names ((T e).map Q.pl) (T e).length).length cap (ab (names ((T e).map Q.pl) (T e).length)) ∧ Keep Nob w w' ∧ ∀ g, Own A g → w.heap.size ≤ g := by
 have hc := h.head
 have hp := h.ptr he
 have hn := TabC.names_new (h.tab e he)
 rw [List.length_map] at hn
 generalize names ((T e).map Q.pl) (T e).length = l at hn ⊢
 go_enter Tryz.func169, Tryz.ntmps169
 go_wp2_with fail
 refine (dW h (e : Int) true (by simp [he])).mono ?_; rintro e' w' ⟨rfl, rfl⟩
 go_wp2_with fail
 refine hn.mono ?_; rintro e' W ⟨A, cap, rfl, hv, hk, ho⟩
 go_wp2
 go_ret
 exact ⟨A, cap, rfl, hv, hk, ho⟩
end Go.Proofs.YtgcikpgcoemfnaaGreat
