/- Texts Dk0, PlN, Dk1, Dk2, Dk3A, Dk3B, Dk3C, Dk3D, Dk3E, Dk4, Dk5, Dk6, packed. -/
import Derived.BigRegion
import Derived.Laws.MakeOwn
import Derived.Test.YtifigjccokpcfaaGreatPk0
import Derived.Test.YtifigjccokpcfaaGreatPk8
import Derived.Test.YtifigjccokpcfaaGreatPk12
import Derived.Test.YtifigjccokpcfaaGreatPk3
import Derived.Test.YtifigjccokpcfaaGreatPk13
import Derived.Test.YtifigjccokpcfaaGreatPk15
import Derived.Test.YtifigjccokpcfaaGreatPk14
import Derived.Test.YtifigjccokpcfaaGreatPk16
import Derived.Test.YtifigjccokpcfaaGreatPk17
import Derived.Test.YtifigjccokpcfaaGreatPk1
import Derived.Test.YtifigjccokpcfaaGreatPk18
import Derived.Test.YtifigjccokpcfaaGreatPk21
import Derived.Test.YtifigjccokpcfaaGreatPk22
import Derived.Test.YtifigjccokpcfaaGreatPk24
import Derived.Test.YtifigjccokpcfaaGreatPk2
import Derived.Test.YtifigjccokpcfaaGreatPk5
import Derived.Test.YtifigjccokpcfaaGreatPk19
import Derived.Test.YtifigjccokpcfaaGreatPk23
import Derived.Test.YtifigjccokpcfaaGreatPk6
import Derived.Test.YtifigjccokpcfaaGreatPk9
import Derived.Test.YtifigjccokpcfaaGreatPk20
namespace Go.Proofs.YtifigjccokpcfaaGreat.Dk
open Go.RowKit
set_option linter.unusedVariables false
set_option linter.unusedSimpArgs false
/-- A Space: where its rows lie, and what lies in them. -/
structure Ds where
  s : Nat
  n : Nat
  AN : Option Addr
  cN : Nat
  AC : Option Addr
  cC : Nat
  q : Nat → Nat
  A : Nat → Option Addr
  ca : Nat → Nat
  r : Nat → Nat
  T : St
def nq (x : Q) : Pl := ⟨x.gen, x.on, []⟩
def crow (l : List Q) : List Value := (l.map fun x => x.c.cells).flatten
structure IsDs (w : World) (S : Ds) : Prop where
  obj : Blk w S.s 287 [.slice S.AN S.n S.cN, .slice S.AC S.n S.cC]
  nrow : Vec w 288 1 S.AN S.n S.cN (mk S.n fun i => .pointer (some ⟨S.q i, 0, none⟩))
  cr : Vec w 290 1 S.AC S.n S.cC (mk S.n fun i => .slice (some ⟨S.r i, 0, none⟩) 32 32)
  nm : ∀ i, i < S.n → Ref.IsNames w (S.q i) (S.A i) (S.ca i) ((S.T i).map nq)
  cp : ∀ i, i < S.n → Blk w (S.r i) 174 (crow (S.T i))
  ainj : ∀ i j, i < S.n → j < S.n → i ≠ j → ∀ x, Own (S.A i) x → ¬ Own (S.A j) x
  rinj : ∀ i j, i < S.n → j < S.n → S.r i = S.r j → i = j
  t32 : ∀ i, i < S.n → (S.T i).length = 32
  n40 : S.n ≤ 40
/-- Its blocks. -/
def Ds.Mine (S : Ds) : Nat → Prop := fun b => b = S.s ∨ Own S.AN b ∨ Own S.AC b ∨ ∃ i, i < S.n ∧ (b = S.q i ∨ Own (S.A i) b ∨ b = S.r i)
section
variable {w w' : World} {S : Ds} {M : Nat → Prop}
theorem IsDs.keep (h : IsDs w S) (k : Keep M w w') (hd : ∀ b, S.Mine b → ¬ M b) : IsDs w' S :=
  ⟨h.obj.keep k (hd _ (.inl rfl)), h.nrow.keep k (fun g hg => hd _ (.inr (.inl hg))), h.cr.keep k (fun g hg => hd _ (.inr (.inr (.inl hg)))),
    fun i hi => (h.nm i hi).keep k (hd _ (.inr (.inr (.inr ⟨i, hi, .inl rfl⟩)))) (fun g hg => hd _ (.inr (.inr (.inr ⟨i, hi, .inr (.inl hg)⟩)))), fun i hi => (h.cp i hi).keep k (hd _ (.inr (.inr (.inr ⟨i, hi, .inr (.inr rfl)⟩)))), h.ainj, h.rinj, h.t32, h.n40⟩
theorem IsDs.nob (h : IsDs w S) (k : Keep Nob w w') : IsDs w' S := h.keep k (fun _ _ f => f)
theorem IsDs.lt (h : IsDs w S) : ∀ b, S.Mine b → b < w.heap.size := by
  rintro b (rfl | hb | hb | ⟨i, hi, rfl | hb | rfl⟩)
  · exact h.obj.lt
  · exact h.nrow.lt b hb
  · exact h.cr.lt b hb
  · exact (h.nm i hi).obj.lt
  · exact (h.nm i hi).row.lt b hb
  · exact (h.cp i hi).lt
theorem crow_get {l : List Q} {i j : Nat} {x : Q} (hx : l[i]? = some x) (hj : j < 6) : (crow l)[i * 6 + j]? = x.c.cells[j]? := by
  unfold crow
  rw [flatten_get (W := 6) _ (by intro c hc; obtain ⟨x, _, rfl⟩ := List.mem_map.1 hc; rfl) i j hj, List.getElem?_map, hx]
  rfl
/-- A Cap's six cells are written at its place. -/
theorem crow_set {l : List Q} {i : Nat} {x : Q} (hx : l[i]? = some x) (y : Q) : ((((((crow l).set (i * 6) (.int .i64 y.c.obj)).set (i * 6 + 1) (.int .i64 y.c.rights)).set (i * 6 + 2) (.int .i64 y.c.lo)).set (i * 6 + 3) (.int .i64 y.c.n)).set (i * 6 + 4) (.int .i64 y.c.root.1)).set (i * 6 + 5) (.int .i64 y.c.root.2) = crow (l.set i y) := by
  have hW : ∀ c ∈ (l.map fun x => x.c.cells), c.length = 6 := by intro c hc; obtain ⟨x, _, rfl⟩ := List.mem_map.1 hc; rfl
  have e0 : (l.map fun x => x.c.cells)[i]? = some x.c.cells := by rw [List.getElem?_map, hx]; rfl
  unfold crow
  obtain ⟨e1, r1, g1⟩ := rows_set hW e0 0 (by decide) (.int .i64 y.c.obj)
  obtain ⟨e2, r2, g2⟩ := rows_set r1 g1 1 (by decide) (.int .i64 y.c.rights)
  obtain ⟨e3, r3, g3⟩ := rows_set r2 g2 2 (by decide) (.int .i64 y.c.lo)
  obtain ⟨e4, r4, g4⟩ := rows_set r3 g3 3 (by decide) (.int .i64 y.c.n)
  obtain ⟨e5, r5, g5⟩ := rows_set r4 g4 4 (by decide) (.int .i64 y.c.root.1)
  obtain ⟨e6, r6, g6⟩ := rows_set r5 g5 5 (by decide) (.int .i64 y.c.root.2)
  rw [show i * 6 = i * 6 + 0 from rfl, e1]
  simp only [Nat.add_zero]
  rw [e2, e3, e4, e5, e6, List.set_set, List.set_set, List.set_set, List.set_set, List.set_set, List.map_set]
  rfl
theorem mk_at {w : World} {e n cap : Nat} {A : Option Addr} {f : Nat → Value} (h : Vec w e 1 A n cap (mk n f)) {i : Nat} (hi : i < n) : ∃ g, A = some ⟨g, 0, none⟩ ∧ w.cell? ⟨g, i, none⟩ = some (f i) := by
  obtain ⟨g, cur, hA, hb, _, hc, ht⟩ := h.at_ (by omega)
  refine ⟨g, hA, ?_⟩
  rw [hb.cell]
  have e1 : (cur.take (n * 1))[i]? = (mk n f)[i]? := by rw [ht]
  rw [List.getElem?_take, if_pos (by omega), mk_get hi] at e1
  exact e1
theorem env_is (h : IsDs w S) (e : Int) (v : Bool) (hv : (decide (0 ≤ e) && decide (e < S.n)) = v) : Calls Tryz.prog 189 #[.pointer (some ⟨S.s, 0, none⟩), .int .i64 e] w fun e' w' => e' = .returned (.bool v) ∧ w = w' := by
  have hc : w.cell? ⟨S.s, 0, none⟩ = some (.slice S.AN S.n S.cN) := h.obj.cell 0
  by_cases h0 : 0 ≤ e
  · obtain rfl : v = decide (e < S.n) := by rw [← hv]; simp [h0]
    clear hv
    go_enter Tryz.func189, Tryz.ntmps189
    go_wp2
    go_ret
    exact ⟨rfl, rfl⟩
  · obtain rfl : v = false := by rw [← hv]; simp [h0]
    clear hv
    go_enter Tryz.func189, Tryz.ntmps189
    go_wp2
    go_ret
    exact ⟨rfl, rfl⟩
/-- What a Cap's being added may turn. -/
def AddM (S : Ds) (e : Nat) : Nat → Prop := fun b => Own (S.A e) b ∨ b = S.r e
theorem add_mine {e : Nat} (he : e < S.n) : ∀ b, AddM S e b → S.Mine b := fun b hb => .inr (.inr (.inr ⟨e, he, hb.elim (fun h => .inr (.inl h)) (fun h => .inr (.inr h))⟩))
theorem up_len {T : St} {e i : Nat} {x : Q} (j : Nat) : (up T e i x j).length = (T j).length := by
  unfold up
  split
  · rename_i h; rw [List.length_set, h]
  · rfl
set_option maxRecDepth 100000 in
set_option maxHeartbeats 4000000 in
theorem add_is (h : IsDs w S) (e : Nat) (he : e < S.n) (c : Cp) (i : Nat) (x : Q) (hx : (S.T e)[i]? = some x) (hf : (nq x).free = true) (hb : ∀ (j : Nat) (y : Q), j < i → (S.T e)[j]? = some y → (nq y).free = false) :
    Calls Tryz.prog 190 #[.pointer (some ⟨S.s, 0, none⟩), .int .i64 e, cval c] w fun e' w' => e' = .returned (.tuple #[.int .i64 (i + 256 * (x.gen : Int)), .int .i64 0]) ∧ IsDs w' { S with T := up S.T e i ⟨x.gen, true, c⟩ } ∧ Keep (AddM S e) w w' := by
  have hN := h.nm e he
  have hx' : ((S.T e).map nq)[i]? = some (nq x) := by rw [List.getElem?_map, hx]; rfl
  have hi : i < 32 := by have := get_lt hx; rw [h.t32 e he] at this; exact this
  have hcall := fun W (k : Keep Nob w W) => Ref.add_yes (hN.nob k) hx' hf (fun j y hj hy => by
    rw [List.getElem?_map] at hy
    obtain ⟨z, hz, rfl⟩ := Option.map_eq_some_iff.1 hy
    exact hb j z hj hz)
  have hge : (x.gen : Int) ≤ 1000000 := by
    have := (free_off hf).2
    simp [nq] at this
    omega
  have hmod : ((i : Int) + 256 * (x.gen : Int)) % 256 = i := by omega
  have hgen0 : 0 ≤ (x.gen : Int) := by omega
  have k1 := (Keep.refl Nob w).alloc (.cells #[.int .i64 c.obj, .int .i64 c.rights, .int .i64 c.lo, .int .i64 c.n, .int .i64 c.root.1, .int .i64 c.root.2] 174)
  have b1 := Blk.new w 174 [.int .i64 c.obj, .int .i64 c.rights, .int .i64 c.lo, .int .i64 c.n, .int .i64 c.root.1, .int .i64 c.root.2]
  have h1 := h.nob k1
  obtain ⟨g, hg, pg⟩ := mk_at h1.nrow he
  have c0 : (w.alloc (.cells #[.int .i64 c.obj, .int .i64 c.rights, .int .i64 c.lo, .int .i64 c.n, .int .i64 c.root.1, .int .i64 c.root.2] 174)).cell? ⟨S.s, 0, none⟩ = some (.slice S.AN S.n S.cN) := h1.obj.cell 0
  rw [hg] at c0
  have hcl := hcall _ k1
  have hn40 := h.n40
  have HH := Lib.hid (And.intro h (And.intro h1 (And.intro hx hN)))
  have HB := Lib.hid b1
  have HK := Lib.hid k1
  clear hcall hb hf hx' hg h h1 b1 k1 hN hx
  have e1 : (nq x).gen = x.gen := rfl
  rw [e1] at hcl
  unfold cval
  go_enter Tryz.func190, Tryz.ntmps190
  go_wp2_with fail
  refine hcl.mono ?_; rintro e' w1 ⟨rfl, hN1, k2, hs2⟩
  have hm2 : ∀ b, Own (S.A e) b → ¬ (b = w.heap.size) := fun b hb e2 => by have := (HH.out.2.2.2).row.lt b hb; omega
  have hB2 := HB.out.keep k2 (fun m => hm2 _ m rfl)
  have hrow := HH.out.2.1.nm e he
  have off : ∀ {b : Nat} {t : TypeId} {cs : List Value}, Blk (w.alloc (.cells #[.int .i64 c.obj, .int .i64 c.rights, .int .i64 c.lo, .int .i64 c.n, .int .i64 c.root.1, .int .i64 c.root.2] 174)) b t cs → t ≠ 348 → ¬ Own (S.A e) b := fun hb ht ho => by
    obtain ⟨cur, hc⟩ := hrow.row.blk ho
    exact hb.ne_ hc ht rfl
  have offV : ∀ {t sz n cap : Nat} {A : Option Addr} {xs : List Value}, Vec (w.alloc (.cells #[.int .i64 c.obj, .int .i64 c.rights, .int .i64 c.lo, .int .i64 c.n, .int .i64 c.root.1, .int .i64 c.root.2] 174)) t sz A n cap xs → t ≠ 348 → ∀ b, Own A b → ¬ Own (S.A e) b := fun hv ht b hb => by
    obtain ⟨cur, hc⟩ := hv.blk hb
    exact off hc ht
  have o2 := HH.out.2.1.obj.keep k2 (off HH.out.2.1.obj (by decide))
  have n2 := HH.out.2.1.nrow.keep k2 (offV HH.out.2.1.nrow (by decide))
  have cr2 := HH.out.2.1.cr.keep k2 (offV HH.out.2.1.cr (by decide))
  have cp2 := fun j (hj : j < S.n) => (HH.out.2.1.cp j hj).keep k2 (off (HH.out.2.1.cp j hj) (by decide))
  have nm2 := fun j (hj : j < S.n) (hje : j ≠ e) => (HH.out.2.1.nm j hj).keep k2 (off (HH.out.2.1.nm j hj).obj (by decide)) (fun b hb hb2 => HH.out.2.1.ainj j e hj he hje b hb hb2)
  obtain ⟨gc, hgc, pgc⟩ := mk_at cr2 he
  have d1 : w1.cell? ⟨S.s, 1, none⟩ = some (.slice S.AC S.n S.cC) := o2.cell 1
  rw [hgc] at d1
  have x0 := hB2.cell 0
  have x1 := hB2.cell 1
  have x2 := hB2.cell 2
  have x3 := hB2.cell 3
  have x4 := hB2.cell 4
  have x5 := hB2.cell 5
  simp only [List.getElem?_cons_zero, List.getElem?_cons_succ] at x0 x1 x2 x3 x4 x5
  have hbe := cp2 e he
  have rc : ∀ j, j < 6 → w1.cell? ⟨S.r e, i * 6 + j, none⟩ = x.c.cells[j]? := fun j hj => by rw [hbe.cell, crow_get HH.out.2.2.1 hj]
  have y0 := rc 0 (by decide)
  have y1 := rc 1 (by decide)
  have y2 := rc 2 (by decide)
  have y3 := rc 3 (by decide)
  have y4 := rc 4 (by decide)
  have y5 := rc 5 (by decide)
  simp only [Cp.cells, Nat.add_zero, List.getElem?_cons_zero, List.getElem?_cons_succ] at y0 y1 y2 y3 y4 y5
  have f0 := hbe.frozen (i * 6)
  have f1 := hbe.frozen (i * 6 + 1)
  have f2 := hbe.frozen (i * 6 + 2)
  have f3 := hbe.frozen (i * 6 + 3)
  have f4 := hbe.frozen (i * 6 + 4)
  have f5 := hbe.frozen (i * 6 + 5)
  have HF := Lib.hid (And.intro o2 (And.intro n2 (And.intro cr2 (And.intro cp2 (And.intro nm2 (And.intro hN1 (And.intro k2 hs2)))))))
  clear o2 n2 cr2 cp2 nm2 hN1 k2 hs2 hrow off offV hm2 hB2 hbe rc hcl pg c0 hgc
  go_wp2_with fail
  go_region
  clear x0 x1 x2 x3 x4 x5 y0 y1 y2 y3 y4 y5 f0 f1 f2 f3 f4 f5 d1 pgc
  obtain ⟨o2, n2, cr2, cp2, nm2, hN1, k2, hs2⟩ := HF.out
  have hbe := cp2 e he
  have hlt := HH.out.1
  obtain ⟨hS, _, hx, _⟩ := HH.out
  have k3 : Keep (· = S.r e) w1 ((((((w1.setCell ⟨S.r e, i * 6, none⟩ (.int .i64 c.obj)).setCell ⟨S.r e, i * 6 + 1, none⟩ (.int .i64 c.rights)).setCell ⟨S.r e, i * 6 + 2, none⟩ (.int .i64 c.lo)).setCell ⟨S.r e, i * 6 + 3, none⟩ (.int .i64 c.n)).setCell ⟨S.r e, i * 6 + 4, none⟩ (.int .i64 c.root.1)).setCell ⟨S.r e, i * 6 + 5, none⟩ (.int .i64 c.root.2)).drew :=
    (((((((Keep.refl (· = S.r e) w1).setCell _ _ (fun _ => rfl)).setCell _ _ (fun _ => rfl)).setCell _ _ (fun _ => rfl)).setCell _ _ (fun _ => rfl)).setCell _ _ (fun _ => rfl)).setCell _ _ (fun _ => rfl)).drew
  have hb6 := ((((((hbe.setCell (i * 6) (.int .i64 c.obj)).setCell (i * 6 + 1) (.int .i64 c.rights)).setCell (i * 6 + 2) (.int .i64 c.lo)).setCell (i * 6 + 3) (.int .i64 c.n)).setCell (i * 6 + 4) (.int .i64 c.root.1)).setCell (i * 6 + 5) (.int .i64 c.root.2)).drew
  rw [crow_set hx ⟨x.gen, true, c⟩] at hb6
  generalize ((((((w1.setCell ⟨S.r e, i * 6, none⟩ (.int .i64 c.obj)).setCell ⟨S.r e, i * 6 + 1, none⟩ (.int .i64 c.rights)).setCell ⟨S.r e, i * 6 + 2, none⟩ (.int .i64 c.lo)).setCell ⟨S.r e, i * 6 + 3, none⟩ (.int .i64 c.n)).setCell ⟨S.r e, i * 6 + 4, none⟩ (.int .i64 c.root.1)).setCell ⟨S.r e, i * 6 + 5, none⟩ (.int .i64 c.root.2)).drew = V at *
  have vb : ∀ {b : Nat} {t : TypeId} {cs : List Value}, Blk w1 b t cs → t ≠ 174 → Blk V b t cs := fun hb ht => hb.keep k3 (hb.ne_ hbe ht)
  have vv : ∀ {t sz n cap : Nat} {A : Option Addr} {xs : List Value}, Vec w1 t sz A n cap xs → t ≠ 174 → Vec V t sz A n cap xs := fun hv ht => hv.keep k3 (fun b hb e2 => by
    obtain ⟨cur, hc⟩ := hv.blk hb
    exact hc.ne_ hbe ht e2)
  have fin : IsDs V { S with T := up S.T e i ⟨x.gen, true, c⟩ } := by
    refine ⟨vb o2 (by decide), vv n2 (by decide), vv cr2 (by decide), fun j hj => ?_, fun j hj => ?_, hS.ainj, hS.rinj, fun j hj => by rw [up_len]; exact hS.t32 j hj, hS.n40⟩
    · by_cases hje : j = e
      · subst hje
        have e3 : List.map nq (up S.T j i ⟨x.gen, true, c⟩ j) = ((List.map nq (S.T j)).set i ⟨x.gen, true, []⟩) := by
          unfold up
          rw [if_pos rfl, List.map_set]
          rfl
        dsimp only
        rw [e3]
        exact ⟨vb hN1.obj (by decide), vv hN1.row (by decide), hN1.pl⟩
      · have e3 : up S.T e i ⟨x.gen, true, c⟩ j = S.T j := by unfold up; rw [if_neg hje]
        dsimp only
        rw [e3]
        have := nm2 j hj hje
        exact ⟨vb this.obj (by decide), vv this.row (by decide), this.pl⟩
    · by_cases hje : j = e
      · subst hje
        have e3 : up S.T j i ⟨x.gen, true, c⟩ j = (S.T j).set i ⟨x.gen, true, c⟩ := by unfold up; rw [if_pos rfl]
        dsimp only
        rw [e3]
        exact hb6
      · have e3 : up S.T e i ⟨x.gen, true, c⟩ j = S.T j := by unfold up; rw [if_neg hje]
        dsimp only
        rw [e3]
        exact (cp2 j hj).keep k3 (fun e2 => hje (hS.rinj j e hj he e2))
  have kk : Keep (AddM S e) w V := ((HK.out.mono (fun _ _ f => f.elim)).trans k2 (fun _ _ m => Or.inl m)).trans k3 (fun _ _ m => Or.inr m)
  have FF := Lib.hid (And.intro fin kk)
  clear fin kk k3 hb6 vb vv o2 n2 cr2 cp2 nm2 hN1 k2 hs2 hbe hlt hS hx
  go_wp2
  go_ret2
  exact ⟨rfl, FF.out.1, FF.out.2⟩
/-- What may be put: an environment that there is, rights and a range in bounds. -/
theorem put_is (h : IsDs w S) (e : Nat) (he : e < S.n) (c : Cp) (h1 : 0 ≤ c.rights ∧ c.rights ≤ 7) (h2 : 0 ≤ c.lo ∧ c.lo ≤ 65536) (h3 : 0 ≤ c.n ∧ c.n ≤ 65536) (i : Nat) (x : Q) (hx : (S.T e)[i]? = some x) (hf : (nq x).free = true) (hb : ∀ (j : Nat) (y : Q), j < i → (S.T e)[j]? = some y → (nq y).free = false) :
    Calls Tryz.prog 116 #[.pointer (some ⟨S.s, 0, none⟩), .int .i64 e, cval c] w fun e' w' => e' = .returned (.tuple #[.int .i64 (i + 256 * (x.gen : Int)), .int .i64 0]) ∧ IsDs w' { S with T := up S.T e i ⟨x.gen, true, ⟨c.obj, c.rights, c.lo, c.n, (0, 0)⟩⟩ } ∧ Keep (AddM S e) w w' := by
  have hadd := fun W (k : Keep Nob w W) => add_is (h.nob k) e he ⟨c.obj, c.rights, c.lo, c.n, (0, 0)⟩ i x hx hf hb
  have henv := fun W (k : Keep Nob w W) => env_is (h.nob k) e true (by simp [he])
  obtain ⟨a1, a2⟩ := h1
  obtain ⟨a3, a4⟩ := h2
  obtain ⟨a5, a6⟩ := h3
  unfold cval at hadd ⊢
  clear h hx hf hb
  dsimp only at hadd
  generalize c.obj = co at *
  generalize c.rights = cr at *
  generalize c.lo = cl at *
  generalize c.n = cn at *
  generalize c.root.1 = c4 at *
  generalize c.root.2 = c5 at *
  go_enter Tryz.func116, Tryz.ntmps116
  go_wp2_with fail
  refine (henv _ ((Keep.refl Nob w).alloc _)).mono ?_; rintro e' w1 ⟨rfl, rfl⟩
  go_wp2_with fail
  refine (hadd _ ((Keep.refl Nob w).alloc _)).mono ?_; rintro e' w2 ⟨rfl, h2, k2⟩
  have kk : Keep (AddM S e) w w2 := (((Keep.refl Nob w).alloc _).mono (fun _ _ f => f.elim)).trans k2 (fun _ _ m => m)
  clear hadd henv k2
  go_wp2
  go_ret2
  exact ⟨rfl, h2, kk⟩
theorem alC (W : World) : (Instr.alloc 174 true (.tuple #[])).run Tryz.prog W = .ok (.pointer (some ⟨W.heap.size, 0, none⟩)) (W.alloc (.cells zcap.cells.toArray 174)) := by
  go_simp
  rfl
theorem infoC_ : (Tryz.prog.info? 174).map (·.size) = some 6 := by kernel_rfl
theorem flatC : Co.Flat 174 6 zcap.cells := ⟨⟨_, Tryz.underlying174, rfl⟩, infoC_, alC, rfl⟩
theorem cellsC (c : Cp) : Co.Cells 6 c.cells := ⟨rfl, by intro v hv; simp [Cp.cells] at hv; rcases hv with rfl | rfl | rfl | rfl | rfl | rfl <;> rfl⟩
set_option maxRecDepth 100000 in
set_option maxHeartbeats 2000000 in
theorem get_yes (h : IsDs w S) {a b : Int} (c : Cp) (hc : Has S.T S.n (a, b) c) :
    Calls Tryz.prog 192 #[.pointer (some ⟨S.s, 0, none⟩), .int .i64 a, .int .i64 b] w fun e' w' => e' = .returned (.tuple #[cval c, .int .i64 0]) ∧ Keep Nob w w' := by
  obtain ⟨e, i, x, hab, he, hx, hon, rfl⟩ := hc
  simp only [Prod.mk.injEq] at hab
  obtain ⟨rfl, hb⟩ := hab
  have hi : i < 32 := by have := get_lt hx; rw [h.t32 e he] at this; exact this
  have hx' : ((S.T e).map nq)[i]? = some (nq x) := by rw [List.getElem?_map, hx]; rfl
  have hgen := (h.nm e he).pl.gen (nq x) (get_mem hx')
  have hgen : x.gen ≤ 1000001 := hgen
  have henv := fun W (k : Keep Nob w W) => env_is (h.nob k) e true (by simp [he])
  have hhas := fun W (k : Keep Nob w W) => Ref.has_yes (a := b) ((h.nm e he).nob k) hx' hon hb
  have hmod : b % 256 = i := by omega
  have hn40 := h.n40
  have H := Lib.hid h
  have sf := Lib.hid (fun W (k : Keep Nob w W) => And.intro ((h.nob k).obj.cell 0) (And.intro ((h.nob k).obj.cell 1) (And.intro (mk_at (h.nob k).nrow he) (And.intro (mk_at (h.nob k).cr he) (fun j (hj : j < 6) => (show W.cell? ⟨S.r e, i * 6 + j, none⟩ = x.c.cells[j]? from by rw [((h.nob k).cp e he).cell, crow_get hx hj]))))))
  clear h hx hx' hgen hon hb
  go_enter Tryz.func192, Tryz.ntmps192
  go_wp2_with (refine flatC.wpList_al rfl rfl ?_; intro w1 hb1 hk1 hs1; clear hs1)
  refine (henv _ hk1).mono ?_; rintro e' w2 ⟨rfl, rfl⟩
  obtain ⟨c0, c1, ⟨gn, hgn, pn⟩, ⟨gc, hgc, pc⟩, rc⟩ := sf.out _ hk1
  simp only [List.getElem?_cons_zero, List.getElem?_cons_succ] at c0 c1
  rw [hgn] at c0
  rw [hgc] at c1
  have y0 := rc 0 (by decide)
  have y1 := rc 1 (by decide)
  have y2 := rc 2 (by decide)
  have y3 := rc 3 (by decide)
  have y4 := rc 4 (by decide)
  have y5 := rc 5 (by decide)
  simp only [Cp.cells, Nat.add_zero, List.getElem?_cons_zero, List.getElem?_cons_succ] at y0 y1 y2 y3 y4 y5
  clear rc henv hgn hgc
  go_wp2_with fail
  refine (hhas _ hk1).mono ?_; rintro e' w2 ⟨rfl, rfl⟩
  clear hhas
  go_wp2_with (refine flatC.wpList_st rfl rfl rfl rfl (cellsC x.c) (cellsC zcap) hb1 ?_; intro w3 hb3 hk3 hs3; clear hs3)
  refine bodyPost_ret (v := .tuple #[.agg x.c.cells.toArray, .int .i64 0]) (flatC.results_pair rfl _ (cellsC x.c) rfl hb3 _ rfl) rfl ?_
  exact ⟨rfl, hk1.trans hk3 (fun b hb e2 => by have e2 : b = w.heap.size := e2; omega)⟩
set_option maxRecDepth 100000 in
set_option maxHeartbeats 2000000 in
theorem get_no (h : IsDs w S) {a b : Int} (hno : ∀ c, ¬ Has S.T S.n (a, b) c) :
    Calls Tryz.prog 192 #[.pointer (some ⟨S.s, 0, none⟩), .int .i64 a, .int .i64 b] w fun e' w' => e' = .returned (.tuple #[cval zcap, .int .i64 2]) ∧ Keep Nob w w' := by
  by_cases hin : 0 ≤ a ∧ a < S.n
  · obtain ⟨e, he0⟩ := Int.eq_ofNat_of_zero_le hin.1
    subst he0
    have he : e < S.n := by omega
    have henv := fun W (k : Keep Nob w W) => env_is (h.nob k) e true (by simp [he])
    have hhas := fun W (k : Keep Nob w W) => Ref.has_no (a := b) ((h.nm e he).nob k) (fun i q hq hon hb => by
      rw [List.getElem?_map] at hq
      obtain ⟨x, hx, rfl⟩ := Option.map_eq_some_iff.1 hq
      exact hno x.c ⟨e, i, x, by rw [hb]; rfl, he, hx, hon, rfl⟩)
    have hn40 := h.n40
    have sf := Lib.hid (fun W (k : Keep Nob w W) => And.intro ((h.nob k).obj.cell 0) (mk_at (h.nob k).nrow he))
    clear h hno hin
    go_enter Tryz.func192, Tryz.ntmps192
    go_wp2_with (refine flatC.wpList_al rfl rfl ?_; intro w1 hb1 hk1 hs1; clear hs1)
    refine (henv _ hk1).mono ?_; rintro e' w2 ⟨rfl, rfl⟩
    obtain ⟨c0, gn, hgn, pn⟩ := sf.out _ hk1
    simp only [List.getElem?_cons_zero, List.getElem?_cons_succ] at c0
    rw [hgn] at c0
    clear henv hgn
    go_wp2_with fail
    refine (hhas _ hk1).mono ?_; rintro e' w2 ⟨rfl, rfl⟩
    clear hhas
    go_wp2_with (refine flatC.wpList_st rfl rfl rfl rfl (cellsC zcap) (cellsC zcap) hb1 ?_; intro w3 hb3 hk3 hs3; clear hs3)
    refine bodyPost_ret (v := .tuple #[.agg zcap.cells.toArray, .int .i64 2]) (flatC.results_pair rfl _ (cellsC zcap) rfl hb3 _ rfl) rfl ?_
    exact ⟨rfl, hk1.trans hk3 (fun b hb e2 => by have e2 : b = w.heap.size := e2; omega)⟩
  · have henv := fun W (k : Keep Nob w W) => env_is (h.nob k) a false (by
      rw [Bool.eq_false_iff]
      intro hh
      simp at hh
      exact hin hh)
    clear h hno hin
    go_enter Tryz.func192, Tryz.ntmps192
    go_wp2_with (refine flatC.wpList_al rfl rfl ?_; intro w1 hb1 hk1 hs1; clear hs1)
    refine (henv _ hk1).mono ?_; rintro e' w2 ⟨rfl, rfl⟩
    go_wp2_with (refine flatC.wpList_st rfl rfl rfl rfl (cellsC zcap) (cellsC zcap) hb1 ?_; intro w3 hb3 hk3 hs3; clear hs3)
    refine bodyPost_ret (v := .tuple #[.agg zcap.cells.toArray, .int .i64 2]) (flatC.results_pair rfl _ (cellsC zcap) rfl hb3 _ rfl) rfl ?_
    exact ⟨rfl, hk1.trans hk3 (fun b hb e2 => by have e2 : b = w.heap.size := e2; omega)⟩
end
end Go.Proofs.YtifigjccokpcfaaGreat.Dk
namespace Go.Proofs.YtifigjccokpcfaaGreat.Pn
open Go.RowKit
set_option linter.unusedVariables false
set_option linter.unusedSimpArgs false
open Co (Src Link Cm Kc Ct)
theorem names_row {f : Q → Pl} (hf : ∀ q, (f q).on = q.on ∧ (f q).gen = q.gen) (l : List Cp) (hl : l.length ≤ 32) : ∀ k, k ≤ 32 → names ((rowQ l).map f) k = mk (min k l.length) fun i => (i : Int) + 256
  | 0, _ => by simp [names, mk]
  | k + 1, hk => by
    have ih := names_row hf l hl k (by omega)
    by_cases h : k < l.length
    · have hq : ((rowQ l).map f)[k]? = some (f ⟨1, true, l[k]⟩) := by rw [List.getElem?_map, rowQ_in (List.getElem?_eq_getElem h)]; rfl
      have h1 := hf ⟨1, true, l[k]⟩
      rw [names_on hq h1.1, h1.2, ih, show min k l.length = k by omega, show min (k + 1) l.length = k + 1 by omega, ← mk_succ]
      rfl
    · have hq : ((rowQ l).map f)[k]? = some (f ⟨1, false, zcap⟩) := by rw [List.getElem?_map, rowQ_out (by omega) (by omega)]; rfl
      rw [names_off hq (hf _).1, ih, show min k l.length = min (k + 1) l.length by omega]
theorem names_pl (l : List Cp) (hl : l.length ≤ 32) : names ((rowQ l).map Q.pl) (rowQ l).length = mk l.length fun i => (i : Int) + 256 := by
  rw [rowQ_len hl, names_row (fun _ => ⟨rfl, rfl⟩) l hl 32 (Nat.le_refl _), Nat.min_eq_right hl]
theorem names_nq (l : List Cp) (hl : l.length ≤ 32) : names ((rowQ l).map Dk.nq) (rowQ l).length = mk l.length fun i => (i : Int) + 256 := by
  rw [rowQ_len hl, names_row (fun _ => ⟨rfl, rfl⟩) l hl 32 (Nat.le_refl _), Nat.min_eq_right hl]
/-- The Caps that Shares give to a session. -/
def capsOf (ses : Int) : List Sh → Nat → List Cp
  | [], _ => []
  | s :: l, i => if ses ∈ s.tos then ⟨i, 3, 0, s.n, (0, 0)⟩ :: capsOf ses l (i + 1) else capsOf ses l (i + 1)
theorem capsOf_snoc (ses : Int) (s : Sh) : ∀ (l : List Sh) (i : Nat), capsOf ses (l ++ [s]) i = capsOf ses l i ++ (if ses ∈ s.tos then [⟨((i + l.length : Nat) : Int), 3, 0, s.n, (0, 0)⟩] else [])
  | [], i => by simp [capsOf]
  | x :: l, i => by
    have ih := capsOf_snoc ses s l (i + 1)
    rw [List.cons_append]
    unfold capsOf
    rw [ih, show i + 1 + l.length = i + (x :: l).length by simp; omega]
    split <;> simp
theorem csAt_caps {envs : List Int} {sh : List Sh} {e : Nat} (he : e < envs.length) : ∀ j, j ≤ sh.length → csAt envs sh j e = capsOf (envs.getD e 0) (sh.take j) 0
  | 0, _ => by simp [csAt, capsOf]
  | j + 1, hj => by
    have ih := csAt_caps (sh := sh) he j (Nat.le_of_succ_le hj)
    obtain ⟨s, hs⟩ : ∃ s, sh[j]? = some s := ⟨_, List.getElem?_eq_getElem (show j < sh.length by omega)⟩
    rw [csAt_next hs, List.take_add_one, hs]
    show gave _ _ _ _ _ _ = capsOf _ (sh.take j ++ [s]) 0
    have hl : (sh.take j).length = j := by rw [List.length_take]; omega
    rw [capsOf_snoc, ← ih, hl, Nat.zero_add]
    unfold gave
    by_cases m : envs.getD e 0 ∈ s.tos
    · rw [if_pos ⟨he, m⟩, if_pos m]
    · rw [if_neg (fun h => m h.2), if_neg m, List.append_nil]
/-- A Commons and its kernel, both made by the call. -/
structure Op0 (w W : World) (K : Kn) (C : Cm) (src : Src) : Prop where
  kc : Kc W K C src
  lo : ∀ x, Mine K x → w.heap.size ≤ x
  lb : w.heap.size ≤ C.b
  keep : Keep (From w.heap.size) w W
section
variable {w W W' : World} {K K' : Kn} {C C' : Cm} {src : Src}
theorem Op0.nob (h : Op0 w W K C src) (k : Keep Nob W W') : Op0 w W' K C src := ⟨h.kc.nob k, h.lo, h.lb, h.keep.nob k⟩
theorem Op0.ct (h : Op0 w W K C src) (t : Ct W K K' C C' src W') (hb : C'.b = C.b) : Op0 w W' K' C' src :=
  ⟨t.is, fun x m => (t.mine x m).elim (h.lo x) (fun e => by have := h.keep.size; omega), by rw [hb]; exact h.lb, h.keep.from_ t.keep (fun b m => m.elim (fun m => h.lo b (.inl m)) (fun e => by rw [e]; exact h.lb))⟩
theorem Op0.bytes {ys : List UInt8} (h : Op0 w W K C src) (t : To W K { K with xs := ys } W') : Op0 w W' { K with xs := ys } C src := h.ct (Ct.of_to h.kc t) rfl
theorem Op0.still (h : Op0 w W K C src) (t : To W K K W') : Op0 w W' K C src := h.ct (Ct.of_to' h.kc t) rfl
theorem Op0.done (h : Op0 w W K C src) : Below w.heap.size w W := h.keep.done
end
end Go.Proofs.YtifigjccokpcfaaGreat.Pn
namespace Go.Proofs.YtifigjccokpcfaaGreat.Dk
open Go.RowKit
set_option linter.unusedVariables false
set_option linter.unusedSimpArgs false
theorem infopN : (Tryz.prog.info? 288).map (fun i => (i.zero, i.size, i.bytes)) = some (some (.pointer none), 1, 8) := by kernel_rfl
theorem infosC : (Tryz.prog.info? 290).map (fun i => (i.zero, i.size, i.bytes)) = some (some (.slice none 0 0), 1, 24) := by kernel_rfl
theorem infoCap : (Tryz.prog.info? 174).map (fun i => (i.zero, i.size, i.bytes)) = some (some (.agg zcap.cells.toArray), 6, 48) := by kernel_rfl
def upn {α : Type} (f : Nat → α) (k : Nat) (x : α) : Nat → α := fun i => if i = k then x else f i
theorem upn_lt {α : Type} {f : Nat → α} {k : Nat} {x : α} {i : Nat} (h : i < k) : upn f k x i = f i := by unfold upn; rw [if_neg (by omega)]
theorem upn_self {α : Type} {f : Nat → α} {k : Nat} {x : α} : upn f k x k = x := by unfold upn; rw [if_pos rfl]
theorem mk_upn {f g : Nat → Value} {k : Nat} (h : ∀ i, i < k → g i = f i) (x : Value) (hx : g k = x) : mk k f ++ [x] = mk (k + 1) g := by
  rw [← mk_succ, hx, mk_congr h]
/-- A Space that is being made: so many Names, so many rows of Caps. -/
structure Part (w wx : World) (s : Nat) (AN : Option Addr) (cN : Nat) (AC : Option Addr) (cC : Nat) (q : Nat → Nat) (A : Nat → Option Addr) (ca r : Nat → Nat) (a b : Nat) : Prop where
  obj : Blk wx s 287 [.slice AN a cN, .slice AC b cC]
  nrow : Vec wx 288 1 AN a cN (mk a fun i => .pointer (some ⟨q i, 0, none⟩))
  cr : Vec wx 290 1 AC b cC (mk b fun i => .slice (some ⟨r i, 0, none⟩) 32 32)
  nm : ∀ i, i < a → Ref.IsNames wx (q i) (A i) (ca i) (List.replicate 32 ⟨1, false, []⟩)
  cp : ∀ i, i < b → Blk wx (r i) 174 (crow (init i))
  ainj : ∀ i j, i < a → j < a → i ≠ j → ∀ x, Own (A i) x → ¬ Own (A j) x
  rinj : ∀ i j, i < b → j < b → r i = r j → i = j
  ls : w.heap.size ≤ s
  ln : ∀ x, Own AN x → w.heap.size ≤ x
  lc : ∀ x, Own AC x → w.heap.size ≤ x
  lq : ∀ i, i < a → w.heap.size ≤ q i ∧ ∀ x, Own (A i) x → w.heap.size ≤ x
  lr : ∀ i, i < b → w.heap.size ≤ r i
  keep : Keep Nob w wx
section
variable {w wx W w2 : World} {s : Nat} {AN : Option Addr} {cN : Nat} {AC : Option Addr} {cC : Nat} {q : Nat → Nat} {A : Nat → Option Addr} {ca r : Nat → Nat} {a b : Nat}
theorem Part.nob (h : Part w wx s AN cN AC cC q A ca r a b) (k : Keep Nob wx W) : Part w W s AN cN AC cC q A ca r a b :=
  ⟨h.obj.nob k, h.nrow.nob k, h.cr.nob k, fun i hi => (h.nm i hi).nob k, fun i hi => (h.cp i hi).nob k, h.ainj, h.rinj, h.ls, h.ln, h.lc, h.lq, h.lr, h.keep.nobt k⟩
/-- One more Names. -/
theorem Part.name (h : Part w wx s AN cN AC cC q A ca r a b) (k : Keep Nob wx W) {q' : Nat} {A' : Option Addr} {ca' : Nat} (hn : Ref.IsNames W q' A' ca' (List.replicate 32 ⟨1, false, []⟩)) (hq : wx.heap.size ≤ q') (hA : ∀ x, Own A' x → wx.heap.size ≤ x)
    {A2 : Option Addr} {c2 : Nat} (hv : Vec w2 288 1 A2 (a + 1) c2 (YtifigjccokpcfaaGreat.mk a (fun i => .pointer (some ⟨q i, 0, none⟩)) ++ [.pointer (some ⟨q', 0, none⟩)])) (hk : Keep (Own AN) W w2) (ho : ∀ x, Own A2 x → Own AN x ∨ x = W.heap.size) :
    Part w (w2.setCell ⟨s, 0, none⟩ (.slice A2 (a + 1) c2)) s A2 c2 AC cC (upn q a q') (upn A a A') (upn ca a ca') r (a + 1) b := by
  have hW := h.nob k
  have offN : ∀ {x : Nat} {t : TypeId} {cs : List Value}, Blk W x t cs → t ≠ 288 → ¬ Own AN x := fun hb ht ho => by
    obtain ⟨cur, hc⟩ := hW.nrow.blk ho
    exact hb.ne_ hc ht rfl
  have o2 := hW.obj.keep hk (offN hW.obj (by decide))
  have k3 : Keep (· = s) w2 (w2.setCell ⟨s, 0, none⟩ (.slice A2 (a + 1) c2)) := (Keep.refl _ _).setCell _ _ (fun _ => rfl)
  have vb : ∀ {x : Nat} {t : TypeId} {cs : List Value}, Blk W x t cs → t ≠ 288 → t ≠ 287 → Blk (w2.setCell ⟨s, 0, none⟩ (.slice A2 (a + 1) c2)) x t cs := fun hb h1 h2 => by
    have b2 := hb.keep hk (offN hb h1)
    exact b2.keep k3 (b2.ne_ o2 h2)
  have vv : ∀ {t sz n cap : Nat} {B : Option Addr} {xs : List Value}, Vec W t sz B n cap xs → t ≠ 288 → t ≠ 287 → Vec (w2.setCell ⟨s, 0, none⟩ (.slice A2 (a + 1) c2)) t sz B n cap xs := fun hv h1 h2 => by
    have v2 := hv.keep hk (fun x hx => by obtain ⟨cur, hc⟩ := hv.blk hx; exact offN hc h1)
    exact v2.keep k3 (fun x hx e => by obtain ⟨cur, hc⟩ := v2.blk hx; exact hc.ne_ o2 h2 e)
  have hs := h.keep.size
  have kw := k.size
  refine ⟨?_, ?_, vv hW.cr (by decide) (by decide), fun i hi => ?_, fun i hi => vb (hW.cp i hi) (by decide) (by decide), fun i j hi hj hij x hx hy => ?_, h.rinj, h.ls, fun x hx => ?_, h.lc, fun i hi => ?_, h.lr, ?_⟩
  · exact o2.setCell 0 _
  · rw [mk_upn (g := fun i => .pointer (some ⟨upn q a q' i, 0, none⟩)) (fun i hi => by rw [upn_lt hi]) _ (by rw [upn_self])] at hv
    exact hv.keep k3 (fun x hx e => by obtain ⟨cur, hc⟩ := hv.blk hx; exact hc.ne_ o2 (by decide) e)
  · by_cases e : i = a
    · subst e
      rw [upn_self, upn_self, upn_self]
      exact ⟨vb hn.obj (by decide) (by decide), vv hn.row (by decide) (by decide), hn.pl⟩
    · rw [upn_lt (by omega), upn_lt (by omega), upn_lt (by omega)]
      have := hW.nm i (by omega)
      exact ⟨vb this.obj (by decide) (by decide), vv this.row (by decide) (by decide), this.pl⟩
  · by_cases e1 : i = a <;> by_cases e2 : j = a
    · omega
    · subst e1
      rw [upn_self] at hx
      rw [upn_lt (by omega)] at hy
      have := (h.nm j (by omega)).row.lt x hy
      have := hA x hx
      omega
    · subst e2
      rw [upn_self] at hy
      rw [upn_lt (by omega)] at hx
      have := (h.nm i (by omega)).row.lt x hx
      have := hA x hy
      omega
    · rw [upn_lt (by omega)] at hx hy
      exact h.ainj i j (by omega) (by omega) hij x hx hy
  · rcases ho x hx with hx | hx
    · exact h.ln x hx
    · omega
  · by_cases e : i = a
    · subst e
      rw [upn_self, upn_self]
      exact ⟨by omega, fun x hx => by have := hA x hx; omega⟩
    · rw [upn_lt (by omega), upn_lt (by omega)]
      exact h.lq i (by omega)
  · exact (hW.keep.trans hk (fun x hx m => by have := h.ln x m; omega)).trans k3 (fun x hx e => by have e : x = s := e; have := h.ls; omega)
/-- One more row of Caps. -/
theorem Part.caps (h : Part w wx s AN cN AC cC q A ca r a b) (k : Keep Nob wx W) {r' : Nat} (hn : Blk W r' 174 (crow (init b))) (hq : wx.heap.size ≤ r')
    {A2 : Option Addr} {c2 : Nat} (hv : Vec w2 290 1 A2 (b + 1) c2 (YtifigjccokpcfaaGreat.mk b (fun i => .slice (some ⟨r i, 0, none⟩) 32 32) ++ [.slice (some ⟨r', 0, none⟩) 32 32])) (hk : Keep (Own AC) W w2) (ho : ∀ x, Own A2 x → Own AC x ∨ x = W.heap.size) :
    Part w (w2.setCell ⟨s, 1, none⟩ (.slice A2 (b + 1) c2)) s AN cN A2 c2 q A ca (upn r b r') a (b + 1) := by
  have hW := h.nob k
  have offN : ∀ {x : Nat} {t : TypeId} {cs : List Value}, Blk W x t cs → t ≠ 290 → ¬ Own AC x := fun hb ht ho => by
    obtain ⟨cur, hc⟩ := hW.cr.blk ho
    exact hb.ne_ hc ht rfl
  have o2 := hW.obj.keep hk (offN hW.obj (by decide))
  have k3 : Keep (· = s) w2 (w2.setCell ⟨s, 1, none⟩ (.slice A2 (b + 1) c2)) := (Keep.refl _ _).setCell _ _ (fun _ => rfl)
  have vb : ∀ {x : Nat} {t : TypeId} {cs : List Value}, Blk W x t cs → t ≠ 290 → t ≠ 287 → Blk (w2.setCell ⟨s, 1, none⟩ (.slice A2 (b + 1) c2)) x t cs := fun hb h1 h2 => by
    have b2 := hb.keep hk (offN hb h1)
    exact b2.keep k3 (b2.ne_ o2 h2)
  have vv : ∀ {t sz n cap : Nat} {B : Option Addr} {xs : List Value}, Vec W t sz B n cap xs → t ≠ 290 → t ≠ 287 → Vec (w2.setCell ⟨s, 1, none⟩ (.slice A2 (b + 1) c2)) t sz B n cap xs := fun hv h1 h2 => by
    have v2 := hv.keep hk (fun x hx => by obtain ⟨cur, hc⟩ := hv.blk hx; exact offN hc h1)
    exact v2.keep k3 (fun x hx e => by obtain ⟨cur, hc⟩ := v2.blk hx; exact hc.ne_ o2 h2 e)
  have hs := h.keep.size
  have kw := k.size
  refine ⟨?_, vv hW.nrow (by decide) (by decide), ?_, fun i hi => ⟨vb (hW.nm i hi).obj (by decide) (by decide), vv (hW.nm i hi).row (by decide) (by decide), (hW.nm i hi).pl⟩, fun i hi => ?_, h.ainj, fun i j hi hj e => ?_, h.ls, h.ln, fun x hx => ?_, h.lq, fun i hi => ?_, ?_⟩
  · exact o2.setCell 1 _
  · rw [mk_upn (g := fun i => .slice (some ⟨upn r b r' i, 0, none⟩) 32 32) (fun i hi => by rw [upn_lt hi]) _ (by rw [upn_self])] at hv
    exact hv.keep k3 (fun x hx e => by obtain ⟨cur, hc⟩ := hv.blk hx; exact hc.ne_ o2 (by decide) e)
  · by_cases e : i = b
    · subst e
      rw [upn_self]
      exact vb hn (by decide) (by decide)
    · rw [upn_lt (by omega)]
      exact vb (hW.cp i (by omega)) (by decide) (by decide)
  · by_cases e1 : i = b <;> by_cases e2 : j = b
    · omega
    · subst e1
      rw [upn_self, upn_lt (by omega)] at e
      have := (h.cp j (by omega)).lt
      omega
    · subst e2
      rw [upn_self, upn_lt (by omega)] at e
      have := (h.cp i (by omega)).lt
      omega
    · rw [upn_lt (by omega), upn_lt (by omega)] at e
      exact h.rinj i j (by omega) (by omega) e
  · rcases ho x hx with hx | hx
    · exact h.lc x hx
    · omega
  · by_cases e : i = b
    · subst e
      rw [upn_self]
      omega
    · rw [upn_lt (by omega)]
      exact h.lr i (by omega)
  · exact (hW.keep.trans hk (fun x hx m => by have := h.lc x m; omega)).trans k3 (fun x hx e => by have e : x = s := e; have := h.ls; omega)
theorem Part.done {n : Nat} (h : Part w wx s AN cN AC cC q A ca r n n) (hn : n ≤ 40) : IsDs wx ⟨s, n, AN, cN, AC, cC, q, A, ca, r, init⟩ :=
  ⟨h.obj, h.nrow, h.cr, fun i hi => by
    have := h.nm i hi
    have e : (init i).map nq = List.replicate 32 ⟨1, false, []⟩ := by simp [init, nq]
    dsimp only
    rw [e]
    exact this, h.cp, h.ainj, h.rinj, fun i _ => by simp [init], hn⟩
end
/-- A Space that a call has made. -/
def MadeS (n : Nat) (w : World) (e : Ending) (w' : World) : Prop := ∃ S, e = .returned (.pointer (some ⟨S.s, 0, none⟩)) ∧ IsDs w' S ∧ S.n = n ∧ S.T = init ∧ (∀ b, S.Mine b → w.heap.size ≤ b) ∧ Keep Nob w w'
theorem init_cells : ∃ Z : Array Value, Z.toList = crow (init 0) ∧ ∀ W : World, (Instr.makeSlice 290 (.int .i64 32) (.int .i64 32)).run Tryz.prog W = .ok (.slice (some ⟨W.heap.size, 0, none⟩) 32 32) (W.alloc (.cells Z 174)) := by
  obtain ⟨i, hi, hzz⟩ := Option.map_eq_some_iff.1 infoCap
  simp only [Prod.mk.injEq] at hzz
  obtain ⟨hz, hs, hby⟩ := hzz
  refine ⟨madeCells (Value.agg zcap.cells.toArray).cells (32 * 6), ?_, fun W => ?_⟩
  · have := madeCells_flat (Value.agg zcap.cells.toArray).cells 32
    have e : (Value.agg zcap.cells.toArray).cells.size = 6 := by simp [Value.cells, zcap, Cp.cells]
    rw [e] at this
    rw [this]
    simp [crow, init, Value.cells, zcap, Cp.cells]
  · have hrun := run_make (P := Tryz.prog) W 290 174 i _ Tryz.underlying290 hi hz .i64 .i64 32 32 (by omega) (by omega) (by rw [hby]; omega) (by omega)
    rw [hs] at hrun
    exact hrun
set_option maxRecDepth 100000 in
set_option maxHeartbeats 2000000 in
theorem space_is (n : Nat) (hn : n ≤ 40) (w : World) : Calls Tryz.prog 112 #[.int .i64 n] w (MadeS n w) := by
  obtain ⟨Z, hZ, hmk⟩ := init_cells
  have hnn := fun W => Ref.new_is 32 32 (by decide) W
  have hst : Part w (w.alloc (.cells #[.slice none 0 0, .slice none 0 0] 287)) w.heap.size none 0 none 0 (fun _ => 0) (fun _ => none) (fun _ => 0) (fun _ => 0) 0 0 :=
    ⟨Blk.new w 287 [.slice none 0 0, .slice none 0 0], Vec.nil _ _ _, Vec.nil _ _ _, fun i hi => by omega, fun i hi => by omega, fun i j hi => by omega, fun i j hi => by omega, Nat.le_refl _, fun x ⟨ad, e, _⟩ => (by cases e), fun x ⟨ad, e, _⟩ => (by cases e), fun i hi => by omega, fun i hi => by omega, (Keep.refl Nob w).alloc _⟩
  have HS := Lib.hid hst
  clear hst
  go_enter Tryz.func112, Tryz.ntmps112
  go_wp2_with fail
  go_loopw [4] (fun s4 wx => ∃ (k : Nat) (AN : Option Addr) (cN : Nat) (AC : Option Addr) (cC : Nat) (q : Nat → Nat) (A : Nat → Option Addr) (ca r : Nat → Nat), k ≤ n ∧ s4 = .int .i64 k ∧ Part w wx w.heap.size AN cN AC cC q A ca r k k) (fun s4 _ => n - (intOf s4).toNat)
  case atStart => exact ⟨0, _, _, _, _, _, _, _, _, Nat.zero_le _, rfl, HS.out⟩
  case round =>
    obtain ⟨k, AN, cN, AC, cC, q, A, ca, r, hk, rfl, hP⟩ := hrel
    by_cases hlt : k < n
    · have hk40 : (k : Int) < 40 := by omega
      have c0 := hP.obj.cell 0
      simp only [List.getElem?_cons_zero, List.getElem?_cons_succ] at c0
      have kd := (Keep.refl Nob wr).drew
      have q0 : wr.drew.cell? ⟨w.heap.size, 0, none⟩ = some (.slice AN k cN) := c0
      have HP := Lib.hid hP
      have sf := Lib.hid (fun W (kk : Keep Nob wr W) => (show W.cell? ⟨w.heap.size, 0, none⟩ = some (.slice AN k cN) from (hP.nob kk).obj.cell 0))
      clear hP
      go_wp2_with fail
      go_region_law (first
        | (go_simp; go_at_call 187; refine (hnn _).mono ?_; rintro e wa ⟨q', A', ca', rfl, hN, hq', hA', kN⟩; have ka := kd.trans kN (fun _ _ f => f); have q1 := sf.out _ ka; have kx := ka.alloc (.cells #[.pointer (some ⟨q', 0, none⟩)] 288); have q2 := sf.out _ kx; have hv1 := (HP.out.nob kx).nrow; have hr1 := reads_all (n := 1) (Blk.new wa 288 [.pointer (some ⟨q', 0, none⟩)]) rfl)
        | (refine Qu.step_ap (by rfl) _ _ 284 (by rfl) 288 1 8 (.pointer none) Tryz.underlying284 infopN (by rfl) (by decide) AN k cN _ (by rfl) hv1 (some ⟨wa.heap.size, 0, none⟩) 1 1 [.pointer (some ⟨q', 0, none⟩)] (by rfl) 1 (by rfl) hr1 (by simp [Value.oneCell']) (by unfold maxLen; omega) (by omega) ?_; intro A2 c2 w2 hv2 hk2 ho2; have o2 := ((HP.out.nob kx).obj).keep hk2 (fun ho => by obtain ⟨cur, hc⟩ := (HP.out.nob kx).nrow.blk ho; exact (HP.out.nob kx).obj.ne_ hc (by decide) rfl); have z0 := o2.cell 0; have f0 := o2.frozen 0; simp only [List.getElem?_cons_zero, List.getElem?_cons_succ] at z0))
      all_goals
        have P5 := HP.out.name kx (hN.nob ((Keep.refl Nob wa).alloc _)) hq' hA' hv2 hk2 ho2
        clear hv2 hk2 ho2 o2 z0 f0 hv1 hr1 q1 q2 q0 ka kx kN hN hq' hA' HP sf kd c0
        generalize w2.setCell ⟨w.heap.size, 0, none⟩ (.slice A2 (k + 1) c2) = W5 at *
        have kd := (Keep.refl Nob W5).drew
        have HP := Lib.hid P5
        have sf := Lib.hid (fun W (kk : Keep Nob W5 W) => (show W.cell? ⟨w.heap.size, 1, none⟩ = some (.slice AC k cC) from (P5.nob kk).obj.cell 1))
        have q0 := sf.out _ (Keep.refl Nob W5)
        have q1 := sf.out _ ((Keep.refl Nob W5).alloc (.cells Z 174))
        have q2 := sf.out _ (((Keep.refl Nob W5).alloc (.cells Z 174)).alloc (.cells #[.slice (some ⟨W5.heap.size, 0, none⟩) 32 32] 290))
        have kx : Keep Nob W5 ((W5.drew.alloc (.cells Z 174)).alloc (.cells #[.slice (some ⟨W5.heap.size, 0, none⟩) 32 32] 290)) := (kd.alloc _).alloc _
        have hv1 := (P5.nob kx).cr
        have hr1 : Reads ((W5.drew.alloc (.cells Z 174)).alloc (.cells #[.slice (some ⟨W5.heap.size, 0, none⟩) 32 32] 290)) (some ⟨W5.heap.size + 1, 0, none⟩) 1 [.slice (some ⟨W5.heap.size, 0, none⟩) 32 32] := by
          have := reads_all (n := 1) (Blk.new (W5.drew.alloc (.cells Z 174)) 290 [.slice (some ⟨W5.heap.size, 0, none⟩) 32 32]) rfl
          simpa using this
        have hZb : Blk ((W5.drew.alloc (.cells Z 174)).alloc (.cells #[.slice (some ⟨W5.heap.size, 0, none⟩) 32 32] 290)) W5.heap.size 174 (crow (init k)) := by
          have := (Blk.new W5.drew 174 Z.toList).alloc (.cells #[.slice (some ⟨W5.heap.size, 0, none⟩) 32 32] 290)
          rw [Array.toArray_toList, hZ] at this
          exact this
        have HZ := Lib.hid hZb
        clear P5 hZb
        go_wp2_with fail
        go_region_law ((refine Qu.step_ap (by rfl) _ _ 285 (by rfl) 290 1 24 (.slice none 0 0) Tryz.underlying285 infosC (by rfl) (by decide) AC k cC _ (by rfl) hv1 (some ⟨W5.heap.size + 1, 0, none⟩) 1 1 [.slice (some ⟨W5.heap.size, 0, none⟩) 32 32] (by rfl) 1 (by rfl) hr1 (by simp [Value.oneCell']) (by unfold maxLen; omega) (by omega) ?_; intro A3 c3 w3 hv3 hk3 ho3; have o3 := ((HP.out.nob kx).obj).keep hk3 (fun ho => by obtain ⟨cur, hc⟩ := (HP.out.nob kx).cr.blk ho; exact (HP.out.nob kx).obj.ne_ hc (by decide) rfl); have z1 := o3.cell 1; have f1 := o3.frozen 1; simp only [List.getElem?_cons_zero, List.getElem?_cons_succ] at z1))
        all_goals
          have P6 := Lib.hid (HP.out.caps kx HZ.out (Nat.le_refl _) hv3 hk3 ho3)
          clear hv3 hk3 ho3 o3 z1 f1 hv1 hr1 q0 q1 q2 kx HP sf kd HZ
          go_wp2
          go_roundw
          case rel => exact ⟨k + 1, _, _, _, _, _, _, _, _, by omega, by go_num, P6.out⟩
          case measure => simp [intOf]; omega
    · have e : k = n := by omega
      have hD := hP.done (by omega)
      have HD := Lib.hid (show MadeS n w (.returned (.pointer (some ⟨w.heap.size, 0, none⟩))) wr from ⟨_, rfl, hD, e, rfl, (by
        rintro b (rfl | hb | hb | ⟨i, hi, rfl | hb | rfl⟩)
        · exact hP.ls
        · exact hP.ln b hb
        · exact hP.lc b hb
        · exact (hP.lq i hi).1
        · exact (hP.lq i hi).2 b hb
        · exact hP.lr i hi), hP.keep⟩)
      clear hP hD
      go_wp2
      go_ret
      exact HD.out
end Go.Proofs.YtifigjccokpcfaaGreat.Dk
namespace Go.Proofs.YtifigjccokpcfaaGreat.Dk
open Go.RowKit
set_option linter.unusedVariables false
set_option linter.unusedSimpArgs false
/-- Regions: bytes, ranges of them, and the Space. -/
structure Dr where
  r : Nat
  m : Nat
  xs : List UInt8
  Al : Option Addr
  cl : Nat
  An : Option Addr
  cn : Nat
  L : List Rf
  S : Ds
structure IsDr (w : World) (R : Dr) : Prop where
  obj : Blk w R.r 145 [.slice (some ⟨R.m, 0, none⟩) R.xs.length R.xs.length, .slice R.Al R.L.length R.cl, .slice R.An R.L.length R.cn, .pointer (some ⟨R.S.s, 0, none⟩)]
  mem : Blk w R.m 5 (bytes R.xs)
  lo : Vec w 3 1 R.Al R.L.length R.cl (ints (R.L.map (·.1)))
  nn : Vec w 3 1 R.An R.L.length R.cn (ints (R.L.map (·.2)))
  sp : IsDs w R.S
  inv : Inv R.S.T R.S.n
  ok : ∀ x ∈ R.L, 0 ≤ x.1 ∧ 0 ≤ x.2 ∧ x.1 + x.2 ≤ R.xs.length
  len : R.xs.length ≤ 16384
  few : R.L.length ≤ 32
  dis : ∀ x, Own R.Al x → ¬ Own R.An x
def Dr.Mine (R : Dr) : Nat → Prop := fun b => b = R.r ∨ b = R.m ∨ Own R.Al b ∨ Own R.An b ∨ R.S.Mine b
section
variable {w w' : World} {R : Dr} {M : Nat → Prop}
theorem IsDr.keep (h : IsDr w R) (k : Keep M w w') (hd : ∀ b, R.Mine b → ¬ M b) : IsDr w' R :=
  ⟨h.obj.keep k (hd _ (.inl rfl)), h.mem.keep k (hd _ (.inr (.inl rfl))), h.lo.keep k (fun g hg => hd _ (.inr (.inr (.inl hg)))), h.nn.keep k (fun g hg => hd _ (.inr (.inr (.inr (.inl hg))))), h.sp.keep k (fun b hb => hd _ (.inr (.inr (.inr (.inr hb))))), h.inv, h.ok, h.len, h.few, h.dis⟩
theorem IsDr.nob (h : IsDr w R) (k : Keep Nob w w') : IsDr w' R := h.keep k (fun _ _ f => f)
theorem IsDr.lt (h : IsDr w R) : ∀ b, R.Mine b → b < w.heap.size := by
  rintro b (rfl | rfl | hb | hb | hb)
  · exact h.obj.lt
  · exact h.mem.lt
  · exact h.lo.lt b hb
  · exact h.nn.lt b hb
  · exact h.sp.lt b hb
theorem wq {w : World} {n : Nat} (v : Bool) (a k z : Int) (h0 : 0 ≤ z) (h1 : z ≤ 1000000) (hv : decide (0 ≤ a ∧ 0 ≤ k ∧ a + k ≤ z) = v) : Calls Tryz.prog 188 #[.int .i64 a, .int .i64 k, .int .i64 z] (w.drewN n) fun e w'' => e = .returned (.bool v) ∧ ∃ m, w'' = w.drewN m :=
  (Cd.within_is v a k z _ h0 h1 hv).mono fun _ _ ⟨he, hm⟩ => ⟨he, n, hm.symm⟩
theorem wq2 {w : World} {n q : Nat} (v : Bool) (a k z : Int) (h0 : 0 ≤ z) (h1 : z ≤ 1000000) (hv : decide (0 ≤ a ∧ 0 ≤ k ∧ a + k ≤ z) = v) : Calls Tryz.prog 188 #[.int .i64 a, .int .i64 k, .int .i64 z] (w.drewN (n + q)) fun e w'' => e = .returned (.bool v) ∧ ∃ m, w'' = w.drewN (n + m) :=
  (Cd.within_is v a k z _ h0 h1 hv).mono fun _ _ ⟨he, hm⟩ => ⟨he, q, hm.symm⟩
theorem lo_at {w : World} {A : Option Addr} {n c : Nat} {l : List Int} (h : Vec w 3 1 A n c (ints l)) {i : Nat} (hi : i < n) (v : Int) (hv : l[i]? = some v) : ∃ g, A = some ⟨g, 0, none⟩ ∧ w.cell? ⟨g, i, none⟩ = some (.int .i64 v) := by
  obtain ⟨g, cur, hA, hb, _, hc, ht⟩ := h.at_ (by omega)
  refine ⟨g, hA, ?_⟩
  rw [hb.cell]
  have e1 : (cur.take (n * 1))[i]? = (ints l)[i]? := by rw [ht]
  rw [List.getElem?_take, if_pos (by omega), ints_get, hv] at e1
  exact e1
set_option maxRecDepth 100000 in
set_option maxHeartbeats 8000000 in
theorem place_nocap (h : IsDr w R) {env name right at_ k : Int} (hn : ∀ c, ¬ Has R.S.T R.S.n (env, name) c) :
    Calls Tryz.prog 191 #[.pointer (some ⟨R.r, 0, none⟩), .int .i64 env, .int .i64 name, .int .i64 right, .int .i64 at_, .int .i64 k] w fun e w' => e = .returned (.tuple #[.int .i64 0, .int .i64 2]) ∧ Keep Nob w w' := by
  have ho : w.cell? ⟨R.r, 3, none⟩ = some (.pointer (some ⟨R.S.s, 0, none⟩)) := h.obj.cell 3
  go_enter Tryz.func191, Tryz.ntmps191
  go_wp2_with fail
  refine (get_no h.sp hn).mono ?_; rintro e w1 ⟨rfl, k1⟩
  unfold cval zcap
  go_wp2
  go_ret2
  exact ⟨rfl, k1.alloc _⟩
set_option maxRecDepth 100000 in
set_option maxHeartbeats 8000000 in
theorem place_noright (h : IsDr w R) {env name right at_ k : Int} (c : Cp) (hc : Has R.S.T R.S.n (env, name) c) (hb : (bits .and .i64 c.rights right == 0) = true) :
    Calls Tryz.prog 191 #[.pointer (some ⟨R.r, 0, none⟩), .int .i64 env, .int .i64 name, .int .i64 right, .int .i64 at_, .int .i64 k] w fun e w' => e = .returned (.tuple #[.int .i64 0, .int .i64 3]) ∧ Keep Nob w w' := by
  have ho : w.cell? ⟨R.r, 3, none⟩ = some (.pointer (some ⟨R.S.s, 0, none⟩)) := h.obj.cell 3
  go_enter Tryz.func191, Tryz.ntmps191
  go_wp2_with fail
  refine (get_yes h.sp c hc).mono ?_; rintro e w1 ⟨rfl, k1⟩
  unfold cval
  go_wp2
  go_ret2
  exact ⟨rfl, k1.alloc _⟩
end
end Go.Proofs.YtifigjccokpcfaaGreat.Dk
namespace Go.Proofs.YtifigjccokpcfaaGreat.Dk
open Go.RowKit
set_option linter.unusedVariables false
set_option linter.unusedSimpArgs false
section
variable {w w' : World} {R : Dr}
set_option maxRecDepth 100000 in
set_option maxHeartbeats 8000000 in
theorem place_far (h : IsDr w R) {env name right at_ k : Int} (c : Cp) (hc : Has R.S.T R.S.n (env, name) c) (hb : (bits .and .i64 c.rights right == 0) = false) (hpart : ¬ (0 ≤ at_ ∧ 0 ≤ k ∧ at_ + k ≤ c.n)) :
    Calls Tryz.prog 191 #[.pointer (some ⟨R.r, 0, none⟩), .int .i64 env, .int .i64 name, .int .i64 right, .int .i64 at_, .int .i64 k] w fun e w' => e = .returned (.tuple #[.int .i64 0, .int .i64 1]) ∧ Keep Nob w w' := by
  have ho : w.cell? ⟨R.r, 3, none⟩ = some (.pointer (some ⟨R.S.s, 0, none⟩)) := h.obj.cell 3
  have hcc := h.inv.cap _ _ hc
  go_enter Tryz.func191, Tryz.ntmps191
  go_wp2_with fail
  refine (get_yes h.sp c hc).mono ?_; rintro e w1 ⟨rfl, k1⟩
  unfold cval
  have kA := k1.alloc (.cells #[.int .i64 c.obj, .int .i64 c.rights, .int .i64 c.lo, .int .i64 c.n, .int .i64 c.root.1, .int .i64 c.root.2] 174)
  have hA := h.nob kA
  have d1 : (w1.alloc (.cells #[.int .i64 c.obj, .int .i64 c.rights, .int .i64 c.lo, .int .i64 c.n, .int .i64 c.root.1, .int .i64 c.root.2] 174)).cell? ⟨R.r, 1, none⟩ = some (.slice R.Al R.L.length R.cl) := hA.obj.cell 1
  have d2 : (w1.alloc (.cells #[.int .i64 c.obj, .int .i64 c.rights, .int .i64 c.lo, .int .i64 c.n, .int .i64 c.root.1, .int .i64 c.root.2] 174)).cell? ⟨R.r, 2, none⟩ = some (.slice R.An R.L.length R.cn) := hA.obj.cell 2
  have hfew := h.few
  have hcn : 0 ≤ c.n ∧ c.n ≤ 131072 := by omega
  have hv0 : decide (0 ≤ at_ ∧ 0 ≤ k ∧ at_ + k ≤ c.n) = false := decide_eq_false hpart
  have HV0 := Lib.hid hv0
  have HKA := Lib.hid kA
  have hbC := Blk.new w1 174 [.int .i64 c.obj, .int .i64 c.rights, .int .i64 c.lo, .int .i64 c.n, .int .i64 c.root.1, .int .i64 c.root.2]
  have b3 := hbC.cell 3
  simp only [List.getElem?_cons_zero, List.getElem?_cons_succ] at b3
  clear hbC hpart hv0 hcc hc kA hA h k1 d2 d1
  generalize c.lo = clo at *
  generalize c.n = cn at *
  generalize c.rights = cr at *
  generalize c.root.1 = c4 at *
  generalize c.root.2 = c5 at *
  generalize c.obj = co at *
  go_wp2_with fail
  generalize hW : w1.alloc (.cells #[.int .i64 co, .int .i64 cr, .int .i64 clo, .int .i64 cn, .int .i64 c4, .int .i64 c5] 174) = W at *
  clear hW
  go_quiet (first | (go_at_call 188; exact wq false _ _ _ (by omega) (by omega) HV0.out))
  go_wp2
  go_ret2
  exact ⟨rfl, HKA.out.drewN _⟩
end
end Go.Proofs.YtifigjccokpcfaaGreat.Dk
namespace Go.Proofs.YtifigjccokpcfaaGreat.Dk
open Go.RowKit
set_option linter.unusedVariables false
set_option linter.unusedSimpArgs false
section
variable {w w' : World} {R : Dr}
set_option maxRecDepth 100000 in
set_option maxHeartbeats 8000000 in
theorem place_obj (h : IsDr w R) {env name right at_ k : Int} (c : Cp) (hc : Has R.S.T R.S.n (env, name) c) (hb : (bits .and .i64 c.rights right == 0) = false) (hpart : 0 ≤ at_ ∧ 0 ≤ k ∧ at_ + k ≤ c.n) (hobj : ¬ (0 ≤ c.obj ∧ c.obj < R.L.length)) :
    Calls Tryz.prog 191 #[.pointer (some ⟨R.r, 0, none⟩), .int .i64 env, .int .i64 name, .int .i64 right, .int .i64 at_, .int .i64 k] w fun e w' => e = .returned (.tuple #[.int .i64 0, .int .i64 1]) ∧ Keep Nob w w' := by
  have ho : w.cell? ⟨R.r, 3, none⟩ = some (.pointer (some ⟨R.S.s, 0, none⟩)) := h.obj.cell 3
  have hcc := h.inv.cap _ _ hc
  go_enter Tryz.func191, Tryz.ntmps191
  go_wp2_with fail
  refine (get_yes h.sp c hc).mono ?_; rintro e w1 ⟨rfl, k1⟩
  unfold cval
  have kA := k1.alloc (.cells #[.int .i64 c.obj, .int .i64 c.rights, .int .i64 c.lo, .int .i64 c.n, .int .i64 c.root.1, .int .i64 c.root.2] 174)
  have hA := h.nob kA
  have d1 : (w1.alloc (.cells #[.int .i64 c.obj, .int .i64 c.rights, .int .i64 c.lo, .int .i64 c.n, .int .i64 c.root.1, .int .i64 c.root.2] 174)).cell? ⟨R.r, 1, none⟩ = some (.slice R.Al R.L.length R.cl) := hA.obj.cell 1
  have d2 : (w1.alloc (.cells #[.int .i64 c.obj, .int .i64 c.rights, .int .i64 c.lo, .int .i64 c.n, .int .i64 c.root.1, .int .i64 c.root.2] 174)).cell? ⟨R.r, 2, none⟩ = some (.slice R.An R.L.length R.cn) := hA.obj.cell 2
  have hfew := h.few
  have hobj' : c.obj < 0 ∨ (0 ≤ c.obj ∧ (R.L.length : Int) ≤ c.obj) := by omega
  obtain ⟨q1, q2, q3⟩ := hpart
  have hcn : 0 ≤ c.n ∧ c.n ≤ 131072 := by omega
  have HKA := Lib.hid kA
  have hbC := Blk.new w1 174 [.int .i64 c.obj, .int .i64 c.rights, .int .i64 c.lo, .int .i64 c.n, .int .i64 c.root.1, .int .i64 c.root.2]
  have b0 := hbC.cell 0
  have b3 := hbC.cell 3
  simp only [List.getElem?_cons_zero, List.getElem?_cons_succ] at b0 b3
  clear hbC hobj hcc hc kA hA h k1 d2
  generalize c.lo = clo at *
  generalize c.n = cn at *
  generalize c.rights = cr at *
  generalize c.root.1 = c4 at *
  generalize c.root.2 = c5 at *
  generalize c.obj = co at *
  go_wp2_with fail
  generalize hW : w1.alloc (.cells #[.int .i64 co, .int .i64 cr, .int .i64 clo, .int .i64 cn, .int .i64 c4, .int .i64 c5] 174) = W at *
  clear hW
  rcases hobj' with hlo | ⟨hlo, hhi⟩
  all_goals
    go_quiet (first | (go_at_call 188; exact wq true _ _ _ (by omega) (by omega) (by simp; omega)))
    go_wp2
    go_ret2
    exact ⟨rfl, HKA.out.drewN _⟩
end
end Go.Proofs.YtifigjccokpcfaaGreat.Dk
namespace Go.Proofs.YtifigjccokpcfaaGreat.Dk
open Go.RowKit
set_option linter.unusedVariables false
set_option linter.unusedSimpArgs false
section
variable {w w' : World} {R : Dr}
set_option maxRecDepth 100000 in
set_option maxHeartbeats 8000000 in
theorem place_lo (h : IsDr w R) {env name right at_ k : Int} (c : Cp) (hc : Has R.S.T R.S.n (env, name) c) (hb : (bits .and .i64 c.rights right == 0) = false) (hpart : 0 ≤ at_ ∧ 0 ≤ k ∧ at_ + k ≤ c.n) (hobj : 0 ≤ c.obj ∧ c.obj < R.L.length) (x : Rf) (hx : R.L[c.obj.toNat]? = some x) (hv1 : decide (0 ≤ c.lo ∧ 0 ≤ at_ ∧ c.lo + at_ ≤ x.2) = false) :
    Calls Tryz.prog 191 #[.pointer (some ⟨R.r, 0, none⟩), .int .i64 env, .int .i64 name, .int .i64 right, .int .i64 at_, .int .i64 k] w fun e w' => e = .returned (.tuple #[.int .i64 0, .int .i64 1]) ∧ Keep Nob w w' := by
  have ho : w.cell? ⟨R.r, 3, none⟩ = some (.pointer (some ⟨R.S.s, 0, none⟩)) := h.obj.cell 3
  have hcc := h.inv.cap _ _ hc
  go_enter Tryz.func191, Tryz.ntmps191
  go_wp2_with fail
  refine (get_yes h.sp c hc).mono ?_; rintro e w1 ⟨rfl, k1⟩
  unfold cval
  have kA := k1.alloc (.cells #[.int .i64 c.obj, .int .i64 c.rights, .int .i64 c.lo, .int .i64 c.n, .int .i64 c.root.1, .int .i64 c.root.2] 174)
  have hA := h.nob kA
  have d1 : (w1.alloc (.cells #[.int .i64 c.obj, .int .i64 c.rights, .int .i64 c.lo, .int .i64 c.n, .int .i64 c.root.1, .int .i64 c.root.2] 174)).cell? ⟨R.r, 1, none⟩ = some (.slice R.Al R.L.length R.cl) := hA.obj.cell 1
  have d2 : (w1.alloc (.cells #[.int .i64 c.obj, .int .i64 c.rights, .int .i64 c.lo, .int .i64 c.n, .int .i64 c.root.1, .int .i64 c.root.2] 174)).cell? ⟨R.r, 2, none⟩ = some (.slice R.An R.L.length R.cn) := hA.obj.cell 2
  have hfew := h.few
  obtain ⟨i, hi⟩ := Int.eq_ofNat_of_zero_le hobj.1
  have hil : i < R.L.length := by omega
  rw [hi, Int.toNat_natCast] at hx
  have hok := h.ok x (List.mem_of_getElem? hx)
  have hml := h.len
  obtain ⟨g, hg, e1⟩ := lo_at hA.nn hil x.2 (by rw [List.getElem?_map, hx]; rfl)
  rw [hg] at d2
  have HX := Lib.hid hok
  have HKA := Lib.hid kA
  obtain ⟨q1, q2, q3⟩ := hpart
  have hx2 : 0 ≤ x.2 ∧ x.2 ≤ 16384 := by omega
  have HC := Lib.hid hcc
  clear hok hc hobj hg kA hA h hx k1
  have hcn : 0 ≤ c.n ∧ c.n ≤ 131072 := by omega
  have hclo : 0 ≤ c.lo ∧ c.lo ≤ 131072 := by omega
  have hat : at_ ≤ 131072 := by omega
  clear hcc
  generalize c.lo = clo at *
  generalize c.n = cn at *
  generalize c.rights = cr at *
  generalize c.root.1 = c4 at *
  generalize c.root.2 = c5 at *
  generalize c.obj = co at *
  generalize x.2 = x2 at *
  subst hi
  have HV1 := Lib.hid hv1
  have hbC := Blk.new w1 174 [.int .i64 i, .int .i64 cr, .int .i64 clo, .int .i64 cn, .int .i64 c4, .int .i64 c5]
  have b0 := hbC.cell 0
  have b2 := hbC.cell 2
  have b3 := hbC.cell 3
  simp only [List.getElem?_cons_zero, List.getElem?_cons_succ] at b0 b2 b3
  clear hbC hv1
  go_wp2_with fail
  generalize hW : w1.alloc (.cells #[.int .i64 i, .int .i64 cr, .int .i64 clo, .int .i64 cn, .int .i64 c4, .int .i64 c5] 174) = W at *
  clear hW
  have hobj0 : (0 : Int) ≤ (i : Int) := by omega
  have hil' : (i : Int) < (R.L.length : Int) := by omega
  go_quiet (first | (go_at_call 188; exact wq true _ _ _ (by omega) (by omega) (by simp; omega)))
  go_wp2_with fail
  go_quiet (first | (go_at_call 188; exact wq2 false _ _ _ (by omega) (by omega) HV1.out))
  go_wp2
  go_ret2
  exact ⟨rfl, (HKA.out.drewN _).drewN _⟩
end
end Go.Proofs.YtifigjccokpcfaaGreat.Dk
namespace Go.Proofs.YtifigjccokpcfaaGreat.Dk
open Go.RowKit
set_option linter.unusedVariables false
set_option linter.unusedSimpArgs false
section
variable {w w' : World} {R : Dr}
set_option maxRecDepth 100000 in
set_option maxHeartbeats 8000000 in
theorem place_hi (h : IsDr w R) {env name right at_ k : Int} (c : Cp) (hc : Has R.S.T R.S.n (env, name) c) (hb : (bits .and .i64 c.rights right == 0) = false) (hpart : 0 ≤ at_ ∧ 0 ≤ k ∧ at_ + k ≤ c.n) (hobj : 0 ≤ c.obj ∧ c.obj < R.L.length) (x : Rf) (hx : R.L[c.obj.toNat]? = some x) (hv1 : decide (0 ≤ c.lo ∧ 0 ≤ at_ ∧ c.lo + at_ ≤ x.2) = true) (hv2 : decide (0 ≤ c.lo + at_ ∧ 0 ≤ k ∧ c.lo + at_ + k ≤ x.2) = false) :
    Calls Tryz.prog 191 #[.pointer (some ⟨R.r, 0, none⟩), .int .i64 env, .int .i64 name, .int .i64 right, .int .i64 at_, .int .i64 k] w fun e w' => e = .returned (.tuple #[.int .i64 0, .int .i64 1]) ∧ Keep Nob w w' := by
  have ho : w.cell? ⟨R.r, 3, none⟩ = some (.pointer (some ⟨R.S.s, 0, none⟩)) := h.obj.cell 3
  have hcc := h.inv.cap _ _ hc
  go_enter Tryz.func191, Tryz.ntmps191
  go_wp2_with fail
  refine (get_yes h.sp c hc).mono ?_; rintro e w1 ⟨rfl, k1⟩
  unfold cval
  have kA := k1.alloc (.cells #[.int .i64 c.obj, .int .i64 c.rights, .int .i64 c.lo, .int .i64 c.n, .int .i64 c.root.1, .int .i64 c.root.2] 174)
  have hA := h.nob kA
  have d1 : (w1.alloc (.cells #[.int .i64 c.obj, .int .i64 c.rights, .int .i64 c.lo, .int .i64 c.n, .int .i64 c.root.1, .int .i64 c.root.2] 174)).cell? ⟨R.r, 1, none⟩ = some (.slice R.Al R.L.length R.cl) := hA.obj.cell 1
  have d2 : (w1.alloc (.cells #[.int .i64 c.obj, .int .i64 c.rights, .int .i64 c.lo, .int .i64 c.n, .int .i64 c.root.1, .int .i64 c.root.2] 174)).cell? ⟨R.r, 2, none⟩ = some (.slice R.An R.L.length R.cn) := hA.obj.cell 2
  have hfew := h.few
  obtain ⟨i, hi⟩ := Int.eq_ofNat_of_zero_le hobj.1
  have hil : i < R.L.length := by omega
  rw [hi, Int.toNat_natCast] at hx
  have hok := h.ok x (List.mem_of_getElem? hx)
  have hml := h.len
  obtain ⟨g, hg, e1⟩ := lo_at hA.nn hil x.2 (by rw [List.getElem?_map, hx]; rfl)
  rw [hg] at d2
  have HX := Lib.hid hok
  have HKA := Lib.hid kA
  obtain ⟨q1, q2, q3⟩ := hpart
  have hx2 : 0 ≤ x.2 ∧ x.2 ≤ 16384 := by omega
  have HC := Lib.hid hcc
  clear hok hc hobj hg kA hA h hx k1
  have hcn : 0 ≤ c.n ∧ c.n ≤ 131072 := by omega
  have hclo : 0 ≤ c.lo ∧ c.lo ≤ 131072 := by omega
  have hat : at_ ≤ 131072 := by omega
  clear hcc
  generalize c.lo = clo at *
  generalize c.n = cn at *
  generalize c.rights = cr at *
  generalize c.root.1 = c4 at *
  generalize c.root.2 = c5 at *
  generalize c.obj = co at *
  generalize x.2 = x2 at *
  subst hi
  have HV1 := Lib.hid hv1
  have HV2 := Lib.hid hv2
  have hbC := Blk.new w1 174 [.int .i64 i, .int .i64 cr, .int .i64 clo, .int .i64 cn, .int .i64 c4, .int .i64 c5]
  have b0 := hbC.cell 0
  have b2 := hbC.cell 2
  have b3 := hbC.cell 3
  simp only [List.getElem?_cons_zero, List.getElem?_cons_succ] at b0 b2 b3
  clear hbC hv1 hv2
  go_wp2_with fail
  generalize hW : w1.alloc (.cells #[.int .i64 i, .int .i64 cr, .int .i64 clo, .int .i64 cn, .int .i64 c4, .int .i64 c5] 174) = W at *
  clear hW
  have hobj0 : (0 : Int) ≤ (i : Int) := by omega
  have hil' : (i : Int) < (R.L.length : Int) := by omega
  go_quiet (first | (go_at_call 188; exact wq true _ _ _ (by omega) (by omega) (by simp; omega)))
  go_wp2_with fail
  have hz0 : (0 : Int) ≤ x2 := by omega
  have hz1 : x2 ≤ 1000000 := by omega
  have w1c := fun n q => wq2 (w := W) (n := n) (q := q) true clo at_ x2 hz0 hz1 HV1.out
  have w2c := fun n q => wq2 (w := W) (n := n) (q := q) false (clo + at_) k x2 hz0 hz1 HV2.out
  have W1 := Lib.hid w1c
  have W2 := Lib.hid w2c
  clear w1c w2c
  go_quiet (first | (go_at_call 188; (with_reducible_and_instances exact W1.out _ _)) | (go_at_call 188; (with_reducible_and_instances exact W2.out _ _)))
  go_wp2
  go_ret2
  exact ⟨rfl, (HKA.out.drewN _).drewN _⟩
end
end Go.Proofs.YtifigjccokpcfaaGreat.Dk
namespace Go.Proofs.YtifigjccokpcfaaGreat.Dk
open Go.RowKit
set_option linter.unusedVariables false
set_option linter.unusedSimpArgs false
section
variable {w w' : World} {R : Dr}
set_option maxRecDepth 100000 in
set_option maxHeartbeats 8000000 in
theorem place_yes (h : IsDr w R) {env name right at_ k v : Int} (c : Cp) (x : Rf) (hc : Has R.S.T R.S.n (env, name) c) (hb : (bits .and .i64 c.rights right == 0) = false) (hf : Fits R.L c at_ k x) (hve : v = x.1 + c.lo + at_) :
    Calls Tryz.prog 191 #[.pointer (some ⟨R.r, 0, none⟩), .int .i64 env, .int .i64 name, .int .i64 right, .int .i64 at_, .int .i64 k] w fun e w' => e = .returned (.tuple #[.int .i64 v, .int .i64 0]) ∧ Keep Nob w w' := by
  have ho : w.cell? ⟨R.r, 3, none⟩ = some (.pointer (some ⟨R.S.s, 0, none⟩)) := h.obj.cell 3
  have hcc := h.inv.cap _ _ hc
  obtain ⟨q1, q2, q3, q4, q5, q6⟩ := hf
  obtain ⟨i, hi⟩ := Int.eq_ofNat_of_zero_le q4
  rw [hi, Int.toNat_natCast] at q5
  have hil := get_lt q5
  have hok := h.ok x (List.mem_of_getElem? q5)
  have hml := h.len
  have hfew := h.few
  go_enter Tryz.func191, Tryz.ntmps191
  go_wp2_with fail
  refine (get_yes h.sp c hc).mono ?_; rintro e w1 ⟨rfl, k1⟩
  unfold cval
  have kA := k1.alloc (.cells #[.int .i64 c.obj, .int .i64 c.rights, .int .i64 c.lo, .int .i64 c.n, .int .i64 c.root.1, .int .i64 c.root.2] 174)
  have hA := h.nob kA
  have d1 : (w1.alloc (.cells #[.int .i64 c.obj, .int .i64 c.rights, .int .i64 c.lo, .int .i64 c.n, .int .i64 c.root.1, .int .i64 c.root.2] 174)).cell? ⟨R.r, 1, none⟩ = some (.slice R.Al R.L.length R.cl) := hA.obj.cell 1
  have d2 : (w1.alloc (.cells #[.int .i64 c.obj, .int .i64 c.rights, .int .i64 c.lo, .int .i64 c.n, .int .i64 c.root.1, .int .i64 c.root.2] 174)).cell? ⟨R.r, 2, none⟩ = some (.slice R.An R.L.length R.cn) := hA.obj.cell 2
  obtain ⟨g, hg, e1⟩ := lo_at hA.nn hil x.2 (by rw [List.getElem?_map, q5]; rfl)
  obtain ⟨gl, hgl, e2⟩ := lo_at hA.lo hil x.1 (by rw [List.getElem?_map, q5]; rfl)
  rw [hg] at d2
  rw [hgl] at d1
  have HKA := Lib.hid kA
  have HVE := Lib.hid hve
  have hcn : 0 ≤ c.n ∧ c.n ≤ 131072 := by omega
  have hclo : 0 ≤ c.lo ∧ c.lo ≤ 131072 := by omega
  have hx2 : 0 ≤ x.2 ∧ x.2 ≤ 16384 := by omega
  have hx1 : 0 ≤ x.1 ∧ x.1 ≤ 16384 := by omega
  have hat : at_ ≤ 131072 := by omega
  have hbC := Blk.new w1 174 [.int .i64 c.obj, .int .i64 c.rights, .int .i64 c.lo, .int .i64 c.n, .int .i64 c.root.1, .int .i64 c.root.2]
  have b0 := hbC.cell 0
  have b2 := hbC.cell 2
  have b3 := hbC.cell 3
  simp only [List.getElem?_cons_zero, List.getElem?_cons_succ] at b0 b2 b3
  clear hbC hcc hok hc kA hA h k1 hve hg hgl q5
  generalize c.lo = clo at *
  generalize c.n = cn at *
  generalize c.rights = cr at *
  generalize c.root.1 = c4 at *
  generalize c.root.2 = c5 at *
  generalize c.obj = co at *
  generalize x.2 = x2 at *
  generalize x.1 = x1 at *
  subst hi
  go_wp2_with fail
  generalize hW : w1.alloc (.cells #[.int .i64 i, .int .i64 cr, .int .i64 clo, .int .i64 cn, .int .i64 c4, .int .i64 c5] 174) = W at *
  clear hW
  have hobj0 : (0 : Int) ≤ (i : Int) := by omega
  have hil' : (i : Int) < (R.L.length : Int) := by omega
  go_quiet (first | (go_at_call 188; exact wq true _ _ _ (by omega) (by omega) (by simp; omega)))
  go_wp2_with fail
  have hz0 : (0 : Int) ≤ x2 := by omega
  have hz1 : x2 ≤ 1000000 := by omega
  have w1c := fun n q => wq2 (w := W) (n := n) (q := q) true clo at_ x2 hz0 hz1 (by simp; omega)
  have w2c := fun n q => wq2 (w := W) (n := n) (q := q) true (clo + at_) k x2 hz0 hz1 (by simp; omega)
  have W1 := Lib.hid w1c
  have W2 := Lib.hid w2c
  clear w1c w2c
  go_quiet (first | (go_at_call 188; (with_reducible_and_instances exact W1.out _ _)) | (go_at_call 188; (with_reducible_and_instances exact W2.out _ _)))
  go_wp2_with fail
  go_quiet (fail)
  go_wp2
  go_ret2
  have hv1 := HVE.out
  subst hv1
  exact ⟨rfl, ((HKA.out.drewN _).drewN _).drewN _⟩
end
end Go.Proofs.YtifigjccokpcfaaGreat.Dk
namespace Go.Proofs.YtifigjccokpcfaaGreat.Dk
open Go.RowKit
set_option linter.unusedVariables false
set_option linter.unusedSimpArgs false
section
variable {w w' : World} {R : Dr}
theorem place_is (h : IsDr w R) {env name right at_ k v er : Int} (hv : Reach R.S.T R.S.n R.L env name right at_ k v er) :
    Calls Tryz.prog 191 #[.pointer (some ⟨R.r, 0, none⟩), .int .i64 env, .int .i64 name, .int .i64 right, .int .i64 at_, .int .i64 k] w fun e w' => e = .returned (.tuple #[.int .i64 v, .int .i64 er]) ∧ Keep Nob w w' := by
  cases hv with
  | nocap hn => exact place_nocap h hn
  | noright c hc hb => exact place_noright h c hc hb
  | noarg c hc hb hno =>
    by_cases hpart : 0 ≤ at_ ∧ 0 ≤ k ∧ at_ + k ≤ c.n
    · by_cases hobj : 0 ≤ c.obj ∧ c.obj < R.L.length
      · have hlt : c.obj.toNat < R.L.length := by omega
        obtain ⟨x, hx⟩ : ∃ x, R.L[c.obj.toNat]? = some x := ⟨_, List.getElem?_eq_getElem hlt⟩
        cases hv1 : decide (0 ≤ c.lo ∧ 0 ≤ at_ ∧ c.lo + at_ ≤ x.2) with
        | false => exact place_lo h c hc hb hpart hobj x hx hv1
        | true =>
          refine place_hi h c hc hb hpart hobj x hx hv1 (decide_eq_false fun hh => hno x ⟨hpart.1, hpart.2.1, hpart.2.2, hobj.1, hx, hh.2.2⟩)
      · exact place_obj h c hc hb hpart hobj
    · exact place_far h c hc hb hpart
  | yes c x _ hc hb hf hve => exact place_yes h c x hc hb hf hve
theorem range (h : IsDr w R) {env name right at_ k v : Int} (hv : Reach R.S.T R.S.n R.L env name right at_ k v 0) : 0 ≤ v ∧ 0 ≤ k ∧ v + k ≤ R.xs.length := by
  generalize he : (0 : Int) = er at hv
  cases hv with
  | nocap _ => cases he
  | noright _ _ _ => cases he
  | noarg _ _ _ _ => cases he
  | yes c x _ h1 _ h3 h4 =>
    obtain ⟨a1, a2, a3, a4, a5, a6⟩ := h3
    have hx := h.ok x (List.mem_of_getElem? a5)
    have hc := h.inv.cap _ _ h1
    omega
theorem str_at {xs : List UInt8} {m a k : Nat} (hb : Blk w m 5 (bytes xs)) (hk : a + k ≤ xs.length) (A : Option Addr) (hA : a < xs.length → A = some ⟨m, a, none⟩) (c : Nat) : (convert 34 9 (.slice A k c)).run Tryz.prog w = .ok (.string (str ((xs.drop a).take k))) w := by
  refine run_str (P := Tryz.prog) w 34 9 5 A k c _ Tryz.underlying34 Tryz.underlying5 Tryz.underlying9 ?_
  rw [bytes_take, bytes_drop]
  refine Reads.of_blk (off := a) hb (fun h0 => hA (by omega)) (by simp; omega)
theorem sizeU : (Tryz.prog.info? 5).map (·.size) = some 1 := by kernel_rfl
set_option maxRecDepth 100000 in
theorem read_yes (h : IsDr w R) {env name at_ : Int} {k a : Nat} (hv : Reach R.S.T R.S.n R.L env name 1 at_ k a 0) (bs : List UInt8) (hbs : (R.xs.drop a).take k = bs) :
    Calls Tryz.prog 119 #[.pointer (some ⟨R.r, 0, none⟩), .int .i64 env, .int .i64 name, .int .i64 at_, .int .i64 k] w fun e w' => e = .returned (.tuple #[.string (str bs), .int .i64 0]) ∧ Keep Nob w w' := by
  have hr := range h hv
  have hp := place_is h hv
  have hak : a + k ≤ R.xs.length := by omega
  have hml := h.len
  have hs := fun W (kk : Keep Nob w W) A hA c => str_at (h.nob kk).mem hak A hA c
  rw [hbs] at hs
  have HC := Lib.hid (fun W (kk : Keep Nob w W) => (h.nob kk).obj.cell 0)
  have HS := Lib.hid hs
  clear hbs hs h hr
  generalize R.xs.length = n at *
  have hwr : (a : Int) + (k : Int) = ((a + k : Nat) : Int) := by omega
  obtain ⟨b, hb⟩ : ∃ b, a + k = b := ⟨_, rfl⟩
  rw [hb] at hwr hak
  have hkb : b - a = k := by omega
  have HKB := Lib.hid hkb
  have hab : a ≤ b := by omega
  clear hb hkb hv
  go_enter Tryz.func119, Tryz.ntmps119
  go_wp2_with fail
  refine hp.mono ?_; rintro e w1 ⟨rfl, k1⟩
  have c0 := HC.out _ k1
  simp only [List.getElem?_cons_zero, List.getElem?_cons_succ] at c0
  clear hp
  go_wp2_with (refine wpList_cut_lh rfl 34 _ _ _ rfl 5 1 Tryz.underlying34 sizeU _ _ _ a b .i64 .i64 rfl rfl rfl hab hak ?_; intro A' hA'; have hst := HS.out _ k1 A' (fun h0 => by rw [hA' (by omega)]; simp [add_lit]) (n - a); rw [← HKB.out] at hst)
  go_ret2
  exact ⟨rfl, k1⟩
theorem read_no (h : IsDr w R) {env name at_ k v er : Int} (hv : Reach R.S.T R.S.n R.L env name 1 at_ k v er) (he : er ≠ 0) :
    Calls Tryz.prog 119 #[.pointer (some ⟨R.r, 0, none⟩), .int .i64 env, .int .i64 name, .int .i64 at_, .int .i64 k] w fun e w' => e = .returned (.tuple #[.string (str []), .int .i64 er]) ∧ Keep Nob w w' := by
  have hp := place_is h hv
  have he' : (er != 0) = true := by simpa using he
  clear h hv he
  go_enter Tryz.func119, Tryz.ntmps119
  go_wp2_with fail
  refine hp.mono ?_; rintro e w1 ⟨rfl, k1⟩
  go_wp2
  go_ret2
  exact ⟨rfl, k1⟩
theorem write_no (h : IsDr w R) {env name at_ v er : Int} (bs : List UInt8) (hv : Reach R.S.T R.S.n R.L env name 2 at_ bs.length v er) (he : er ≠ 0) :
    Calls Tryz.prog 120 #[.pointer (some ⟨R.r, 0, none⟩), .int .i64 env, .int .i64 name, .int .i64 at_, .string (str bs)] w fun e w' => e = .returned (.int .i64 er) ∧ Keep Nob w w' := by
  have hp := place_is h hv
  have he' : (er != 0) = true := by simpa using he
  have hsz := str_size bs
  clear h hv he
  generalize bs.length = n at *
  generalize str bs = s at *
  go_enter Tryz.func120, Tryz.ntmps120
  go_wp2_with fail
  (try rw [hsz])
  refine hp.mono ?_; rintro e w1 ⟨rfl, k1⟩
  go_wp2
  go_ret
  exact ⟨rfl, k1⟩
theorem IsDr.bytes (h : IsDr w R) {ys : List UInt8} (hl : ys.length = R.xs.length) (hb : Blk w' R.m 5 (bytes ys)) (k : Keep (· = R.m) w w') : IsDr w' { R with xs := ys } := by
  have ob : ∀ {b : Nat} {t : TypeId} {cs : List Value}, Blk w b t cs → t ≠ 5 → ¬ (b = R.m) := fun hb2 ht e => hb2.ne_ h.mem ht e
  have ov : ∀ {e sz n cap : Nat} {A : Option Addr} {xs : List Value}, Vec w e sz A n cap xs → e ≠ 5 → ∀ g, Own A g → ¬ (g = R.m) := fun hv ht g hg => by
    obtain ⟨cur, hc⟩ := hv.blk hg
    exact ob hc ht
  refine ⟨?_, hb, h.lo.keep k (ov h.lo (by decide)), h.nn.keep k (ov h.nn (by decide)), h.sp.keep k (fun b hb2 => ?_), h.inv, by dsimp only; rw [hl]; exact h.ok, by dsimp only; rw [hl]; exact h.len, h.few, h.dis⟩
  · dsimp only
    rw [hl]
    exact h.obj.keep k (ob h.obj (by decide))
  · rcases hb2 with rfl | hb2 | hb2 | ⟨i, hi, rfl | hb2 | rfl⟩
    · exact ob h.sp.obj (by decide)
    · exact ov h.sp.nrow (by decide) b hb2
    · exact ov h.sp.cr (by decide) b hb2
    · exact ob (h.sp.nm i hi).obj (by decide)
    · exact ov (h.sp.nm i hi).row (by decide) b hb2
    · exact ob (h.sp.cp i hi) (by decide)
set_option maxRecDepth 100000 in
theorem write_yes (h : IsDr w R) {env name at_ : Int} {a : Nat} (bs : List UInt8) (hv : Reach R.S.T R.S.n R.L env name 2 at_ bs.length a 0) (ys : List UInt8) (hy : splice R.xs a bs = ys) :
    Calls Tryz.prog 120 #[.pointer (some ⟨R.r, 0, none⟩), .int .i64 env, .int .i64 name, .int .i64 at_, .string (str bs)] w fun e w' => e = .returned (.int .i64 0) ∧ IsDr w' { R with xs := ys } ∧ Keep (· = R.m) w w' := by
  have hr := range h hv
  have hp := place_is h hv
  have hak : a + bs.length ≤ R.xs.length := by omega
  have hml := h.len
  have hsz := str_size bs
  have hyl : ys.length = R.xs.length := by rw [← hy]; exact length_splice _ _ _ hak
  have HC := Lib.hid (fun W (kk : Keep Nob w W) => And.intro ((h.nob kk).obj.cell 0) (h.nob kk).mem)
  have HF := Lib.hid (fun W (kk : Keep Nob w W) V (hb : Blk V R.m 5 (bytes ys)) (k2 : Keep (· = R.m) W V) => (h.nob kk).bytes hyl hb k2)
  have HY := Lib.hid (show splice (bytes R.xs) a (bytes bs) = bytes ys by rw [splice_bytes, hy])
  have hlx : (bytes R.xs).length = R.xs.length := bytes_length _
  have HLX := Lib.hid hlx
  have HSZ := Lib.hid hsz
  clear hy h hr hv hyl hlx hsz
  generalize hn : R.xs.length = n at *
  have HN := Lib.hid hn
  clear hn
  have hna : a ≤ n := by omega
  have hbn : bs.length ≤ n - a := by omega
  have hsz := HSZ.out
  go_enter Tryz.func120, Tryz.ntmps120
  go_wp2_with fail
  (try rw [hsz])
  refine hp.mono ?_; rintro e w1 ⟨rfl, k1⟩
  obtain ⟨c0, hm⟩ := HC.out _ k1
  simp only [List.getElem?_cons_zero, List.getElem?_cons_succ] at c0
  clear hp hsz
  go_wp2_with (first
    | (refine wpList_cut_l rfl 34 _ _ rfl 5 1 Tryz.underlying34 sizeU _ _ _ a .i64 rfl rfl hna ?_; intro A' hA'; have hA2 : 0 < n - a → A' = some ⟨R.m, a, none⟩ := fun h0 => (by rw [hA' (by omega)]; simp [add_lit]))
    | (refine wpList_cps rfl _ _ 34 9 rfl 5 Tryz.underlying34 sizeU A' (n - a) (n - a) bs rfl rfl R.m a _ 5 hm hA2 (by rw [HLX.out]; omega) hbn ?_; intro w2 hb2 hk2 hs2; clear hs2))
  rw [HY.out] at hb2
  go_ret
  exact ⟨rfl, HF.out _ k1 _ hb2 hk2, (k1.mono (fun _ _ f => f.elim)).trans hk2 (fun _ _ e => e)⟩
end
end Go.Proofs.YtifigjccokpcfaaGreat.Dk
namespace Go.Proofs.YtifigjccokpcfaaGreat.Dk
open Go.RowKit
set_option linter.unusedVariables false
set_option linter.unusedSimpArgs false
theorem in_is {w : World} (A : Option Addr) (n c : Nat) (l : List Int) (x : Int) (hr : Reads w A n (ints l)) (hn : n ≤ 1000) (v : Bool) (hv : decide (x ∈ l) = v) :
    Calls Tryz.prog 115 #[.slice A n c, .int .i64 x] w fun e w' => e = .returned (.bool v) ∧ w = w' := by
  have hl : l.length = n := by have := hr.1; simpa [ints] using this
  have HL := Lib.hid hl
  have HR := Lib.hid hr
  have HV := Lib.hid hv
  clear hl hr hv
  go_enter Tryz.func115, Tryz.ntmps115
  go_wp2_with fail
  go_loop [5] (fun s5 => ∃ k : Nat, k ≤ n ∧ s5 = .int .i64 k ∧ ∀ j, j < k → l[j]? ≠ some x) (fun s5 => n - (intOf s5).toNat)
  case atStart => exact ⟨0, Nat.zero_le _, rfl, fun j hj => by omega⟩
  case round =>
    obtain ⟨k, hk, rfl, hno⟩ := hrel
    have HNo := Lib.hid hno
    clear hno
    by_cases hlt : k < n
    · obtain ⟨y, hy⟩ : ∃ y, l[k]? = some y := ⟨_, List.getElem?_eq_getElem (by rw [HL.out]; exact hlt)⟩
      obtain ⟨b, off, hA, hc⟩ := HR.out.lit (by omega)
      have d := hc k _ (by rw [ints_get, hy]; rfl)
      have HY := Lib.hid hy
      subst hA
      clear hc hy
      by_cases he : y = x
      · subst he
        have hvt : v = true := by rw [← HV.out]; exact decide_eq_true (List.mem_of_getElem? HY.out)
        subst hvt
        go_wp2
        go_ret
        exact ⟨rfl, rfl⟩
      · have he' : (y == x) = false := by simpa using he
        go_wp2
        go_round
        case rel => exact ⟨k + 1, by omega, by go_num, fun j hj e => by
          by_cases hjk : j = k
          · subst hjk
            rw [HY.out] at e
            exact he (Option.some.inj e)
          · exact HNo.out j (by omega) e⟩
        case measure => simp [intOf]; omega
    · have hvf : v = false := by
        rw [← HV.out]
        refine decide_eq_false fun hm => ?_
        obtain ⟨j, hj⟩ := List.getElem?_of_mem hm
        have := get_lt hj
        exact HNo.out j (by have := HL.out; omega) hj
      subst hvf
      go_wp2
      go_ret
      exact ⟨rfl, rfl⟩
theorem sect_is (n : Int) (w : World) : Calls Tryz.prog 113 #[.int .i64 n] w fun e w' => ∃ p, e = .returned (.pointer (some ⟨p, 0, none⟩)) ∧ w.heap.size ≤ p ∧ Keep Nob w w' := by
  rcases (show n < 1 ∨ (1 ≤ n ∧ 1000 < n) ∨ (1 ≤ n ∧ n ≤ 1000) by omega) with h | ⟨h0, h⟩ | ⟨h0, h⟩
  all_goals
    go_enter Tryz.func113, Tryz.ntmps113
    go_wp2
    go_ret
    exact ⟨_, rfl, Nat.le_refl _, (Keep.refl Nob w).alloc _⟩
theorem infoint' : (Tryz.prog.info? 3).map (fun i => (i.zero, i.size, i.bytes)) = some (some (.int .i64 0), 1, 8) := by kernel_rfl
section
variable {w w' : World} {R : Dr}
/-- What one more range leaves. -/
structure Added1 (w : World) (R : Dr) (lo n : Int) (Al' : Option Addr) (cl' : Nat) (An' : Option Addr) (cn' : Nat) (w' : World) : Prop where
  is : IsDr w' { R with L := R.L ++ [(lo, n)], Al := Al', cl := cl', An := An', cn := cn' }
  keep : Keep (fun b => b = R.r ∨ Own R.Al b ∨ Own R.An b) w w'
  al : ∀ x, Own Al' x → Own R.Al x ∨ w.heap.size ≤ x
  an : ∀ x, Own An' x → Own R.An x ∨ w.heap.size ≤ x
theorem IsDr.add (h : IsDr w R) {lo n : Int} (hin : 0 ≤ lo ∧ 0 ≤ n ∧ lo + n ≤ R.xs.length) (hf : R.L.length < 32) {W wa W' wb : World} (k : Keep Nob w W) {Al2 : Option Addr} {cl2 : Nat}
    (hva : Vec wa 3 1 Al2 (R.L.length + 1) cl2 (ints (R.L.map (·.1)) ++ [.int .i64 lo])) (hka : Keep (Own R.Al) W wa) (hoa : ∀ x, Own Al2 x → Own R.Al x ∨ x = W.heap.size) (k2 : Keep Nob wa W') {An2 : Option Addr} {cn2 : Nat}
    (hvb : Vec wb 3 1 An2 (R.L.length + 1) cn2 (ints (R.L.map (·.2)) ++ [.int .i64 n])) (hkb : Keep (Own R.An) W' wb) (hob : ∀ x, Own An2 x → Own R.An x ∨ x = W'.heap.size) :
    Blk wb R.r 145 [.slice (some ⟨R.m, 0, none⟩) R.xs.length R.xs.length, .slice R.Al R.L.length R.cl, .slice R.An R.L.length R.cn, .pointer (some ⟨R.S.s, 0, none⟩)] ∧
    Added1 w R lo n Al2 cl2 An2 cn2 ((wb.setCell ⟨R.r, 1, none⟩ (.slice Al2 (R.L.length + 1) cl2)).setCell ⟨R.r, 2, none⟩ (.slice An2 (R.L.length + 1) cn2)) := by
  have hW := h.nob k
  have ty : ∀ {A : Option Addr} {m c : Nat} {xs : List Value} {X : World}, Vec X 3 1 A m c xs → ∀ {b : Nat} {t : TypeId} {cs : List Value}, Blk X b t cs → t ≠ 3 → ¬ Own A b := fun {A} {m} {c} {xs} {X} hv {b} {t} {cs} hb ht ho => by
    obtain ⟨cur, hc⟩ := hv.blk ho
    exact hb.ne_ hc ht rfl
  have hne : ∀ x, Own R.An x → ¬ Own R.Al x := fun x h1 h2 => h.dis x h2 h1
  have b1 : ∀ {b : Nat} {t : TypeId} {cs : List Value}, Blk W b t cs → t ≠ 3 → Blk wb b t cs := fun hb ht => by
    have ha := (hb.keep hka (ty hW.lo hb ht)).nob k2
    have hnn := ((hW.nn.keep hka (fun x hx => hne x hx)).nob k2)
    exact ha.keep hkb (ty hnn ha ht)
  have ob := b1 hW.obj (by decide)
  have k3 : Keep (· = R.r) wb ((wb.setCell ⟨R.r, 1, none⟩ (.slice Al2 (R.L.length + 1) cl2)).setCell ⟨R.r, 2, none⟩ (.slice An2 (R.L.length + 1) cn2)) := ((Keep.refl (· = R.r) wb).setCell _ _ (fun _ => rfl)).setCell _ _ (fun _ => rfl)
  have hva' := (hva.nob k2).keep hkb (fun x hx hn => by
    rcases hoa x hx with h1 | h1
    · exact hne x hn h1
    · have := h.nn.lt x hn; have := k.size; omega)
  have vi : ∀ {A : Option Addr} {m c : Nat} {xs : List Value}, Vec wb 3 1 A m c xs → Vec ((wb.setCell ⟨R.r, 1, none⟩ (.slice Al2 (R.L.length + 1) cl2)).setCell ⟨R.r, 2, none⟩ (.slice An2 (R.L.length + 1) cn2)) 3 1 A m c xs := fun hv => hv.keep k3 (fun x hx e => ty hv ob (by decide) (e ▸ hx))
  have b3 : ∀ {b : Nat} {t : TypeId} {cs : List Value}, Blk W b t cs → t ≠ 3 → b ≠ R.r → Blk ((wb.setCell ⟨R.r, 1, none⟩ (.slice Al2 (R.L.length + 1) cl2)).setCell ⟨R.r, 2, none⟩ (.slice An2 (R.L.length + 1) cn2)) b t cs := fun hb ht hr => (b1 hb ht).keep k3 hr
  have v3 : ∀ {e sz m c : Nat} {A : Option Addr} {xs : List Value}, Vec W e sz A m c xs → e ≠ 3 → e ≠ 145 → Vec ((wb.setCell ⟨R.r, 1, none⟩ (.slice Al2 (R.L.length + 1) cl2)).setCell ⟨R.r, 2, none⟩ (.slice An2 (R.L.length + 1) cn2)) e sz A m c xs := fun hv h1 h2 => by
    have va := (hv.keep hka (fun x hx => by obtain ⟨cur, hc⟩ := hv.blk hx; exact ty hW.lo hc h1)).nob k2
    have hnn := ((hW.nn.keep hka (fun x hx => hne x hx)).nob k2)
    have vb := va.keep hkb (fun x hx => by obtain ⟨cur, hc⟩ := va.blk hx; exact ty hnn hc h1)
    exact vb.keep k3 (fun x hx e => by obtain ⟨cur, hc⟩ := vb.blk hx; exact hc.ne_ ob h2 e)
  have sz1 := k.size
  have sz2 := hka.size
  have sz3 := k2.size
  refine ⟨ob, ⟨⟨?_, b3 hW.mem (by decide) (hW.mem.ne_ hW.obj (by decide)), ?_, ?_, ?_, h.inv, ?_, h.len, ?_, fun x h1 h2 => ?_⟩, ?_, fun x hx => ?_, fun x hx => ?_⟩⟩
  · have := (ob.setCell 1 (.slice Al2 (R.L.length + 1) cl2)).setCell 2 (.slice An2 (R.L.length + 1) cn2)
    dsimp only
    rw [List.length_append]
    exact this
  · dsimp only
    rw [List.length_append, List.map_append, ints_append]
    exact vi hva'
  · dsimp only
    rw [List.length_append, List.map_append, ints_append]
    exact vi hvb
  · have hS := hW.sp
    refine ⟨b3 hS.obj (by decide) (hS.obj.ne_ hW.obj (by decide)), v3 hS.nrow (by decide) (by decide), v3 hS.cr (by decide) (by decide), fun i hi => ⟨b3 (hS.nm i hi).obj (by decide) ((hS.nm i hi).obj.ne_ hW.obj (by decide)), v3 (hS.nm i hi).row (by decide) (by decide), (hS.nm i hi).pl⟩, fun i hi => b3 (hS.cp i hi) (by decide) ((hS.cp i hi).ne_ hW.obj (by decide)), hS.ainj, hS.rinj, hS.t32, hS.n40⟩
  · intro x hx
    rcases List.mem_append.1 hx with hx | hx
    · exact h.ok x hx
    · obtain rfl := List.mem_singleton.1 hx
      exact hin
  · dsimp only
    rw [List.length_append]
    simp
    omega
  · have hlt := hva.lt x h1
    rcases hoa x h1 with h1 | h1 <;> rcases hob x h2 with h2 | h2
    · exact h.dis x h1 h2
    · omega
    · have := h.nn.lt x h2; omega
    · omega
  · exact ((((k.mono (fun _ _ f => f.elim)).trans hka (fun _ _ m => .inr (.inl m))).trans k2 (fun _ _ f => f.elim)).trans hkb (fun _ _ m => .inr (.inr m))).trans k3 (fun _ _ m => .inl m)
  · exact (hoa x hx).imp id (fun e => by omega)
  · exact (hob x hx).imp id (fun e => by omega)
theorem rd0 {X : World} {v : Value} {q : Nat} (e : X.heap.size = q) : Reads (X.alloc (.cells #[v] 3)) (some ⟨q, 0, none⟩) 1 [v] := by
  subst e
  exact reads_all (n := 1) (Blk.new X 3 [v]) rfl
theorem rdA {W : World} {A : Option Addr} {n : Nat} {l : List Value} (h : Reads W A n l) (o : Obj) : Reads (W.alloc o) A n l := h.nob ((Keep.refl Nob _).alloc _)
theorem rdD {W : World} {A : Option Addr} {n : Nat} {l : List Value} (h : Reads W A n l) : Reads W.drew A n l := h.nob ((Keep.refl Nob _).drew)
set_option maxRecDepth 100000 in
set_option maxHeartbeats 4000000 in
theorem radd_is (h : IsDr w R) (lo n : Int) (hin : 0 ≤ lo ∧ 0 ≤ n ∧ lo + n ≤ R.xs.length) (hf : R.L.length < 32) :
    Calls Tryz.prog 114 #[.pointer (some ⟨R.r, 0, none⟩), .int .i64 lo, .int .i64 n] w fun e w' => ∃ Al' cl' An' cn', e = .returned (.tuple #[.int .i64 R.L.length, .int .i64 0]) ∧ Added1 w R lo n Al' cl' An' cn' w' := by
  have hlen := h.len
  have hwi := fun W => Cd.within_is true lo n R.xs.length W (by omega) (by omega) (by simp; omega)
  have c0 := h.obj.cell 0
  have c1 := h.obj.cell 1
  have c2 := h.obj.cell 2
  simp only [List.getElem?_cons_zero, List.getElem?_cons_succ] at c0 c1 c2
  have HV := Lib.hid (fun W (kk : Keep Nob w W) => (h.nob kk).lo)
  have HO := Lib.hid (fun W (kk : Keep Nob w W) wa (ka : Keep (Own R.Al) W wa) => (h.nob kk).obj.keep ka (fun ho => by obtain ⟨cur, hc⟩ := (h.nob kk).lo.blk ho; exact (h.nob kk).obj.ne_ hc (by decide) rfl))
  have HN := Lib.hid (fun W (kk : Keep Nob w W) wa (ka : Keep (Own R.Al) W wa) => (h.nob kk).nn.keep ka (fun x h1 h2 => h.dis x h2 h1))
  have nq : ∀ (x : Nat), w.heap.size ≤ x → ∀ (ad : Addr), (some ⟨x, 0, none⟩ : Option Addr) = some ad → ¬ Own R.Al ad.block := fun x hx ad e ho => by
    cases e
    have := h.lo.lt x ho
    omega
  have NQ := Lib.hid nq
  clear nq
  have FIN := Lib.hid (fun W (k : Keep Nob w W) Al2 cl2 wa hva hka hoa W' (k2 : Keep Nob wa W') An2 cn2 wb hvb hkb hob => h.add hin hf (W := W) (wa := wa) (W' := W') (wb := wb) k (Al2 := Al2) (cl2 := cl2) hva hka hoa k2 (An2 := An2) (cn2 := cn2) hvb hkb hob)
  have hf' : ¬ (32 ≤ (R.L.length : Int)) := by omega
  obtain ⟨q, hq⟩ : ∃ q, w.heap.size = q := ⟨_, rfl⟩
  have ka := (Keep.refl Nob w).alloc (.cells #[.int .i64 lo] 3)
  have kb := (Keep.refl Nob w).alloc (.cells #[.int .i64 n] 3)
  have kab := ((Keep.refl Nob w).alloc (.cells #[.int .i64 lo] 3)).alloc (.cells #[.int .i64 n] 3)
  have kba := ((Keep.refl Nob w).alloc (.cells #[.int .i64 n] 3)).alloc (.cells #[.int .i64 lo] 3)
  have d1 := (h.nob kb).obj.cell 1
  have d6 := (h.nob ka).obj.cell 1
  have d7 := (h.nob kab).obj.cell 1
  have d8 := (h.nob kba).obj.cell 1
  have d2 := (h.nob ka).obj.cell 2
  have d3 := (h.nob kb).obj.cell 2
  have d4 := (h.nob kab).obj.cell 2
  have d5 := (h.nob kba).obj.cell 2
  simp only [List.getElem?_cons_zero, List.getElem?_cons_succ] at d1 d2 d3 d4 d5 d6 d7 d8
  clear ka kb kab kba
  have kof : ∀ {W wa : World} {P : Nat → Prop}, Keep P W wa → Keep Nob w W → Keep Nob w W := fun _ k => k
  rw [hq] at NQ
  clear h hin hlen
  go_enter Tryz.func114, Tryz.ntmps114
  go_wp2_with fail
  refine (hwi _).mono ?_; rintro e w2 ⟨rfl, rfl⟩
  clear hwi c0
  go_wp2_with fail
  go_region_law (first
    | (refine Qu.step_ap (by rfl) _ _ 22 (by rfl) 3 1 8 (.int .i64 0) Tryz.underlying22 infoint' (by rfl) (by decide) R.Al R.L.length R.cl (ints (R.L.map (·.1))) (by rfl) (HV.out _ (by (repeat (first | exact Keep.refl _ _ | apply Keep.alloc | apply Keep.drew)))) _ 1 1 [.int .i64 lo] (by rfl) 1 (by rfl) (by (repeat (first | (with_reducible refine rd0 ?_; simp [hq]; done) | with_reducible refine rdA ?_ _ | with_reducible refine rdD ?_ | (with_reducible refine Reads.keep ?_ hka (NQ.out _ ?_); all_goals (try omega))))) (by simp [Value.oneCell']) (by unfold maxLen; omega) (by omega) ?_; intro Al2 cl2 wa hva hka hoa; have kW := kof hka (by (repeat (first | exact Keep.refl _ _ | apply Keep.alloc | apply Keep.drew))); have oa := HO.out _ kW wa hka; have za := oa.cell 2; simp only [List.getElem?_cons_zero, List.getElem?_cons_succ] at za; have zb := (oa.nob ((Keep.refl Nob wa).alloc (.cells #[.int .i64 n] 3))).cell 2; simp only [List.getElem?_cons_zero, List.getElem?_cons_succ] at zb)
    | (refine Qu.step_ap (by rfl) _ _ 22 (by rfl) 3 1 8 (.int .i64 0) Tryz.underlying22 infoint' (by rfl) (by decide) R.An R.L.length R.cn (ints (R.L.map (·.2))) (by rfl) ((HN.out _ kW wa hka).nob (by (repeat (first | exact Keep.refl _ _ | apply Keep.alloc | apply Keep.drew)))) _ 1 1 [.int .i64 n] (by rfl) 1 (by rfl) (by (repeat (first | (with_reducible refine rd0 ?_; simp [hq]; done) | with_reducible refine rdA ?_ _ | with_reducible refine rdD ?_ | (with_reducible refine Reads.keep ?_ hka (NQ.out _ ?_); all_goals (try omega))))) (by simp [Value.oneCell']) (by unfold maxLen; omega) (by omega) ?_; intro An2 cn2 wb hvb hkb hob; obtain ⟨ob, HFin⟩ := FIN.out _ kW _ _ _ hva hka hoa _ (by (repeat (first | exact Keep.refl _ _ | apply Keep.alloc | apply Keep.drew))) _ _ _ hvb hkb hob; have y1 := ob.cell 1; have y2 := ob.cell 2; have f1 := ob.frozen 1; have f2 := ob.frozen 2; simp only [List.getElem?_cons_zero, List.getElem?_cons_succ] at y1 y2))
  all_goals
    clear d1 d2 d3 d4 d5 d6 d7 d8 HV HO HN FIN NQ kof
    have e1 := HFin.is.obj.cell 1
    simp only [List.getElem?_cons_zero, List.getElem?_cons_succ, List.length_append, List.length_singleton] at e1
    go_wp2
    go_ret2
    exact ⟨_, _, _, _, rfl, HFin⟩
end
end Go.Proofs.YtifigjccokpcfaaGreat.Dk
namespace Go.Proofs.YtifigjccokpcfaaGreat.Dk
open Go.RowKit
set_option linter.unusedVariables false
set_option linter.unusedSimpArgs false
section
variable {w w' W W' : World} {R : Dr}
theorem AddM.blk {S : Ds} (h : IsDs W S) {e : Nat} (he : e < S.n) {x : Nat} (hx : AddM S e x) : ∃ t cs, Blk W x t cs ∧ (t = 348 ∨ t = 174) := by
  rcases hx with hx | rfl
  · obtain ⟨cur, hc⟩ := (h.nm e he).row.blk hx
    exact ⟨_, _, hc, .inl rfl⟩
  · exact ⟨_, _, h.cp e he, .inr rfl⟩
theorem offM {M : Nat → Prop} {T : List TypeId} (hM : ∀ x, M x → ∃ t cs, Blk W x t cs ∧ t ∈ T) {x : Nat} {u : TypeId} {cs : List Value} (hb : Blk W x u cs) (hu : u ∉ T) : ¬ M x := fun m => by
  obtain ⟨t, c, hc, ht⟩ := hM x m
  exact hb.ne_ hc (fun e => hu (e ▸ ht)) rfl
theorem offMV {M : Nat → Prop} {T : List TypeId} (hM : ∀ x, M x → ∃ t cs, Blk W x t cs ∧ t ∈ T) {e sz n c : Nat} {A : Option Addr} {xs : List Value} (hv : Vec W e sz A n c xs) (hu : e ∉ T) : ∀ g, Own A g → ¬ M g := fun g hg => by
  obtain ⟨cur, hc⟩ := hv.blk hg
  exact offM hM hc hu
theorem IsDr.puts (h : IsDr W R) {T' : St} (hs : IsDs W' { R.S with T := T' }) (I : Inv T' R.S.n) {e : Nat} (he : e < R.S.n) (k : Keep (AddM R.S e) W W') : IsDr W' { R with S := { R.S with T := T' } } := by
  have hM : ∀ x, AddM R.S e x → ∃ t cs, Blk W x t cs ∧ t ∈ [348, 174] := fun x hx => by
    obtain ⟨t, cs, hb, ht⟩ := AddM.blk h.sp he hx
    exact ⟨t, cs, hb, by rcases ht with rfl | rfl <;> simp⟩
  exact ⟨h.obj.keep k (offM hM h.obj (by decide)), h.mem.keep k (offM hM h.mem (by decide)), h.lo.keep k (offMV hM h.lo (by decide)), h.nn.keep k (offMV hM h.nn (by decide)), hs, I, h.ok, h.len, h.few, h.dis⟩
/-- A Cap of all rights but to grant is put, where rows are filled from below. -/
theorem put_row (h : IsDr W R) {cs : Nat → List Cp} (hT : R.S.T = tOf cs) (e : Nat) (he : e < R.S.n) (hl : (cs e).length < 32) (c : Cp) (hr : c.rights = 3) (hlo : c.lo = 0) (hn : 0 ≤ c.n ∧ c.n ≤ 65536) (ht : c.root = (0, 0)) :
    Calls Tryz.prog 116 #[.pointer (some ⟨R.S.s, 0, none⟩), .int .i64 e, cval c] W fun e' w' => ∃ v, e' = .returned v ∧ IsDr w' { R with S := { R.S with T := tOf (more cs e c) } } ∧ Keep (AddM R.S e) W w' := by
  have hx : (R.S.T e)[(cs e).length]? = some ⟨1, false, zcap⟩ := by
    rw [hT]
    exact rowQ_out (l := cs e) (Nat.le_refl _) hl
  have hb : ∀ (j : Nat) (y : Q), j < (cs e).length → (R.S.T e)[j]? = some y → y = ⟨1, true, y.c⟩ := fun j y hj hy => by
    rw [hT] at hy
    have h1 : (tOf cs e)[j]? = (rowQ (cs e))[j]? := rfl
    rw [h1, rowQ_in (List.getElem?_eq_getElem hj)] at hy
    cases hy
    rfl
  have hput := put_is h.sp e he c (by rw [hr]; decide) (by rw [hlo]; decide) hn (cs e).length ⟨1, false, zcap⟩ hx (by decide) (fun j y hj hy => by rw [hb j y hj hy]; rfl)
  have hA : Added R.S.T R.S.n e c (((cs e).length : Int) + 256 * ((1 : Nat) : Int)) 0 (up R.S.T e (cs e).length ⟨1, true, c⟩) := Added.put (cs e).length ⟨1, false, zcap⟩ hx (by decide) (fun j y hj hy => by rw [hb j y hj hy]; rfl)
  have hI := hA.inv h.inv he ⟨by rw [hr]; decide, by rw [hr]; decide, by rw [hlo]; decide, hn.1, by rw [hlo]; omega⟩ (.inl ht)
  have hrow := (added_row (by rw [hT] at hA; exact hA) hl).2.2
  have ec : (⟨c.obj, c.rights, c.lo, c.n, (0, 0)⟩ : Cp) = c := by
    cases c
    dsimp only at ht
    rw [ht]
  refine hput.mono ?_
  rintro e' w' ⟨rfl, h1, h2⟩
  rw [ec] at h1
  have eT : up R.S.T e (cs e).length ⟨1, true, c⟩ = tOf (more cs e c) := by rw [hT]; exact hrow
  dsimp only at h1
  rw [eT] at h1 hI
  exact ⟨_, rfl, h.puts h1 hI he h2, h2⟩
end
/-- A kernel that a call is making, since the world w. -/
structure Mk (w W : World) (b : Bt) (ns : List Nat) (k pq : Nat) (Aq : Option Addr) (cq : Nat) (gq : Nat → Nat) (bq : Nat → List Bool) (R : Dr) (Ag : Option Addr) (ng cg : Nat) (vs : List Value) : Prop where
  boot : Blk W w.heap.size 71 [.slice b.Af b.frames.length b.cf, .slice b.Ae b.envs.length b.ce, .slice b.As b.sects.length b.cs, .int .i64 b.lease, .slice b.Ah b.shared.length b.ch]
  obj : Blk W k 76 [.slice b.Af b.frames.length b.cf, .slice b.Ae b.envs.length b.ce, .slice b.As b.sects.length b.cs, .int .i64 b.lease, .slice b.Ah b.shared.length b.ch, .pointer (some ⟨pq, 0, none⟩), .pointer (some ⟨R.r, 0, none⟩), .slice Ag ng cg, .int .i64 0]
  quo : Qu.Dq W pq Aq cq gq ns bq
  reg : IsDr W R
  row : Vec W 201 1 Ag ng cg vs
  mine : ∀ x, R.Mine x → w.heap.size ≤ x
  lk : w.heap.size ≤ k
  lg : ∀ x, Own Ag x → w.heap.size ≤ x
  keep : Keep Nob w W
section
variable {w W W' : World} {b : Bt} {ns : List Nat} {k pq : Nat} {Aq : Option Addr} {cq : Nat} {gq : Nat → Nat} {bq : Nat → List Bool} {R R' : Dr} {Ag : Option Addr} {ng cg : Nat} {vs : List Value} {M : Nat → Prop}
theorem Mk.nob (h : Mk w W b ns k pq Aq cq gq bq R Ag ng cg vs) (kk : Keep Nob W W') : Mk w W' b ns k pq Aq cq gq bq R Ag ng cg vs :=
  ⟨h.boot.nob kk, h.obj.nob kk, h.quo.nob kk, h.reg.nob kk, h.row.nob kk, h.mine, h.lk, h.lg, h.keep.nobt kk⟩
theorem Mk.far (h : Mk w W b ns k pq Aq cq gq bq R Ag ng cg vs) (kk : Keep M W W') (hM : ∀ x, M x → ∃ t cs, Blk W x t cs ∧ t ∈ [145, 3, 348, 174]) (hl : ∀ x, M x → w.heap.size ≤ x) (hR : IsDr W' R') (hm : ∀ x, R'.Mine x → w.heap.size ≤ x) (he : R'.r = R.r) : Mk w W' b ns k pq Aq cq gq bq R' Ag ng cg vs :=
  ⟨h.boot.keep kk (offM hM h.boot (by decide)), by rw [he]; exact h.obj.keep kk (offM hM h.obj (by decide)), h.quo.keep kk (offM hM h.quo.obj (by decide)) (offMV hM h.quo.row (by decide)) (fun i hi => offM hM (h.quo.tab i hi) (by decide)), hR, h.row.keep kk (offMV hM h.row (by decide)), hm, h.lk, h.lg, h.keep.trans kk (fun x hx m => by have := hl x m; omega)⟩
/-- One more range. -/
theorem Mk.add (h : Mk w W b ns k pq Aq cq gq bq R Ag ng cg vs) {lo n : Int} {Al' : Option Addr} {cl' : Nat} {An' : Option Addr} {cn' : Nat} (ha : Added1 W R lo n Al' cl' An' cn' W') :
    Mk w W' b ns k pq Aq cq gq bq { R with L := R.L ++ [(lo, n)], Al := Al', cl := cl', An := An', cn := cn' } Ag ng cg vs := by
  have hs := h.keep.size
  refine h.far ha.keep (fun x hx => ?_) (fun x hx => ?_) ha.is (fun x hx => ?_) rfl
  · rcases hx with rfl | hx | hx
    · exact ⟨_, _, h.reg.obj, by simp⟩
    · obtain ⟨cur, hc⟩ := h.reg.lo.blk hx
      exact ⟨_, _, hc, by simp⟩
    · obtain ⟨cur, hc⟩ := h.reg.nn.blk hx
      exact ⟨_, _, hc, by simp⟩
  · rcases hx with rfl | hx | hx
    · exact h.mine _ (.inl rfl)
    · exact h.mine _ (.inr (.inr (.inl hx)))
    · exact h.mine _ (.inr (.inr (.inr (.inl hx))))
  · rcases hx with rfl | rfl | hx | hx | hx
    · exact h.mine _ (.inl rfl)
    · exact h.mine _ (.inr (.inl rfl))
    · rcases ha.al x hx with h1 | h1
      · exact h.mine _ (.inr (.inr (.inl h1)))
      · omega
    · rcases ha.an x hx with h1 | h1
      · exact h.mine _ (.inr (.inr (.inr (.inl h1))))
      · omega
    · exact h.mine _ (.inr (.inr (.inr (.inr hx))))
/-- One more Cap. -/
theorem Mk.put (h : Mk w W b ns k pq Aq cq gq bq R Ag ng cg vs) {T' : St} {e : Nat} (he : e < R.S.n) (hR : IsDr W' { R with S := { R.S with T := T' } }) (kk : Keep (AddM R.S e) W W') : Mk w W' b ns k pq Aq cq gq bq { R with S := { R.S with T := T' } } Ag ng cg vs :=
  h.far kk (fun x hx => by
    obtain ⟨t, cs, hb, ht⟩ := AddM.blk h.reg.sp he hx
    exact ⟨t, cs, hb, by rcases ht with rfl | rfl <;> simp⟩) (fun x hx => h.mine x (.inr (.inr (.inr (.inr (add_mine he x hx)))))) hR (fun x hx => h.mine x hx) rfl
/-- One more Sect. -/
theorem Mk.sect (h : Mk w W b ns k pq Aq cq gq bq R Ag ng cg vs) {W2 : World} {A2 : Option Addr} {c2 : Nat} {v : Value} (hv : Vec W2 201 1 A2 (ng + 1) c2 (vs ++ [v])) (hk : Keep (Own Ag) W W2) (ho : ∀ x, Own A2 x → Own Ag x ∨ W.heap.size ≤ x) :
    Blk W2 k 76 [.slice b.Af b.frames.length b.cf, .slice b.Ae b.envs.length b.ce, .slice b.As b.sects.length b.cs, .int .i64 b.lease, .slice b.Ah b.shared.length b.ch, .pointer (some ⟨pq, 0, none⟩), .pointer (some ⟨R.r, 0, none⟩), .slice Ag ng cg, .int .i64 0] ∧
    Mk w (W2.setCell ⟨k, 7, none⟩ (.slice A2 (ng + 1) c2)) b ns k pq Aq cq gq bq R A2 (ng + 1) c2 (vs ++ [v]) := by
  have hM : ∀ x, Own Ag x → ∃ t cs, Blk W x t cs ∧ t ∈ [201] := fun x hx => by
    obtain ⟨cur, hc⟩ := h.row.blk hx
    exact ⟨_, _, hc, by simp⟩
  have o1 := h.obj.keep hk (offM hM h.obj (by decide))
  have hM2 : ∀ x, x = k → ∃ t cs, Blk W2 x t cs ∧ t ∈ [76] := fun x e => e ▸ ⟨_, _, o1, by simp⟩
  have k2 : Keep (· = k) W2 (W2.setCell ⟨k, 7, none⟩ (.slice A2 (ng + 1) c2)) := (Keep.refl _ _).setCell _ _ (fun _ => rfl)
  have kk : Keep (fun x => x = k ∨ Own Ag x) W (W2.setCell ⟨k, 7, none⟩ (.slice A2 (ng + 1) c2)) := (hk.mono (fun _ _ m => .inr m)).trans k2 (fun _ _ m => .inl m)
  have hMM : ∀ x, (x = k ∨ Own Ag x) → ∃ t cs, Blk W x t cs ∧ t ∈ [76, 201] := fun x hx => by
    rcases hx with rfl | hx
    · exact ⟨_, _, h.obj, by simp⟩
    · obtain ⟨cur, hc⟩ := h.row.blk hx
      exact ⟨_, _, hc, by simp⟩
  have hs := h.keep.size
  refine ⟨o1, ⟨h.boot.keep kk (offM hMM h.boot (by decide)), ?_, h.quo.keep kk (offM hMM h.quo.obj (by decide)) (offMV hMM h.quo.row (by decide)) (fun i hi => offM hMM (h.quo.tab i hi) (by decide)), h.reg.keep kk (fun x hx => ?_), hv.keep k2 (offMV (M := (· = k)) hM2 hv (by decide)), h.mine, h.lk, fun x hx => ?_, h.keep.trans kk (fun x hx m => ?_)⟩⟩
  · exact o1.setCell 7 (.slice A2 (ng + 1) c2)
  · rcases hx with rfl | rfl | hx | hx | hx
    · exact offM hMM h.reg.obj (by decide)
    · exact offM hMM h.reg.mem (by decide)
    · exact offMV hMM h.reg.lo (by decide) x hx
    · exact offMV hMM h.reg.nn (by decide) x hx
    · rcases hx with rfl | hx | hx | ⟨i, hi, rfl | hx | rfl⟩
      · exact offM hMM h.reg.sp.obj (by decide)
      · exact offMV hMM h.reg.sp.nrow (by decide) x hx
      · exact offMV hMM h.reg.sp.cr (by decide) x hx
      · exact offM hMM (h.reg.sp.nm i hi).obj (by decide)
      · exact offMV hMM (h.reg.sp.nm i hi).row (by decide) x hx
      · exact offM hMM (h.reg.sp.cp i hi) (by decide)
  · rcases ho x hx with h1 | h1
    · exact h.lg x h1
    · omega
  · rcases m with rfl | m
    · have := h.lk; omega
    · have := h.lg x m; omega
end
end Go.Proofs.YtifigjccokpcfaaGreat.Dk
