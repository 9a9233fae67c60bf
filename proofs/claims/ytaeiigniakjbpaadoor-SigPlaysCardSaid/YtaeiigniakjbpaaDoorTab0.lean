/- Words for tables (layer 2): places of the same number of cells, one behind the other; names by place. -/
import Derived.Test.YtaeiigniakjbpaaDoorBase
namespace Go.Proofs.YtaeiigniakjbpaaDoor
open Go.RowKit
set_option linter.unusedVariables false
set_option linter.unusedSimpArgs false
theorem flatten_get {W : Nat} : ∀ (L : List (List Value)), (∀ c ∈ L, c.length = W) → ∀ (i j : Nat), j < W → L.flatten[i * W + j]? = (L[i]?).bind (·[j]?)
  | [], _, i, j, _ => by simp
  | c :: L, h, 0, j, hj => by
    have := h c (by simp)
    rw [List.flatten_cons, List.getElem?_append_left (by omega)]
    simp
  | c :: L, h, i + 1, j, hj => by
    have := h c (by simp)
    have e : (i + 1) * W = i * W + W := Nat.succ_mul i W
    rw [List.flatten_cons, List.getElem?_append_right (by omega), show (i + 1) * W + j - c.length = i * W + j from by omega, flatten_get L (fun d hd => h d (by simp [hd])) i j hj]
    simp
theorem flatten_set {W : Nat} (u : Value) : ∀ (L : List (List Value)), (∀ c ∈ L, c.length = W) → ∀ (i j : Nat) (c : List Value), j < W → L[i]? = some c → L.flatten.set (i * W + j) u = (L.set i (c.set j u)).flatten
  | [], _, i, j, c, _, hc => by simp at hc
  | d :: L, h, 0, j, c, hj, hc => by
    have := h d (by simp)
    obtain rfl : d = c := by simpa using hc
    rw [List.flatten_cons, List.set_append_left _ _ (by omega)]
    simp
  | d :: L, h, i + 1, j, c, hj, hc => by
    have := h d (by simp)
    have e : (i + 1) * W = i * W + W := Nat.succ_mul i W
    rw [List.flatten_cons, List.set_append_right _ _ (by omega), show (i + 1) * W + j - d.length = i * W + j from by omega, flatten_set u L (fun d hd => h d (by simp [hd])) i j c hj (by simpa using hc)]
    simp
theorem flatten_len {W : Nat} : ∀ (L : List (List Value)), (∀ c ∈ L, c.length = W) → L.flatten.length = L.length * W
  | [], _ => by simp
  | c :: L, h => by
    have := h c (by simp)
    rw [List.flatten_cons, List.length_append, flatten_len L (fun d hd => h d (by simp [hd])), List.length_cons, Nat.succ_mul]; omega
theorem madeCells_flat (z : Array Value) (n : Nat) : (madeCells z (n * z.size)).toList = (List.replicate n z.toList).flatten := by
  rcases Nat.eq_zero_or_pos z.size with h0 | h0
  · have : z = #[] := Array.eq_empty_of_size_eq_zero h0
    subst this
    have e : madeCells #[] (n * (#[] : Array Value).size) = #[] := Array.eq_empty_of_size_eq_zero (by rw [size_madeCells]; simp)
    rw [e]
    induction n with
    | zero => rfl
    | succ n ih => rw [List.replicate_succ, List.flatten_cons]; simp
  · apply List.ext_getElem?
    intro k
    have hW : ∀ c ∈ List.replicate n z.toList, c.length = z.size := fun c hc => by rw [List.eq_of_mem_replicate hc]; simp
    have e := flatten_get (List.replicate n z.toList) hW (k / z.size) (k % z.size) (Nat.mod_lt _ h0)
    rw [show k / z.size * z.size + k % z.size = k from by rw [Nat.mul_comm]; exact Nat.div_add_mod k z.size] at e
    rw [e]
    have hm := Nat.mod_lt k h0
    by_cases hk : k / z.size < n
    · have hk2 : k < n * z.size := (Nat.div_lt_iff_lt_mul h0).1 hk
      simp [madeCells, hk2, hk, hm]
    · have hk2 : ¬ k < n * z.size := fun h => hk ((Nat.div_lt_iff_lt_mul h0).2 h)
      simp [madeCells, hk2, hk]

theorem Vec.blk {w : World} {e sz n cap : Nat} {A : Option Addr} {xs : List Value} (h : Vec w e sz A n cap xs) {g : Nat} (hg : Own A g) : ∃ cur, Blk w g e cur := by
  obtain ⟨a, rfl, rfl⟩ := hg
  rcases h.2 with ⟨he, _⟩ | ⟨g', cap', cur, he, _, hg, _⟩
  · simp at he
  · simp only [Value.slice.injEq, Option.some.injEq, true_and] at he
    rw [he.1]
    exact ⟨cur.toList, by simpa [Blk] using hg⟩
/-- A place of a table: its generation, whether it is taken, the cells of its value. -/
structure Pl where
  gen : Nat
  on : Bool
  v : List Value
def Pl.cells (q : Pl) : List Value := .int .i64 q.gen :: .bool q.on :: q.v
def flat (L : List Pl) : List Value := (L.map Pl.cells).flatten
structure Places (W : Nat) (L : List Pl) : Prop where
  each : ∀ q ∈ L, q.v.length + 2 = W
  gen : ∀ q ∈ L, q.gen ≤ 1000001
  len : L.length ≤ 256
theorem Places.cells {W : Nat} {L : List Pl} (h : Places W L) : ∀ c ∈ L.map Pl.cells, c.length = W := by
  intro c hc
  obtain ⟨q, hq, rfl⟩ := List.mem_map.1 hc
  simpa [Pl.cells] using h.each q hq
theorem Places.flat_len {W : Nat} {L : List Pl} (h : Places W L) : (flat L).length = L.length * W := by
  rw [flat, flatten_len _ h.cells, List.length_map]
theorem Places.get {W : Nat} {L : List Pl} (h : Places W L) {i j : Nat} (hj : j < W) {q : Pl} (hq : L[i]? = some q) : (flat L)[i * W + j]? = q.cells[j]? := by
  rw [flat, flatten_get _ h.cells i j hj, List.getElem?_map, hq]
  rfl
theorem Places.set_cells {W : Nat} {L : List Pl} (h : Places W L) {i j : Nat} (hj : j < W) {q q' : Pl} (hq : L[i]? = some q) (u : Value) (hu : q.cells.set j u = q'.cells) : (flat L).set (i * W + j) u = flat (L.set i q') := by
  rw [flat, flatten_set u _ h.cells i j q.cells hj (by rw [List.getElem?_map, hq]; rfl), flat, List.map_set, hu]
theorem Places.set {W : Nat} {L : List Pl} (h : Places W L) (i : Nat) (q' : Pl) (h1 : q'.v.length + 2 = W) (h2 : q'.gen ≤ 1000001) : Places W (L.set i q') := by
  refine ⟨fun q hq => ?_, fun q hq => ?_, by rw [List.length_set]; exact h.len⟩
  · rcases List.mem_or_eq_of_mem_set hq with h3 | rfl
    · exact h.each q h3
    · exact h1
  · rcases List.mem_or_eq_of_mem_set hq with h3 | rfl
    · exact h.gen q h3
    · exact h2
theorem get_lt {α : Type} {L : List α} {i : Nat} {q : α} (h : L[i]? = some q) : i < L.length := (List.getElem?_eq_some_iff.1 h).1
theorem get_mem {α : Type} {L : List α} {i : Nat} {q : α} (h : L[i]? = some q) : q ∈ L := List.mem_of_getElem? h
/-- May this place be taken? -/
def Pl.free (q : Pl) : Bool := !q.on && decide (q.gen ≤ 1000000)

/-- p points at a table with the places L, which lie in block r. -/
structure IsTab (tT tP : TypeId) (W : Nat) (w : World) (p r : Nat) (L : List Pl) : Prop where
  obj : Blk w p tT [.slice (some ⟨r, 0, none⟩) L.length L.length]
  row : Blk w r tP (flat L)
  pl : Places W L
  ne : tT ≠ tP
section
variable {tT tP : TypeId} {W : Nat} {w w' : World} {p r : Nat} {L : List Pl}
theorem IsTab.head (h : IsTab tT tP W w p r L) : w.cell? ⟨p, 0, none⟩ = some (.slice (some ⟨r, 0, none⟩) L.length L.length) := h.obj.cell 0
theorem IsTab.ne_ (h : IsTab tT tP W w p r L) : p ≠ r := h.obj.ne_ h.row h.ne
theorem IsTab.keep {M : Nat → Prop} (h : IsTab tT tP W w p r L) (k : Keep M w w') (hp : ¬ M p) (hr : ¬ M r) : IsTab tT tP W w' p r L := ⟨h.obj.keep k hp, h.row.keep k hr, h.pl, h.ne⟩
theorem IsTab.nob (h : IsTab tT tP W w p r L) (k : Keep Nob w w') : IsTab tT tP W w' p r L := h.keep k (fun f => f) (fun f => f)
theorem IsTab.gen_ (h : IsTab tT tP W w p r L) {i : Nat} {q : Pl} (hq : L[i]? = some q) : w.cell? ⟨r, i * W, none⟩ = some (.int .i64 q.gen) := by
  have := h.pl.each q (get_mem hq)
  have e := h.pl.get (i := i) (j := 0) (by omega) hq
  rw [h.row.cell]
  exact e
theorem IsTab.on_ (h : IsTab tT tP W w p r L) {i : Nat} {q : Pl} (hq : L[i]? = some q) : w.cell? ⟨r, i * W + 1, none⟩ = some (.bool q.on) := by
  have := h.pl.each q (get_mem hq)
  have e := h.pl.get (i := i) (j := 1) (by omega) hq
  rw [h.row.cell, e]
  rfl
theorem IsTab.v_ (h : IsTab tT tP W w p r L) {i : Nat} {q : Pl} (hq : L[i]? = some q) {j : Nat} {u : Value} (hj : q.v[j]? = some u) : w.cell? ⟨r, i * W + (2 + j), none⟩ = some u := by
  have := h.pl.each q (get_mem hq)
  have hl := get_lt hj
  have e := h.pl.get (i := i) (j := 2 + j) (by omega) hq
  rw [h.row.cell, e, Nat.add_comm 2 j]
  exact hj
/-- One place is written, cell by cell; what comes out is a place. -/
theorem IsTab.put (h : IsTab tT tP W w p r L) {i : Nat} (q' : Pl) (k : Keep (· = r) w w') (hb : Blk w' r tP (flat (L.set i q'))) (h1 : q'.v.length + 2 = W) (h2 : q'.gen ≤ 1000001) : IsTab tT tP W w' p r (L.set i q') :=
  ⟨by rw [List.length_set]; exact h.obj.keep k h.ne_, hb, h.pl.set i q' h1 h2, h.ne⟩
end
section
variable {tT tP : TypeId} {W : Nat} {w w' : World} {p r : Nat} {L : List Pl}
/-- One cell of a place is written. -/
theorem IsTab.wr (h : IsTab tT tP W w p r L) {i : Nat} {q : Pl} (hq : L[i]? = some q) (j : Nat) (u : Value) (q' : Pl) (hj : j < W) (hu : q.cells.set j u = q'.cells) (h2 : q'.gen ≤ 1000001) :
    IsTab tT tP W (w.setCell ⟨r, i * W + j, none⟩ u) p r (L.set i q') ∧ Keep (· = r) w (w.setCell ⟨r, i * W + j, none⟩ u) := by
  have k : Keep (· = r) w (w.setCell ⟨r, i * W + j, none⟩ u) := (Keep.refl _ w).setCell _ u (fun _ => rfl)
  have h1 := h.pl.each q (get_mem hq)
  have hl : q'.v.length + 2 = W := by
    have := congrArg List.length hu
    simp [Pl.cells] at this
    omega
  refine ⟨h.put q' k ?_ hl h2, k⟩
  have hb := h.row.setCell (i * W + j) u
  rwa [h.pl.set_cells hj hq u hu] at hb
theorem heap_size_setCell (w : World) (a : Addr) (u : Value) : (w.setCell a u).heap.size = w.heap.size := by simp [World.setCell]
theorem set_same {α : Type} {L : List α} {i : Nat} {q : α} (h : L[i]? = some q) : L.set i q = L := by
  apply List.ext_getElem?
  intro j
  rw [List.getElem?_set]
  split
  · subst_vars
    rw [if_pos (get_lt h)]
    exact h.symm
  · rfl
theorem IsTab.rows (h : IsTab tT tP W w p r L) {i : Nat} (q' : Pl) (h1 : q'.v.length + 2 = W) (h2 : q'.gen ≤ 1000001) (k : Keep (· = r) w w') (hb : Blk w' r tP ((L.map Pl.cells).set i q'.cells).flatten) :
    IsTab tT tP W w' p r (L.set i q') ∧ Keep (· = r) w w' :=
  ⟨h.put q' k (by rw [flat, List.map_set]; exact hb) h1 h2, k⟩
theorem rows_set {R : List (List Value)} (hR : ∀ c ∈ R, c.length = W) {i : Nat} {c : List Value} (hc : R[i]? = some c) (j : Nat) (hj : j < W) (u : Value) :
    R.flatten.set (i * W + j) u = (R.set i (c.set j u)).flatten ∧ (∀ c' ∈ R.set i (c.set j u), c'.length = W) ∧ (R.set i (c.set j u))[i]? = some (c.set j u) := by
  refine ⟨flatten_set u R hR i j c hj hc, fun c' h' => ?_, by rw [List.getElem?_set_self (get_lt hc)]⟩
  rcases List.mem_or_eq_of_mem_set h' with h3 | rfl
  · exact hR _ h3
  · rw [List.length_set]; exact hR c (get_mem hc)
theorem IsTab.wr3 (h : IsTab tT tP 3 w p r L) {i : Nat} {q : Pl} (hq : L[i]? = some q) (a b c : Value) (q' : Pl) (hu : q'.cells = [a, b, c]) (h2 : q'.gen ≤ 1000001) :
    IsTab tT tP 3 (((w.setCell ⟨r, i * 3, none⟩ a).setCell ⟨r, i * 3 + 1, none⟩ b).setCell ⟨r, i * 3 + 2, none⟩ c) p r (L.set i q') ∧ Keep (· = r) w (((w.setCell ⟨r, i * 3, none⟩ a).setCell ⟨r, i * 3 + 1, none⟩ b).setCell ⟨r, i * 3 + 2, none⟩ c) := by
  have hl : q'.v.length + 2 = 3 := by
    have := congrArg List.length hu
    simp [Pl.cells] at this
    omega
  have k0 : Keep (· = r) w w := Keep.refl _ w
  refine h.rows q' hl h2 (((k0.setCell ⟨r, i * 3, none⟩ a (fun _ => rfl)).setCell ⟨r, i * 3 + 1, none⟩ b (fun _ => rfl)).setCell ⟨r, i * 3 + 2, none⟩ c (fun _ => rfl)) ?_
  have hb := ((h.row.setCell (i * 3) a).setCell (i * 3 + 1) b).setCell (i * 3 + 2) c
  have e0 : (L.map Pl.cells)[i]? = some q.cells := by rw [List.getElem?_map, hq]; rfl
  obtain ⟨e1, r1, g1⟩ := rows_set h.pl.cells e0 0 (by decide) a
  obtain ⟨e2, r2, g2⟩ := rows_set r1 g1 1 (by decide) b
  obtain ⟨e3, r3, g3⟩ := rows_set r2 g2 2 (by decide) c
  rw [flat, show i * 3 = i * 3 + 0 from rfl, e1] at hb
  simp only [Nat.add_zero] at hb
  rw [e2, e3, List.set_set, List.set_set] at hb
  rw [hu]
  have hlen := h.pl.cells q.cells (get_mem e0)
  match hqc : q.cells, hlen with
  | [x, y, z], _ => rw [hqc] at hb; exact hb
theorem IsTab.wr4 (h : IsTab tT tP 4 w p r L) {i : Nat} {q : Pl} (hq : L[i]? = some q) (a b c d : Value) (q' : Pl) (hu : q'.cells = [a, b, c, d]) (h2 : q'.gen ≤ 1000001) :
    IsTab tT tP 4 ((((w.setCell ⟨r, i * 4, none⟩ a).setCell ⟨r, i * 4 + 1, none⟩ b).setCell ⟨r, i * 4 + 2, none⟩ c).setCell ⟨r, i * 4 + 3, none⟩ d) p r (L.set i q') ∧ Keep (· = r) w ((((w.setCell ⟨r, i * 4, none⟩ a).setCell ⟨r, i * 4 + 1, none⟩ b).setCell ⟨r, i * 4 + 2, none⟩ c).setCell ⟨r, i * 4 + 3, none⟩ d) := by
  have hl : q'.v.length + 2 = 4 := by
    have := congrArg List.length hu
    simp [Pl.cells] at this
    omega
  have k0 : Keep (· = r) w w := Keep.refl _ w
  refine h.rows q' hl h2 ((((k0.setCell ⟨r, i * 4, none⟩ a (fun _ => rfl)).setCell ⟨r, i * 4 + 1, none⟩ b (fun _ => rfl)).setCell ⟨r, i * 4 + 2, none⟩ c (fun _ => rfl)).setCell ⟨r, i * 4 + 3, none⟩ d (fun _ => rfl)) ?_
  have hb := (((h.row.setCell (i * 4) a).setCell (i * 4 + 1) b).setCell (i * 4 + 2) c).setCell (i * 4 + 3) d
  have e0 : (L.map Pl.cells)[i]? = some q.cells := by rw [List.getElem?_map, hq]; rfl
  obtain ⟨e1, r1, g1⟩ := rows_set h.pl.cells e0 0 (by decide) a
  obtain ⟨e2, r2, g2⟩ := rows_set r1 g1 1 (by decide) b
  obtain ⟨e3, r3, g3⟩ := rows_set r2 g2 2 (by decide) c
  obtain ⟨e4, r4, g4⟩ := rows_set r3 g3 3 (by decide) d
  rw [flat, show i * 4 = i * 4 + 0 from rfl, e1] at hb
  simp only [Nat.add_zero] at hb
  rw [e2, e3, e4, List.set_set, List.set_set, List.set_set] at hb
  rw [hu]
  have hlen := h.pl.cells q.cells (get_mem e0)
  match hqc : q.cells, hlen with
  | [x, y, z, t], _ => rw [hqc] at hb; exact hb
theorem IsTab.wr8 (h : IsTab tT tP 8 w p r L) {i : Nat} {q : Pl} (hq : L[i]? = some q) (a0 a1 a2 a3 a4 a5 a6 a7 : Value) (q' : Pl) (hu : q'.cells = [a0, a1, a2, a3, a4, a5, a6, a7]) (h2 : q'.gen ≤ 1000001) :
    IsTab tT tP 8 ((((((((w.setCell ⟨r, i * 8, none⟩ a0).setCell ⟨r, i * 8 + 1, none⟩ a1).setCell ⟨r, i * 8 + 2, none⟩ a2).setCell ⟨r, i * 8 + 3, none⟩ a3).setCell ⟨r, i * 8 + 4, none⟩ a4).setCell ⟨r, i * 8 + 5, none⟩ a5).setCell ⟨r, i * 8 + 6, none⟩ a6).setCell ⟨r, i * 8 + 7, none⟩ a7) p r (L.set i q') ∧ Keep (· = r) w ((((((((w.setCell ⟨r, i * 8, none⟩ a0).setCell ⟨r, i * 8 + 1, none⟩ a1).setCell ⟨r, i * 8 + 2, none⟩ a2).setCell ⟨r, i * 8 + 3, none⟩ a3).setCell ⟨r, i * 8 + 4, none⟩ a4).setCell ⟨r, i * 8 + 5, none⟩ a5).setCell ⟨r, i * 8 + 6, none⟩ a6).setCell ⟨r, i * 8 + 7, none⟩ a7) := by
  have hl : q'.v.length + 2 = 8 := by
    have := congrArg List.length hu
    simp [Pl.cells] at this
    omega
  have k0 : Keep (· = r) w w := Keep.refl _ w
  refine h.rows q' hl h2 ((((((((k0.setCell ⟨r, i * 8, none⟩ a0 (fun _ => rfl)).setCell ⟨r, i * 8 + 1, none⟩ a1 (fun _ => rfl)).setCell ⟨r, i * 8 + 2, none⟩ a2 (fun _ => rfl)).setCell ⟨r, i * 8 + 3, none⟩ a3 (fun _ => rfl)).setCell ⟨r, i * 8 + 4, none⟩ a4 (fun _ => rfl)).setCell ⟨r, i * 8 + 5, none⟩ a5 (fun _ => rfl)).setCell ⟨r, i * 8 + 6, none⟩ a6 (fun _ => rfl)).setCell ⟨r, i * 8 + 7, none⟩ a7 (fun _ => rfl)) ?_
  have hb := ((((((((h.row.setCell (i * 8) a0).setCell (i * 8 + 1) a1).setCell (i * 8 + 2) a2).setCell (i * 8 + 3) a3).setCell (i * 8 + 4) a4).setCell (i * 8 + 5) a5).setCell (i * 8 + 6) a6).setCell (i * 8 + 7) a7)
  have e0 : (L.map Pl.cells)[i]? = some q.cells := by rw [List.getElem?_map, hq]; rfl
  obtain ⟨e1, r1, g1⟩ := rows_set h.pl.cells e0 0 (by decide) a0
  obtain ⟨e2, r2, g2⟩ := rows_set r1 g1 1 (by decide) a1
  obtain ⟨e3, r3, g3⟩ := rows_set r2 g2 2 (by decide) a2
  obtain ⟨e4, r4, g4⟩ := rows_set r3 g3 3 (by decide) a3
  obtain ⟨e5, r5, g5⟩ := rows_set r4 g4 4 (by decide) a4
  obtain ⟨e6, r6, g6⟩ := rows_set r5 g5 5 (by decide) a5
  obtain ⟨e7, r7, g7⟩ := rows_set r6 g6 6 (by decide) a6
  obtain ⟨e8, r8, g8⟩ := rows_set r7 g7 7 (by decide) a7
  rw [flat, show i * 8 = i * 8 + 0 from rfl, e1] at hb
  simp only [Nat.add_zero] at hb
  rw [e2, e3, e4, e5, e6, e7, e8, List.set_set, List.set_set, List.set_set, List.set_set, List.set_set, List.set_set, List.set_set] at hb
  rw [hu]
  have hlen := h.pl.cells q.cells (get_mem e0)
  match hqc : q.cells, hlen with
  | [x0, x1, x2, x3, x4, x5, x6, x7], _ => rw [hqc] at hb; exact hb
/-- A place is taken: all but its generation is written. -/
theorem IsTab.wr8add (h : IsTab tT tP 8 w p r L) {i : Nat} {q : Pl} (hq : L[i]? = some q) (c0 c1 c2 c3 c4 c5 : Int) {u0 u1 u2 u3 u4 u5 : Value} (hu : q.v = [u0, u1, u2, u3, u4, u5]) :
    IsTab tT tP 8 (((((((w.setCell ⟨r, i * 8 + 1, none⟩ (.bool true)).setCell ⟨r, i * 8 + 2, none⟩ (.int .i64 c0)).setCell ⟨r, i * 8 + 3, none⟩ (.int .i64 c1)).setCell ⟨r, i * 8 + 4, none⟩ (.int .i64 c2)).setCell ⟨r, i * 8 + 5, none⟩ (.int .i64 c3)).setCell ⟨r, i * 8 + 6, none⟩ (.int .i64 c4)).setCell ⟨r, i * 8 + 7, none⟩ (.int .i64 c5)) p r (L.set i ⟨q.gen, true, [.int .i64 c0, .int .i64 c1, .int .i64 c2, .int .i64 c3, .int .i64 c4, .int .i64 c5]⟩) ∧ Keep (· = r) w (((((((w.setCell ⟨r, i * 8 + 1, none⟩ (.bool true)).setCell ⟨r, i * 8 + 2, none⟩ (.int .i64 c0)).setCell ⟨r, i * 8 + 3, none⟩ (.int .i64 c1)).setCell ⟨r, i * 8 + 4, none⟩ (.int .i64 c2)).setCell ⟨r, i * 8 + 5, none⟩ (.int .i64 c3)).setCell ⟨r, i * 8 + 6, none⟩ (.int .i64 c4)).setCell ⟨r, i * 8 + 7, none⟩ (.int .i64 c5)) := by
  have hg := h.pl.gen q (get_mem hq)
  have hi := get_lt hq
  obtain ⟨f1, k1⟩ := h.wr hq 1 (.bool true) ⟨q.gen, true, [u0, u1, u2, u3, u4, u5]⟩ (by decide) (by simp [Pl.cells, hu]) hg
  have hq1 : (L.set i ⟨q.gen, true, [u0, u1, u2, u3, u4, u5]⟩)[i]? = some ⟨q.gen, true, [u0, u1, u2, u3, u4, u5]⟩ := List.getElem?_set_self hi
  obtain ⟨f2, k2⟩ := f1.wr hq1 2 (.int .i64 c0) ⟨q.gen, true, [.int .i64 c0, u1, u2, u3, u4, u5]⟩ (by decide) (by simp [Pl.cells]) hg
  rw [List.set_set] at f2
  have hq2 : (L.set i ⟨q.gen, true, [.int .i64 c0, u1, u2, u3, u4, u5]⟩)[i]? = some ⟨q.gen, true, [.int .i64 c0, u1, u2, u3, u4, u5]⟩ := List.getElem?_set_self hi
  obtain ⟨f3, k3⟩ := f2.wr hq2 3 (.int .i64 c1) ⟨q.gen, true, [.int .i64 c0, .int .i64 c1, u2, u3, u4, u5]⟩ (by decide) (by simp [Pl.cells]) hg
  rw [List.set_set] at f3
  have hq3 : (L.set i ⟨q.gen, true, [.int .i64 c0, .int .i64 c1, u2, u3, u4, u5]⟩)[i]? = some ⟨q.gen, true, [.int .i64 c0, .int .i64 c1, u2, u3, u4, u5]⟩ := List.getElem?_set_self hi
  obtain ⟨f4, k4⟩ := f3.wr hq3 4 (.int .i64 c2) ⟨q.gen, true, [.int .i64 c0, .int .i64 c1, .int .i64 c2, u3, u4, u5]⟩ (by decide) (by simp [Pl.cells]) hg
  rw [List.set_set] at f4
  have hq4 : (L.set i ⟨q.gen, true, [.int .i64 c0, .int .i64 c1, .int .i64 c2, u3, u4, u5]⟩)[i]? = some ⟨q.gen, true, [.int .i64 c0, .int .i64 c1, .int .i64 c2, u3, u4, u5]⟩ := List.getElem?_set_self hi
  obtain ⟨f5, k5⟩ := f4.wr hq4 5 (.int .i64 c3) ⟨q.gen, true, [.int .i64 c0, .int .i64 c1, .int .i64 c2, .int .i64 c3, u4, u5]⟩ (by decide) (by simp [Pl.cells]) hg
  rw [List.set_set] at f5
  have hq5 : (L.set i ⟨q.gen, true, [.int .i64 c0, .int .i64 c1, .int .i64 c2, .int .i64 c3, u4, u5]⟩)[i]? = some ⟨q.gen, true, [.int .i64 c0, .int .i64 c1, .int .i64 c2, .int .i64 c3, u4, u5]⟩ := List.getElem?_set_self hi
  obtain ⟨f6, k6⟩ := f5.wr hq5 6 (.int .i64 c4) ⟨q.gen, true, [.int .i64 c0, .int .i64 c1, .int .i64 c2, .int .i64 c3, .int .i64 c4, u5]⟩ (by decide) (by simp [Pl.cells]) hg
  rw [List.set_set] at f6
  have hq6 : (L.set i ⟨q.gen, true, [.int .i64 c0, .int .i64 c1, .int .i64 c2, .int .i64 c3, .int .i64 c4, u5]⟩)[i]? = some ⟨q.gen, true, [.int .i64 c0, .int .i64 c1, .int .i64 c2, .int .i64 c3, .int .i64 c4, u5]⟩ := List.getElem?_set_self hi
  obtain ⟨f7, k7⟩ := f6.wr hq6 7 (.int .i64 c5) ⟨q.gen, true, [.int .i64 c0, .int .i64 c1, .int .i64 c2, .int .i64 c3, .int .i64 c4, .int .i64 c5]⟩ (by decide) (by simp [Pl.cells]) hg
  rw [List.set_set] at f7
  exact ⟨f7, ((((((k1.trans k2 (fun _ _ e => e)).trans k3 (fun _ _ e => e)).trans k4 (fun _ _ e => e)).trans k5 (fun _ _ e => e)).trans k6 (fun _ _ e => e)).trans k7 (fun _ _ e => e))⟩
end
section
variable {tT tP : TypeId} {W : Nat} {w w' : World} {p r : Nat} {L : List Pl}
theorem Keep.nobt {w'' : World} (h : Keep Nob w w') (h' : Keep Nob w' w'') : Keep Nob w w'' := h.trans h' (fun _ _ f => f)
/-- What is written elsewhere, in a block of another type, leaves a table as it is. -/
theorem IsTab.far {r' : Nat} {t' : TypeId} {cs : List Value} (h : IsTab tT tP W w p r L) (hb : Blk w r' t' cs) (h1 : tT ≠ t') (h2 : tP ≠ t') (k : Keep (· = r') w w') : IsTab tT tP W w' p r L :=
  h.keep k (h.obj.ne_ hb h1) (h.row.ne_ hb h2)
theorem IsTab.farV {e sz n cap : Nat} {A : Option Addr} {xs : List Value} (h : IsTab tT tP W w p r L) (hv : Vec w e sz A n cap xs) (h1 : tT ≠ e) (h2 : tP ≠ e) (k : Keep (Own A) w w') : IsTab tT tP W w' p r L :=
  h.keep k (fun ho => by obtain ⟨cur, hb⟩ := hv.blk ho; exact h.obj.ne_ hb h1 rfl) (fun ho => by obtain ⟨cur, hb⟩ := hv.blk ho; exact h.row.ne_ hb h2 rfl)
theorem Vec.far {e sz n cap : Nat} {A : Option Addr} {xs : List Value} (hv : Vec w e sz A n cap xs) {r' : Nat} {t' : TypeId} {cs : List Value} (hb : Blk w r' t' cs) (h1 : e ≠ t') (k : Keep (· = r') w w') : Vec w' e sz A n cap xs :=
  hv.keep k (fun g ho e' => by obtain ⟨cur, hc⟩ := hv.blk ho; exact hc.ne_ hb h1 e')
theorem Vec.farV {e e' sz sz' n n' cap cap' : Nat} {A A' : Option Addr} {xs xs' : List Value} (hv : Vec w e sz A n cap xs) (hv' : Vec w e' sz' A' n' cap' xs') (h1 : e ≠ e') (k : Keep (Own A') w w') : Vec w' e sz A n cap xs :=
  hv.keep k (fun g ho ho' => by obtain ⟨cur, hc⟩ := hv.blk ho; obtain ⟨cur', hc'⟩ := hv'.blk ho'; exact hc.ne_ hc' h1 rfl)
theorem Vec.nob {e sz n cap : Nat} {A : Option Addr} {xs : List Value} (hv : Vec w e sz A n cap xs) (k : Keep Nob w w') : Vec w' e sz A n cap xs := hv.keep k (fun _ _ f => f)
theorem Blk.nob {g : Nat} {t : TypeId} {cs : List Value} (h : Blk w g t cs) (k : Keep Nob w w') : Blk w' g t cs := h.keep k (fun f => f)
theorem Blk.farB {g r' : Nat} {t t' : TypeId} {cs cs' : List Value} (h : Blk w g t cs) (hb : Blk w r' t' cs') (h1 : t ≠ t') (k : Keep (· = r') w w') : Blk w' g t cs := h.keep k (h.ne_ hb h1)
end
/-- New places, of which the first j have their generation. -/
def fresh (zc : List Value) (k j : Nat) : List Pl := (List.range k).map fun i => ⟨if i < j then 1 else 0, false, zc⟩
theorem fresh_len (zc : List Value) (k j : Nat) : (fresh zc k j).length = k := by simp [fresh]
theorem fresh_get (zc : List Value) {k j i : Nat} (h : i < k) : (fresh zc k j)[i]? = some ⟨if i < j then 1 else 0, false, zc⟩ := by simp [fresh, h]
theorem fresh_set (zc : List Value) (k j : Nat) (h : j < k) : (fresh zc k j).set j ⟨1, false, zc⟩ = fresh zc k (j + 1) := by
  apply List.ext_getElem?
  intro i
  rw [List.getElem?_set, fresh_len]
  by_cases hi : i < k
  · rw [fresh_get zc hi, fresh_get zc hi]
    by_cases he : j = i
    · subst he; simp [h]
    · rw [if_neg he]
      have : (i < j) = (i < j + 1) := by simp; omega
      simp only [this]
  · rw [List.getElem?_eq_none (by rw [fresh_len]; omega), List.getElem?_eq_none (by rw [fresh_len]; omega)]
    split
    · omega
    · rfl
theorem fresh_all (zc : List Value) (k : Nat) : fresh zc k k = List.replicate k ⟨1, false, zc⟩ := by
  apply List.ext_getElem?
  intro i
  by_cases hi : i < k
  · rw [fresh_get zc hi]; simp [hi]
  · rw [List.getElem?_eq_none (by rw [fresh_len]; omega), List.getElem?_eq_none (by simp; omega)]
theorem fresh_none (zc : List Value) (k : Nat) : flat (fresh zc k 0) = (List.replicate k (Value.int .i64 0 :: Value.bool false :: zc)).flatten := by
  unfold flat
  congr 1
  apply List.ext_getElem?
  intro i
  by_cases hi : i < k
  · rw [List.getElem?_map, fresh_get zc hi]; simp [hi, Pl.cells]
  · rw [List.getElem?_eq_none (by rw [List.length_map, fresh_len]; omega), List.getElem?_eq_none (by simp; omega)]
theorem fresh_places (zc : List Value) (W k j : Nat) (hW : zc.length + 2 = W) (hk : k ≤ 256) : Places W (fresh zc k j) := by
  refine ⟨fun q hq => ?_, fun q hq => ?_, by rw [fresh_len]; exact hk⟩
  all_goals
    simp only [fresh, List.mem_map] at hq
    obtain ⟨i, _, rfl⟩ := hq
  · exact hW
  · dsimp only; split <;> omega
/-- The names that are there, by place, of the first k places; how many. -/
def names (L : List Pl) : Nat → List Int
  | 0 => []
  | k + 1 => names L k ++ (match L[k]? with | some q => if q.on then [(k : Int) + 256 * q.gen] else [] | none => [])
theorem names_on {L : List Pl} {k : Nat} {q : Pl} (hq : L[k]? = some q) (h : q.on = true) : names L (k + 1) = names L k ++ [(k : Int) + 256 * q.gen] := by
  rw [names, hq]
  dsimp only
  rw [if_pos h]
theorem names_off {L : List Pl} {k : Nat} {q : Pl} (hq : L[k]? = some q) (h : q.on = false) : names L (k + 1) = names L k := by
  rw [names, hq]
  dsimp only
  rw [if_neg (by rw [h]; decide), List.append_nil]
theorem names_le (L : List Pl) : ∀ k, (names L k).length ≤ k
  | 0 => by simp [names]
  | k + 1 => by
    have := names_le L k
    unfold names
    rw [List.length_append]
    split
    · split <;> simp <;> omega
    · simp; omega
def ints (l : List Int) : List Value := l.map fun x => Value.int .i64 x
@[simp] theorem ints_len (l : List Int) : (ints l).length = l.length := by simp [ints]
theorem ints_append (a b : List Int) : ints (a ++ b) = ints a ++ ints b := by simp [ints]
theorem ints_get (l : List Int) (i : Nat) : (ints l)[i]? = (l[i]?).map fun x => Value.int .i64 x := by simp [ints]
theorem ints_one (l : List Int) : ∀ v ∈ ints l, v.oneCell' = true := by
  intro v hv
  simp [ints] at hv
  obtain ⟨b, _, rfl⟩ := hv
  rfl
section
variable {P : Program} {w : World} {ops : Array Oper} {rest : List Oper} {o : Oper} {a : Act} {Q : Exit → Act → World → Prop}
/-- make([]T, n), elements of as many cells as their zero value has. -/
theorem wpList_mkN (hgd : o.guard = none) (l c : Operand) (t : TypeId) (ho : o.op = .makeSlice t l c)
    (e : TypeId) (z : Value) (by_ : Nat) (ht : P.underlying t = some (.slice e)) (hinfo : (P.info? e).map (fun i => (i.zero, i.size, i.bytes)) = some (some z, z.cells.size, by_))
    (kl kc : IntKind) (n : Nat) (L : Int) (hL : L = n) (hl : a.eval l = .int kl L) (hc : a.eval c = .int kc L) (hb : by_ * n ≤ 281474976710656) (h63 : n ≤ 9223372036854775807)
    (h : ∀ w', Blk w' w.heap.size e (List.replicate n z.cells.toList).flatten → Keep Nob w w' → w'.heap.size = w.heap.size + 1 → wpList P ops Q rest (a.put o.dst (.slice (some ⟨w.heap.size, 0, none⟩) n n)) w') :
    wpList P ops Q (o :: rest) a w := by
  subst hL
  refine wpList_plain hgd fun K hK => ?_
  obtain ⟨i, hi, hzz⟩ := Option.map_eq_some_iff.1 hinfo
  simp only [Prod.mk.injEq] at hzz
  obtain ⟨hz, hs, hby⟩ := hzz
  have hrun := run_make (P := P) w t e i z ht hi hz kl kc n n (by omega) (Int.le_refl _) (by
    have h : ((by_ * n : Nat) : Int) ≤ 281474976710656 := by omega
    rw [hby]
    rwa [Int.natCast_mul] at h) (by omega)
  simp only [Int.toNat_natCast, hs] at hrun
  have hh := h (w.alloc (.cells (madeCells z.cells (n * z.cells.size)) e)) (by
    have := Blk.new w e (madeCells z.cells (n * z.cells.size)).toList
    rw [Array.toArray_toList, madeCells_flat] at this
    exact this) ((Keep.refl _ w).alloc _) (by simp)
  unfold Oper.wp
  simp [execOp, ho, hl, hc, hrun, Result.andThen]
  exact hK _ _ hh
/-- A variable that lives in memory: a new block of the value's cells, the world a letter. -/
theorem wpList_box (hgd : o.guard = none) (t : TypeId) (x : Operand) (ho : o.op = .box t x) (cs : Array Value) (hx : a.eval x = .agg cs)
    (h : ∀ w', Blk w' w.heap.size t (Value.agg cs).cells.toList → Keep Nob w w' → w'.heap.size = w.heap.size + 1 → wpList P ops Q rest (a.put o.dst (.pointer (some ⟨w.heap.size, 0, none⟩))) w') :
    wpList P ops Q (o :: rest) a w := by
  refine wpList_plain hgd fun K hK => ?_
  have hh := h (w.alloc (.cells (Value.agg cs).cells t)) (by
    have := Blk.new w t (Value.agg cs).cells.toList
    rwa [Array.toArray_toList] at this) ((Keep.refl _ w).alloc _) (by simp)
  unfold Oper.wp
  simp [execOp, ho, hx, Instr.box, newRow, Result.andThen]
  exact hK _ _ hh
end
end Go.Proofs.YtaeiigniakjbpaaDoor
