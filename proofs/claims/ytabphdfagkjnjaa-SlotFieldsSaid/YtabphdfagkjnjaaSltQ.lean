/- What a call tells of a block and a slot; a new row of bytes as a text. -/
import Derived.Test.YtabphdfagkjnjaaSlt0
import Derived.Laws.ResultCell
namespace Go.Proofs.Ytabphdfagkjnjaa
open Go.RowKit
set_option linter.unusedVariables false
set_option linter.unusedSimpArgs false
theorem infoP_ : (Try.prog.info? 24).map (·.size) = some 16 := by kernel_rfl
theorem results_pair {fn : Func} {p u : Tmp} (h : fn.results = #[.cell p 24, .tmp u]) (tmps : Array Value) (w : World) (g : Nat) (q : List Int) (hq : q.length = 16)
    (hp : tmps.getD p undef = .pointer (some ⟨g, 0, none⟩)) (hg : Blk w g 24 (ints q)) (v : Value) (hv : tmps.getD u undef = v) :
    (results fn tmps).run Try.prog w = .ok (.tuple #[.agg (ints q).toArray, v]) w := by
  rw [results_cell_tmp h, hp, hv]
  have := run_loadVar_row (P := Try.prog) w g 24 24 (ints q).toArray (0, 0) _ hg Try.underlying24 rfl (by rw [infoP_]; simp [hq])
  simp [asAddr, Result.andThen, this]
theorem results_one {fn : Func} {p : Tmp} (h : fn.results = #[.cell p 24]) (tmps : Array Value) (w : World) (g : Nat) (q : List Int) (hq : q.length = 16)
    (hp : tmps.getD p undef = .pointer (some ⟨g, 0, none⟩)) (hg : Blk w g 24 (ints q)) :
    (results fn tmps).run Try.prog w = .ok (.agg (ints q).toArray) w :=
  results_cell_row h tmps w g 24 (ints q).toArray (0, 0) _ hp hg Try.underlying24 rfl (by rw [infoP_]; simp [hq])
theorem conv_new (W : World) (l : List UInt8) (cs : List Value) (n c : Nat) (hcs : cs = bytes l) (hn : l.length = n) :
    (convert 26 9 (.slice (some ⟨W.heap.size, 0, none⟩) n c)).run Try.prog (W.alloc (.cells cs.toArray 5)) = .ok (.string (str l)) (W.alloc (.cells cs.toArray 5)) := by
  subst hcs
  exact run_str (P := Try.prog) _ 26 9 5 _ n c _ Try.underlying26 Try.underlying5 Try.underlying9 (reads_all (Blk.new W 5 (bytes l)) (by rw [bytes_length, hn]))
theorem str_tl (l : List UInt8) : (str l).toList = l := by
  rw [ByteArray.toList_eq]; simp [str]
/-- The first j numbers that bytes tell, and noughts. -/
def rpt (l : List UInt8) (j : Nat) : List Int := (rd l).take j ++ List.replicate (16 - j) 0
theorem rpt_len {l : List UInt8} (h : l.length = 24) {j : Nat} (hj : j ≤ 16) : (rpt l j).length = 16 := by
  simp [rpt, rd_len h]; omega
theorem rpt_all {l : List UInt8} (h : l.length = 24) : rpt l 16 = rd l := by
  rw [rpt, List.take_of_length_le (by rw [rd_len h]; exact Nat.le_refl _)]; simp
theorem rpt_set {l : List UInt8} (h : l.length = 24) {k : Nat} (hk : k < 16) : (rpt l k).set k ((rd l).getD k 0) = rpt l (k + 1) := by
  obtain ⟨x0, x1, x2, x3, x4, x5, x6, x7, x8, x9, y0, y1, y2, y3, y4, y5, y6, y7, y8, y9, z0, z1, z2, z3, rfl⟩ := split24 h
  rcases (show k = 0 ∨ k = 1 ∨ k = 2 ∨ k = 3 ∨ k = 4 ∨ k = 5 ∨ k = 6 ∨ k = 7 ∨ k = 8 ∨ k = 9 ∨ k = 10 ∨ k = 11 ∨ k = 12 ∨ k = 13 ∨ k = 14 ∨ k = 15 from by omega) with rfl | rfl | rfl | rfl | rfl | rfl | rfl | rfl | rfl | rfl | rfl | rfl | rfl | rfl | rfl | rfl <;> rfl
theorem ints_set (l : List Int) (k : Nat) (x : Int) : (ints l).set k (.int .i64 x) = ints (l.set k x) := by
  simp [ints, List.map_set]
theorem rd_two {l : List UInt8} (k : Nat) (hk : k < 4) : (rd l).getD (4 + k) 0 = num l (4 + 2 * k) := by
  rcases (show k = 0 ∨ k = 1 ∨ k = 2 ∨ k = 3 from by omega) with rfl | rfl | rfl | rfl <;> rfl
theorem rd_fds {l : List UInt8} (h : l.length = 24) (k : Nat) (hk : k < 8) : (rd l).getD (8 + k) 0 = ((l.getD (12 + k) 0).toNat : Int) := by
  obtain ⟨x0, x1, x2, x3, x4, x5, x6, x7, x8, x9, y0, y1, y2, y3, y4, y5, y6, y7, y8, y9, z0, z1, z2, z3, rfl⟩ := split24 h
  rcases (show k = 0 ∨ k = 1 ∨ k = 2 ∨ k = 3 ∨ k = 4 ∨ k = 5 ∨ k = 6 ∨ k = 7 from by omega) with rfl | rfl | rfl | rfl | rfl | rfl | rfl | rfl <;> rfl
theorem rd_wf {l : List UInt8} (h : l.length = 24) : ∀ x ∈ rd l, Wf x := by
  intro x hx
  have hn : ∀ a, Wf (num l a) := fun a => by
    have := u8_lt (l.getD a 0)
    have := u8_lt (l.getD (a + 1) 0)
    exact ⟨by unfold num; omega, by unfold num; omega⟩
  have hb : ∀ b : UInt8, Wf ((b.toNat : Int)) := fun b => by
    have := u8_lt b
    exact ⟨by omega, by omega⟩
  unfold rd at hx
  simp only [List.mem_append, List.mem_cons, List.not_mem_nil, or_false, List.mem_map] at hx
  rcases hx with (rfl | rfl | rfl | rfl | rfl | rfl | rfl | rfl) | ⟨b, _, rfl⟩
  · exact hb _
  · exact hb _
  · exact hb _
  · exact hb _
  · exact hn _
  · exact hn _
  · exact hn _
  · exact hn _
  · exact hb _
theorem load16 {w : World} {g : Nat} {q : List Int} (hq : q.length = 16) (hb : Blk w g 24 (ints q)) : (loadCellsFrom ⟨g, 0, none⟩ 0 16 #[]).run Try.prog w = .ok (ints q).toArray w := by
  have := run_loadCells_list (P := Try.prog) w ⟨g, 0, none⟩ (ints q) (fun j v hv => by rw [add_lit, Nat.zero_add, hb.cell]; exact hv)
  rw [ints_len, hq] at this
  simpa [loadCells] using this
end Go.Proofs.Ytabphdfagkjnjaa
