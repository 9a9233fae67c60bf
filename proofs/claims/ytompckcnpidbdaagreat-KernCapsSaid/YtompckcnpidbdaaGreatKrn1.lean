/- Contracts of package kern: what reads alone, the clock, the Sects. -/
import Derived.Test.YtompckcnpidbdaaGreatKrn0
import Derived.Laws.ResultCell
import Derived.Laws.Rows
import Derived.StillTailTactics
import Derived.Deep.RegionHeld3
namespace Go.Proofs.YtompckcnpidbdaaGreat
open Go.RowKit
set_option linter.unusedVariables false
set_option linter.unusedSimpArgs false
def MyT (t : TypeId) : Prop := t ∈ [80, 104, 3, 4, 5, 144]
instance (t : TypeId) : Decidable (MyT t) := by unfold MyT; infer_instance
section
variable {w w' : World} {K K' : Kn}
theorem IsKn.ty (h : IsKn w K) : ∀ b, Mine K b → ∃ t cs, Blk w b t cs ∧ MyT t := by
  have ex : ∀ {b : Nat} {t : TypeId} {cs : List Value}, Blk w b t cs → MyT t → ∃ t cs, Blk w b t cs ∧ MyT t := fun hb ht => ⟨_, _, hb, ht⟩
  rintro b ((rfl | ⟨G, hG, hb⟩ | ⟨i, hi, rfl⟩ | rfl | ⟨i, hi, rfl⟩) | hb | ⟨G, hG, hb⟩)
  · exact ex h.obj (by decide)
  · rcases hb with rfl | hb
    · exact ex (h.sec G hG).1.obj (by decide)
    · obtain ⟨cur, hc⟩ := (h.sec G hG).1.row.blk hb
      exact ex hc (by decide)
  · exact ex (h.quo.tab i hi) (by decide)
  · exact ex h.reg.mem.row (by decide)
  · exact ex (h.reg.sp.tab i hi).row (by decide)
  · obtain ⟨cur, hc⟩ := h.env.blk hb
    exact ex hc (by decide)
  · obtain ⟨cur, hc⟩ := (h.sec G hG).2.2.blk hb
    exact ex hc (by decide)
theorem IsKn.mine_ne (h : IsKn w K) {g : Nat} {t : TypeId} {cs : List Value} (hb : Blk w g t cs) (ht : ¬ MyT t) : ¬ Mine K g := fun m => by
  obtain ⟨t', c, hc, hm⟩ := h.ty g m
  obtain ⟨_, rfl⟩ := hb.same hc
  exact ht hm
/-- What is of another type stays where a kernel's call has been. -/
theorem IsKn.offT (h : IsKn w K) {g : Nat} {t : TypeId} {cs : List Value} (hb : Blk w g t cs) (ht : ¬ MyT t) (k : Keep (Turn K) w w') : Blk w' g t cs := hb.keep k (fun m => h.mine_ne hb ht (.inl m))
/-- What is written in a block of another type leaves the kernel. -/
theorem IsKn.far (h : IsKn w K) {g : Nat} {t : TypeId} {cs : List Value} (hb : Blk w g t cs) (ht : ¬ MyT t) (hf : ¬ Fix t) (k : Keep (· = g) w w') : IsKn w' K :=
  h.keep (M := fun b => b = g) k (fun b e => ⟨t, cs, e ▸ hb, hf⟩) (fun b m e => h.mine_ne hb ht (e ▸ m))
theorem To.pre {w1 : World} (k : Keep Nob w w1) (t : To w1 K K' w') : To w K K' w' :=
  ⟨t.is, (k.mono (fun _ _ f => f.elim)).trans t.keep (fun _ _ m => m), fun b hb => (t.mine b hb).imp id (fun h => by have := k.size; omega)⟩
theorem To.post {w1 : World} (t : To w K K' w1) {g : Nat} {ty : TypeId} {cs : List Value} (hb : Blk w1 g ty cs) (ht : ¬ MyT ty) (hf : ¬ Fix ty) (hg : w.heap.size ≤ g) (k : Keep (· = g) w1 w') : To w K K' w' :=
  ⟨t.is.far hb ht hf k, t.keep.trans k (fun b hlt e => by omega), t.mine⟩
theorem To.nob {w1 : World} (t : To w K K' w1) (k : Keep Nob w1 w') : To w K K' w' := ⟨t.is.nob k, t.keep.trans k (fun _ _ f => f.elim), t.mine⟩
theorem IsKn.c0 (h : IsKn w K) : w.cell? ⟨K.k, 0, none⟩ = some (.int .i64 K.now) := h.obj.cell 0
theorem IsKn.c1 (h : IsKn w K) : w.cell? ⟨K.k, 1, none⟩ = some (.slice K.Ae K.envs.length K.ce) := h.obj.cell 1
theorem IsKn.c2 (h : IsKn w K) : w.cell? ⟨K.k, 2, none⟩ = some (.slice K.Ag K.gates.length K.cg) := h.obj.cell 2
theorem IsKn.c3 (h : IsKn w K) : w.cell? ⟨K.k, 3, none⟩ = some (.pointer (some ⟨K.pq, 0, none⟩)) := h.obj.cell 3
theorem IsKn.c4 (h : IsKn w K) : w.cell? ⟨K.k, 4, none⟩ = some (.pointer (some ⟨K.s, 0, none⟩)) := h.obj.cell 4
theorem IsKn.c5 (h : IsKn w K) : w.cell? ⟨K.k, 5, none⟩ = some (.pointer (some ⟨K.q, 0, none⟩)) := h.obj.cell 5
theorem IsKn.env_at (h : IsKn w K) {i : Nat} (hi : i < K.envs.length) : ∃ g, K.Ae = some ⟨g, 0, none⟩ ∧ w.cell? ⟨g, i, none⟩ = some (.int .i64 (K.envs.getD i 0)) := by
  obtain ⟨r, cur, hA, hb, hn, hc, ht⟩ := h.env.at_ (by omega)
  refine ⟨r, hA, ?_⟩
  have e : (ints K.envs)[i]? = some (.int .i64 (K.envs.getD i 0)) := by simp [ints, hi, List.getD_eq_getElem?_getD]
  rw [← ht, List.getElem?_take, if_pos (by omega)] at e
  rw [hb.cell]; exact e
theorem IsKn.gate_at (h : IsKn w K) {i : Nat} {G : Gt} (hG : K.gates[i]? = some G) : ∃ g, K.Ag = some ⟨g, 0, none⟩ ∧ w.cell? ⟨g, i * 2, none⟩ = some (.pointer (some ⟨G.p, 0, none⟩)) ∧ w.cell? ⟨g, i * 2 + 1, none⟩ = some (.slice G.mA G.may.length G.mc) := by
  have hi := get_lt hG
  obtain ⟨r, cur, hA, hb, hn, hc, ht⟩ := h.row.at_ (by omega)
  have hW : ∀ c ∈ K.gates.map Gt.cells, c.length = 2 := fun c hc => by
    obtain ⟨X, _, rfl⟩ := List.mem_map.1 hc
    rfl
  have e0 := flatten_get (K.gates.map Gt.cells) hW i 0 (by decide)
  have e1 := flatten_get (K.gates.map Gt.cells) hW i 1 (by decide)
  rw [List.getElem?_map, hG] at e0 e1
  rw [← gcells, ← ht, List.getElem?_take, if_pos (by omega)] at e0 e1
  exact ⟨r, hA, by rw [hb.cell]; exact e0, by rw [hb.cell]; exact e1⟩
theorem session_yes (h : IsKn w K) (i : Nat) (hi : i < K.envs.length) (v : Int) (hv : K.envs.getD i 0 = v) :
    Calls Tryz.prog 30 #[.pointer (some ⟨K.k, 0, none⟩), .int .i64 i] w fun e w' => e = .returned (.tuple #[.int .i64 v, .bool true]) ∧ w = w' := by
  have c1 := h.c1
  obtain ⟨g, hg, hc⟩ := h.env_at hi
  rw [hg] at c1
  rw [hv] at hc
  have h40 := h.reg.inv.n40
  clear hv
  generalize K.envs.length = n at *
  go_enter Tryz.func30, Tryz.ntmps30
  go_wp2
  go_ret2
  exact ⟨rfl, rfl⟩
theorem session_no (h : IsKn w K) (env : Int) (hi : env < 0 ∨ K.envs.length ≤ env) :
    Calls Tryz.prog 30 #[.pointer (some ⟨K.k, 0, none⟩), .int .i64 env] w fun e w' => e = .returned (.tuple #[.int .i64 0, .bool false]) ∧ w = w' := by
  have c1 := h.c1
  generalize K.envs.length = n at *
  by_cases h0 : env < 0
  · go_enter Tryz.func30, Tryz.ntmps30
    go_wp2
    go_ret2
    exact ⟨rfl, rfl⟩
  · have h1 : (n : Int) ≤ env := by omega
    go_enter Tryz.func30, Tryz.ntmps30
    go_wp2
    go_ret2
    exact ⟨rfl, rfl⟩
theorem now_is (h : IsKn w K) (v : Int) (hv : K.now = v) : Calls Tryz.prog 19 #[.pointer (some ⟨K.k, 0, none⟩)] w fun e w' => e = .returned (.int .i64 v) ∧ w = w' := by
  have c0 := h.c0
  rw [hv] at c0
  go_enter Tryz.func19, Tryz.ntmps19
  go_wp2
  go_ret
  exact ⟨rfl, rfl⟩
theorem space_is (h : IsKn w K) : Calls Tryz.prog 16 #[.pointer (some ⟨K.k, 0, none⟩)] w fun e w' => e = .returned (.pointer (some ⟨K.s, 0, none⟩)) ∧ w = w' := by
  have c4 := h.c4
  go_enter Tryz.func16, Tryz.ntmps16
  go_wp2
  go_ret
  exact ⟨rfl, rfl⟩
theorem ksect_is (h : IsKn w K) (i : Nat) (G : Gt) (hG : K.gates[i]? = some G) : Calls Tryz.prog 11 #[.pointer (some ⟨K.k, 0, none⟩), .int .i64 i] w fun e w' => e = .returned (.pointer (some ⟨G.p, 0, none⟩)) ∧ w = w' := by
  have c2 := h.c2
  obtain ⟨g, hg, hc0, hc1⟩ := h.gate_at hG
  have hi := get_lt hG
  have h8 := h.few
  rw [hg] at c2
  clear hc1
  generalize K.gates.length = n at *
  go_enter Tryz.func11, Tryz.ntmps11
  go_wp2
  go_ret
  exact ⟨rfl, rfl⟩
theorem infoAns : (Tryz.prog.info? 40).map (·.size) = some 3 := by kernel_rfl
theorem numbered_is (n e : Int) (w : World) : Calls Tryz.prog 34 #[.int .i64 n, .int .i64 e] w fun x w' => x = .returned (.agg #[.int .i64 e, .int .i64 n, .slice none 0 0]) ∧ Keep Nob w w' := by
  have k1 := (Keep.refl Nob w).alloc (.cells #[.int .i64 0, .int .i64 0, .slice none 0 0] 40)
  have kk : Keep (· = w.heap.size) w (w.alloc (.cells #[.int .i64 0, .int .i64 0, .slice none 0 0] 40)) := (Keep.refl _ w).alloc _
  go_enter Tryz.func34, Tryz.ntmps34
  go_wp2
  (try simp only [Exit.inBlock, Exit.then])
  (refine bodyPost_ret (v := .agg #[.int .i64 e, .int .i64 n, .slice none 0 0]) ?_ rfl ?_)
  · exact results_cell_row rfl _ _ w.heap.size 40 #[.int .i64 e, .int .i64 n, .slice none 0 0] (0, 0) _ rfl (Blk.new w _ [.int .i64 e, .int .i64 n, .slice none 0 0]) Tryz.underlying40 rfl infoAns
  exact ⟨rfl, (Keep.refl Nob w).alloc _⟩
theorem tick_is (h : IsKn w K) (n t : Int) (h0 : 0 ≤ K.now) (h1 : K.now ≤ 1073741824) (ht : min (K.now + min (max n 0) 1000) 1073741824 = t) :
    Calls Tryz.prog 9 #[.pointer (some ⟨K.k, 0, none⟩), .int .i64 n] w fun e w' => e = .returned (.int .i64 t) ∧ To w K { K with now := t } w' := by
  have c0 := h.c0
  have f0 := h.obj.frozen 0
  have fin : ∀ x, x = t → To w K { K with now := t } (w.setCell ⟨K.k, 0, none⟩ (.int .i64 x)) := fun x hx => by
    subst hx
    exact h.clock (by have := h.obj.setCell 0 (.int .i64 x); simpa using this) ((Keep.refl _ w).setCell _ _ (fun _ => rfl))
  have F := Lib.hid fin
  have HT := Lib.hid ht
  clear fin ht
  obtain ⟨y, hy⟩ : ∃ y, min (max n 0) 1000 = y := ⟨_, rfl⟩
  have HY := Lib.hid hy
  generalize hN : K.now = now at *
  have hy1 : 0 ≤ y ∧ y ≤ 1000 := by omega
  rcases (show (n < 0 ∧ y = 0) ∨ (1000 < n ∧ y = 1000) ∨ (0 ≤ n ∧ n ≤ 1000 ∧ y = n) by omega) with ⟨a1, rfl⟩ | ⟨a1, rfl⟩ | ⟨a1, a2, rfl⟩
  · clear hy hy1
    have hT := HT.out
    rw [HY.out] at hT
    have FF := F.out now (by omega)
    obtain rfl : t = now := by omega
    clear hT HT HY F
    go_enter Tryz.func9, Tryz.ntmps9
    go_wp2
    go_ret
    exact ⟨rfl, FF⟩
  · clear hy hy1
    by_cases hb : 1073741824 < now + 1000
    · have FF := F.out 1073741824 (by rw [← HT.out, HY.out]; omega)
      obtain rfl : t = 1073741824 := by rw [← HT.out, HY.out]; omega
      clear HT HY F
      go_enter Tryz.func9, Tryz.ntmps9
      go_wp2
      go_ret
      exact ⟨rfl, FF⟩
    · have FF := F.out (now + 1000) (by rw [← HT.out, HY.out]; omega)
      obtain rfl : t = now + 1000 := by rw [← HT.out, HY.out]; omega
      clear HT HY F
      go_enter Tryz.func9, Tryz.ntmps9
      go_wp2
      go_ret
      exact ⟨rfl, FF⟩
  · clear hy hy1
    by_cases hb : 1073741824 < now + y
    · have FF := F.out 1073741824 (by rw [← HT.out, HY.out]; omega)
      obtain rfl : t = 1073741824 := by rw [← HT.out, HY.out]; omega
      clear HT HY F
      go_enter Tryz.func9, Tryz.ntmps9
      go_wp2
      go_ret
      exact ⟨rfl, FF⟩
    · have FF := F.out (now + y) (by rw [← HT.out, HY.out]; omega)
      obtain rfl : t = now + y := by rw [← HT.out, HY.out]; omega
      clear HT HY F
      go_enter Tryz.func9, Tryz.ntmps9
      go_wp2
      go_ret
      exact ⟨rfl, FF⟩
end
end Go.Proofs.YtompckcnpidbdaaGreat
