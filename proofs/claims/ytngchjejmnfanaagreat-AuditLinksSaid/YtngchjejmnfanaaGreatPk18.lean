/- Texts Sort, packed. -/
import Derived.Test.YtngchjejmnfanaaGreatRows
import Derived.Shelf.SlSortCmp.WholeK
import Derived.Deep.RegionHeld3
import Derived.Deep.QuietTactic
import Derived.BigQuiet
import Derived.StillTailTactics
import Derived.Test.YtngchjejmnfanaaGreatPk0
namespace Go.Proofs.YtngchjejmnfanaaGreat
open Go.RowKit Go.Shelf Go.Lib Go.Sort
set_option linter.unusedVariables false
set_option linter.unusedSimpArgs false
def sortRef_ren : Go.Shelf.Ren := ⟨fun | 6 => 268 | 15 => 160 | 14 => 300 | 28 => 247 | 29 => 248 | 20 => 309 | 21 => 310 | 22 => 311 | 23 => 312 | 24 => 313 | 25 => 314 | 26 => 315 | 27 => 316 | 46 => 326 | 47 => 294 | 48 => 295 | 49 => 327 | 50 => 328 | 57 => 329 | n => n, fun | 22 => 316 | 24 => 200 | 25 => 381 | 3 => 3 | 39 => 234 | 0 => 0 | 53 => 355 | 55 => 357 | 4 => 4 | 46 => 349 | 45 => 348 | 50 => 114 | 5 => 5 | 9 => 9 | 66 => 400 | 70 => 404 | 76 => 412 | 77 => 195 | n => n, fun | n => n⟩
theorem sortRef : SlLaysF0.n6 Tryz.prog sortRef_ren := {
  mixed := by kernel_rfl,
  f6 := ⟨Tryz.f268.name, by decide, Tryz.func268.trans (congrArg some (by kernel_rfl))⟩,
  f14 := ⟨Tryz.f300.name, by decide, Tryz.func300.trans (congrArg some (by kernel_rfl))⟩,
  f15 := Tryz.func160.trans (congrArg some (by kernel_rfl)),
  f20 := ⟨Tryz.f309.name, by decide, Tryz.func309.trans (congrArg some (by kernel_rfl))⟩,
  f21 := ⟨Tryz.f310.name, by decide, Tryz.func310.trans (congrArg some (by kernel_rfl))⟩,
  f22 := ⟨Tryz.f311.name, by decide, Tryz.func311.trans (congrArg some (by kernel_rfl))⟩,
  f23 := ⟨Tryz.f312.name, by decide, Tryz.func312.trans (congrArg some (by kernel_rfl))⟩,
  f24 := ⟨Tryz.f313.name, by decide, Tryz.func313.trans (congrArg some (by kernel_rfl))⟩,
  f25 := ⟨Tryz.f314.name, by decide, Tryz.func314.trans (congrArg some (by kernel_rfl))⟩,
  f26 := ⟨Tryz.f315.name, by decide, Tryz.func315.trans (congrArg some (by kernel_rfl))⟩,
  f27 := ⟨Tryz.f316.name, by decide, Tryz.func316.trans (congrArg some (by kernel_rfl))⟩,
  f28 := Tryz.func247.trans (congrArg some (by kernel_rfl)),
  f29 := Tryz.func248.trans (congrArg some (by kernel_rfl)),
  f46 := ⟨Tryz.f326.name, by decide, Tryz.func326.trans (congrArg some (by kernel_rfl))⟩,
  f47 := Tryz.func294.trans (congrArg some (by kernel_rfl)),
  f48 := Tryz.func295.trans (congrArg some (by kernel_rfl)),
  f49 := ⟨Tryz.f327.name, by decide, Tryz.func327.trans (congrArg some (by kernel_rfl))⟩,
  f50 := ⟨Tryz.f328.name, by decide, Tryz.func328.trans (congrArg some (by kernel_rfl))⟩,
  f57 := ⟨Tryz.f329.name, by decide, Tryz.func329.trans (congrArg some (by kernel_rfl))⟩,
  t0 := Tryz.underlying0,
  a0 := Tryz.isAgg0,
  z0 := Tryz.sizeOf0,
  v0 := Tryz.zeroValue0,
  t3 := Tryz.underlying3,
  a3 := Tryz.isAgg3,
  z3 := Tryz.sizeOf3,
  v3 := Tryz.zeroValue3,
  t4 := Tryz.underlying4,
  a4 := Tryz.isAgg4,
  z4 := Tryz.sizeOf4,
  v4 := Tryz.zeroValue4,
  t5 := Tryz.underlying5,
  a5 := Tryz.isAgg5,
  z5 := Tryz.sizeOf5,
  v5 := Tryz.zeroValue5,
  t9 := Tryz.underlying9,
  a9 := Tryz.isAgg9,
  z9 := Tryz.sizeOf9,
  v9 := Tryz.zeroValue9,
  t22 := Tryz.underlying316,
  a22 := Tryz.isAgg316,
  z22 := Tryz.sizeOf316,
  v22 := Tryz.zeroValue316,
  t25 := Tryz.underlying381,
  a25 := Tryz.isAgg381,
  z25 := Tryz.sizeOf381,
  v25 := Tryz.zeroValue381,
  t39 := Tryz.underlying234,
  a39 := Tryz.isAgg234,
  z39 := Tryz.sizeOf234,
  v39 := Tryz.zeroValue234,
  t45 := Tryz.underlying348,
  a45 := Tryz.isAgg348,
  z45 := Tryz.sizeOf348,
  v45 := Tryz.zeroValue348,
  t46 := Tryz.underlying349,
  a46 := Tryz.isAgg349,
  z46 := Tryz.sizeOf349,
  v46 := Tryz.zeroValue349,
  t50 := Tryz.underlying114,
  a50 := Tryz.isAgg114,
  z50 := Tryz.sizeOf114,
  v50 := Tryz.zeroValue114,
  t53 := Tryz.underlying355,
  a53 := Tryz.isAgg355,
  z53 := Tryz.sizeOf355,
  v53 := Tryz.zeroValue355,
  t55 := Tryz.underlying357,
  a55 := Tryz.isAgg357,
  z55 := Tryz.sizeOf357,
  v55 := Tryz.zeroValue357,
  t66 := Tryz.underlying400,
  a66 := Tryz.isAgg400,
  z66 := Tryz.sizeOf400,
  v66 := Tryz.zeroValue400,
  t70 := Tryz.underlying404,
  a70 := Tryz.isAgg404,
  z70 := Tryz.sizeOf404,
  v70 := Tryz.zeroValue404,
  t76 := Tryz.underlying412,
  a76 := Tryz.isAgg412,
  z76 := Tryz.sizeOf412,
  v76 := Tryz.zeroValue412,
  t77 := Tryz.underlying195,
  a77 := Tryz.isAgg195,
  z77 := Tryz.sizeOf195,
  v77 := Tryz.zeroValue195 }



def cmpI (a b : Int) : Int := if a < b then -1 else if b < a then 1 else 0
def cmpR (x y : Rf) : Int := if cmpI x.1 y.1 = 0 then cmpI x.2 y.2 else cmpI x.1 y.1
/-- Env first, then Name. -/
def ltR (x y : Rf) : Prop := x.1 < y.1 ∨ (x.1 = y.1 ∧ x.2 < y.2)
theorem ltOf_cmpR (x y : Rf) : ltOf cmpR x y = true ↔ ltR x y := by
  unfold ltOf cmpR cmpI ltR
  simp only [decide_eq_true_eq]
  split <;> (repeat' split at *) <;> omega
theorem swoR : SWO (ltOf cmpR) where
  irrefl x := by
    have h := ltOf_cmpR x x
    cases e : ltOf cmpR x x with
    | false => rfl
    | true => have := h.1 e; unfold ltR at this; omega
  trans x y z h1 h2 := by
    rw [ltOf_cmpR] at *
    unfold ltR at *
    omega
  ntrans x y z h1 h2 := by
    have f : ∀ a b, ltOf cmpR a b = false ↔ ¬ ltR a b := fun a b => by rw [← ltOf_cmpR]; simp
    rw [f] at *
    unfold ltR at *
    omega
theorem mixed : Tryz.prog.follows .mixedOrders = true := by kernel_rfl
theorem nan_is (x : Int) (w : World) : Calls Tryz.prog 249 #[.int .i64 x] w fun e w' => e = .returned (.bool false) ∧ w = w' := by
  go_enter Tryz.func249, Tryz.ntmps249
  go_wp2
  go_ret
  exact ⟨rfl, rfl⟩
theorem cmp_is (x y : Int) (w : World) : Calls Tryz.prog 162 #[.int .i64 x, .int .i64 y] w fun e w' => e = .returned (.int .i64 (cmpI x y)) ∧ w = w' := by
  rcases Int.lt_trichotomy x y with h | h | h
  · have hr : cmpI x y = -1 := by unfold cmpI; rw [if_pos h]
    rw [hr]
    go_enter Tryz.func162, Tryz.ntmps162
    go_wp2_with fail
    refine (nan_is _ _).mono ?_; rintro e w' ⟨rfl, rfl⟩
    go_wp2_with fail
    refine (nan_is _ _).mono ?_; rintro e w' ⟨rfl, rfl⟩
    go_wp2
    go_ret
    exact ⟨rfl, rfl⟩
  · subst h
    have hr : cmpI x x = 0 := by unfold cmpI; simp
    rw [hr]
    go_enter Tryz.func162, Tryz.ntmps162
    go_wp2_with fail
    refine (nan_is _ _).mono ?_; rintro e w' ⟨rfl, rfl⟩
    go_wp2_with fail
    refine (nan_is _ _).mono ?_; rintro e w' ⟨rfl, rfl⟩
    go_wp2
    go_ret
    exact ⟨rfl, rfl⟩
  · have hr : cmpI x y = 1 := by unfold cmpI; rw [if_neg (by omega), if_pos h]
    rw [hr]
    go_enter Tryz.func162, Tryz.ntmps162
    go_wp2_with fail
    refine (nan_is _ _).mono ?_; rintro e w' ⟨rfl, rfl⟩
    go_wp2_with fail
    refine (nan_is _ _).mono ?_; rintro e w' ⟨rfl, rfl⟩
    go_wp2
    go_ret
    exact ⟨rfl, rfl⟩
theorem or_is (g : Nat) (x y : Int) (w : World) (h0 : w.cell? ⟨g, 0, none⟩ = some (.int .i64 x)) (h1 : w.cell? ⟨g, 1, none⟩ = some (.int .i64 y)) :
    Calls Tryz.prog 161 #[.slice (some ⟨g, 0, none⟩) 2 2] w fun e w' => e = .returned (.int .i64 (if x = 0 then y else x)) ∧ w = w' := by
  by_cases hx : x = 0
  · rw [if_pos hx]
    by_cases hy : y = 0
    · go_enter Tryz.func161, Tryz.ntmps161
      go_wp2
      go_loop [8] (fun s => ∃ k : Nat, k ≤ 2 ∧ s = .int .i64 k) (fun s => 2 - (intOf s).toNat)
      case atStart => exact ⟨0, by omega, rfl⟩
      case round =>
        obtain ⟨k, hk, rfl⟩ := hrel
        rcases (show k = 0 ∨ k = 1 ∨ k = 2 by omega) with rfl | rfl | rfl
        · go_wp2
          go_round
          case rel => exact ⟨1, by omega, rfl⟩
          case measure => simp [intOf]
        · go_wp2
          go_round
          case rel => exact ⟨2, by omega, rfl⟩
          case measure => simp [intOf]
        · go_wp2
          go_ret
          exact ⟨rfl, rfl⟩
    · go_enter Tryz.func161, Tryz.ntmps161
      go_wp2
      go_loop [8] (fun s => ∃ k : Nat, k ≤ 1 ∧ s = .int .i64 k) (fun s => 2 - (intOf s).toNat)
      case atStart => exact ⟨0, by omega, rfl⟩
      case round =>
        obtain ⟨k, hk, rfl⟩ := hrel
        rcases (show k = 0 ∨ k = 1 by omega) with rfl | rfl
        · go_wp2
          go_round
          case rel => exact ⟨1, by omega, rfl⟩
          case measure => simp [intOf]
        · go_wp2
          go_ret
          exact ⟨rfl, rfl⟩
  · rw [if_neg hx]
    go_enter Tryz.func161, Tryz.ntmps161
    go_wp2
    go_loop [8] (fun s => s = .int .i64 0) (fun s => 2 - (intOf s).toNat)
    case atStart => rfl
    case round =>
      obtain rfl := hrel
      go_wp2
      go_ret
      exact ⟨rfl, rfl⟩
set_option maxRecDepth 100000 in
set_option maxHeartbeats 1000000 in
theorem by_is (x y : Rf) (w : World) : Calls Tryz.prog 269 #[.agg #[.int .i64 x.1, .int .i64 x.2], .agg #[.int .i64 y.1, .int .i64 y.2]] w fun e w' => e = .returned (.int .i64 (cmpR x y)) ∧ ∃ q os', w' = grow (w.drewN q) os' := by
  obtain ⟨x1, x2⟩ := x
  obtain ⟨y1, y2⟩ := y
  have e : cmpR (x1, x2) (y1, y2) = if cmpI x1 y1 = 0 then cmpI x2 y2 else cmpI x1 y1 := rfl
  rw [e]
  clear e
  have hc1 := fun W => cmp_is x1 y1 W
  have hc2 := fun W => cmp_is x2 y2 W
  generalize cmpI x1 y1 = r1 at hc1 ⊢
  generalize cmpI x2 y2 = r2 at hc2 ⊢
  go_enter Tryz.func269, Tryz.ntmps269
  go_wp2_with fail
  obtain ⟨W, hW⟩ : ∃ W, W = (w.alloc (.cells #[.int .i64 x1, .int .i64 x2] 200)).alloc (.cells #[.int .i64 y1, .int .i64 y2] 200) := ⟨_, rfl⟩
  have g0 : W.drew.cell? ⟨w.heap.size, 0, none⟩ = some (.int .i64 x1) := by rw [hW]; go_simp
  have g1 : W.drew.cell? ⟨w.heap.size, 1, none⟩ = some (.int .i64 x2) := by rw [hW]; go_simp
  have g2 : W.drew.cell? ⟨w.heap.size + 1, 0, none⟩ = some (.int .i64 y1) := by rw [hW]; go_simp
  have g3 : W.drew.cell? ⟨w.heap.size + 1, 1, none⟩ = some (.int .i64 y2) := by rw [hW]; go_simp
  have hg : W.drew = grow (w.drewN 1) #[.cells #[.int .i64 x1, .int .i64 x2] 200, .cells #[.int .i64 y1, .int .i64 y2] 200] := by rw [hW, alloc_eq_grow, alloc_eq_grow, grow_grow]; rfl
  rw [← hW]
  clear hW
  refine wp_region_still_tail 10 mixed (by kernel_rfl) ?_
  simp only [List.take_succ_cons, List.take_zero, List.drop_succ_cons, List.drop_zero]
  change wpStill _ _ W.drew (fun a' => wpList _ _ _ _ a' W.drew) _ _
  generalize W.drew = V at g0 g1 g2 g3 hg ⊢
  have Hg := Lib.hid hg
  clear hg
  iterate 4 still_step
  still_call ((hc1 _).mono fun _ _ h => ⟨h.1, h.2.symm⟩)
  iterate 4 still_step
  still_call ((hc2 _).mono fun _ _ h => ⟨h.1, h.2.symm⟩)
  refine wpStill_nil ?_
  go_wp2_with (go_at_call 161; refine (or_is _ r1 r2 _ (by go_simp) (by go_simp)).mono ?_; rintro e w' ⟨rfl, rfl⟩)
  all_goals
    go_wp2
    go_ret
    exact ⟨rfl, 1, _, by rw [Hg.out, alloc_eq_grow, grow_grow]⟩
theorem lays (g off n : Nat) (w : World) : CmpLays Tryz.prog 269 #[] rcells 2 cmpR g off n w :=
  fun _ _ _ _ x y => by_is x y _
theorem flatK_refs (l : List Rf) : (flatK rcells 2 l.toArray).toList = refs l := by
  apply List.ext_getElem?
  intro t
  by_cases h : t < l.length * 2
  · have hj : t / 2 < l.length := by omega
    have hx : l[t / 2]? = some l[t / 2] := List.getElem?_eq_getElem hj
    have e := refs_get hx (j := t % 2) (by omega)
    rw [show t / 2 * 2 + t % 2 = t from by omega] at e
    rw [e]
    have h2 : t < (l.toArray).size * 2 := by simpa using h
    have e2 := get_flatK rcells 2 l.toArray t h2
    have h3 : t < (flatK rcells 2 l.toArray).size := by simpa using h
    rw [getElem!_pos (flatK rcells 2 l.toArray) t h3] at e2
    rw [Array.getElem?_toList, Array.getElem?_eq_getElem h3, e2]
    have e3 : (l.toArray)[t / 2]! = l[t / 2] := by rw [getElem!_pos _ _ (by simpa using hj)]; simp
    rw [e3]
    have hl : t % 2 < (rcells l[t / 2]).length := by show t % 2 < 2; omega
    rw [getElem!_pos (rcells l[t / 2]) (t % 2) hl, List.getElem?_eq_getElem hl]
  · rw [List.getElem?_eq_none (by simp; omega), List.getElem?_eq_none (by rw [refs_len]; omega)]
theorem putRow_blk {w : World} {g : Nat} {t : TypeId} {cur : List Value} (h : Blk w g t cur) (F : Array Value) (hF : F.size ≤ cur.length) (m : Nat) (os : Array Obj) :
    Blk (grow (putRow id (Sort.ahead w m) g 0 F) os) g t (F.toList ++ cur.drop F.size) ∧ Keep (· = g) w (grow (putRow id (Sort.ahead w m) g 0 F) os) := by
  have hlt := h.lt
  have hh : (putRow id (Sort.ahead w m) g 0 F).heap[g]? = some (.cells (putCells id 0 F cur.toArray) t (0, 0)) := by
    show (w.heap.modify g (onCells _))[g]? = _
    rw [Array.getElem?_modify, if_pos rfl]
    unfold Blk at h
    rw [h]
    rfl
  have hsz : (putRow id (Sort.ahead w m) g 0 F).heap.size = w.heap.size := by
    show (w.heap.modify g (onCells _)).size = _
    simp
  have hc : putCells id 0 F cur.toArray = (F.toList ++ cur.drop F.size).toArray := by
    apply Array.ext
    · simp [putCells]; omega
    · intro i h1 h2
      simp only [putCells, Array.getElem_mapIdx, Nat.zero_le, true_and, Nat.zero_add, Nat.sub_zero, List.getElem_toArray, id]
      by_cases hi : i < F.size
      · rw [if_pos hi, List.getElem_append_left (by simpa using hi), getElem!_pos F i hi]
        simp
      · rw [if_neg hi, List.getElem_append_right (by simpa using hi)]
        simp only [List.getElem_drop, Array.length_toList]
        congr 1
        omega
  refine ⟨?_, ⟨rfl, rfl, rfl, ?_, fun k hk hne => ?_⟩⟩
  · show (_ ++ os)[g]? = _
    rw [Array.getElem?_append_left (by rw [hsz]; exact hlt), hh, hc]
  · show w.heap.size ≤ (_ ++ os).size
    rw [Array.size_append, hsz]
    omega
  · show (_ ++ os)[k]? = _
    rw [Array.getElem?_append_left (by rw [hsz]; exact hk)]
    show (w.heap.modify g (onCells _))[k]? = _
    rw [Array.getElem?_modify, if_neg (Ne.symm hne)]
theorem sort_is {w : World} {g n cap : Nat} {l : List Rf} (hv : Vec w 200 2 (some ⟨g, 0, none⟩) n cap (refs l)) (hn : n < 4611686018427387904) :
    Calls Tryz.prog 268 #[.slice (some ⟨g, 0, none⟩) n cap, .func (.func 269) #[] #[]] w fun e w' => e = .returned (.tuple #[]) ∧ ∃ l', l'.Perm l ∧ l'.Pairwise (fun a b => ¬ ltR b a) ∧ Vec w' 200 2 (some ⟨g, 0, none⟩) n cap (refs l') ∧ Keep (· = g) w w' := by
  obtain ⟨hlen, hrest⟩ := hv
  rw [refs_len] at hlen
  obtain rfl : n = l.length := by omega
  obtain ⟨cur, hb, hcap, hmax, hcl, htake⟩ : ∃ cur, Blk w g 200 cur ∧ l.length ≤ cap ∧ cap ≤ maxLen ∧ cur.length = cap * 2 ∧ cur.take (l.length * 2) = refs l := by
    rcases hrest with ⟨he, _⟩ | ⟨g', cap', cur, he, _, hg, hc, hm, hs, ht⟩
    · simp at he
    · simp only [Value.slice.injEq, Option.some.injEq, Addr.mk.injEq, and_true, true_and] at he
      obtain ⟨rfl, rfl⟩ := he
      exact ⟨cur.toList, by simpa [Blk] using hg, hc, hm, by simpa using hs, ht⟩
  have hlt := hb.lt
  have hF : (flatK rcells 2 l.toArray).size = l.length * 2 := by simp
  have hH : HoldsK rcells 2 w g 0 l.toArray := by
    intro j hj
    rw [hF] at hj
    refine ⟨?_, by rw [Nat.zero_add]; exact hb.frozen j⟩
    rw [Nat.zero_add, hb.cell]
    have e1 : (cur.take (l.length * 2))[j]? = (refs l)[j]? := by rw [htake]
    rw [List.getElem?_take, if_pos hj] at e1
    rw [e1, ← flatK_refs, Array.getElem?_toList, getElem!_pos _ j (by rw [hF]; exact hj), Array.getElem?_eq_getElem (by rw [hF]; exact hj)]
    rfl
  have hsz : l.toArray.size = l.length := by simp
  have eg : ∀ args w, (callFunc 269 args).run Tryz.prog w = .ok (.enter 269 args) w := enters_of Tryz.func269 (by kernel_rfl) rfl
  have hcon := AnyQ.slices_SortFunc sortRef 2 Tryz.isAgg200 Tryz.sizeOf200 rcells (fun _ => rfl) (fun x v hv => by simp [rcells] at hv; rcases hv with rfl | rfl <;> rfl) cmpR swoR 269 #[] g 0 cap l.toArray w eg (lays g 0 l.toArray.size w) hH hlt (by rw [hsz]; exact hn)
  rw [hsz] at hcon
  refine Calls.mono hcon ?_
  rintro e w' ⟨rfl, d', m, os, hp, hs, rfl⟩
  have hds : d'.size = l.length := by rw [hp.1, hsz]
  have hF' : (flatK rcells 2 d').size = l.length * 2 := by simp [hds]
  obtain ⟨h1, h2⟩ := putRow_blk hb (flatK rcells 2 d') (by rw [hF', hcl]; omega) m os
  have hl' : d'.toList.length = l.length := by simpa using hds
  refine ⟨rfl, d'.toList, ?_, ?_, ?_, h2⟩
  · have := hp.2.2
    have e1 : d'.extract 0 l.length = d' := by rw [← hds]; simp
    have e2 : l.toArray.extract 0 l.length = l.toArray := by simp
    rw [e1, e2] at this
    simpa using this
  · rw [List.pairwise_iff_getElem]
    intro i j hi hj hij
    have h3 := hs i j (Nat.zero_le _) hij (by omega)
    rw [getElem!_pos d' j (by simpa using hj), getElem!_pos d' i (by simpa using hi)] at h3
    intro hlt'
    have h4 := (ltOf_cmpR _ _).2 hlt'
    simp only [Array.getElem_toList] at h4
    rw [h4] at h3
    cases h3
  · have hd : (flatK rcells 2 d').toList = refs d'.toList := by
      have := flatK_refs d'.toList
      simpa using this
    rw [hd, hF'] at h1
    refine ⟨by rw [refs_len, hl'], .inr ⟨g, cap, _, rfl, Nat.zero_le _, h1, hcap, hmax, ?_, ?_⟩⟩
    · simp [refs_len, hl', hcl]
      omega
    · rw [List.toList_toArray, List.take_append_of_le_length (by rw [refs_len, hl']; exact Nat.le_refl _), List.take_of_length_le (by rw [refs_len, hl']; exact Nat.le_refl _)]
end Go.Proofs.YtngchjejmnfanaaGreat
