/- slices.SortFunc at api.Ref, by caps' order: Env first, then Name: the library's contract laid at this program, and its premises paid. -/
import Derived.Test.YtedfoffcgfijoaaRows
import Derived.Test.YtedfoffcgfijoaaCaps0
import Derived.Shelf.SlSortCmp.WholeK
import Derived.Deep.RegionHeld3
import Derived.Deep.QuietTactic
import Derived.BigQuiet
import Derived.StillTailTactics
namespace Go.Proofs.Ytedfoffcgfijoaa
open Go.RowKit Go.Shelf Go.Lib Go.Sort
set_option linter.unusedVariables false
set_option linter.unusedSimpArgs false
def sortRef_ren : Go.Shelf.Ren := ⟨fun | 6 => 36 | 15 => 43 | 14 => 42 | 28 => 55 | 29 => 56 | 20 => 47 | 21 => 48 | 22 => 49 | 23 => 50 | 24 => 51 | 25 => 52 | 26 => 53 | 27 => 54 | 46 => 58 | 47 => 59 | 48 => 60 | 49 => 61 | 50 => 62 | 57 => 63 | n => n, fun | 22 => 68 | 24 => 38 | 25 => 83 | 3 => 3 | 39 => 91 | 0 => 0 | 53 => 104 | 55 => 106 | 4 => 4 | 46 => 98 | 45 => 97 | 50 => 76 | 5 => 5 | 9 => 9 | 66 => 107 | 70 => 111 | 76 => 113 | 77 => 114 | n => n, fun | n => n⟩
theorem sortRef : SlLaysF0.n6 Try.prog sortRef_ren := {
  mixed := by kernel_rfl,
  f6 := ⟨Try.f36.name, by decide, Try.func36.trans (congrArg some (by kernel_rfl))⟩,
  f14 := ⟨Try.f42.name, by decide, Try.func42.trans (congrArg some (by kernel_rfl))⟩,
  f15 := Try.func43.trans (congrArg some (by kernel_rfl)),
  f20 := ⟨Try.f47.name, by decide, Try.func47.trans (congrArg some (by kernel_rfl))⟩,
  f21 := ⟨Try.f48.name, by decide, Try.func48.trans (congrArg some (by kernel_rfl))⟩,
  f22 := ⟨Try.f49.name, by decide, Try.func49.trans (congrArg some (by kernel_rfl))⟩,
  f23 := ⟨Try.f50.name, by decide, Try.func50.trans (congrArg some (by kernel_rfl))⟩,
  f24 := ⟨Try.f51.name, by decide, Try.func51.trans (congrArg some (by kernel_rfl))⟩,
  f25 := ⟨Try.f52.name, by decide, Try.func52.trans (congrArg some (by kernel_rfl))⟩,
  f26 := ⟨Try.f53.name, by decide, Try.func53.trans (congrArg some (by kernel_rfl))⟩,
  f27 := ⟨Try.f54.name, by decide, Try.func54.trans (congrArg some (by kernel_rfl))⟩,
  f28 := Try.func55.trans (congrArg some (by kernel_rfl)),
  f29 := Try.func56.trans (congrArg some (by kernel_rfl)),
  f46 := ⟨Try.f58.name, by decide, Try.func58.trans (congrArg some (by kernel_rfl))⟩,
  f47 := Try.func59.trans (congrArg some (by kernel_rfl)),
  f48 := Try.func60.trans (congrArg some (by kernel_rfl)),
  f49 := ⟨Try.f61.name, by decide, Try.func61.trans (congrArg some (by kernel_rfl))⟩,
  f50 := ⟨Try.f62.name, by decide, Try.func62.trans (congrArg some (by kernel_rfl))⟩,
  f57 := ⟨Try.f63.name, by decide, Try.func63.trans (congrArg some (by kernel_rfl))⟩,
  t0 := Try.underlying0,
  a0 := Try.isAgg0,
  z0 := Try.sizeOf0,
  v0 := Try.zeroValue0,
  t3 := Try.underlying3,
  a3 := Try.isAgg3,
  z3 := Try.sizeOf3,
  v3 := Try.zeroValue3,
  t4 := Try.underlying4,
  a4 := Try.isAgg4,
  z4 := Try.sizeOf4,
  v4 := Try.zeroValue4,
  t5 := Try.underlying5,
  a5 := Try.isAgg5,
  z5 := Try.sizeOf5,
  v5 := Try.zeroValue5,
  t9 := Try.underlying9,
  a9 := Try.isAgg9,
  z9 := Try.sizeOf9,
  v9 := Try.zeroValue9,
  t22 := Try.underlying68,
  a22 := Try.isAgg68,
  z22 := Try.sizeOf68,
  v22 := Try.zeroValue68,
  t25 := Try.underlying83,
  a25 := Try.isAgg83,
  z25 := Try.sizeOf83,
  v25 := Try.zeroValue83,
  t39 := Try.underlying91,
  a39 := Try.isAgg91,
  z39 := Try.sizeOf91,
  v39 := Try.zeroValue91,
  t45 := Try.underlying97,
  a45 := Try.isAgg97,
  z45 := Try.sizeOf97,
  v45 := Try.zeroValue97,
  t46 := Try.underlying98,
  a46 := Try.isAgg98,
  z46 := Try.sizeOf98,
  v46 := Try.zeroValue98,
  t50 := Try.underlying76,
  a50 := Try.isAgg76,
  z50 := Try.sizeOf76,
  v50 := Try.zeroValue76,
  t53 := Try.underlying104,
  a53 := Try.isAgg104,
  z53 := Try.sizeOf104,
  v53 := Try.zeroValue104,
  t55 := Try.underlying106,
  a55 := Try.isAgg106,
  z55 := Try.sizeOf106,
  v55 := Try.zeroValue106,
  t66 := Try.underlying107,
  a66 := Try.isAgg107,
  z66 := Try.sizeOf107,
  v66 := Try.zeroValue107,
  t70 := Try.underlying111,
  a70 := Try.isAgg111,
  z70 := Try.sizeOf111,
  v70 := Try.zeroValue111,
  t76 := Try.underlying113,
  a76 := Try.isAgg113,
  z76 := Try.sizeOf113,
  v76 := Try.zeroValue113,
  t77 := Try.underlying114,
  a77 := Try.isAgg114,
  z77 := Try.sizeOf114,
  v77 := Try.zeroValue114 }



def cmpI (a b : Int) : Int := if a < b then -1 else if b < a then 1 else 0
def cmpR (x y : Rf) : Int := if cmpI x.1 y.1 = 0 then cmpI x.2 y.2 else cmpI x.1 y.1
/-- Env first, then Name. -/
def ltR (x y : Rf) : Prop := x.1 < y.1 ∨ (x.1 = y.1 ∧ x.2 < y.2)
theorem ltOf_cmpR (x y : Rf) : ltOf cmpR x y = true ↔ ltR x y := by
  unfold ltOf cmpR cmpI ltR
  simp only [decide_eq_true_eq]
  split <;> (repeat' split at *) <;> omega
theorem swoR : SWO (ltOf cmpR) where
  irrefl x := by
    have h := ltOf_cmpR x x
    cases e : ltOf cmpR x x with
    | false => rfl
    | true => have := h.1 e; unfold ltR at this; omega
  trans x y z h1 h2 := by
    rw [ltOf_cmpR] at *
    unfold ltR at *
    omega
  ntrans x y z h1 h2 := by
    have f : ∀ a b, ltOf cmpR a b = false ↔ ¬ ltR a b := fun a b => by rw [← ltOf_cmpR]; simp
    rw [f] at *
    unfold ltR at *
    omega
theorem mixed : Try.prog.follows .mixedOrders = true := by kernel_rfl
theorem nan_is (x : Int) (w : World) : Calls Try.prog 57 #[.int .i64 x] w fun e w' => e = .returned (.bool false) ∧ w = w' := by
  go_enter Try.func57, Try.ntmps57
  go_wp2
  go_ret
  exact ⟨rfl, rfl⟩
theorem cmp_is (x y : Int) (w : World) : Calls Try.prog 45 #[.int .i64 x, .int .i64 y] w fun e w' => e = .returned (.int .i64 (cmpI x y)) ∧ w = w' := by
  rcases Int.lt_trichotomy x y with h | h | h
  · have hr : cmpI x y = -1 := by unfold cmpI; rw [if_pos h]
    rw [hr]
    go_enter Try.func45, Try.ntmps45
    go_wp2_with fail
    refine (nan_is _ _).mono ?_; rintro e w' ⟨rfl, rfl⟩
    go_wp2_with fail
    refine (nan_is _ _).mono ?_; rintro e w' ⟨rfl, rfl⟩
    go_wp2
    go_ret
    exact ⟨rfl, rfl⟩
  · subst h
    have hr : cmpI x x = 0 := by unfold cmpI; simp
    rw [hr]
    go_enter Try.func45, Try.ntmps45
    go_wp2_with fail
    refine (nan_is _ _).mono ?_; rintro e w' ⟨rfl, rfl⟩
    go_wp2_with fail
    refine (nan_is _ _).mono ?_; rintro e w' ⟨rfl, rfl⟩
    go_wp2
    go_ret
    exact ⟨rfl, rfl⟩
  · have hr : cmpI x y = 1 := by unfold cmpI; rw [if_neg (by omega), if_pos h]
    rw [hr]
    go_enter Try.func45, Try.ntmps45
    go_wp2_with fail
    refine (nan_is _ _).mono ?_; rintro e w' ⟨rfl, rfl⟩
    go_wp2_with fail
    refine (nan_is _ _).mono ?_; rintro e w' ⟨rfl, rfl⟩
    go_wp2
    go_ret
    exact ⟨rfl, rfl⟩
theorem or_is (g : Nat) (x y : Int) (w : World) (h0 : w.cell? ⟨g, 0, none⟩ = some (.int .i64 x)) (h1 : w.cell? ⟨g, 1, none⟩ = some (.int .i64 y)) :
    Calls Try.prog 44 #[.slice (some ⟨g, 0, none⟩) 2 2] w fun e w' => e = .returned (.int .i64 (if x = 0 then y else x)) ∧ w = w' := by
  by_cases hx : x = 0
  · rw [if_pos hx]
    by_cases hy : y = 0
    · go_enter Try.func44, Try.ntmps44
      go_wp2
      go_loop [8] (fun s => ∃ k : Nat, k ≤ 2 ∧ s = .int .i64 k) (fun s => 2 - (intOf s).toNat)
      case atStart => exact ⟨0, by omega, rfl⟩
      case round =>
        obtain ⟨k, hk, rfl⟩ := hrel
        rcases (show k = 0 ∨ k = 1 ∨ k = 2 by omega) with rfl | rfl | rfl
        · go_wp2
          go_round
          case rel => exact ⟨1, by omega, rfl⟩
          case measure => simp [intOf]
        · go_wp2
          go_round
          case rel => exact ⟨2, by omega, rfl⟩
          case measure => simp [intOf]
        · go_wp2
          go_ret
          exact ⟨rfl, rfl⟩
    · go_enter Try.func44, Try.ntmps44
      go_wp2
      go_loop [8] (fun s => ∃ k : Nat, k ≤ 1 ∧ s = .int .i64 k) (fun s => 2 - (intOf s).toNat)
      case atStart => exact ⟨0, by omega, rfl⟩
      case round =>
        obtain ⟨k, hk, rfl⟩ := hrel
        rcases (show k = 0 ∨ k = 1 by omega) with rfl | rfl
        · go_wp2
          go_round
          case rel => exact ⟨1, by omega, rfl⟩
          case measure => simp [intOf]
        · go_wp2
          go_ret
          exact ⟨rfl, rfl⟩
  · rw [if_neg hx]
    go_enter Try.func44, Try.ntmps44
    go_wp2
    go_loop [8] (fun s => s = .int .i64 0) (fun s => 2 - (intOf s).toNat)
    case atStart => rfl
    case round =>
      obtain rfl := hrel
      go_wp2
      go_ret
      exact ⟨rfl, rfl⟩
set_option maxRecDepth 100000 in
set_option maxHeartbeats 1000000 in
theorem by_is (x y : Rf) (w : World) : Calls Try.prog 37 #[.agg #[.int .i64 x.1, .int .i64 x.2], .agg #[.int .i64 y.1, .int .i64 y.2]] w fun e w' => e = .returned (.int .i64 (cmpR x y)) ∧ ∃ q os', w' = grow (w.drewN q) os' := by
  obtain ⟨x1, x2⟩ := x
  obtain ⟨y1, y2⟩ := y
  have e : cmpR (x1, x2) (y1, y2) = if cmpI x1 y1 = 0 then cmpI x2 y2 else cmpI x1 y1 := rfl
  rw [e]
  clear e
  have hc1 := fun W => cmp_is x1 y1 W
  have hc2 := fun W => cmp_is x2 y2 W
  generalize cmpI x1 y1 = r1 at hc1 ⊢
  generalize cmpI x2 y2 = r2 at hc2 ⊢
  go_enter Try.func37, Try.ntmps37
  go_wp2_with fail
  obtain ⟨W, hW⟩ : ∃ W, W = (w.alloc (.cells #[.int .i64 x1, .int .i64 x2] 38)).alloc (.cells #[.int .i64 y1, .int .i64 y2] 38) := ⟨_, rfl⟩
  have g0 : W.drew.cell? ⟨w.heap.size, 0, none⟩ = some (.int .i64 x1) := by rw [hW]; go_simp
  have g1 : W.drew.cell? ⟨w.heap.size, 1, none⟩ = some (.int .i64 x2) := by rw [hW]; go_simp
  have g2 : W.drew.cell? ⟨w.heap.size + 1, 0, none⟩ = some (.int .i64 y1) := by rw [hW]; go_simp
  have g3 : W.drew.cell? ⟨w.heap.size + 1, 1, none⟩ = some (.int .i64 y2) := by rw [hW]; go_simp
  have hg : W.drew = grow (w.drewN 1) #[.cells #[.int .i64 x1, .int .i64 x2] 38, .cells #[.int .i64 y1, .int .i64 y2] 38] := by rw [hW, alloc_eq_grow, alloc_eq_grow, grow_grow]; rfl
  rw [← hW]
  clear hW
  refine wp_region_still_tail 10 mixed (by kernel_rfl) ?_
  simp only [List.take_succ_cons, List.take_zero, List.drop_succ_cons, List.drop_zero]
  change wpStill _ _ W.drew (fun a' => wpList _ _ _ _ a' W.drew) _ _
  generalize W.drew = V at g0 g1 g2 g3 hg ⊢
  have Hg := Lib.hid hg
  clear hg
  iterate 4 still_step
  still_call ((hc1 _).mono fun _ _ h => ⟨h.1, h.2.symm⟩)
  iterate 4 still_step
  still_call ((hc2 _).mono fun _ _ h => ⟨h.1, h.2.symm⟩)
  refine wpStill_nil ?_
  go_wp2_with (go_at_call 44; refine (or_is _ r1 r2 _ (by go_simp) (by go_simp)).mono ?_; rintro e w' ⟨rfl, rfl⟩)
  all_goals
    go_wp2
    go_ret
    exact ⟨rfl, 1, _, by rw [Hg.out, alloc_eq_grow, grow_grow]⟩
theorem lays (g off n : Nat) (w : World) : CmpLays Try.prog 37 #[] rcells 2 cmpR g off n w :=
  fun _ _ _ _ x y => by_is x y _
theorem flatK_refs (l : List Rf) : (flatK rcells 2 l.toArray).toList = refs l := by
  apply List.ext_getElem?
  intro t
  by_cases h : t < l.length * 2
  · have hj : t / 2 < l.length := by omega
    have hx : l[t / 2]? = some l[t / 2] := List.getElem?_eq_getElem hj
    have e := refs_get hx (j := t % 2) (by omega)
    rw [show t / 2 * 2 + t % 2 = t from by omega] at e
    rw [e]
    have h2 : t < (l.toArray).size * 2 := by simpa using h
    have e2 := get_flatK rcells 2 l.toArray t h2
    have h3 : t < (flatK rcells 2 l.toArray).size := by simpa using h
    rw [getElem!_pos (flatK rcells 2 l.toArray) t h3] at e2
    rw [Array.getElem?_toList, Array.getElem?_eq_getElem h3, e2]
    have e3 : (l.toArray)[t / 2]! = l[t / 2] := by rw [getElem!_pos _ _ (by simpa using hj)]; simp
    rw [e3]
    have hl : t % 2 < (rcells l[t / 2]).length := by show t % 2 < 2; omega
    rw [getElem!_pos (rcells l[t / 2]) (t % 2) hl, List.getElem?_eq_getElem hl]
  · rw [List.getElem?_eq_none (by simp; omega), List.getElem?_eq_none (by rw [refs_len]; omega)]
theorem putRow_blk {w : World} {g : Nat} {t : TypeId} {cur : List Value} (h : Blk w g t cur) (F : Array Value) (hF : F.size ≤ cur.length) (m : Nat) (os : Array Obj) :
    Blk (grow (putRow id (Sort.ahead w m) g 0 F) os) g t (F.toList ++ cur.drop F.size) ∧ Keep (· = g) w (grow (putRow id (Sort.ahead w m) g 0 F) os) := by
  have hlt := h.lt
  have hh : (putRow id (Sort.ahead w m) g 0 F).heap[g]? = some (.cells (putCells id 0 F cur.toArray) t (0, 0)) := by
    show (w.heap.modify g (onCells _))[g]? = _
    rw [Array.getElem?_modify, if_pos rfl]
    unfold Blk at h
    rw [h]
    rfl
  have hsz : (putRow id (Sort.ahead w m) g 0 F).heap.size = w.heap.size := by
    show (w.heap.modify g (onCells _)).size = _
    simp
  have hc : putCells id 0 F cur.toArray = (F.toList ++ cur.drop F.size).toArray := by
    apply Array.ext
    · simp [putCells]; omega
    · intro i h1 h2
      simp only [putCells, Array.getElem_mapIdx, Nat.zero_le, true_and, Nat.zero_add, Nat.sub_zero, List.getElem_toArray, id]
      by_cases hi : i < F.size
      · rw [if_pos hi, List.getElem_append_left (by simpa using hi), getElem!_pos F i hi]
        simp
      · rw [if_neg hi, List.getElem_append_right (by simpa using hi)]
        simp only [List.getElem_drop, Array.length_toList]
        congr 1
        omega
  refine ⟨?_, ⟨rfl, rfl, rfl, ?_, fun k hk hne => ?_⟩⟩
  · show (_ ++ os)[g]? = _
    rw [Array.getElem?_append_left (by rw [hsz]; exact hlt), hh, hc]
  · show w.heap.size ≤ (_ ++ os).size
    rw [Array.size_append, hsz]
    omega
  · show (_ ++ os)[k]? = _
    rw [Array.getElem?_append_left (by rw [hsz]; exact hk)]
    show (w.heap.modify g (onCells _))[k]? = _
    rw [Array.getElem?_modify, if_neg (Ne.symm hne)]
theorem sort_is {w : World} {g n cap : Nat} {l : List Rf} (hv : Vec w 38 2 (some ⟨g, 0, none⟩) n cap (refs l)) (hn : n < 4611686018427387904) :
    Calls Try.prog 36 #[.slice (some ⟨g, 0, none⟩) n cap, .func (.func 37) #[] #[]] w fun e w' => e = .returned (.tuple #[]) ∧ ∃ l', l'.Perm l ∧ l'.Pairwise (fun a b => ¬ ltR b a) ∧ Vec w' 38 2 (some ⟨g, 0, none⟩) n cap (refs l') ∧ Keep (· = g) w w' := by
  obtain ⟨hlen, hrest⟩ := hv
  rw [refs_len] at hlen
  obtain rfl : n = l.length := by omega
  obtain ⟨cur, hb, hcap, hmax, hcl, htake⟩ : ∃ cur, Blk w g 38 cur ∧ l.length ≤ cap ∧ cap ≤ maxLen ∧ cur.length = cap * 2 ∧ cur.take (l.length * 2) = refs l := by
    rcases hrest with ⟨he, _⟩ | ⟨g', cap', cur, he, _, hg, hc, hm, hs, ht⟩
    · simp at he
    · simp only [Value.slice.injEq, Option.some.injEq, Addr.mk.injEq, and_true, true_and] at he
      obtain ⟨rfl, rfl⟩ := he
      exact ⟨cur.toList, by simpa [Blk] using hg, hc, hm, by simpa using hs, ht⟩
  have hlt := hb.lt
  have hF : (flatK rcells 2 l.toArray).size = l.length * 2 := by simp
  have hH : HoldsK rcells 2 w g 0 l.toArray := by
    intro j hj
    rw [hF] at hj
    refine ⟨?_, by rw [Nat.zero_add]; exact hb.frozen j⟩
    rw [Nat.zero_add, hb.cell]
    have e1 : (cur.take (l.length * 2))[j]? = (refs l)[j]? := by rw [htake]
    rw [List.getElem?_take, if_pos hj] at e1
    rw [e1, ← flatK_refs, Array.getElem?_toList, getElem!_pos _ j (by rw [hF]; exact hj), Array.getElem?_eq_getElem (by rw [hF]; exact hj)]
    rfl
  have hsz : l.toArray.size = l.length := by simp
  have eg : ∀ args w, (callFunc 37 args).run Try.prog w = .ok (.enter 37 args) w := enters_of Try.func37 (by kernel_rfl) rfl
  have hcon := AnyQ.slices_SortFunc sortRef 2 Try.isAgg38 Try.sizeOf38 rcells (fun _ => rfl) (fun x v hv => by simp [rcells] at hv; rcases hv with rfl | rfl <;> rfl) cmpR swoR 37 #[] g 0 cap l.toArray w eg (lays g 0 l.toArray.size w) hH hlt (by rw [hsz]; exact hn)
  rw [hsz] at hcon
  refine Calls.mono hcon ?_
  rintro e w' ⟨rfl, d', m, os, hp, hs, rfl⟩
  have hds : d'.size = l.length := by rw [hp.1, hsz]
  have hF' : (flatK rcells 2 d').size = l.length * 2 := by simp [hds]
  obtain ⟨h1, h2⟩ := putRow_blk hb (flatK rcells 2 d') (by rw [hF', hcl]; omega) m os
  have hl' : d'.toList.length = l.length := by simpa using hds
  refine ⟨rfl, d'.toList, ?_, ?_, ?_, h2⟩
  · have := hp.2.2
    have e1 : d'.extract 0 l.length = d' := by rw [← hds]; simp
    have e2 : l.toArray.extract 0 l.length = l.toArray := by simp
    rw [e1, e2] at this
    simpa using this
  · rw [List.pairwise_iff_getElem]
    intro i j hi hj hij
    have h3 := hs i j (Nat.zero_le _) hij (by omega)
    rw [getElem!_pos d' j (by simpa using hj), getElem!_pos d' i (by simpa using hi)] at h3
    intro hlt'
    have h4 := (ltOf_cmpR _ _).2 hlt'
    simp only [Array.getElem_toList] at h4
    rw [h4] at h3
    cases h3
  · have hd : (flatK rcells 2 d').toList = refs d'.toList := by
      have := flatK_refs d'.toList
      simpa using this
    rw [hd, hF'] at h1
    refine ⟨by rw [refs_len, hl'], .inr ⟨g, cap, _, rfl, Nat.zero_le _, h1, hcap, hmax, ?_, ?_⟩⟩
    · simp [refs_len, hl', hcl]
      omega
    · rw [List.toList_toArray, List.take_append_of_le_length (by rw [refs_len, hl']; exact Nat.le_refl _), List.take_of_length_le (by rw [refs_len, hl']; exact Nat.le_refl _)]
end Go.Proofs.Ytedfoffcgfijoaa
