import Derived.Test.YtgcikpgcoemfnaaGreatPs8
import Derived.Test.YtgcikpgcoemfnaaGreatPs23
set_option maxRecDepth 100000
set_option maxHeartbeats 8000000
set_option linter.unusedVariables false
set_option linter.unusedSimpArgs false
namespace Go.Proofs.YtgcikpgcoemfnaaGreat.Co
open Go.RowKit
def aw (nb : Nat) (r : Rf) : Option (Nat × Nat × Nat) :=
 if r.1 = 1 then (if 0 ≤ r.2 ∧ r.2 < 8 then some (0, 24 * r.2.toNat, 24) else none)
 else if r.1 = 2 then (if 0 ≤ r.2 ∧ r.2 < 12 then some (0, 192 + 8 * r.2.toNat, 8) else none)
 else if r.1 = 3 then (if 4 ≤ r.2 then (if r.2 < 4 + nb then some (r.2.toNat - 3, 0, 40) else none) else if 0 ≤ r.2 then some (0, 288 + 40 * r.2.toNat, 40) else none)
 else if r.1 = 4 then some (0, 448, 40)
 else some (0, 488, 4)
theorem iv {nb : Nat} {r : Rf} {j at_ n : Nat} (h : aw nb r = some (j, at_, n)) : j ≤ nb ∧ at_ + n ≤ (if j = 0 then 492 else 40) ∧ n ≤ 40 ∧ 4 ≤ n := by
 unfold aw at h
 repeat' split at h
 all_goals first | (cases h; done) | (simp only [Option.some.injEq, Prod.mk.injEq] at h; obtain ⟨rfl, rfl, rfl⟩ := h; (try rw [if_neg (by omega)]); (try rw [if_pos rfl]); omega)
def lt (a b : Rf) : Bool := decide (a.1 < b.1 ∨ a.1 = b.1 ∧ a.2 < b.2)
theorem lt_iff {a b : Rf} : lt a b = true ↔ ltR a b := by unfold lt ltR; exact decide_eq_true_iff
def ins (r : Rf) : List Rf → List Rf
 | [] => [r]
 | x :: l => if lt r x then r :: x :: l else x :: ins r l
theorem iH (r : Rf) : ∀ l, (ins r l).Perm (r :: l)
 | [] => List.Perm.refl _
 | x :: l => by
  unfold ins
  split
  ·exact List.Perm.refl _
  ·exact ((iH r l).cons x).trans (List.Perm.swap r x l)
theorem ins_mem {r x : Rf} {l : List Rf} : x ∈ ins r l ↔ x = r ∨ x ∈ l := by
 rw [(iH r l).mem_iff, List.mem_cons]
theorem ltR_tri (a b : Rf) : ltR a b ∨ a = b ∨ ltR b a := by
 unfold ltR
 obtain ⟨a1, a2⟩ := a
 obtain ⟨b1, b2⟩ := b
 simp only [Prod.mk.injEq]
 omega
theorem jS {a b : Rf} (h : ltR a b) (h' : ltR b a) : False := by
 unfold ltR at h h'
 omega
theorem ltR_tr {a b c : Rf} (h : ltR a b) (h' : ltR b c) : ltR a c := by
 unfold ltR at *
 omega
theorem kL {r : Rf} : ∀ {l : List Rf}, l.Pairwise ltR → r ∉ l → (ins r l).Pairwise ltR
 | [], _, _ => by simp [ins]
 | x :: l, h, hn => by
  have hp := List.pairwise_cons.1 h
  have hn' : r ≠ x ∧ r ∉ l := by
   rw [List.mem_cons, not_or] at hn
   exact hn
  unfold ins
  split
  ·rename_i hl
   have hl := lt_iff.1 hl
   exact List.pairwise_cons.2 ⟨fun y hy => by
    rcases List.mem_cons.1 hy with rfl | hy
    ·exact hl
    ·exact ltR_tr hl (hp.1 y hy), h⟩
  ·rename_i hl
   refine List.pairwise_cons.2 ⟨fun y hy => ?_, kL hp.2 hn'.2⟩
   rcases ins_mem.1 hy with rfl | hy
   ·rcases ltR_tri x y with h1 | h1 | h1
    ·exact h1
    ·exact absurd h1.symm hn'.1
    ·exact absurd (lt_iff.2 h1) hl
   ·exact hp.1 y hy
theorem sorted_eq : ∀ {a b : List Rf}, a.Perm b → a.Pairwise ltR → b.Pairwise ltR → a = b
 | [], b, h, _, _ => (List.Perm.nil_eq h)
 | x :: a, b, h, ha, hb => by
  cases b with
  | nil => exact absurd h.length_eq (by simp)
  | cons y b =>
   have pa := List.pairwise_cons.1 ha
   have pb := List.pairwise_cons.1 hb
   have hx : x = y := by
    have h1 : x ∈ y :: b := h.mem_iff.1 (by simp)
    have h2 : y ∈ x :: a := h.mem_iff.2 (by simp)
    rcases List.mem_cons.1 h1 with h1 | h1
    ·exact h1
    ·rcases List.mem_cons.1 h2 with h2 | h2
     ·exact h2.symm
     ·exact (jS (pa.1 y h2) (pb.1 x h1)).elim
   subst hx
   rw [sorted_eq ((List.perm_cons x).1 h) pa.2 pb.2]
def cu (g : Int) : List UInt8 := [Cd.byt g, 211, Cd.byt (213 + g), 0]
theorem lw (g : Int) : (cu g).length = 4 := rfl
def fdec (l : List UInt8) : Int × Int := if l.length = 4 then (if (l.getD 0 0).toNat ≤ 7 then (if cu ((l.getD 0 0).toNat : Int) = l then (((l.getD 0 0).toNat : Int), 1) else (0, 2)) else (0, 2)) else (0, 2)
abbrev Src := Nat → Nat → Nat → Option Nat
def got (xs : List UInt8) (src : Src) (x : Nat × Nat × Nat) : List UInt8 := match src x.1 x.2.1 x.2.2 with
 | some b => (xs.drop (b + x.2.1)).take x.2.2
 | none => []
def aC {α : Type} (dec : List UInt8 → α × Int) (z : α) (xs : List UInt8) (src : Src) (nb : Nat) (bad : List Rf) (r : Rf) : (α × Int) × List Rf :=
 if r ∈ bad then ((z, 2), bad) else match aw nb r with
 | none => ((z, 2), bad)
 | some x => (dec (got xs src x), if (dec (got xs src x)).2 = 2 then ins r bad else bad)
def db (xs : List UInt8) (src : Src) (nb : Nat) (bad : List Rf) (r : Rf) (b : List UInt8) : Bool × List UInt8 :=
 if r ∈ bad then (false, xs) else match aw nb r with
 | none => (false, xs)
 | some x => match src x.1 x.2.1 x.2.2 with
  | some base => (true, splice xs (base + x.2.1) b)
  | none => (false, xs)
section
variable {α : Type} {dec : List UInt8 → α × Int} {z : α} {xs : List UInt8} {src : Src} {nb : Nat} {bad : List Rf} {r : Rf}
theorem bh (h : r ∈ bad) : aC dec z xs src nb bad r = ((z, 2), bad) := by unfold aC; rw [if_pos h]
theorem aY (h : r ∉ bad) (hw : aw nb r = none) : aC dec z xs src nb bad r = ((z, 2), bad) := by unfold aC; rw [if_neg h, hw]
theorem aF (h : r ∉ bad) {x : Nat × Nat × Nat} (hw : aw nb r = some x) {v : α} {d : Int} (hd : dec (got xs src x) = (v, d)) : aC dec z xs src nb bad r = ((v, d), if d = 2 then ins r bad else bad) := by
 unfold aC
 rw [if_neg h, hw]
 simp only [hd]
theorem kZ {b : List UInt8} (h : r ∈ bad) : db xs src nb bad r b = (false, xs) := by unfold db; rw [if_pos h]
theorem jN {b : List UInt8} (h : r ∉ bad) (hw : aw nb r = none) : db xs src nb bad r b = (false, xs) := by unfold db; rw [if_neg h, hw]
theorem gJ {b : List UInt8} (h : r ∉ bad) {x : Nat × Nat × Nat} (hw : aw nb r = some x) {base : Nat} (hs : src x.1 x.2.1 x.2.2 = some base) : db xs src nb bad r b = (true, splice xs (base + x.2.1) b) := by
 unfold db
 rw [if_neg h, hw]
 simp only [hs]
end
theorem aX {α : Type} (L : List α) (off : Nat) (cs : List α) (h : off + cs.length ≤ L.length) : (splice L off cs).length = L.length := by
 unfold splice
 simp
 omega
end Go.Proofs.YtgcikpgcoemfnaaGreat.Co
namespace Go.Proofs.YtgcikpgcoemfnaaGreat.Co
open Go.RowKit Go.Shelf Go.Lib Go.Sort
def sortRec_ren : Go.Shelf.Ren := ⟨fun | 6 => 66 | 15 => 132 | 14 => 131 | 28 => 233 | 29 => 234 | 20 => 225 | 21 => 226 | 22 => 227 | 23 => 228 | 24 => 229 | 25 => 230 | 26 => 231 | 27 => 232 | 46 => 305 | 47 => 306 | 48 => 307 | 49 => 308 | 50 => 309 | 57 => 339 | n => n, fun | 22 => 54 | 24 => 57 | 25 => 131 | 3 => 3 | 39 => 70 | 0 => 0 | 53 => 329 | 55 => 331 | 4 => 4 | 46 => 323 | 45 => 322 | 50 => 154 | 5 => 5 | 9 => 9 | 66 => 402 | 70 => 384 | 76 => 423 | 77 => 176 | n => n, fun | n => n⟩
theorem sortRec : SlLaysF0.n6 Tryz.prog sortRec_ren := {
 mixed := by kernel_rfl,
 f6 := ⟨Tryz.f66.name, by decide, Tryz.func66.trans (congrArg some (by kernel_rfl))⟩,
 f14 := ⟨Tryz.f131.name, by decide, Tryz.func131.trans (congrArg some (by kernel_rfl))⟩,
 f15 := Tryz.func132.trans (congrArg some (by kernel_rfl)),
 f20 := ⟨Tryz.f225.name, by decide, Tryz.func225.trans (congrArg some (by kernel_rfl))⟩,
 f21 := ⟨Tryz.f226.name, by decide, Tryz.func226.trans (congrArg some (by kernel_rfl))⟩,
 f22 := ⟨Tryz.f227.name, by decide, Tryz.func227.trans (congrArg some (by kernel_rfl))⟩,
 f23 := ⟨Tryz.f228.name, by decide, Tryz.func228.trans (congrArg some (by kernel_rfl))⟩,
 f24 := ⟨Tryz.f229.name, by decide, Tryz.func229.trans (congrArg some (by kernel_rfl))⟩,
 f25 := ⟨Tryz.f230.name, by decide, Tryz.func230.trans (congrArg some (by kernel_rfl))⟩,
 f26 := ⟨Tryz.f231.name, by decide, Tryz.func231.trans (congrArg some (by kernel_rfl))⟩,
 f27 := ⟨Tryz.f232.name, by decide, Tryz.func232.trans (congrArg some (by kernel_rfl))⟩,
 f28 := Tryz.func233.trans (congrArg some (by kernel_rfl)),
 f29 := Tryz.func234.trans (congrArg some (by kernel_rfl)),
 f46 := ⟨Tryz.f305.name, by decide, Tryz.func305.trans (congrArg some (by kernel_rfl))⟩,
 f47 := Tryz.func306.trans (congrArg some (by kernel_rfl)),
 f48 := Tryz.func307.trans (congrArg some (by kernel_rfl)),
 f49 := ⟨Tryz.f308.name, by decide, Tryz.func308.trans (congrArg some (by kernel_rfl))⟩,
 f50 := ⟨Tryz.f309.name, by decide, Tryz.func309.trans (congrArg some (by kernel_rfl))⟩,
 f57 := ⟨Tryz.f339.name, by decide, Tryz.func339.trans (congrArg some (by kernel_rfl))⟩,
 t0 := Tryz.underlying0,
 a0 := Tryz.isAgg0,
 z0 := Tryz.sizeOf0,
 v0 := Tryz.zeroValue0,
 t3 := Tryz.underlying3,
 a3 := Tryz.isAgg3,
 z3 := Tryz.sizeOf3,
 v3 := Tryz.zeroValue3,
 t4 := Tryz.underlying4,
 a4 := Tryz.isAgg4,
 z4 := Tryz.sizeOf4,
 v4 := Tryz.zeroValue4,
 t5 := Tryz.underlying5,
 a5 := Tryz.isAgg5,
 z5 := Tryz.sizeOf5,
 v5 := Tryz.zeroValue5,
 t9 := Tryz.underlying9,
 a9 := Tryz.isAgg9,
 z9 := Tryz.sizeOf9,
 v9 := Tryz.zeroValue9,
 t22 := Tryz.underlying54,
 a22 := Tryz.isAgg54,
 z22 := Tryz.sizeOf54,
 v22 := Tryz.zeroValue54,
 t25 := Tryz.underlying131,
 a25 := Tryz.isAgg131,
 z25 := Tryz.sizeOf131,
 v25 := Tryz.zeroValue131,
 t39 := Tryz.underlying70,
 a39 := Tryz.isAgg70,
 z39 := Tryz.sizeOf70,
 v39 := Tryz.zeroValue70,
 t45 := Tryz.underlying322,
 a45 := Tryz.isAgg322,
 z45 := Tryz.sizeOf322,
 v45 := Tryz.zeroValue322,
 t46 := Tryz.underlying323,
 a46 := Tryz.isAgg323,
 z46 := Tryz.sizeOf323,
 v46 := Tryz.zeroValue323,
 t50 := Tryz.underlying154,
 a50 := Tryz.isAgg154,
 z50 := Tryz.sizeOf154,
 v50 := Tryz.zeroValue154,
 t53 := Tryz.underlying329,
 a53 := Tryz.isAgg329,
 z53 := Tryz.sizeOf329,
 v53 := Tryz.zeroValue329,
 t55 := Tryz.underlying331,
 a55 := Tryz.isAgg331,
 z55 := Tryz.sizeOf331,
 v55 := Tryz.zeroValue331,
 t66 := Tryz.underlying402,
 a66 := Tryz.isAgg402,
 z66 := Tryz.sizeOf402,
 v66 := Tryz.zeroValue402,
 t70 := Tryz.underlying384,
 a70 := Tryz.isAgg384,
 z70 := Tryz.sizeOf384,
 v70 := Tryz.zeroValue384,
 t76 := Tryz.underlying423,
 a76 := Tryz.isAgg423,
 z76 := Tryz.sizeOf423,
 v76 := Tryz.zeroValue423,
 t77 := Tryz.underlying176,
 a77 := Tryz.isAgg176,
 z77 := Tryz.sizeOf176,
 v77 := Tryz.zeroValue176 }
theorem by_is (x y : Rf) (w : World) : Calls Tryz.prog 67 #[.agg #[.int .i64 x.1, .int .i64 x.2], .agg #[.int .i64 y.1, .int .i64 y.2]] w fun e w' => e = .returned (.int .i64 (cmpR x y)) ∧ ∃ q os', w' = grow (w.drewN q) os' := by
 obtain ⟨x1, x2⟩ := x
 obtain ⟨y1, y2⟩ := y
 have e : cmpR (x1, x2) (y1, y2) = if cmpI x1 y1 = 0 then cmpI x2 y2 else cmpI x1 y1 := rfl
 rw [e]
 clear e
 have hc1 := fun W => cmp_is x1 y1 W
 have hc2 := fun W => cmp_is x2 y2 W
 generalize cmpI x1 y1 = r1 at hc1 ⊢
 generalize cmpI x2 y2 = r2 at hc2 ⊢
 go_enter Tryz.func67, Tryz.ntmps67
 go_wp2_with fail
 obtain ⟨W, hW⟩ : ∃ W, W = (w.alloc (.cells #[.int .i64 x1, .int .i64 x2] 57)).alloc (.cells #[.int .i64 y1, .int .i64 y2] 57) := ⟨_, rfl⟩
 have g0 : W.drew.cell? ⟨w.heap.size, 0, none⟩ = some (.int .i64 x1) := by rw [hW]; go_simp
 have g1 : W.drew.cell? ⟨w.heap.size, 1, none⟩ = some (.int .i64 x2) := by rw [hW]; go_simp
 have g2 : W.drew.cell? ⟨w.heap.size + 1, 0, none⟩ = some (.int .i64 y1) := by rw [hW]; go_simp
 have g3 : W.drew.cell? ⟨w.heap.size + 1, 1, none⟩ = some (.int .i64 y2) := by rw [hW]; go_simp
 have hg : W.drew = grow (w.drewN 1) #[.cells #[.int .i64 x1, .int .i64 x2] 57, .cells #[.int .i64 y1, .int .i64 y2] 57] := by rw [hW, alloc_eq_grow, alloc_eq_grow, grow_grow]; rfl
 rw [← hW]
 clear hW
 refine wp_region_still_tail 10 mixed (by kernel_rfl) ?_
 simp only [List.take_succ_cons, List.take_zero, List.drop_succ_cons, List.drop_zero]
 change wpStill _ _ W.drew (fun a' => wpList _ _ _ _ a' W.drew) _ _
 generalize W.drew = V at g0 g1 g2 g3 hg ⊢
 have Hg := aa hg
 clear hg
 iterate 4 still_step
 still_call ((hc1 _).mono fun _ _ h => ⟨h.1, h.2.symm⟩)
 iterate 4 still_step
 still_call ((hc2 _).mono fun _ _ h => ⟨h.1, h.2.symm⟩)
 refine wpStill_nil ?_
 go_wp2_with (go_at_call 133; refine (or_is _ r1 r2 _ (by go_simp) (by go_simp)).mono ?_; rintro e w' ⟨rfl, rfl⟩)
 all_goals
  go_wp2
  go_ret
  exact ⟨rfl, 1, _, by rw [Hg.out, alloc_eq_grow, grow_grow]⟩
theorem lays (g off n : Nat) (w : World) : CmpLays Tryz.prog 67 #[] bP 2 cmpR g off n w :=
 fun _ _ _ _ x y => by_is x y _
theorem sort_is {w : World} {g n cap : Nat} {l : List Rf} (hv : Vec w 57 2 (some ⟨g, 0, none⟩) n cap (cU l)) (hn : n < 4611686018427387904) :
  Calls Tryz.prog 66 #[.slice (some ⟨g, 0, none⟩) n cap, .func (.func 67) #[] #[]] w fun e w' => e = .returned (.tuple #[]) ∧ ∃ l', l'.Perm l ∧ l'.Pairwise (fun a b => ¬ ltR b a) ∧ Vec w' 57 2 (some ⟨g, 0, none⟩) n cap (cU l') ∧ Keep (· = g) w w' := by
 obtain ⟨hlen, hrest⟩ := hv
 rw [eZ] at hlen
 obtain rfl : n = l.length := by omega
 obtain ⟨cur, hb, hcap, hmax, hcl, htake⟩ : ∃ cur, Blk w g 57 cur ∧ l.length ≤ cap ∧ cap ≤ maxLen ∧ cur.length = cap * 2 ∧ cur.take (l.length * 2) = cU l := by
  rcases hrest with ⟨he, _⟩ | ⟨g', cap', cur, he, _, hg, hc, hm, hs, ht⟩
  ·simp at he
  ·simp only [Value.slice.injEq, Option.some.injEq, Addr.mk.injEq, and_true, true_and] at he
   obtain ⟨rfl, rfl⟩ := he
   exact ⟨cur.toList, by simpa [Blk] using hg, hc, hm, by simpa using hs, ht⟩
 have hlt := hb.lt
 have hF : (flatK bP 2 l.toArray).size = l.length * 2 := by simp
 have hH : HoldsK bP 2 w g 0 l.toArray := by
  intro j hj
  rw [hF] at hj
  refine ⟨?_, by rw [Nat.zero_add]; exact hb.frozen j⟩
  rw [Nat.zero_add, hb.cell]
  have e1 : (cur.take (l.length * 2))[j]? = (cU l)[j]? := by rw [htake]
  rw [List.getElem?_take, if_pos hj] at e1
  rw [e1, ← ko, Array.getElem?_toList, getElem!_pos _ j (by rw [hF]; exact hj), Array.getElem?_eq_getElem (by rw [hF]; exact hj)]
  rfl
 have hsz : l.toArray.size = l.length := by simp
 have eg : ∀ args w, (callFunc 67 args).run Tryz.prog w = .ok (.enter 67 args) w := enters_of Tryz.func67 (by kernel_rfl) rfl
 have hcon := AnyQ.slices_SortFunc sortRec 2 Tryz.isAgg57 Tryz.sizeOf57 bP (fun _ => rfl) (fun x v hv => by simp [bP] at hv; rcases hv with rfl | rfl <;> rfl) cmpR swoR 67 #[] g 0 cap l.toArray w eg (lays g 0 l.toArray.size w) hH hlt (by rw [hsz]; exact hn)
 rw [hsz] at hcon
 refine Calls.mono hcon ?_
 rintro e w' ⟨rfl, d', m, os, hp, hs, rfl⟩
 have hds : d'.size = l.length := by rw [hp.1, hsz]
 have hF' : (flatK bP 2 d').size = l.length * 2 := by simp [hds]
 obtain ⟨h1, h2⟩ := putRow_blk hb (flatK bP 2 d') (by rw [hF', hcl]; omega) m os
 have hl' : d'.toList.length = l.length := by simpa using hds
 refine ⟨rfl, d'.toList, ?_, ?_, ?_, h2⟩
 ·have := hp.2.2
  have e1 : d'.extract 0 l.length = d' := by rw [← hds]; simp
  have e2 : l.toArray.extract 0 l.length = l.toArray := by simp
  rw [e1, e2] at this
  simpa using this
 ·rw [List.pairwise_iff_getElem]
  intro i j hi hj hij
  have h3 := hs i j (Nat.zero_le _) hij (by omega)
  rw [getElem!_pos d' j (by simpa using hj), getElem!_pos d' i (by simpa using hi)] at h3
  intro hlt'
  have h4 := (gU _ _).2 hlt'
  simp only [Array.getElem_toList] at h4
  rw [h4] at h3
  cases h3
 ·have hd : (flatK bP 2 d').toList = cU d'.toList := by
   have := ko d'.toList
   simpa using this
  rw [hd, hF'] at h1
  refine ⟨by rw [eZ, hl'], .inr ⟨g, cap, _, rfl, Nat.zero_le _, h1, hcap, hmax, ?_, ?_⟩⟩
  ·simp [eZ, hl', hcl]
   omega
  ·rw [List.toList_toArray, List.take_append_of_le_length (by rw [eZ, hl']; exact Nat.le_refl _), List.take_of_length_le (by rw [eZ, hl']; exact Nat.le_refl _)]
end Go.Proofs.YtgcikpgcoemfnaaGreat.Co
