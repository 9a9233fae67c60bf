import Derived.Test.YtgcikpgcoemfnaaGreatPs24
import Derived.Test.YtgcikpgcoemfnaaGreatPs26
set_option maxRecDepth 100000
set_option maxHeartbeats 8000000
set_option linter.unusedVariables false
set_option linter.unusedSimpArgs false
namespace Go.Proofs.YtgcikpgcoemfnaaGreat.Co
open Go.RowKit Go.MapKept
open Go.Maps (Keyed)
theorem recRow : (57 : TypeId) < Tryz.prog.types.size := of_decide_eq_true (by kernel_rfl)
theorem recWide : (match Tryz.prog.underlying 57 with | some (.array _ _) | some (.struct _) => true | _ => false) = true := by rw [Tryz.underlying57]
theorem recLaw : Keyed Tryz.prog 57 := Keyed.of_law (deep_law_laid laid (m := 3) (by omega) recRow (by kernel_rfl) recWide)
theorem recKeyT : Tryz.prog.keyType 57 = true := by kernel_rfl
theorem recCells : Tryz.prog.cellsOf 57 = 2 := by kernel_rfl
theorem rec_key {κ : Rf} (h1 : (Lit.int .i64 κ.1).wf = true) (h2 : (Lit.int .i64 κ.2).wf = true) : ∃ l, keyOf Tryz.prog 57 (eA κ) = some l := by
 obtain ⟨k, hk⟩ := typesPos
 have hf : (eA κ).formed Tryz.prog 57 = true := by simp [Value.formed, eA, Tryz.underlying57, recCells]
 unfold keyOf
 rw [Tryz.underlying57]
 simp only [recKeyT, hf, Bool.and_self, if_true]
 rw [hk]
 simp [Program.keyLits, Tryz.underlying57, Tryz.underlying3, eA, Value.cells, recCells, intCells, h1, h2]
structure dK (r : Rf) : Prop where
 k : 1 ≤ r.1 ∧ r.1 ≤ 5
 z : (r.1 = 4 ∨ r.1 = 5) → r.2 = 0
 i : -9223372036854775808 ≤ r.2 ∧ r.2 ≤ 9223372036854775807
theorem dK.key {r : Rf} (h : dK r) : ∃ l, keyOf Tryz.prog 57 (eA r) = some l :=
 rec_key (by have := h.k; simp [Lit.wf, IntKind.min, IntKind.max, IntKind.bits, IntKind.signed]; omega) (by have := h.i; simp [Lit.wf, IntKind.min, IntKind.max, IntKind.bits, IntKind.signed]; omega)
def entries (l : List Rf) : List (Value × Value) := l.map fun r => (eA r, .agg #[])
theorem entries_no {l : List Rf} {r : Rf} (h : r ∉ l) : ∀ p ∈ entries l, p.1 ≠ eA r := fun p hp e => by
 obtain ⟨x, hx, rfl⟩ := List.mem_map.1 hp
 exact h (rval_inj e ▸ hx)
theorem unitZero (w : World) : (zeroValue 197).run Tryz.prog w = .ok (.agg #[]) w := by kernel_rfl
theorem _root_.Go.Proofs.YtgcikpgcoemfnaaGreat.MapIs.look2 {P : Program} {k : TypeId} {w : World} {b : Nat} {m : List (Value × Value)} {key : Value} {t e : TypeId} (h : MapIs P k w b m) (K : Keyed P k) (ht : P.underlying t = some (.map k e)) {z : Value} (hz : (zeroValue e).run P w = .ok z w) {kl : Lit} (hkey : keyOf P k key = some kl) :
  ∃ v f, (Instr.lookup t (.map (some b)) key true).run P w = .ok (.tuple #[v, .bool f]) w ∧ ((f = false ∧ v = z ∧ ∀ p ∈ m, p.1 ≠ key) ∨ (f = true ∧ (key, v) ∈ m)) := by
 obtain ⟨es, clock, hb, _, hks, rfl⟩ := h
 rcases K.find w hkey es.toList hks with ⟨h1, h2⟩ | ⟨j, e0, h1, h2, h3⟩
 ·refine ⟨z, false, by simp [Instr.lookup, run_underlying ht, MapKept.run_getObj_map hb, K.check w _ hkey, h1, hz, Result.andThen], .inl ⟨rfl, rfl, fun p hp => ?_⟩⟩
  obtain ⟨x, hx, rfl⟩ := List.mem_map.1 hp
  exact h2 x hx
 ·refine ⟨e0.val, true, by simp [Instr.lookup, run_underlying ht, MapKept.run_getObj_map hb, K.check w _ hkey, h1, Result.andThen], .inr ⟨rfl, ?_⟩⟩
  exact List.mem_map.2 ⟨e0, List.mem_of_getElem? h2, by rw [kv, h3]⟩
theorem look_bad {w : World} {b : Nat} {l : List Rf} (h : MapIs Tryz.prog 57 w b (entries l)) {r : Rf} (ho : dK r) (v : Bool) (hv : decide (r ∈ l) = v) :
  (Instr.lookup 127 (.map (some b)) (eA r) true).run Tryz.prog w = .ok (.tuple #[.agg #[], .bool v]) w := by
 obtain ⟨kl, hkey⟩ := ho.key
 obtain ⟨x, f, hrun, hc⟩ := h.look2 recLaw Tryz.underlying127 (unitZero w) hkey
 rw [hrun]
 rcases hc with ⟨rfl, rfl, hn⟩ | ⟨rfl, hm⟩
 ·have : r ∉ l := fun hr => hn _ (List.mem_map.2 ⟨r, hr, rfl⟩) rfl
  rw [← hv, decide_eq_false this]
 ·obtain ⟨y, hy, e⟩ := List.mem_map.1 hm
  simp only [Prod.mk.injEq] at e
  obtain ⟨e1, rfl⟩ := e
  rw [← hv, decide_eq_true (rval_inj e1 ▸ hy)]
structure Cm where
 p : Nat
 env : Nat
 name : Int
 A : Option Addr
 cap : Nat
 brs : List Int
 b : Nat
 bad : List Rf
def Cm.nm (C : Cm) : Nat → Int
 | 0 => C.name
 | j + 1 => C.brs.getD j 0
structure IsCm (w : World) (k : Nat) (C : Cm) : Prop where
 obj : Blk w C.p 129 [.pointer (some ⟨k, 0, none⟩), .int .i64 C.env, .int .i64 C.name, .slice C.A C.brs.length C.cap, .map (some C.b)]
 brs : ae w C.A C.brs.length (ab C.brs)
 map : ∃ l : List Rf, MapIs Tryz.prog 57 w C.b (entries l) ∧ l.Perm C.bad
 srt : C.bad.Pairwise ltR
 few : C.brs.length ≤ 31
 val : ∀ r ∈ C.bad, dK r ∧ aw C.brs.length r ≠ none
theorem keep0_ {M : Nat → Prop} {w w' : World} {A : Option Addr} {n : Nat} {xs : List Value} (h : ae w A n xs) (k : Keep M w w') (hm : 0 < n → ∀ ad, A = some ad → ¬ M ad.block) : ae w' A n xs := by
 by_cases h0 : 0 < n
 ·exact h.keep k (hm h0)
 ·exact ⟨h.1, fun h1 => absurd h1 h0⟩
section
variable {w w' : World} {k : Nat} {C : Cm} {M : Nat → Prop}
theorem IsCm.keep (h : IsCm w k C) (kk : Keep M w w') (h1 : ¬ M C.p) (h2 : 0 < C.brs.length → ∀ ad, C.A = some ad → ¬ M ad.block) (h3 : ¬ M C.b) : IsCm w' k C := by
 obtain ⟨l, hl, hp⟩ := h.map
 exact ⟨h.obj.keep kk h1, keep0_ h.brs kk h2, ⟨l, hl.keep kk h3, hp⟩, h.srt, h.few, h.val⟩
theorem IsCm.nob (h : IsCm w k C) (kk : Keep Nob w w') : IsCm w' k C := h.keep kk (fun f => f) (fun _ _ _ f => f) (fun f => f)
theorem IsCm.lt (h : IsCm w k C) : C.p < w.heap.size ∧ C.b < w.heap.size := by
 obtain ⟨l, hl, _⟩ := h.map
 exact ⟨h.obj.lt, hl.lt⟩
theorem IsCm.look (h : IsCm w k C) {r : Rf} (ho : dK r) (v : Bool) (hv : decide (r ∈ C.bad) = v) : (Instr.lookup 127 (.map (some C.b)) (eA r) true).run Tryz.prog w = .ok (.tuple #[.agg #[], .bool v]) w := by
 obtain ⟨l, hl, hp⟩ := h.map
 exact look_bad hl ho v (by rw [← hv]; exact decide_eq_decide.2 hp.mem_iff)
def fu (k : Int) : Int × Int × Int := if k = 1 then (0, 24, 8) else if k = 2 then (192, 8, 12) else if k = 3 then (288, 40, 4) else if k = 4 then (448, 40, 1) else (488, 4, 1)
theorem ez (k : Int) (w : World) (a n c : Int) (hv : fu k = (a, n, c)) : Calls Tryz.prog 201 #[.int .i64 k] w fun e w' => e = .returned (.tuple #[.int .i64 a, .int .i64 n, .int .i64 c]) ∧ w = w' := by
 unfold fu at hv
 by_cases h1 : k = 1
 ·subst h1; simp at hv; obtain ⟨rfl, rfl, rfl⟩ := hv
  go_enter Tryz.func201, Tryz.ntmps201
  go_wp2
  go_ret3
  exact ⟨rfl, rfl⟩
 ·by_cases h2 : k = 2
  ·subst h2; simp at hv; obtain ⟨rfl, rfl, rfl⟩ := hv
   go_enter Tryz.func201, Tryz.ntmps201
   go_wp2
   go_ret3
   exact ⟨rfl, rfl⟩
  ·by_cases h3 : k = 3
   ·subst h3; simp at hv; obtain ⟨rfl, rfl, rfl⟩ := hv
    go_enter Tryz.func201, Tryz.ntmps201
    go_wp2
    go_ret3
    exact ⟨rfl, rfl⟩
   ·by_cases h4 : k = 4
    ·subst h4; simp at hv; obtain ⟨rfl, rfl, rfl⟩ := hv
     go_enter Tryz.func201, Tryz.ntmps201
     go_wp2
     go_ret3
     exact ⟨rfl, rfl⟩
    ·rw [if_neg h1, if_neg h2, if_neg h3, if_neg h4] at hv
     simp at hv; obtain ⟨rfl, rfl, rfl⟩ := hv
     go_enter Tryz.func201, Tryz.ntmps201
     go_wp2
     go_ret3
     exact ⟨rfl, rfl⟩
theorem ik : (Tryz.prog.info? 193).map (·.size) = some 3 := by kernel_rfl
theorem bJ {fn : Func} {p u : Tmp} (h : fn.results = #[.cell p 193, .tmp u]) (tmps : Array Value) (w : World) (g : Nat) (a b c : Value)
  (hp : tmps.getD p undef = .pointer (some ⟨g, 0, none⟩)) (hg : Blk w g 193 [a, b, c]) (v : Value) (hv : tmps.getD u undef = v) :
  (results fn tmps).run Tryz.prog w = .ok (.tuple #[.agg #[a, b, c], v]) w := by
 rw [results_cell_tmp h, hp, hv]
 have := run_loadVar_row (P := Tryz.prog) w g 193 193 #[a, b, c] (0, 0) _ hg Tryz.underlying193 rfl (by rw [ik]; rfl)
 simp [asAddr, Result.andThen, this]
theorem bridge_no (h : IsCm w k C) (i : Int) (hi : C.brs.length ≤ i) : Calls Tryz.prog 200 #[.pointer (some ⟨C.p, 0, none⟩), .int .i64 i] w fun e w' => e = .returned (.tuple #[.agg #[.int .i64 0, .int .i64 0, .int .i64 0], .bool false]) ∧ Keep Nob w w' := by
 have c3 : ∀ W, Keep Nob w W → W.cell? ⟨C.p, 3, none⟩ = some (.slice C.A C.brs.length C.cap) := fun W kk => (h.nob kk).obj.cell 3
 have k1 := (Keep.refl Nob w).alloc (.cells #[.int .i64 0, .int .i64 0, .int .i64 0] 193)
 have c := c3 _ k1
 clear c3
 have hb := Blk.new w 193 [.int .i64 0, .int .i64 0, .int .i64 0]
 go_enter Tryz.func200, Tryz.ntmps200
 go_wp2
 refine bodyPost_ret (v := .tuple #[.agg #[.int .i64 0, .int .i64 0, .int .i64 0], .bool false]) (bJ rfl _ _ w.heap.size _ _ _ rfl hb _ rfl) rfl ?_
 exact ⟨rfl, k1⟩
theorem bridge_yes (h : IsCm w k C) (i : Nat) (hi : i < C.brs.length) (v : Int) (hv : C.brs.getD i 0 = v) : Calls Tryz.prog 200 #[.pointer (some ⟨C.p, 0, none⟩), .int .i64 i] w fun e w' => e = .returned (.tuple #[.agg #[.int .i64 v, .int .i64 0, .int .i64 40], .bool true]) ∧ Keep Nob w w' := by
 have k1 := (Keep.refl Nob w).alloc (.cells #[.int .i64 0, .int .i64 0, .int .i64 0] 193)
 have h1 := h.nob k1
 have c : (w.alloc (.cells #[.int .i64 0, .int .i64 0, .int .i64 0] 193)).cell? ⟨C.p, 3, none⟩ = some (.slice C.A C.brs.length C.cap) := h1.obj.cell 3
 obtain ⟨b, off, hA, hc⟩ := h1.brs.lit (by omega)
 have d := hc i _ (by rw [bg, List.getElem?_eq_getElem hi]; rfl)
 have e : C.brs[i] = v := by rw [← hv, List.getD_eq_getElem?_getD, List.getElem?_eq_getElem hi]; rfl
 rw [e] at d
 rw [hA] at c
 have few := h.few
 clear hc e hv h1 hA
 generalize C.brs.length = nb at *
 go_enter Tryz.func200, Tryz.ntmps200
 go_wp2
 refine bodyPost_ret (v := .tuple #[.agg #[.int .i64 v, .int .i64 0, .int .i64 40], .bool true]) (bJ rfl _ _ w.heap.size _ _ _ rfl (Blk.new w 193 [.int .i64 v, .int .i64 0, .int .i64 40]) _ rfl) rfl ?_
 exact ⟨rfl, (Keep.refl Nob w).alloc _⟩
def rch (C : Cm) (r : Rf) : (Int × Int × Int) × Bool := if r ∈ C.bad then ((0, 0, 0), false) else match aw C.brs.length r with
 | none => ((0, 0, 0), false)
 | some x => ((C.nm x.1, x.2.1, x.2.2), true)
theorem rch_own {C : Cm} {x i a n c : Int} (hb : (x, i) ∉ C.bad) (hr : fu x = (a, n, c)) (hx : 1 ≤ x ∧ x ≤ 5) (hz : (x = 4 ∨ x = 5) → i = 0) (hn : x = 3 → i < 4) :
  rch C (x, i) = if 0 ≤ i ∧ i < c then ((C.name, a + n * i, n), true) else ((0, 0, 0), false) := by
 unfold rch aw
 rw [if_neg hb]
 unfold fu at hr
 rcases (show x = 1 ∨ x = 2 ∨ x = 3 ∨ x = 4 ∨ x = 5 by omega) with rfl | rfl | rfl | rfl | rfl
 ·simp at hr
  obtain ⟨rfl, rfl, rfl⟩ := hr
  by_cases h : 0 ≤ i ∧ i < 8
  ·simp [h, Cm.nm]; omega
  ·simp [h]
 ·simp at hr
  obtain ⟨rfl, rfl, rfl⟩ := hr
  by_cases h : 0 ≤ i ∧ i < 12
  ·simp [h, Cm.nm]; omega
  ·simp [h]
 ·simp at hr
  obtain ⟨rfl, rfl, rfl⟩ := hr
  have h4 : ¬ 4 ≤ i := by have := hn rfl; omega
  have h5 : i < 4 := hn rfl
  by_cases h : 0 ≤ i
  ·simp [h, h4, h5, Cm.nm]; omega
  ·simp [h, h4]
 ·simp at hr
  obtain ⟨rfl, rfl, rfl⟩ := hr
  obtain rfl := hz (.inl rfl)
  simp [Cm.nm]
 ·simp at hr
  obtain ⟨rfl, rfl, rfl⟩ := hr
  obtain rfl := hz (.inr rfl)
  simp [Cm.nm]
theorem rch_br {C : Cm} {i : Int} (hb : ((3 : Int), i) ∉ C.bad) (hi : 4 ≤ i) : rch C (3, i) = if i < 4 + C.brs.length then ((C.brs.getD (i.toNat - 4) 0, 0, 40), true) else ((0, 0, 0), false) := by
 unfold rch aw
 rw [if_neg hb]
 by_cases h : i < 4 + C.brs.length
 ·have e : i.toNat - 3 = (i.toNat - 4) + 1 := by omega
  simp [h, hi, e, Cm.nm]
 ·simp [h, hi]
theorem cM (h : IsCm w k C) (r : Rf) (ho : dK r) (a n m : Int) (ok : Bool) (hv : rch C r = ((a, n, m), ok)) :
  Calls Tryz.prog 106 #[.pointer (some ⟨C.p, 0, none⟩), .agg #[.int .i64 r.1, .int .i64 r.2]] w fun e w' => e = .returned (.tuple #[.agg #[.int .i64 a, .int .i64 n, .int .i64 m], .bool ok]) ∧ Keep Nob w w' := by
 have few := h.few
 obtain ⟨vb, hvb⟩ : ∃ v, decide (r ∈ C.bad) = v := ⟨_, rfl⟩
 have hlk := fun W (kk : Keep Nob w W) => (h.nob kk).look ho vb hvb
 unfold eA at hlk
 obtain ⟨x, i⟩ := r
 dsimp only at hlk ⊢
 obtain ⟨q, hq⟩ : ∃ q, w.heap.size = q := ⟨_, rfl⟩
 have k2 := ((Keep.refl Nob w).alloc (.cells #[.int .i64 x, .int .i64 i] 57)).alloc (.cells #[.int .i64 0, .int .i64 0, .int .i64 0] 193)
 have h2 := h.nob k2
 have bR := (Blk.new w 57 [.int .i64 x, .int .i64 i]).alloc (.cells #[.int .i64 0, .int .i64 0, .int .i64 0] 193)
 have bS := Blk.new (w.alloc (.cells #[.int .i64 x, .int .i64 i] 57)) 193 [.int .i64 0, .int .i64 0, .int .i64 0]
 have hs : (w.alloc (.cells #[.int .i64 x, .int .i64 i] 57)).heap.size = q + 1 := by simp [hq]
 rw [hs] at bS
 rw [hq] at bR
 go_enter Tryz.func106, Tryz.ntmps106
 go_wp2_with fail
 generalize hW : ((w.alloc (.cells #[.int .i64 x, .int .i64 i] 57)).alloc (.cells #[.int .i64 0, .int .i64 0, .int .i64 0] 193)) = W at *
 have hWs : W.heap.size = q + 2 := by rw [← hW]; simp [hq]
 clear hW hs
 have c4 : W.cell? ⟨C.p, 4, none⟩ = some (.map (some C.b)) := h2.obj.cell 4
 have r0 : W.cell? ⟨q, 0, none⟩ = some (.int .i64 x) := bR.cell 0
 have r1 : W.cell? ⟨q, 1, none⟩ = some (.int .i64 i) := bR.cell 1
 have l1 := hlk _ k2.drew
 have l2 := hlk _ (k2.drew.alloc (.cells #[] 197))
 have l3 := hlk _ (k2.alloc (.cells #[] 197)).drew
 have c5 : (W.alloc (.cells #[] 197)).drew.cell? ⟨C.p, 4, none⟩ = some (.map (some C.b)) := (h2.obj.alloc _).cell 4
 have H := aa (And.intro h (And.intro h2 (And.intro bR (And.intro bS (And.intro k2 (And.intro ho hq))))))
 clear h h2 bR bS k2 ho hlk hq
 go_region
 all_goals
  have kV := H.out.2.2.2.2.1.trans (((Keep.refl Nob W).alloc (.cells #[] 197)).drew) (fun _ _ f => f)
  have hV := H.out.2.1.nob (((Keep.refl Nob W).alloc (.cells #[] 197)).drew)
  have sV := H.out.2.2.2.1.nob (((Keep.refl Nob W).alloc (.cells #[] 197)).drew)
  have rV := H.out.2.2.1.nob (((Keep.refl Nob W).alloc (.cells #[] 197)).drew)
  have hq2 : w.heap.size ≤ q := Nat.le_of_eq H.out.2.2.2.2.2.2
  have ho := H.out.2.2.2.2.2.1
  clear l1 l2 l3 c4 c5 r0 r1 H
  generalize (W.alloc (.cells #[] 197)).drew = V at *
  have r0 := rV.cell 0
  have r1 := rV.cell 1
  simp only [List.getElem?_cons_zero, List.getElem?_cons_succ] at r0 r1
  have f0 := sV.frozen 0
  have f1 := sV.frozen 1
  have f2 := sV.frozen 2
  have s0 := sV.cell 0
  have s1 := sV.cell 1
  have s2 := sV.cell 2
  simp only [List.getElem?_cons_zero, List.getElem?_cons_succ] at s0 s1 s2
  have fin : ∀ V', Keep Nob V V' → ∀ a b c : Int, Blk (((V'.setCell ⟨q + 1, 0, none⟩ (.int .i64 a)).setCell ⟨q + 1, 1, none⟩ (.int .i64 b)).setCell ⟨q + 1, 2, none⟩ (.int .i64 c)) (q + 1) 193 [.int .i64 a, .int .i64 b, .int .i64 c] ∧
    Keep Nob w (((V'.setCell ⟨q + 1, 0, none⟩ (.int .i64 a)).setCell ⟨q + 1, 1, none⟩ (.int .i64 b)).setCell ⟨q + 1, 2, none⟩ (.int .i64 c)) := fun V' kk a b c =>
   ⟨by have := (((sV.nob kk).setCell 0 (.int .i64 a)).setCell 1 (.int .i64 b)).setCell 2 (.int .i64 c); simpa using this,
    (kV.trans kk (fun _ _ f => f)).trans ((((Keep.refl (· = q + 1) V').setCell _ _ (fun _ => rfl)).setCell _ _ (fun _ => rfl)).setCell _ _ (fun _ => rfl)) (fun b hb e => by have e : b = q + 1 := e; omega)⟩
  have SV := aa sV
  have RV := aa rV
  have Fin := aa fin
  have HO := aa ho
  have HV := aa hV
  have HW := aa hWs
  have HQ := aa hq2
  clear fin sV rV kV hWs hq2
  cases vb with
  | true =>
   have hb := of_decide_eq_true hvb
   unfold rch at hv
   rw [if_pos hb] at hv
   simp only [Prod.mk.injEq] at hv
   obtain ⟨⟨rfl, rfl, rfl⟩, rfl⟩ := hv
   go_wp2
   refine bodyPost_ret (v := .tuple #[.agg #[.int .i64 0, .int .i64 0, .int .i64 0], .bool false]) (bJ rfl _ _ (q + 1) _ _ _ rfl (Fin.out _ (Keep.refl _ _) 0 0 0).1 _ rfl) rfl ?_
   exact ⟨rfl, (Fin.out _ (Keep.refl _ _) 0 0 0).2⟩
  | false =>
   have hb := of_decide_eq_false hvb
   have hx := ho.k
   have hz := ho.z
   have hi := ho.i
   dsimp only at hx hz hi
   by_cases hbr : x = 3 ∧ 4 ≤ i
   ·obtain ⟨rfl, h4⟩ := hbr
    rw [rch_br hb h4] at hv
    obtain ⟨nb, hnb⟩ : ∃ nb, C.brs.length = nb := ⟨_, rfl⟩
    by_cases hl : i < 4 + (C.brs.length : Int)
    ·rw [if_pos hl] at hv
     simp only [Prod.mk.injEq] at hv
     obtain ⟨⟨hv1, rfl, rfl⟩, rfl⟩ := hv
     have hcall := bridge_yes hV (i.toNat - 4) (by omega) a hv1
     rw [show (((i.toNat - 4 : Nat)) : Int) = i - 4 by omega] at hcall
     clear hv1 hl hb hvb hx hz hV ho
     go_wp2_with fail
     refine hcall.mono ?_; rintro e w1 ⟨rfl, k1⟩
     have S1 := SV.out.nob k1
     have t0 := S1.cell 0
     have t1 := S1.cell 1
     have t2 := S1.cell 2
     have g0 := S1.frozen 0
     have g1 := S1.frozen 1
     have g2 := S1.frozen 2
     simp only [List.getElem?_cons_zero, List.getElem?_cons_succ] at t0 t1 t2
     go_wp2
     refine bodyPost_ret (v := .tuple #[.agg #[.int .i64 a, .int .i64 0, .int .i64 40], .bool true]) (bJ rfl _ _ (q + 1) _ _ _ rfl (Fin.out _ k1 a 0 40).1 _ rfl) rfl ?_
     exact ⟨rfl, (Fin.out _ k1 a 0 40).2⟩
    ·rw [if_neg hl] at hv
     simp only [Prod.mk.injEq] at hv
     obtain ⟨⟨rfl, rfl, rfl⟩, rfl⟩ := hv
     have hcall := bridge_no hV (i - 4) (by omega)
     clear hl hb hvb hx hz hV ho
     go_wp2_with fail
     refine hcall.mono ?_; rintro e w1 ⟨rfl, k1⟩
     have S1 := SV.out.nob k1
     have t0 := S1.cell 0
     have t1 := S1.cell 1
     have t2 := S1.cell 2
     have g0 := S1.frozen 0
     have g1 := S1.frozen 1
     have g2 := S1.frozen 2
     simp only [List.getElem?_cons_zero, List.getElem?_cons_succ] at t0 t1 t2
     go_wp2
     refine bodyPost_ret (v := .tuple #[.agg #[.int .i64 0, .int .i64 0, .int .i64 0], .bool false]) (bJ rfl _ _ (q + 1) _ _ _ rfl (Fin.out _ k1 0 0 0).1 _ rfl) rfl ?_
     exact ⟨rfl, (Fin.out _ k1 0 0 0).2⟩
   ·obtain ⟨rw, hrw⟩ : ∃ v, fu x = v := ⟨_, rfl⟩
    obtain ⟨b0, b1, b2⟩ := rw
    rw [rch_own hb hrw hx hz (fun e => by omega)] at hv
    have c2 : V.cell? ⟨C.p, 2, none⟩ = some (.int .i64 C.name) := hV.obj.cell 2
    generalize C.name = cn at *
    have h34 : x = 3 → i < 4 := fun e => by omega
    clear hbr hb hvb hV ho
    have hx5 : x = 1 ∨ x = 2 ∨ x = 3 ∨ x = 4 ∨ x = 5 := by omega
    clear hx
    rcases hx5 with rfl | rfl | rfl | rfl | rfl
    ·have hcall := fun W => ez 1 W b0 b1 b2 hrw
     simp [fu] at hrw
     obtain ⟨rfl, rfl, rfl⟩ := hrw
     clear hz h34
     by_cases hin : 0 ≤ i ∧ i < 8
     ·rw [if_pos hin] at hv
      simp only [Prod.mk.injEq] at hv
      obtain ⟨⟨rfl, hn, rfl⟩, rfl⟩ := hv
      obtain ⟨hin0, hin1⟩ := hin
      obtain rfl : n = 24 * i := by omega
      go_wp2_with fail
      refine (hcall _).mono ?_; rintro e w1 ⟨rfl, rfl⟩
      go_wp2_with fail
      go_region
      go_wp2
      refine bodyPost_ret (v := .tuple #[.agg #[.int .i64 cn, .int .i64 (24 * i), .int .i64 24], .bool true]) (bJ rfl _ _ (q + 1) _ _ _ rfl (Fin.out _ (Keep.refl _ _).drew cn (24 * i) 24).1 _ rfl) rfl ?_
      exact ⟨rfl, (Fin.out _ (Keep.refl _ _).drew cn (24 * i) 24).2⟩
     ·rw [if_neg hin] at hv
      simp only [Prod.mk.injEq] at hv
      obtain ⟨⟨rfl, rfl, rfl⟩, rfl⟩ := hv
      have hin' : i < 0 ∨ (0 ≤ i ∧ 8 ≤ i) := by omega
      clear hin
      rcases hin' with hlo | ⟨hlo, hhi⟩
      all_goals
       go_wp2_with fail
       refine (hcall _).mono ?_; rintro e w1 ⟨rfl, rfl⟩
       go_wp2
       refine bodyPost_ret (v := .tuple #[.agg #[.int .i64 0, .int .i64 0, .int .i64 0], .bool false]) (bJ rfl _ _ (q + 1) _ _ _ rfl (Fin.out _ (Keep.refl _ _) 0 0 0).1 _ rfl) rfl ?_
       exact ⟨rfl, (Fin.out _ (Keep.refl _ _) 0 0 0).2⟩
    ·have hcall := fun W => ez 2 W b0 b1 b2 hrw
     simp [fu] at hrw
     obtain ⟨rfl, rfl, rfl⟩ := hrw
     clear hz h34
     by_cases hin : 0 ≤ i ∧ i < 12
     ·rw [if_pos hin] at hv
      simp only [Prod.mk.injEq] at hv
      obtain ⟨⟨rfl, hn, rfl⟩, rfl⟩ := hv
      obtain ⟨hin0, hin1⟩ := hin
      obtain rfl : n = 192 + 8 * i := by omega
      go_wp2_with fail
      refine (hcall _).mono ?_; rintro e w1 ⟨rfl, rfl⟩
      go_wp2_with fail
      go_region
      go_wp2
      refine bodyPost_ret (v := .tuple #[.agg #[.int .i64 cn, .int .i64 (192 + 8 * i), .int .i64 8], .bool true]) (bJ rfl _ _ (q + 1) _ _ _ rfl (Fin.out _ (Keep.refl _ _).drew cn (192 + 8 * i) 8).1 _ rfl) rfl ?_
      exact ⟨rfl, (Fin.out _ (Keep.refl _ _).drew cn (192 + 8 * i) 8).2⟩
     ·rw [if_neg hin] at hv
      simp only [Prod.mk.injEq] at hv
      obtain ⟨⟨rfl, rfl, rfl⟩, rfl⟩ := hv
      have hin' : i < 0 ∨ (0 ≤ i ∧ 12 ≤ i) := by omega
      clear hin
      rcases hin' with hlo | ⟨hlo, hhi⟩
      all_goals
       go_wp2_with fail
       refine (hcall _).mono ?_; rintro e w1 ⟨rfl, rfl⟩
       go_wp2
       refine bodyPost_ret (v := .tuple #[.agg #[.int .i64 0, .int .i64 0, .int .i64 0], .bool false]) (bJ rfl _ _ (q + 1) _ _ _ rfl (Fin.out _ (Keep.refl _ _) 0 0 0).1 _ rfl) rfl ?_
       exact ⟨rfl, (Fin.out _ (Keep.refl _ _) 0 0 0).2⟩
    ·have hcall := fun W => ez 3 W b0 b1 b2 hrw
     simp [fu] at hrw
     obtain ⟨rfl, rfl, rfl⟩ := hrw
     have h3 := h34 rfl
     clear hz h34
     by_cases hin : 0 ≤ i ∧ i < 4
     ·rw [if_pos hin] at hv
      simp only [Prod.mk.injEq] at hv
      obtain ⟨⟨rfl, hn, rfl⟩, rfl⟩ := hv
      obtain ⟨hin0, hin1⟩ := hin
      obtain rfl : n = 288 + 40 * i := by omega
      go_wp2_with fail
      refine (hcall _).mono ?_; rintro e w1 ⟨rfl, rfl⟩
      go_wp2_with fail
      go_region
      go_wp2
      refine bodyPost_ret (v := .tuple #[.agg #[.int .i64 cn, .int .i64 (288 + 40 * i), .int .i64 40], .bool true]) (bJ rfl _ _ (q + 1) _ _ _ rfl (Fin.out _ (Keep.refl _ _).drew cn (288 + 40 * i) 40).1 _ rfl) rfl ?_
      exact ⟨rfl, (Fin.out _ (Keep.refl _ _).drew cn (288 + 40 * i) 40).2⟩
     ·rw [if_neg hin] at hv
      simp only [Prod.mk.injEq] at hv
      obtain ⟨⟨rfl, rfl, rfl⟩, rfl⟩ := hv
      have hlo : i < 0 := by omega
      clear hin
      go_wp2_with fail
      refine (hcall _).mono ?_; rintro e w1 ⟨rfl, rfl⟩
      go_wp2
      refine bodyPost_ret (v := .tuple #[.agg #[.int .i64 0, .int .i64 0, .int .i64 0], .bool false]) (bJ rfl _ _ (q + 1) _ _ _ rfl (Fin.out _ (Keep.refl _ _) 0 0 0).1 _ rfl) rfl ?_
      exact ⟨rfl, (Fin.out _ (Keep.refl _ _) 0 0 0).2⟩
    ·have hcall := fun W => ez 4 W b0 b1 b2 hrw
     simp [fu] at hrw
     obtain ⟨rfl, rfl, rfl⟩ := hrw
     obtain rfl := hz (by omega)
     clear hz h34
     by_cases hin : (0 : Int) ≤ 0 ∧ (0 : Int) < 1
     ·rw [if_pos hin] at hv
      simp only [Prod.mk.injEq] at hv
      obtain ⟨⟨rfl, hn, rfl⟩, rfl⟩ := hv
      obtain ⟨hin0, hin1⟩ := hin
      obtain rfl : n = 448 := by omega
      go_wp2_with fail
      refine (hcall _).mono ?_; rintro e w1 ⟨rfl, rfl⟩
      go_wp2_with fail
      go_region
      go_wp2
      refine bodyPost_ret (v := .tuple #[.agg #[.int .i64 cn, .int .i64 (448), .int .i64 40], .bool true]) (bJ rfl _ _ (q + 1) _ _ _ rfl (Fin.out _ (Keep.refl _ _).drew cn (448) 40).1 _ rfl) rfl ?_
      exact ⟨rfl, (Fin.out _ (Keep.refl _ _).drew cn (448) 40).2⟩
     ·exact absurd ⟨by decide, by decide⟩ hin
    ·have hcall := fun W => ez 5 W b0 b1 b2 hrw
     simp [fu] at hrw
     obtain ⟨rfl, rfl, rfl⟩ := hrw
     obtain rfl := hz (by omega)
     clear hz h34
     by_cases hin : (0 : Int) ≤ 0 ∧ (0 : Int) < 1
     ·rw [if_pos hin] at hv
      simp only [Prod.mk.injEq] at hv
      obtain ⟨⟨rfl, hn, rfl⟩, rfl⟩ := hv
      obtain ⟨hin0, hin1⟩ := hin
      obtain rfl : n = 488 := by omega
      go_wp2_with fail
      refine (hcall _).mono ?_; rintro e w1 ⟨rfl, rfl⟩
      go_wp2_with fail
      go_region
      go_wp2
      refine bodyPost_ret (v := .tuple #[.agg #[.int .i64 cn, .int .i64 (488), .int .i64 4], .bool true]) (bJ rfl _ _ (q + 1) _ _ _ rfl (Fin.out _ (Keep.refl _ _).drew cn (488) 4).1 _ rfl) rfl ?_
      exact ⟨rfl, (Fin.out _ (Keep.refl _ _).drew cn (488) 4).2⟩
     ·exact absurd ⟨by decide, by decide⟩ hin
end
end Go.Proofs.YtgcikpgcoemfnaaGreat.Co
