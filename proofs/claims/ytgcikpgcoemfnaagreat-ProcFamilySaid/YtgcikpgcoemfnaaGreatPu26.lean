/- Texts Dk1, Dk2, Dk3A, Dk3B, Dk3C, Dk3D, Dk3E, Dk4, Dk5, Dk6, Dk7, Dk8, packed. -/
import Derived.Laws.MakeOwn
import Derived.Deep.RegionLaw
import Derived.ProofKit
import Derived.SizedLaws
import Derived.ChangeArms
import Derived.Test.YtgcikpgcoemfnaaGreatPu0
import Derived.Test.YtgcikpgcoemfnaaGreatPu7
import Derived.Test.YtgcikpgcoemfnaaGreatPu11
import Derived.Test.YtgcikpgcoemfnaaGreatPu12
import Derived.Test.YtgcikpgcoemfnaaGreatPu14
import Derived.Test.YtgcikpgcoemfnaaGreatPu13
import Derived.Test.YtgcikpgcoemfnaaGreatPu15
import Derived.Test.YtgcikpgcoemfnaaGreatPu16
import Derived.Test.YtgcikpgcoemfnaaGreatPu1
import Derived.Test.YtgcikpgcoemfnaaGreatPu18
import Derived.Test.YtgcikpgcoemfnaaGreatPu21
import Derived.Test.YtgcikpgcoemfnaaGreatPu24
import Derived.Test.YtgcikpgcoemfnaaGreatPu2
import Derived.Test.YtgcikpgcoemfnaaGreatPu25
import Derived.Test.YtgcikpgcoemfnaaGreatPu4
import Derived.Test.YtgcikpgcoemfnaaGreatPu23
namespace Go.Proofs.YtgcikpgcoemfnaaGreat.Dk
open Go.RowKit
set_option linter.unusedVariables false
set_option linter.unusedSimpArgs false
theorem infopN : (Tryz.prog.info? 284).map (fun i => (i.zero, i.size, i.bytes)) = some (some (.pointer none), 1, 8) := by kernel_rfl
theorem infosC : (Tryz.prog.info? 362).map (fun i => (i.zero, i.size, i.bytes)) = some (some (.slice none 0 0), 1, 24) := by kernel_rfl
theorem infoCap : (Tryz.prog.info? 255).map (fun i => (i.zero, i.size, i.bytes)) = some (some (.agg zcap.cells.toArray), 6, 48) := by kernel_rfl
def upn {α : Type} (f : Nat → α) (k : Nat) (x : α) : Nat → α := fun i => if i = k then x else f i
theorem upn_lt {α : Type} {f : Nat → α} {k : Nat} {x : α} {i : Nat} (h : i < k) : upn f k x i = f i := by unfold upn; rw [if_neg (by omega)]
theorem upn_self {α : Type} {f : Nat → α} {k : Nat} {x : α} : upn f k x k = x := by unfold upn; rw [if_pos rfl]
theorem mk_upn {f g : Nat → Value} {k : Nat} (h : ∀ i, i < k → g i = f i) (x : Value) (hx : g k = x) : mk k f ++ [x] = mk (k + 1) g := by
  rw [← mk_succ, hx, mk_congr h]
/-- A Space that is being made: so many Names, so many rows of Caps. -/
structure Part (w wx : World) (s : Nat) (AN : Option Addr) (cN : Nat) (AC : Option Addr) (cC : Nat) (q : Nat → Nat) (A : Nat → Option Addr) (ca r : Nat → Nat) (a b : Nat) : Prop where
  obj : Blk wx s 288 [.slice AN a cN, .slice AC b cC]
  nrow : Vec wx 284 1 AN a cN (mk a fun i => .pointer (some ⟨q i, 0, none⟩))
  cr : Vec wx 362 1 AC b cC (mk b fun i => .slice (some ⟨r i, 0, none⟩) 32 32)
  nm : ∀ i, i < a → Ref.IsNames wx (q i) (A i) (ca i) (List.replicate 32 ⟨1, false, []⟩)
  cp : ∀ i, i < b → Blk wx (r i) 255 (crow (init i))
  ainj : ∀ i j, i < a → j < a → i ≠ j → ∀ x, Own (A i) x → ¬ Own (A j) x
  rinj : ∀ i j, i < b → j < b → r i = r j → i = j
  ls : w.heap.size ≤ s
  ln : ∀ x, Own AN x → w.heap.size ≤ x
  lc : ∀ x, Own AC x → w.heap.size ≤ x
  lq : ∀ i, i < a → w.heap.size ≤ q i ∧ ∀ x, Own (A i) x → w.heap.size ≤ x
  lr : ∀ i, i < b → w.heap.size ≤ r i
  keep : Keep Nob w wx
section
variable {w wx W w2 : World} {s : Nat} {AN : Option Addr} {cN : Nat} {AC : Option Addr} {cC : Nat} {q : Nat → Nat} {A : Nat → Option Addr} {ca r : Nat → Nat} {a b : Nat}
theorem Part.nob (h : Part w wx s AN cN AC cC q A ca r a b) (k : Keep Nob wx W) : Part w W s AN cN AC cC q A ca r a b :=
  ⟨h.obj.nob k, h.nrow.nob k, h.cr.nob k, fun i hi => (h.nm i hi).nob k, fun i hi => (h.cp i hi).nob k, h.ainj, h.rinj, h.ls, h.ln, h.lc, h.lq, h.lr, h.keep.nobt k⟩
/-- One more Names. -/
theorem Part.name (h : Part w wx s AN cN AC cC q A ca r a b) (k : Keep Nob wx W) {q' : Nat} {A' : Option Addr} {ca' : Nat} (hn : Ref.IsNames W q' A' ca' (List.replicate 32 ⟨1, false, []⟩)) (hq : wx.heap.size ≤ q') (hA : ∀ x, Own A' x → wx.heap.size ≤ x)
    {A2 : Option Addr} {c2 : Nat} (hv : Vec w2 284 1 A2 (a + 1) c2 (YtgcikpgcoemfnaaGreat.mk a (fun i => .pointer (some ⟨q i, 0, none⟩)) ++ [.pointer (some ⟨q', 0, none⟩)])) (hk : Keep (Own AN) W w2) (ho : ∀ x, Own A2 x → Own AN x ∨ x = W.heap.size) :
    Part w (w2.setCell ⟨s, 0, none⟩ (.slice A2 (a + 1) c2)) s A2 c2 AC cC (upn q a q') (upn A a A') (upn ca a ca') r (a + 1) b := by
  have hW := h.nob k
  have offN : ∀ {x : Nat} {t : TypeId} {cs : List Value}, Blk W x t cs → t ≠ 284 → ¬ Own AN x := fun hb ht ho => by
    obtain ⟨cur, hc⟩ := hW.nrow.blk ho
    exact hb.ne_ hc ht rfl
  have o2 := hW.obj.keep hk (offN hW.obj (by decide))
  have k3 : Keep (· = s) w2 (w2.setCell ⟨s, 0, none⟩ (.slice A2 (a + 1) c2)) := (Keep.refl _ _).setCell _ _ (fun _ => rfl)
  have vb : ∀ {x : Nat} {t : TypeId} {cs : List Value}, Blk W x t cs → t ≠ 284 → t ≠ 288 → Blk (w2.setCell ⟨s, 0, none⟩ (.slice A2 (a + 1) c2)) x t cs := fun hb h1 h2 => by
    have b2 := hb.keep hk (offN hb h1)
    exact b2.keep k3 (b2.ne_ o2 h2)
  have vv : ∀ {t sz n cap : Nat} {B : Option Addr} {xs : List Value}, Vec W t sz B n cap xs → t ≠ 284 → t ≠ 288 → Vec (w2.setCell ⟨s, 0, none⟩ (.slice A2 (a + 1) c2)) t sz B n cap xs := fun hv h1 h2 => by
    have v2 := hv.keep hk (fun x hx => by obtain ⟨cur, hc⟩ := hv.blk hx; exact offN hc h1)
    exact v2.keep k3 (fun x hx e => by obtain ⟨cur, hc⟩ := v2.blk hx; exact hc.ne_ o2 h2 e)
  have hs := h.keep.size
  have kw := k.size
  refine ⟨?_, ?_, vv hW.cr (by decide) (by decide), fun i hi => ?_, fun i hi => vb (hW.cp i hi) (by decide) (by decide), fun i j hi hj hij x hx hy => ?_, h.rinj, h.ls, fun x hx => ?_, h.lc, fun i hi => ?_, h.lr, ?_⟩
  · exact o2.setCell 0 _
  · rw [mk_upn (g := fun i => .pointer (some ⟨upn q a q' i, 0, none⟩)) (fun i hi => by rw [upn_lt hi]) _ (by rw [upn_self])] at hv
    exact hv.keep k3 (fun x hx e => by obtain ⟨cur, hc⟩ := hv.blk hx; exact hc.ne_ o2 (by decide) e)
  · by_cases e : i = a
    · subst e
      rw [upn_self, upn_self, upn_self]
      exact ⟨vb hn.obj (by decide) (by decide), vv hn.row (by decide) (by decide), hn.pl⟩
    · rw [upn_lt (by omega), upn_lt (by omega), upn_lt (by omega)]
      have := hW.nm i (by omega)
      exact ⟨vb this.obj (by decide) (by decide), vv this.row (by decide) (by decide), this.pl⟩
  · by_cases e1 : i = a <;> by_cases e2 : j = a
    · omega
    · subst e1
      rw [upn_self] at hx
      rw [upn_lt (by omega)] at hy
      have := (h.nm j (by omega)).row.lt x hy
      have := hA x hx
      omega
    · subst e2
      rw [upn_self] at hy
      rw [upn_lt (by omega)] at hx
      have := (h.nm i (by omega)).row.lt x hx
      have := hA x hy
      omega
    · rw [upn_lt (by omega)] at hx hy
      exact h.ainj i j (by omega) (by omega) hij x hx hy
  · rcases ho x hx with hx | hx
    · exact h.ln x hx
    · omega
  · by_cases e : i = a
    · subst e
      rw [upn_self, upn_self]
      exact ⟨by omega, fun x hx => by have := hA x hx; omega⟩
    · rw [upn_lt (by omega), upn_lt (by omega)]
      exact h.lq i (by omega)
  · exact (hW.keep.trans hk (fun x hx m => by have := h.ln x m; omega)).trans k3 (fun x hx e => by have e : x = s := e; have := h.ls; omega)
/-- One more row of Caps. -/
theorem Part.caps (h : Part w wx s AN cN AC cC q A ca r a b) (k : Keep Nob wx W) {r' : Nat} (hn : Blk W r' 255 (crow (init b))) (hq : wx.heap.size ≤ r')
    {A2 : Option Addr} {c2 : Nat} (hv : Vec w2 362 1 A2 (b + 1) c2 (YtgcikpgcoemfnaaGreat.mk b (fun i => .slice (some ⟨r i, 0, none⟩) 32 32) ++ [.slice (some ⟨r', 0, none⟩) 32 32])) (hk : Keep (Own AC) W w2) (ho : ∀ x, Own A2 x → Own AC x ∨ x = W.heap.size) :
    Part w (w2.setCell ⟨s, 1, none⟩ (.slice A2 (b + 1) c2)) s AN cN A2 c2 q A ca (upn r b r') a (b + 1) := by
  have hW := h.nob k
  have offN : ∀ {x : Nat} {t : TypeId} {cs : List Value}, Blk W x t cs → t ≠ 362 → ¬ Own AC x := fun hb ht ho => by
    obtain ⟨cur, hc⟩ := hW.cr.blk ho
    exact hb.ne_ hc ht rfl
  have o2 := hW.obj.keep hk (offN hW.obj (by decide))
  have k3 : Keep (· = s) w2 (w2.setCell ⟨s, 1, none⟩ (.slice A2 (b + 1) c2)) := (Keep.refl _ _).setCell _ _ (fun _ => rfl)
  have vb : ∀ {x : Nat} {t : TypeId} {cs : List Value}, Blk W x t cs → t ≠ 362 → t ≠ 288 → Blk (w2.setCell ⟨s, 1, none⟩ (.slice A2 (b + 1) c2)) x t cs := fun hb h1 h2 => by
    have b2 := hb.keep hk (offN hb h1)
    exact b2.keep k3 (b2.ne_ o2 h2)
  have vv : ∀ {t sz n cap : Nat} {B : Option Addr} {xs : List Value}, Vec W t sz B n cap xs → t ≠ 362 → t ≠ 288 → Vec (w2.setCell ⟨s, 1, none⟩ (.slice A2 (b + 1) c2)) t sz B n cap xs := fun hv h1 h2 => by
    have v2 := hv.keep hk (fun x hx => by obtain ⟨cur, hc⟩ := hv.blk hx; exact offN hc h1)
    exact v2.keep k3 (fun x hx e => by obtain ⟨cur, hc⟩ := v2.blk hx; exact hc.ne_ o2 h2 e)
  have hs := h.keep.size
  have kw := k.size
  refine ⟨?_, vv hW.nrow (by decide) (by decide), ?_, fun i hi => ⟨vb (hW.nm i hi).obj (by decide) (by decide), vv (hW.nm i hi).row (by decide) (by decide), (hW.nm i hi).pl⟩, fun i hi => ?_, h.ainj, fun i j hi hj e => ?_, h.ls, h.ln, fun x hx => ?_, h.lq, fun i hi => ?_, ?_⟩
  · exact o2.setCell 1 _
  · rw [mk_upn (g := fun i => .slice (some ⟨upn r b r' i, 0, none⟩) 32 32) (fun i hi => by rw [upn_lt hi]) _ (by rw [upn_self])] at hv
    exact hv.keep k3 (fun x hx e => by obtain ⟨cur, hc⟩ := hv.blk hx; exact hc.ne_ o2 (by decide) e)
  · by_cases e : i = b
    · subst e
      rw [upn_self]
      exact vb hn (by decide) (by decide)
    · rw [upn_lt (by omega)]
      exact vb (hW.cp i (by omega)) (by decide) (by decide)
  · by_cases e1 : i = b <;> by_cases e2 : j = b
    · omega
    · subst e1
      rw [upn_self, upn_lt (by omega)] at e
      have := (h.cp j (by omega)).lt
      omega
    · subst e2
      rw [upn_self, upn_lt (by omega)] at e
      have := (h.cp i (by omega)).lt
      omega
    · rw [upn_lt (by omega), upn_lt (by omega)] at e
      exact h.rinj i j (by omega) (by omega) e
  · rcases ho x hx with hx | hx
    · exact h.lc x hx
    · omega
  · by_cases e : i = b
    · subst e
      rw [upn_self]
      omega
    · rw [upn_lt (by omega)]
      exact h.lr i (by omega)
  · exact (hW.keep.trans hk (fun x hx m => by have := h.lc x m; omega)).trans k3 (fun x hx e => by have e : x = s := e; have := h.ls; omega)
theorem Part.done {n : Nat} (h : Part w wx s AN cN AC cC q A ca r n n) (hn : n ≤ 40) : IsDs wx ⟨s, n, AN, cN, AC, cC, q, A, ca, r, init⟩ :=
  ⟨h.obj, h.nrow, h.cr, fun i hi => by
    have := h.nm i hi
    have e : (init i).map nq = List.replicate 32 ⟨1, false, []⟩ := by simp [init, nq]
    dsimp only
    rw [e]
    exact this, h.cp, h.ainj, h.rinj, fun i _ => by simp [init], hn⟩
end
/-- A Space that a call has made. -/
def MadeS (n : Nat) (w : World) (e : Ending) (w' : World) : Prop := ∃ S, e = .returned (.pointer (some ⟨S.s, 0, none⟩)) ∧ IsDs w' S ∧ S.n = n ∧ S.T = init ∧ (∀ b, S.Mine b → w.heap.size ≤ b) ∧ Keep Nob w w'
theorem init_cells : ∃ Z : Array Value, Z.toList = crow (init 0) ∧ ∀ W : World, (Instr.makeSlice 362 (.int .i64 32) (.int .i64 32)).run Tryz.prog W = .ok (.slice (some ⟨W.heap.size, 0, none⟩) 32 32) (W.alloc (.cells Z 255)) := by
  obtain ⟨i, hi, hzz⟩ := Option.map_eq_some_iff.1 infoCap
  simp only [Prod.mk.injEq] at hzz
  obtain ⟨hz, hs, hby⟩ := hzz
  refine ⟨madeCells (Value.agg zcap.cells.toArray).cells (32 * 6), ?_, fun W => ?_⟩
  · have := madeCells_flat (Value.agg zcap.cells.toArray).cells 32
    have e : (Value.agg zcap.cells.toArray).cells.size = 6 := by simp [Value.cells, zcap, Cp.cells]
    rw [e] at this
    rw [this]
    simp [crow, init, Value.cells, zcap, Cp.cells]
  · have hrun := run_make (P := Tryz.prog) W 362 255 i _ Tryz.underlying362 hi hz .i64 .i64 32 32 (by omega) (by omega) (by rw [hby]; omega) (by omega)
    rw [hs] at hrun
    exact hrun
set_option maxRecDepth 100000 in
set_option maxHeartbeats 2000000 in
theorem space_is (n : Nat) (hn : n ≤ 40) (w : World) : Calls Tryz.prog 163 #[.int .i64 n] w (MadeS n w) := by
  obtain ⟨Z, hZ, hmk⟩ := init_cells
  have hnn := fun W => Ref.new_is 32 32 (by decide) W
  have hst : Part w (w.alloc (.cells #[.slice none 0 0, .slice none 0 0] 288)) w.heap.size none 0 none 0 (fun _ => 0) (fun _ => none) (fun _ => 0) (fun _ => 0) 0 0 :=
    ⟨Blk.new w 288 [.slice none 0 0, .slice none 0 0], Vec.nil _ _ _, Vec.nil _ _ _, fun i hi => by omega, fun i hi => by omega, fun i j hi => by omega, fun i j hi => by omega, Nat.le_refl _, fun x ⟨ad, e, _⟩ => (by cases e), fun x ⟨ad, e, _⟩ => (by cases e), fun i hi => by omega, fun i hi => by omega, (Keep.refl Nob w).alloc _⟩
  have HS := Lib.hid hst
  clear hst
  go_enter Tryz.func163, Tryz.ntmps163
  go_wp2_with fail
  go_loopw [4] (fun s4 wx => ∃ (k : Nat) (AN : Option Addr) (cN : Nat) (AC : Option Addr) (cC : Nat) (q : Nat → Nat) (A : Nat → Option Addr) (ca r : Nat → Nat), k ≤ n ∧ s4 = .int .i64 k ∧ Part w wx w.heap.size AN cN AC cC q A ca r k k) (fun s4 _ => n - (intOf s4).toNat)
  case atStart => exact ⟨0, _, _, _, _, _, _, _, _, Nat.zero_le _, rfl, HS.out⟩
  case round =>
    obtain ⟨k, AN, cN, AC, cC, q, A, ca, r, hk, rfl, hP⟩ := hrel
    by_cases hlt : k < n
    · have hk40 : (k : Int) < 40 := by omega
      have c0 := hP.obj.cell 0
      simp only [List.getElem?_cons_zero, List.getElem?_cons_succ] at c0
      have kd := (Keep.refl Nob wr).drew
      have q0 : wr.drew.cell? ⟨w.heap.size, 0, none⟩ = some (.slice AN k cN) := c0
      have HP := Lib.hid hP
      have sf := Lib.hid (fun W (kk : Keep Nob wr W) => (show W.cell? ⟨w.heap.size, 0, none⟩ = some (.slice AN k cN) from (hP.nob kk).obj.cell 0))
      clear hP
      go_wp2_with fail
      go_region_law (first
        | (go_simp; go_at_call 266; refine (hnn _).mono ?_; rintro e wa ⟨q', A', ca', rfl, hN, hq', hA', kN⟩; have ka := kd.trans kN (fun _ _ f => f); have q1 := sf.out _ ka; have kx := ka.alloc (.cells #[.pointer (some ⟨q', 0, none⟩)] 284); have q2 := sf.out _ kx; have hv1 := (HP.out.nob kx).nrow; have hr1 := reads_all (n := 1) (Blk.new wa 284 [.pointer (some ⟨q', 0, none⟩)]) rfl)
        | (refine Qu.step_ap (by rfl) _ _ 285 (by rfl) 284 1 8 (.pointer none) Tryz.underlying285 infopN (by rfl) (by decide) AN k cN _ (by rfl) hv1 (some ⟨wa.heap.size, 0, none⟩) 1 1 [.pointer (some ⟨q', 0, none⟩)] (by rfl) 1 (by rfl) hr1 (by simp [Value.oneCell']) (by unfold maxLen; omega) (by omega) ?_; intro A2 c2 w2 hv2 hk2 ho2; have o2 := ((HP.out.nob kx).obj).keep hk2 (fun ho => by obtain ⟨cur, hc⟩ := (HP.out.nob kx).nrow.blk ho; exact (HP.out.nob kx).obj.ne_ hc (by decide) rfl); have z0 := o2.cell 0; have f0 := o2.frozen 0; simp only [List.getElem?_cons_zero, List.getElem?_cons_succ] at z0))
      all_goals
        have P5 := HP.out.name kx (hN.nob ((Keep.refl Nob wa).alloc _)) hq' hA' hv2 hk2 ho2
        clear hv2 hk2 ho2 o2 z0 f0 hv1 hr1 q1 q2 q0 ka kx kN hN hq' hA' HP sf kd c0
        generalize w2.setCell ⟨w.heap.size, 0, none⟩ (.slice A2 (k + 1) c2) = W5 at *
        have kd := (Keep.refl Nob W5).drew
        have HP := Lib.hid P5
        have sf := Lib.hid (fun W (kk : Keep Nob W5 W) => (show W.cell? ⟨w.heap.size, 1, none⟩ = some (.slice AC k cC) from (P5.nob kk).obj.cell 1))
        have q0 := sf.out _ (Keep.refl Nob W5)
        have q1 := sf.out _ ((Keep.refl Nob W5).alloc (.cells Z 255))
        have q2 := sf.out _ (((Keep.refl Nob W5).alloc (.cells Z 255)).alloc (.cells #[.slice (some ⟨W5.heap.size, 0, none⟩) 32 32] 362))
        have kx : Keep Nob W5 ((W5.drew.alloc (.cells Z 255)).alloc (.cells #[.slice (some ⟨W5.heap.size, 0, none⟩) 32 32] 362)) := (kd.alloc _).alloc _
        have hv1 := (P5.nob kx).cr
        have hr1 : Reads ((W5.drew.alloc (.cells Z 255)).alloc (.cells #[.slice (some ⟨W5.heap.size, 0, none⟩) 32 32] 362)) (some ⟨W5.heap.size + 1, 0, none⟩) 1 [.slice (some ⟨W5.heap.size, 0, none⟩) 32 32] := by
          have := reads_all (n := 1) (Blk.new (W5.drew.alloc (.cells Z 255)) 362 [.slice (some ⟨W5.heap.size, 0, none⟩) 32 32]) rfl
          simpa using this
        have hZb : Blk ((W5.drew.alloc (.cells Z 255)).alloc (.cells #[.slice (some ⟨W5.heap.size, 0, none⟩) 32 32] 362)) W5.heap.size 255 (crow (init k)) := by
          have := (Blk.new W5.drew 255 Z.toList).alloc (.cells #[.slice (some ⟨W5.heap.size, 0, none⟩) 32 32] 362)
          rw [Array.toArray_toList, hZ] at this
          exact this
        have HZ := Lib.hid hZb
        clear P5 hZb
        go_wp2_with fail
        go_region_law ((refine Qu.step_ap (by rfl) _ _ 286 (by rfl) 362 1 24 (.slice none 0 0) Tryz.underlying286 infosC (by rfl) (by decide) AC k cC _ (by rfl) hv1 (some ⟨W5.heap.size + 1, 0, none⟩) 1 1 [.slice (some ⟨W5.heap.size, 0, none⟩) 32 32] (by rfl) 1 (by rfl) hr1 (by simp [Value.oneCell']) (by unfold maxLen; omega) (by omega) ?_; intro A3 c3 w3 hv3 hk3 ho3; have o3 := ((HP.out.nob kx).obj).keep hk3 (fun ho => by obtain ⟨cur, hc⟩ := (HP.out.nob kx).cr.blk ho; exact (HP.out.nob kx).obj.ne_ hc (by decide) rfl); have z1 := o3.cell 1; have f1 := o3.frozen 1; simp only [List.getElem?_cons_zero, List.getElem?_cons_succ] at z1))
        all_goals
          have P6 := Lib.hid (HP.out.caps kx HZ.out (Nat.le_refl _) hv3 hk3 ho3)
          clear hv3 hk3 ho3 o3 z1 f1 hv1 hr1 q0 q1 q2 kx HP sf kd HZ
          go_wp2
          go_roundw
          case rel => exact ⟨k + 1, _, _, _, _, _, _, _, _, by omega, by go_num, P6.out⟩
          case measure => simp [intOf]; omega
    · have e : k = n := by omega
      have hD := hP.done (by omega)
      have HD := Lib.hid (show MadeS n w (.returned (.pointer (some ⟨w.heap.size, 0, none⟩))) wr from ⟨_, rfl, hD, e, rfl, (by
        rintro b (rfl | hb | hb | ⟨i, hi, rfl | hb | rfl⟩)
        · exact hP.ls
        · exact hP.ln b hb
        · exact hP.lc b hb
        · exact (hP.lq i hi).1
        · exact (hP.lq i hi).2 b hb
        · exact hP.lr i hi), hP.keep⟩)
      clear hP hD
      go_wp2
      go_ret
      exact HD.out
end Go.Proofs.YtgcikpgcoemfnaaGreat.Dk
namespace Go.Proofs.YtgcikpgcoemfnaaGreat.Dk
open Go.RowKit
set_option linter.unusedVariables false
set_option linter.unusedSimpArgs false
/-- Regions: bytes, ranges of them, and the Space. -/
structure Dr where
  r : Nat
  m : Nat
  xs : List UInt8
  Al : Option Addr
  cl : Nat
  An : Option Addr
  cn : Nat
  L : List Rf
  S : Ds
structure IsDr (w : World) (R : Dr) : Prop where
  obj : Blk w R.r 179 [.slice (some ⟨R.m, 0, none⟩) R.xs.length R.xs.length, .slice R.Al R.L.length R.cl, .slice R.An R.L.length R.cn, .pointer (some ⟨R.S.s, 0, none⟩)]
  mem : Blk w R.m 5 (bytes R.xs)
  lo : Vec w 3 1 R.Al R.L.length R.cl (ints (R.L.map (·.1)))
  nn : Vec w 3 1 R.An R.L.length R.cn (ints (R.L.map (·.2)))
  sp : IsDs w R.S
  inv : Inv R.S.T R.S.n
  ok : ∀ x ∈ R.L, 0 ≤ x.1 ∧ 0 ≤ x.2 ∧ x.1 + x.2 ≤ R.xs.length
  len : R.xs.length ≤ 16384
  few : R.L.length ≤ 32
  dis : ∀ x, Own R.Al x → ¬ Own R.An x
def Dr.Mine (R : Dr) : Nat → Prop := fun b => b = R.r ∨ b = R.m ∨ Own R.Al b ∨ Own R.An b ∨ R.S.Mine b
section
variable {w w' : World} {R : Dr} {M : Nat → Prop}
theorem IsDr.keep (h : IsDr w R) (k : Keep M w w') (hd : ∀ b, R.Mine b → ¬ M b) : IsDr w' R :=
  ⟨h.obj.keep k (hd _ (.inl rfl)), h.mem.keep k (hd _ (.inr (.inl rfl))), h.lo.keep k (fun g hg => hd _ (.inr (.inr (.inl hg)))), h.nn.keep k (fun g hg => hd _ (.inr (.inr (.inr (.inl hg))))), h.sp.keep k (fun b hb => hd _ (.inr (.inr (.inr (.inr hb))))), h.inv, h.ok, h.len, h.few, h.dis⟩
theorem IsDr.nob (h : IsDr w R) (k : Keep Nob w w') : IsDr w' R := h.keep k (fun _ _ f => f)
theorem IsDr.lt (h : IsDr w R) : ∀ b, R.Mine b → b < w.heap.size := by
  rintro b (rfl | rfl | hb | hb | hb)
  · exact h.obj.lt
  · exact h.mem.lt
  · exact h.lo.lt b hb
  · exact h.nn.lt b hb
  · exact h.sp.lt b hb
theorem wq {w : World} {n : Nat} (v : Bool) (a k z : Int) (h0 : 0 ≤ z) (h1 : z ≤ 1000000) (hv : decide (0 ≤ a ∧ 0 ≤ k ∧ a + k ≤ z) = v) : Calls Tryz.prog 189 #[.int .i64 a, .int .i64 k, .int .i64 z] (w.drewN n) fun e w'' => e = .returned (.bool v) ∧ ∃ m, w'' = w.drewN m :=
  (Cd.within_is v a k z _ h0 h1 hv).mono fun _ _ ⟨he, hm⟩ => ⟨he, n, hm.symm⟩
theorem wq2 {w : World} {n q : Nat} (v : Bool) (a k z : Int) (h0 : 0 ≤ z) (h1 : z ≤ 1000000) (hv : decide (0 ≤ a ∧ 0 ≤ k ∧ a + k ≤ z) = v) : Calls Tryz.prog 189 #[.int .i64 a, .int .i64 k, .int .i64 z] (w.drewN (n + q)) fun e w'' => e = .returned (.bool v) ∧ ∃ m, w'' = w.drewN (n + m) :=
  (Cd.within_is v a k z _ h0 h1 hv).mono fun _ _ ⟨he, hm⟩ => ⟨he, q, hm.symm⟩
theorem lo_at {w : World} {A : Option Addr} {n c : Nat} {l : List Int} (h : Vec w 3 1 A n c (ints l)) {i : Nat} (hi : i < n) (v : Int) (hv : l[i]? = some v) : ∃ g, A = some ⟨g, 0, none⟩ ∧ w.cell? ⟨g, i, none⟩ = some (.int .i64 v) := by
  obtain ⟨g, cur, hA, hb, _, hc, ht⟩ := h.at_ (by omega)
  refine ⟨g, hA, ?_⟩
  rw [hb.cell]
  have e1 : (cur.take (n * 1))[i]? = (ints l)[i]? := by rw [ht]
  rw [List.getElem?_take, if_pos (by omega), ints_get, hv] at e1
  exact e1
set_option maxRecDepth 100000 in
set_option maxHeartbeats 8000000 in
theorem place_nocap (h : IsDr w R) {env name right at_ k : Int} (hn : ∀ c, ¬ Has R.S.T R.S.n (env, name) c) :
    Calls Tryz.prog 186 #[.pointer (some ⟨R.r, 0, none⟩), .int .i64 env, .int .i64 name, .int .i64 right, .int .i64 at_, .int .i64 k] w fun e w' => e = .returned (.tuple #[.int .i64 0, .int .i64 2]) ∧ Keep Nob w w' := by
  have ho : w.cell? ⟨R.r, 3, none⟩ = some (.pointer (some ⟨R.S.s, 0, none⟩)) := h.obj.cell 3
  go_enter Tryz.func186, Tryz.ntmps186
  go_wp2_with fail
  refine (get_no h.sp hn).mono ?_; rintro e w1 ⟨rfl, k1⟩
  unfold cval zcap
  go_wp2
  go_ret2
  exact ⟨rfl, k1.alloc _⟩
set_option maxRecDepth 100000 in
set_option maxHeartbeats 8000000 in
theorem place_noright (h : IsDr w R) {env name right at_ k : Int} (c : Cp) (hc : Has R.S.T R.S.n (env, name) c) (hb : (bits .and .i64 c.rights right == 0) = true) :
    Calls Tryz.prog 186 #[.pointer (some ⟨R.r, 0, none⟩), .int .i64 env, .int .i64 name, .int .i64 right, .int .i64 at_, .int .i64 k] w fun e w' => e = .returned (.tuple #[.int .i64 0, .int .i64 3]) ∧ Keep Nob w w' := by
  have ho : w.cell? ⟨R.r, 3, none⟩ = some (.pointer (some ⟨R.S.s, 0, none⟩)) := h.obj.cell 3
  go_enter Tryz.func186, Tryz.ntmps186
  go_wp2_with fail
  refine (get_yes h.sp c hc).mono ?_; rintro e w1 ⟨rfl, k1⟩
  unfold cval
  go_wp2
  go_ret2
  exact ⟨rfl, k1.alloc _⟩
end
end Go.Proofs.YtgcikpgcoemfnaaGreat.Dk
namespace Go.Proofs.YtgcikpgcoemfnaaGreat.Dk
open Go.RowKit
set_option linter.unusedVariables false
set_option linter.unusedSimpArgs false
section
variable {w w' : World} {R : Dr}
set_option maxRecDepth 100000 in
set_option maxHeartbeats 8000000 in
theorem place_far (h : IsDr w R) {env name right at_ k : Int} (c : Cp) (hc : Has R.S.T R.S.n (env, name) c) (hb : (bits .and .i64 c.rights right == 0) = false) (hpart : ¬ (0 ≤ at_ ∧ 0 ≤ k ∧ at_ + k ≤ c.n)) :
    Calls Tryz.prog 186 #[.pointer (some ⟨R.r, 0, none⟩), .int .i64 env, .int .i64 name, .int .i64 right, .int .i64 at_, .int .i64 k] w fun e w' => e = .returned (.tuple #[.int .i64 0, .int .i64 1]) ∧ Keep Nob w w' := by
  have ho : w.cell? ⟨R.r, 3, none⟩ = some (.pointer (some ⟨R.S.s, 0, none⟩)) := h.obj.cell 3
  have hcc := h.inv.cap _ _ hc
  go_enter Tryz.func186, Tryz.ntmps186
  go_wp2_with fail
  refine (get_yes h.sp c hc).mono ?_; rintro e w1 ⟨rfl, k1⟩
  unfold cval
  have kA := k1.alloc (.cells #[.int .i64 c.obj, .int .i64 c.rights, .int .i64 c.lo, .int .i64 c.n, .int .i64 c.root.1, .int .i64 c.root.2] 255)
  have hA := h.nob kA
  have d1 : (w1.alloc (.cells #[.int .i64 c.obj, .int .i64 c.rights, .int .i64 c.lo, .int .i64 c.n, .int .i64 c.root.1, .int .i64 c.root.2] 255)).cell? ⟨R.r, 1, none⟩ = some (.slice R.Al R.L.length R.cl) := hA.obj.cell 1
  have d2 : (w1.alloc (.cells #[.int .i64 c.obj, .int .i64 c.rights, .int .i64 c.lo, .int .i64 c.n, .int .i64 c.root.1, .int .i64 c.root.2] 255)).cell? ⟨R.r, 2, none⟩ = some (.slice R.An R.L.length R.cn) := hA.obj.cell 2
  have hfew := h.few
  have hcn : 0 ≤ c.n ∧ c.n ≤ 131072 := by omega
  have hv0 : decide (0 ≤ at_ ∧ 0 ≤ k ∧ at_ + k ≤ c.n) = false := decide_eq_false hpart
  have HV0 := Lib.hid hv0
  have HKA := Lib.hid kA
  have hbC := Blk.new w1 255 [.int .i64 c.obj, .int .i64 c.rights, .int .i64 c.lo, .int .i64 c.n, .int .i64 c.root.1, .int .i64 c.root.2]
  have b3 := hbC.cell 3
  simp only [List.getElem?_cons_zero, List.getElem?_cons_succ] at b3
  clear hbC hpart hv0 hcc hc kA hA h k1 d2 d1
  generalize c.lo = clo at *
  generalize c.n = cn at *
  generalize c.rights = cr at *
  generalize c.root.1 = c4 at *
  generalize c.root.2 = c5 at *
  generalize c.obj = co at *
  go_wp2_with fail
  generalize hW : w1.alloc (.cells #[.int .i64 co, .int .i64 cr, .int .i64 clo, .int .i64 cn, .int .i64 c4, .int .i64 c5] 255) = W at *
  clear hW
  go_quiet (first | (go_at_call 189; exact wq false _ _ _ (by omega) (by omega) HV0.out))
  go_wp2
  go_ret2
  exact ⟨rfl, HKA.out.drewN _⟩
end
end Go.Proofs.YtgcikpgcoemfnaaGreat.Dk
namespace Go.Proofs.YtgcikpgcoemfnaaGreat.Dk
open Go.RowKit
set_option linter.unusedVariables false
set_option linter.unusedSimpArgs false
section
variable {w w' : World} {R : Dr}
set_option maxRecDepth 100000 in
set_option maxHeartbeats 8000000 in
theorem place_obj (h : IsDr w R) {env name right at_ k : Int} (c : Cp) (hc : Has R.S.T R.S.n (env, name) c) (hb : (bits .and .i64 c.rights right == 0) = false) (hpart : 0 ≤ at_ ∧ 0 ≤ k ∧ at_ + k ≤ c.n) (hobj : ¬ (0 ≤ c.obj ∧ c.obj < R.L.length)) :
    Calls Tryz.prog 186 #[.pointer (some ⟨R.r, 0, none⟩), .int .i64 env, .int .i64 name, .int .i64 right, .int .i64 at_, .int .i64 k] w fun e w' => e = .returned (.tuple #[.int .i64 0, .int .i64 1]) ∧ Keep Nob w w' := by
  have ho : w.cell? ⟨R.r, 3, none⟩ = some (.pointer (some ⟨R.S.s, 0, none⟩)) := h.obj.cell 3
  have hcc := h.inv.cap _ _ hc
  go_enter Tryz.func186, Tryz.ntmps186
  go_wp2_with fail
  refine (get_yes h.sp c hc).mono ?_; rintro e w1 ⟨rfl, k1⟩
  unfold cval
  have kA := k1.alloc (.cells #[.int .i64 c.obj, .int .i64 c.rights, .int .i64 c.lo, .int .i64 c.n, .int .i64 c.root.1, .int .i64 c.root.2] 255)
  have hA := h.nob kA
  have d1 : (w1.alloc (.cells #[.int .i64 c.obj, .int .i64 c.rights, .int .i64 c.lo, .int .i64 c.n, .int .i64 c.root.1, .int .i64 c.root.2] 255)).cell? ⟨R.r, 1, none⟩ = some (.slice R.Al R.L.length R.cl) := hA.obj.cell 1
  have d2 : (w1.alloc (.cells #[.int .i64 c.obj, .int .i64 c.rights, .int .i64 c.lo, .int .i64 c.n, .int .i64 c.root.1, .int .i64 c.root.2] 255)).cell? ⟨R.r, 2, none⟩ = some (.slice R.An R.L.length R.cn) := hA.obj.cell 2
  have hfew := h.few
  have hobj' : c.obj < 0 ∨ (0 ≤ c.obj ∧ (R.L.length : Int) ≤ c.obj) := by omega
  obtain ⟨q1, q2, q3⟩ := hpart
  have hcn : 0 ≤ c.n ∧ c.n ≤ 131072 := by omega
  have HKA := Lib.hid kA
  have hbC := Blk.new w1 255 [.int .i64 c.obj, .int .i64 c.rights, .int .i64 c.lo, .int .i64 c.n, .int .i64 c.root.1, .int .i64 c.root.2]
  have b0 := hbC.cell 0
  have b3 := hbC.cell 3
  simp only [List.getElem?_cons_zero, List.getElem?_cons_succ] at b0 b3
  clear hbC hobj hcc hc kA hA h k1 d2
  generalize c.lo = clo at *
  generalize c.n = cn at *
  generalize c.rights = cr at *
  generalize c.root.1 = c4 at *
  generalize c.root.2 = c5 at *
  generalize c.obj = co at *
  go_wp2_with fail
  generalize hW : w1.alloc (.cells #[.int .i64 co, .int .i64 cr, .int .i64 clo, .int .i64 cn, .int .i64 c4, .int .i64 c5] 255) = W at *
  clear hW
  rcases hobj' with hlo | ⟨hlo, hhi⟩
  all_goals
    go_quiet (first | (go_at_call 189; exact wq true _ _ _ (by omega) (by omega) (by simp; omega)))
    go_wp2
    go_ret2
    exact ⟨rfl, HKA.out.drewN _⟩
end
end Go.Proofs.YtgcikpgcoemfnaaGreat.Dk
namespace Go.Proofs.YtgcikpgcoemfnaaGreat.Dk
open Go.RowKit
set_option linter.unusedVariables false
set_option linter.unusedSimpArgs false
section
variable {w w' : World} {R : Dr}
set_option maxRecDepth 100000 in
set_option maxHeartbeats 8000000 in
theorem place_lo (h : IsDr w R) {env name right at_ k : Int} (c : Cp) (hc : Has R.S.T R.S.n (env, name) c) (hb : (bits .and .i64 c.rights right == 0) = false) (hpart : 0 ≤ at_ ∧ 0 ≤ k ∧ at_ + k ≤ c.n) (hobj : 0 ≤ c.obj ∧ c.obj < R.L.length) (x : Rf) (hx : R.L[c.obj.toNat]? = some x) (hv1 : decide (0 ≤ c.lo ∧ 0 ≤ at_ ∧ c.lo + at_ ≤ x.2) = false) :
    Calls Tryz.prog 186 #[.pointer (some ⟨R.r, 0, none⟩), .int .i64 env, .int .i64 name, .int .i64 right, .int .i64 at_, .int .i64 k] w fun e w' => e = .returned (.tuple #[.int .i64 0, .int .i64 1]) ∧ Keep Nob w w' := by
  have ho : w.cell? ⟨R.r, 3, none⟩ = some (.pointer (some ⟨R.S.s, 0, none⟩)) := h.obj.cell 3
  have hcc := h.inv.cap _ _ hc
  go_enter Tryz.func186, Tryz.ntmps186
  go_wp2_with fail
  refine (get_yes h.sp c hc).mono ?_; rintro e w1 ⟨rfl, k1⟩
  unfold cval
  have kA := k1.alloc (.cells #[.int .i64 c.obj, .int .i64 c.rights, .int .i64 c.lo, .int .i64 c.n, .int .i64 c.root.1, .int .i64 c.root.2] 255)
  have hA := h.nob kA
  have d1 : (w1.alloc (.cells #[.int .i64 c.obj, .int .i64 c.rights, .int .i64 c.lo, .int .i64 c.n, .int .i64 c.root.1, .int .i64 c.root.2] 255)).cell? ⟨R.r, 1, none⟩ = some (.slice R.Al R.L.length R.cl) := hA.obj.cell 1
  have d2 : (w1.alloc (.cells #[.int .i64 c.obj, .int .i64 c.rights, .int .i64 c.lo, .int .i64 c.n, .int .i64 c.root.1, .int .i64 c.root.2] 255)).cell? ⟨R.r, 2, none⟩ = some (.slice R.An R.L.length R.cn) := hA.obj.cell 2
  have hfew := h.few
  obtain ⟨i, hi⟩ := Int.eq_ofNat_of_zero_le hobj.1
  have hil : i < R.L.length := by omega
  rw [hi, Int.toNat_natCast] at hx
  have hok := h.ok x (List.mem_of_getElem? hx)
  have hml := h.len
  obtain ⟨g, hg, e1⟩ := lo_at hA.nn hil x.2 (by rw [List.getElem?_map, hx]; rfl)
  rw [hg] at d2
  have HX := Lib.hid hok
  have HKA := Lib.hid kA
  obtain ⟨q1, q2, q3⟩ := hpart
  have hx2 : 0 ≤ x.2 ∧ x.2 ≤ 16384 := by omega
  have HC := Lib.hid hcc
  clear hok hc hobj hg kA hA h hx k1
  have hcn : 0 ≤ c.n ∧ c.n ≤ 131072 := by omega
  have hclo : 0 ≤ c.lo ∧ c.lo ≤ 131072 := by omega
  have hat : at_ ≤ 131072 := by omega
  clear hcc
  generalize c.lo = clo at *
  generalize c.n = cn at *
  generalize c.rights = cr at *
  generalize c.root.1 = c4 at *
  generalize c.root.2 = c5 at *
  generalize c.obj = co at *
  generalize x.2 = x2 at *
  subst hi
  have HV1 := Lib.hid hv1
  have hbC := Blk.new w1 255 [.int .i64 i, .int .i64 cr, .int .i64 clo, .int .i64 cn, .int .i64 c4, .int .i64 c5]
  have b0 := hbC.cell 0
  have b2 := hbC.cell 2
  have b3 := hbC.cell 3
  simp only [List.getElem?_cons_zero, List.getElem?_cons_succ] at b0 b2 b3
  clear hbC hv1
  go_wp2_with fail
  generalize hW : w1.alloc (.cells #[.int .i64 i, .int .i64 cr, .int .i64 clo, .int .i64 cn, .int .i64 c4, .int .i64 c5] 255) = W at *
  clear hW
  have hobj0 : (0 : Int) ≤ (i : Int) := by omega
  have hil' : (i : Int) < (R.L.length : Int) := by omega
  go_quiet (first | (go_at_call 189; exact wq true _ _ _ (by omega) (by omega) (by simp; omega)))
  go_wp2_with fail
  go_quiet (first | (go_at_call 189; exact wq2 false _ _ _ (by omega) (by omega) HV1.out))
  go_wp2
  go_ret2
  exact ⟨rfl, (HKA.out.drewN _).drewN _⟩
end
end Go.Proofs.YtgcikpgcoemfnaaGreat.Dk
namespace Go.Proofs.YtgcikpgcoemfnaaGreat.Dk
open Go.RowKit
set_option linter.unusedVariables false
set_option linter.unusedSimpArgs false
section
variable {w w' : World} {R : Dr}
set_option maxRecDepth 100000 in
set_option maxHeartbeats 8000000 in
theorem place_hi (h : IsDr w R) {env name right at_ k : Int} (c : Cp) (hc : Has R.S.T R.S.n (env, name) c) (hb : (bits .and .i64 c.rights right == 0) = false) (hpart : 0 ≤ at_ ∧ 0 ≤ k ∧ at_ + k ≤ c.n) (hobj : 0 ≤ c.obj ∧ c.obj < R.L.length) (x : Rf) (hx : R.L[c.obj.toNat]? = some x) (hv1 : decide (0 ≤ c.lo ∧ 0 ≤ at_ ∧ c.lo + at_ ≤ x.2) = true) (hv2 : decide (0 ≤ c.lo + at_ ∧ 0 ≤ k ∧ c.lo + at_ + k ≤ x.2) = false) :
    Calls Tryz.prog 186 #[.pointer (some ⟨R.r, 0, none⟩), .int .i64 env, .int .i64 name, .int .i64 right, .int .i64 at_, .int .i64 k] w fun e w' => e = .returned (.tuple #[.int .i64 0, .int .i64 1]) ∧ Keep Nob w w' := by
  have ho : w.cell? ⟨R.r, 3, none⟩ = some (.pointer (some ⟨R.S.s, 0, none⟩)) := h.obj.cell 3
  have hcc := h.inv.cap _ _ hc
  go_enter Tryz.func186, Tryz.ntmps186
  go_wp2_with fail
  refine (get_yes h.sp c hc).mono ?_; rintro e w1 ⟨rfl, k1⟩
  unfold cval
  have kA := k1.alloc (.cells #[.int .i64 c.obj, .int .i64 c.rights, .int .i64 c.lo, .int .i64 c.n, .int .i64 c.root.1, .int .i64 c.root.2] 255)
  have hA := h.nob kA
  have d1 : (w1.alloc (.cells #[.int .i64 c.obj, .int .i64 c.rights, .int .i64 c.lo, .int .i64 c.n, .int .i64 c.root.1, .int .i64 c.root.2] 255)).cell? ⟨R.r, 1, none⟩ = some (.slice R.Al R.L.length R.cl) := hA.obj.cell 1
  have d2 : (w1.alloc (.cells #[.int .i64 c.obj, .int .i64 c.rights, .int .i64 c.lo, .int .i64 c.n, .int .i64 c.root.1, .int .i64 c.root.2] 255)).cell? ⟨R.r, 2, none⟩ = some (.slice R.An R.L.length R.cn) := hA.obj.cell 2
  have hfew := h.few
  obtain ⟨i, hi⟩ := Int.eq_ofNat_of_zero_le hobj.1
  have hil : i < R.L.length := by omega
  rw [hi, Int.toNat_natCast] at hx
  have hok := h.ok x (List.mem_of_getElem? hx)
  have hml := h.len
  obtain ⟨g, hg, e1⟩ := lo_at hA.nn hil x.2 (by rw [List.getElem?_map, hx]; rfl)
  rw [hg] at d2
  have HX := Lib.hid hok
  have HKA := Lib.hid kA
  obtain ⟨q1, q2, q3⟩ := hpart
  have hx2 : 0 ≤ x.2 ∧ x.2 ≤ 16384 := by omega
  have HC := Lib.hid hcc
  clear hok hc hobj hg kA hA h hx k1
  have hcn : 0 ≤ c.n ∧ c.n ≤ 131072 := by omega
  have hclo : 0 ≤ c.lo ∧ c.lo ≤ 131072 := by omega
  have hat : at_ ≤ 131072 := by omega
  clear hcc
  generalize c.lo = clo at *
  generalize c.n = cn at *
  generalize c.rights = cr at *
  generalize c.root.1 = c4 at *
  generalize c.root.2 = c5 at *
  generalize c.obj = co at *
  generalize x.2 = x2 at *
  subst hi
  have HV1 := Lib.hid hv1
  have HV2 := Lib.hid hv2
  have hbC := Blk.new w1 255 [.int .i64 i, .int .i64 cr, .int .i64 clo, .int .i64 cn, .int .i64 c4, .int .i64 c5]
  have b0 := hbC.cell 0
  have b2 := hbC.cell 2
  have b3 := hbC.cell 3
  simp only [List.getElem?_cons_zero, List.getElem?_cons_succ] at b0 b2 b3
  clear hbC hv1 hv2
  go_wp2_with fail
  generalize hW : w1.alloc (.cells #[.int .i64 i, .int .i64 cr, .int .i64 clo, .int .i64 cn, .int .i64 c4, .int .i64 c5] 255) = W at *
  clear hW
  have hobj0 : (0 : Int) ≤ (i : Int) := by omega
  have hil' : (i : Int) < (R.L.length : Int) := by omega
  go_quiet (first | (go_at_call 189; exact wq true _ _ _ (by omega) (by omega) (by simp; omega)))
  go_wp2_with fail
  have hz0 : (0 : Int) ≤ x2 := by omega
  have hz1 : x2 ≤ 1000000 := by omega
  have w1c := fun n q => wq2 (w := W) (n := n) (q := q) true clo at_ x2 hz0 hz1 HV1.out
  have w2c := fun n q => wq2 (w := W) (n := n) (q := q) false (clo + at_) k x2 hz0 hz1 HV2.out
  have W1 := Lib.hid w1c
  have W2 := Lib.hid w2c
  clear w1c w2c
  go_quiet (first | (go_at_call 189; (with_reducible_and_instances exact W1.out _ _)) | (go_at_call 189; (with_reducible_and_instances exact W2.out _ _)))
  go_wp2
  go_ret2
  exact ⟨rfl, (HKA.out.drewN _).drewN _⟩
end
end Go.Proofs.YtgcikpgcoemfnaaGreat.Dk
namespace Go.Proofs.YtgcikpgcoemfnaaGreat.Dk
open Go.RowKit
set_option linter.unusedVariables false
set_option linter.unusedSimpArgs false
section
variable {w w' : World} {R : Dr}
set_option maxRecDepth 100000 in
set_option maxHeartbeats 8000000 in
theorem place_yes (h : IsDr w R) {env name right at_ k v : Int} (c : Cp) (x : Rf) (hc : Has R.S.T R.S.n (env, name) c) (hb : (bits .and .i64 c.rights right == 0) = false) (hf : Fits R.L c at_ k x) (hve : v = x.1 + c.lo + at_) :
    Calls Tryz.prog 186 #[.pointer (some ⟨R.r, 0, none⟩), .int .i64 env, .int .i64 name, .int .i64 right, .int .i64 at_, .int .i64 k] w fun e w' => e = .returned (.tuple #[.int .i64 v, .int .i64 0]) ∧ Keep Nob w w' := by
  have ho : w.cell? ⟨R.r, 3, none⟩ = some (.pointer (some ⟨R.S.s, 0, none⟩)) := h.obj.cell 3
  have hcc := h.inv.cap _ _ hc
  obtain ⟨q1, q2, q3, q4, q5, q6⟩ := hf
  obtain ⟨i, hi⟩ := Int.eq_ofNat_of_zero_le q4
  rw [hi, Int.toNat_natCast] at q5
  have hil := get_lt q5
  have hok := h.ok x (List.mem_of_getElem? q5)
  have hml := h.len
  have hfew := h.few
  go_enter Tryz.func186, Tryz.ntmps186
  go_wp2_with fail
  refine (get_yes h.sp c hc).mono ?_; rintro e w1 ⟨rfl, k1⟩
  unfold cval
  have kA := k1.alloc (.cells #[.int .i64 c.obj, .int .i64 c.rights, .int .i64 c.lo, .int .i64 c.n, .int .i64 c.root.1, .int .i64 c.root.2] 255)
  have hA := h.nob kA
  have d1 : (w1.alloc (.cells #[.int .i64 c.obj, .int .i64 c.rights, .int .i64 c.lo, .int .i64 c.n, .int .i64 c.root.1, .int .i64 c.root.2] 255)).cell? ⟨R.r, 1, none⟩ = some (.slice R.Al R.L.length R.cl) := hA.obj.cell 1
  have d2 : (w1.alloc (.cells #[.int .i64 c.obj, .int .i64 c.rights, .int .i64 c.lo, .int .i64 c.n, .int .i64 c.root.1, .int .i64 c.root.2] 255)).cell? ⟨R.r, 2, none⟩ = some (.slice R.An R.L.length R.cn) := hA.obj.cell 2
  obtain ⟨g, hg, e1⟩ := lo_at hA.nn hil x.2 (by rw [List.getElem?_map, q5]; rfl)
  obtain ⟨gl, hgl, e2⟩ := lo_at hA.lo hil x.1 (by rw [List.getElem?_map, q5]; rfl)
  rw [hg] at d2
  rw [hgl] at d1
  have HKA := Lib.hid kA
  have HVE := Lib.hid hve
  have hcn : 0 ≤ c.n ∧ c.n ≤ 131072 := by omega
  have hclo : 0 ≤ c.lo ∧ c.lo ≤ 131072 := by omega
  have hx2 : 0 ≤ x.2 ∧ x.2 ≤ 16384 := by omega
  have hx1 : 0 ≤ x.1 ∧ x.1 ≤ 16384 := by omega
  have hat : at_ ≤ 131072 := by omega
  have hbC := Blk.new w1 255 [.int .i64 c.obj, .int .i64 c.rights, .int .i64 c.lo, .int .i64 c.n, .int .i64 c.root.1, .int .i64 c.root.2]
  have b0 := hbC.cell 0
  have b2 := hbC.cell 2
  have b3 := hbC.cell 3
  simp only [List.getElem?_cons_zero, List.getElem?_cons_succ] at b0 b2 b3
  clear hbC hcc hok hc kA hA h k1 hve hg hgl q5
  generalize c.lo = clo at *
  generalize c.n = cn at *
  generalize c.rights = cr at *
  generalize c.root.1 = c4 at *
  generalize c.root.2 = c5 at *
  generalize c.obj = co at *
  generalize x.2 = x2 at *
  generalize x.1 = x1 at *
  subst hi
  go_wp2_with fail
  generalize hW : w1.alloc (.cells #[.int .i64 i, .int .i64 cr, .int .i64 clo, .int .i64 cn, .int .i64 c4, .int .i64 c5] 255) = W at *
  clear hW
  have hobj0 : (0 : Int) ≤ (i : Int) := by omega
  have hil' : (i : Int) < (R.L.length : Int) := by omega
  go_quiet (first | (go_at_call 189; exact wq true _ _ _ (by omega) (by omega) (by simp; omega)))
  go_wp2_with fail
  have hz0 : (0 : Int) ≤ x2 := by omega
  have hz1 : x2 ≤ 1000000 := by omega
  have w1c := fun n q => wq2 (w := W) (n := n) (q := q) true clo at_ x2 hz0 hz1 (by simp; omega)
  have w2c := fun n q => wq2 (w := W) (n := n) (q := q) true (clo + at_) k x2 hz0 hz1 (by simp; omega)
  have W1 := Lib.hid w1c
  have W2 := Lib.hid w2c
  clear w1c w2c
  go_quiet (first | (go_at_call 189; (with_reducible_and_instances exact W1.out _ _)) | (go_at_call 189; (with_reducible_and_instances exact W2.out _ _)))
  go_wp2_with fail
  go_quiet (fail)
  go_wp2
  go_ret2
  have hv1 := HVE.out
  subst hv1
  exact ⟨rfl, ((HKA.out.drewN _).drewN _).drewN _⟩
end
end Go.Proofs.YtgcikpgcoemfnaaGreat.Dk
namespace Go.Proofs.YtgcikpgcoemfnaaGreat.Dk
open Go.RowKit
set_option linter.unusedVariables false
set_option linter.unusedSimpArgs false
section
variable {w w' : World} {R : Dr}
theorem place_is (h : IsDr w R) {env name right at_ k v er : Int} (hv : Reach R.S.T R.S.n R.L env name right at_ k v er) :
    Calls Tryz.prog 186 #[.pointer (some ⟨R.r, 0, none⟩), .int .i64 env, .int .i64 name, .int .i64 right, .int .i64 at_, .int .i64 k] w fun e w' => e = .returned (.tuple #[.int .i64 v, .int .i64 er]) ∧ Keep Nob w w' := by
  cases hv with
  | nocap hn => exact place_nocap h hn
  | noright c hc hb => exact place_noright h c hc hb
  | noarg c hc hb hno =>
    by_cases hpart : 0 ≤ at_ ∧ 0 ≤ k ∧ at_ + k ≤ c.n
    · by_cases hobj : 0 ≤ c.obj ∧ c.obj < R.L.length
      · have hlt : c.obj.toNat < R.L.length := by omega
        obtain ⟨x, hx⟩ : ∃ x, R.L[c.obj.toNat]? = some x := ⟨_, List.getElem?_eq_getElem hlt⟩
        cases hv1 : decide (0 ≤ c.lo ∧ 0 ≤ at_ ∧ c.lo + at_ ≤ x.2) with
        | false => exact place_lo h c hc hb hpart hobj x hx hv1
        | true =>
          refine place_hi h c hc hb hpart hobj x hx hv1 (decide_eq_false fun hh => hno x ⟨hpart.1, hpart.2.1, hpart.2.2, hobj.1, hx, hh.2.2⟩)
      · exact place_obj h c hc hb hpart hobj
    · exact place_far h c hc hb hpart
  | yes c x _ hc hb hf hve => exact place_yes h c x hc hb hf hve
theorem range (h : IsDr w R) {env name right at_ k v : Int} (hv : Reach R.S.T R.S.n R.L env name right at_ k v 0) : 0 ≤ v ∧ 0 ≤ k ∧ v + k ≤ R.xs.length := by
  generalize he : (0 : Int) = er at hv
  cases hv with
  | nocap _ => cases he
  | noright _ _ _ => cases he
  | noarg _ _ _ _ => cases he
  | yes c x _ h1 _ h3 h4 =>
    obtain ⟨a1, a2, a3, a4, a5, a6⟩ := h3
    have hx := h.ok x (List.mem_of_getElem? a5)
    have hc := h.inv.cap _ _ h1
    omega
theorem sizeU : (Tryz.prog.info? 5).map (·.size) = some 1 := by kernel_rfl
theorem IsDr.bytes (h : IsDr w R) {ys : List UInt8} (hl : ys.length = R.xs.length) (hb : Blk w' R.m 5 (bytes ys)) (k : Keep (· = R.m) w w') : IsDr w' { R with xs := ys } := by
  have ob : ∀ {b : Nat} {t : TypeId} {cs : List Value}, Blk w b t cs → t ≠ 5 → ¬ (b = R.m) := fun hb2 ht e => hb2.ne_ h.mem ht e
  have ov : ∀ {e sz n cap : Nat} {A : Option Addr} {xs : List Value}, Vec w e sz A n cap xs → e ≠ 5 → ∀ g, Own A g → ¬ (g = R.m) := fun hv ht g hg => by
    obtain ⟨cur, hc⟩ := hv.blk hg
    exact ob hc ht
  refine ⟨?_, hb, h.lo.keep k (ov h.lo (by decide)), h.nn.keep k (ov h.nn (by decide)), h.sp.keep k (fun b hb2 => ?_), h.inv, by dsimp only; rw [hl]; exact h.ok, by dsimp only; rw [hl]; exact h.len, h.few, h.dis⟩
  · dsimp only
    rw [hl]
    exact h.obj.keep k (ob h.obj (by decide))
  · rcases hb2 with rfl | hb2 | hb2 | ⟨i, hi, rfl | hb2 | rfl⟩
    · exact ob h.sp.obj (by decide)
    · exact ov h.sp.nrow (by decide) b hb2
    · exact ov h.sp.cr (by decide) b hb2
    · exact ob (h.sp.nm i hi).obj (by decide)
    · exact ov (h.sp.nm i hi).row (by decide) b hb2
    · exact ob (h.sp.cp i hi) (by decide)
set_option maxRecDepth 100000 in
theorem write_yes (h : IsDr w R) {env name at_ : Int} {a : Nat} (bs : List UInt8) (hv : Reach R.S.T R.S.n R.L env name 2 at_ bs.length a 0) (ys : List UInt8) (hy : splice R.xs a bs = ys) :
    Calls Tryz.prog 91 #[.pointer (some ⟨R.r, 0, none⟩), .int .i64 env, .int .i64 name, .int .i64 at_, .string (str bs)] w fun e w' => e = .returned (.int .i64 0) ∧ IsDr w' { R with xs := ys } ∧ Keep (· = R.m) w w' := by
  have hr := range h hv
  have hp := place_is h hv
  have hak : a + bs.length ≤ R.xs.length := by omega
  have hml := h.len
  have hsz := str_size bs
  have hyl : ys.length = R.xs.length := by rw [← hy]; exact length_splice _ _ _ hak
  have HC := Lib.hid (fun W (kk : Keep Nob w W) => And.intro ((h.nob kk).obj.cell 0) (h.nob kk).mem)
  have HF := Lib.hid (fun W (kk : Keep Nob w W) V (hb : Blk V R.m 5 (bytes ys)) (k2 : Keep (· = R.m) W V) => (h.nob kk).bytes hyl hb k2)
  have HY := Lib.hid (show splice (bytes R.xs) a (bytes bs) = bytes ys by rw [splice_bytes, hy])
  have hlx : (bytes R.xs).length = R.xs.length := bytes_length _
  have HLX := Lib.hid hlx
  have HSZ := Lib.hid hsz
  clear hy h hr hv hyl hlx hsz
  generalize hn : R.xs.length = n at *
  have HN := Lib.hid hn
  clear hn
  have hna : a ≤ n := by omega
  have hbn : bs.length ≤ n - a := by omega
  have hsz := HSZ.out
  go_enter Tryz.func91, Tryz.ntmps91
  go_wp2_with fail
  (try rw [hsz])
  refine hp.mono ?_; rintro e w1 ⟨rfl, k1⟩
  obtain ⟨c0, hm⟩ := HC.out _ k1
  simp only [List.getElem?_cons_zero, List.getElem?_cons_succ] at c0
  clear hp hsz
  go_wp2_with (first
    | (refine wpList_cut_l rfl 28 _ _ rfl 5 1 Tryz.underlying28 sizeU _ _ _ a .i64 rfl rfl hna ?_; intro A' hA'; have hA2 : 0 < n - a → A' = some ⟨R.m, a, none⟩ := fun h0 => (by rw [hA' (by omega)]; simp [add_lit]))
    | (refine wpList_cps rfl _ _ 28 9 rfl 5 Tryz.underlying28 sizeU A' (n - a) (n - a) bs rfl rfl R.m a _ 5 hm hA2 (by rw [HLX.out]; omega) hbn ?_; intro w2 hb2 hk2 hs2; clear hs2))
  rw [HY.out] at hb2
  go_ret
  exact ⟨rfl, HF.out _ k1 _ hb2 hk2, (k1.mono (fun _ _ f => f.elim)).trans hk2 (fun _ _ e => e)⟩
end
end Go.Proofs.YtgcikpgcoemfnaaGreat.Dk
namespace Go.Proofs.YtgcikpgcoemfnaaGreat.Dk
open Go.RowKit
set_option linter.unusedVariables false
set_option linter.unusedSimpArgs false
theorem in_is {w : World} (A : Option Addr) (n c : Nat) (l : List Int) (x : Int) (hr : Reads w A n (ints l)) (hn : n ≤ 1000) (v : Bool) (hv : decide (x ∈ l) = v) :
    Calls Tryz.prog 166 #[.slice A n c, .int .i64 x] w fun e w' => e = .returned (.bool v) ∧ w = w' := by
  have hl : l.length = n := by have := hr.1; simpa [ints] using this
  have HL := Lib.hid hl
  have HR := Lib.hid hr
  have HV := Lib.hid hv
  clear hl hr hv
  go_enter Tryz.func166, Tryz.ntmps166
  go_wp2_with fail
  go_loop [5] (fun s5 => ∃ k : Nat, k ≤ n ∧ s5 = .int .i64 k ∧ ∀ j, j < k → l[j]? ≠ some x) (fun s5 => n - (intOf s5).toNat)
  case atStart => exact ⟨0, Nat.zero_le _, rfl, fun j hj => by omega⟩
  case round =>
    obtain ⟨k, hk, rfl, hno⟩ := hrel
    have HNo := Lib.hid hno
    clear hno
    by_cases hlt : k < n
    · obtain ⟨y, hy⟩ : ∃ y, l[k]? = some y := ⟨_, List.getElem?_eq_getElem (by rw [HL.out]; exact hlt)⟩
      obtain ⟨b, off, hA, hc⟩ := HR.out.lit (by omega)
      have d := hc k _ (by rw [ints_get, hy]; rfl)
      have HY := Lib.hid hy
      subst hA
      clear hc hy
      by_cases he : y = x
      · subst he
        have hvt : v = true := by rw [← HV.out]; exact decide_eq_true (List.mem_of_getElem? HY.out)
        subst hvt
        go_wp2
        go_ret
        exact ⟨rfl, rfl⟩
      · have he' : (y == x) = false := by simpa using he
        go_wp2
        go_round
        case rel => exact ⟨k + 1, by omega, by go_num, fun j hj e => by
          by_cases hjk : j = k
          · subst hjk
            rw [HY.out] at e
            exact he (Option.some.inj e)
          · exact HNo.out j (by omega) e⟩
        case measure => simp [intOf]; omega
    · have hvf : v = false := by
        rw [← HV.out]
        refine decide_eq_false fun hm => ?_
        obtain ⟨j, hj⟩ := List.getElem?_of_mem hm
        have := get_lt hj
        exact HNo.out j (by have := HL.out; omega) hj
      subst hvf
      go_wp2
      go_ret
      exact ⟨rfl, rfl⟩
theorem sect_is (n : Int) (w : World) : Calls Tryz.prog 164 #[.int .i64 n] w fun e w' => ∃ p, e = .returned (.pointer (some ⟨p, 0, none⟩)) ∧ w.heap.size ≤ p ∧ Keep Nob w w' := by
  rcases (show n < 1 ∨ (1 ≤ n ∧ 1000 < n) ∨ (1 ≤ n ∧ n ≤ 1000) by omega) with h | ⟨h0, h⟩ | ⟨h0, h⟩
  all_goals
    go_enter Tryz.func164, Tryz.ntmps164
    go_wp2
    go_ret
    exact ⟨_, rfl, Nat.le_refl _, (Keep.refl Nob w).alloc _⟩
theorem infoint' : (Tryz.prog.info? 3).map (fun i => (i.zero, i.size, i.bytes)) = some (some (.int .i64 0), 1, 8) := by kernel_rfl
section
variable {w w' : World} {R : Dr}
/-- What one more range leaves. -/
structure Added1 (w : World) (R : Dr) (lo n : Int) (Al' : Option Addr) (cl' : Nat) (An' : Option Addr) (cn' : Nat) (w' : World) : Prop where
  is : IsDr w' { R with L := R.L ++ [(lo, n)], Al := Al', cl := cl', An := An', cn := cn' }
  keep : Keep (fun b => b = R.r ∨ Own R.Al b ∨ Own R.An b) w w'
  al : ∀ x, Own Al' x → Own R.Al x ∨ w.heap.size ≤ x
  an : ∀ x, Own An' x → Own R.An x ∨ w.heap.size ≤ x
theorem IsDr.add (h : IsDr w R) {lo n : Int} (hin : 0 ≤ lo ∧ 0 ≤ n ∧ lo + n ≤ R.xs.length) (hf : R.L.length < 32) {W wa W' wb : World} (k : Keep Nob w W) {Al2 : Option Addr} {cl2 : Nat}
    (hva : Vec wa 3 1 Al2 (R.L.length + 1) cl2 (ints (R.L.map (·.1)) ++ [.int .i64 lo])) (hka : Keep (Own R.Al) W wa) (hoa : ∀ x, Own Al2 x → Own R.Al x ∨ x = W.heap.size) (k2 : Keep Nob wa W') {An2 : Option Addr} {cn2 : Nat}
    (hvb : Vec wb 3 1 An2 (R.L.length + 1) cn2 (ints (R.L.map (·.2)) ++ [.int .i64 n])) (hkb : Keep (Own R.An) W' wb) (hob : ∀ x, Own An2 x → Own R.An x ∨ x = W'.heap.size) :
    Blk wb R.r 179 [.slice (some ⟨R.m, 0, none⟩) R.xs.length R.xs.length, .slice R.Al R.L.length R.cl, .slice R.An R.L.length R.cn, .pointer (some ⟨R.S.s, 0, none⟩)] ∧
    Added1 w R lo n Al2 cl2 An2 cn2 ((wb.setCell ⟨R.r, 1, none⟩ (.slice Al2 (R.L.length + 1) cl2)).setCell ⟨R.r, 2, none⟩ (.slice An2 (R.L.length + 1) cn2)) := by
  have hW := h.nob k
  have ty : ∀ {A : Option Addr} {m c : Nat} {xs : List Value} {X : World}, Vec X 3 1 A m c xs → ∀ {b : Nat} {t : TypeId} {cs : List Value}, Blk X b t cs → t ≠ 3 → ¬ Own A b := fun {A} {m} {c} {xs} {X} hv {b} {t} {cs} hb ht ho => by
    obtain ⟨cur, hc⟩ := hv.blk ho
    exact hb.ne_ hc ht rfl
  have hne : ∀ x, Own R.An x → ¬ Own R.Al x := fun x h1 h2 => h.dis x h2 h1
  have b1 : ∀ {b : Nat} {t : TypeId} {cs : List Value}, Blk W b t cs → t ≠ 3 → Blk wb b t cs := fun hb ht => by
    have ha := (hb.keep hka (ty hW.lo hb ht)).nob k2
    have hnn := ((hW.nn.keep hka (fun x hx => hne x hx)).nob k2)
    exact ha.keep hkb (ty hnn ha ht)
  have ob := b1 hW.obj (by decide)
  have k3 : Keep (· = R.r) wb ((wb.setCell ⟨R.r, 1, none⟩ (.slice Al2 (R.L.length + 1) cl2)).setCell ⟨R.r, 2, none⟩ (.slice An2 (R.L.length + 1) cn2)) := ((Keep.refl (· = R.r) wb).setCell _ _ (fun _ => rfl)).setCell _ _ (fun _ => rfl)
  have hva' := (hva.nob k2).keep hkb (fun x hx hn => by
    rcases hoa x hx with h1 | h1
    · exact hne x hn h1
    · have := h.nn.lt x hn; have := k.size; omega)
  have vi : ∀ {A : Option Addr} {m c : Nat} {xs : List Value}, Vec wb 3 1 A m c xs → Vec ((wb.setCell ⟨R.r, 1, none⟩ (.slice Al2 (R.L.length + 1) cl2)).setCell ⟨R.r, 2, none⟩ (.slice An2 (R.L.length + 1) cn2)) 3 1 A m c xs := fun hv => hv.keep k3 (fun x hx e => ty hv ob (by decide) (e ▸ hx))
  have b3 : ∀ {b : Nat} {t : TypeId} {cs : List Value}, Blk W b t cs → t ≠ 3 → b ≠ R.r → Blk ((wb.setCell ⟨R.r, 1, none⟩ (.slice Al2 (R.L.length + 1) cl2)).setCell ⟨R.r, 2, none⟩ (.slice An2 (R.L.length + 1) cn2)) b t cs := fun hb ht hr => (b1 hb ht).keep k3 hr
  have v3 : ∀ {e sz m c : Nat} {A : Option Addr} {xs : List Value}, Vec W e sz A m c xs → e ≠ 3 → e ≠ 179 → Vec ((wb.setCell ⟨R.r, 1, none⟩ (.slice Al2 (R.L.length + 1) cl2)).setCell ⟨R.r, 2, none⟩ (.slice An2 (R.L.length + 1) cn2)) e sz A m c xs := fun hv h1 h2 => by
    have va := (hv.keep hka (fun x hx => by obtain ⟨cur, hc⟩ := hv.blk hx; exact ty hW.lo hc h1)).nob k2
    have hnn := ((hW.nn.keep hka (fun x hx => hne x hx)).nob k2)
    have vb := va.keep hkb (fun x hx => by obtain ⟨cur, hc⟩ := va.blk hx; exact ty hnn hc h1)
    exact vb.keep k3 (fun x hx e => by obtain ⟨cur, hc⟩ := vb.blk hx; exact hc.ne_ ob h2 e)
  have sz1 := k.size
  have sz2 := hka.size
  have sz3 := k2.size
  refine ⟨ob, ⟨⟨?_, b3 hW.mem (by decide) (hW.mem.ne_ hW.obj (by decide)), ?_, ?_, ?_, h.inv, ?_, h.len, ?_, fun x h1 h2 => ?_⟩, ?_, fun x hx => ?_, fun x hx => ?_⟩⟩
  · have := (ob.setCell 1 (.slice Al2 (R.L.length + 1) cl2)).setCell 2 (.slice An2 (R.L.length + 1) cn2)
    dsimp only
    rw [List.length_append]
    exact this
  · dsimp only
    rw [List.length_append, List.map_append, ints_append]
    exact vi hva'
  · dsimp only
    rw [List.length_append, List.map_append, ints_append]
    exact vi hvb
  · have hS := hW.sp
    refine ⟨b3 hS.obj (by decide) (hS.obj.ne_ hW.obj (by decide)), v3 hS.nrow (by decide) (by decide), v3 hS.cr (by decide) (by decide), fun i hi => ⟨b3 (hS.nm i hi).obj (by decide) ((hS.nm i hi).obj.ne_ hW.obj (by decide)), v3 (hS.nm i hi).row (by decide) (by decide), (hS.nm i hi).pl⟩, fun i hi => b3 (hS.cp i hi) (by decide) ((hS.cp i hi).ne_ hW.obj (by decide)), hS.ainj, hS.rinj, hS.t32, hS.n40⟩
  · intro x hx
    rcases List.mem_append.1 hx with hx | hx
    · exact h.ok x hx
    · obtain rfl := List.mem_singleton.1 hx
      exact hin
  · dsimp only
    rw [List.length_append]
    simp
    omega
  · have hlt := hva.lt x h1
    rcases hoa x h1 with h1 | h1 <;> rcases hob x h2 with h2 | h2
    · exact h.dis x h1 h2
    · omega
    · have := h.nn.lt x h2; omega
    · omega
  · exact ((((k.mono (fun _ _ f => f.elim)).trans hka (fun _ _ m => .inr (.inl m))).trans k2 (fun _ _ f => f.elim)).trans hkb (fun _ _ m => .inr (.inr m))).trans k3 (fun _ _ m => .inl m)
  · exact (hoa x hx).imp id (fun e => by omega)
  · exact (hob x hx).imp id (fun e => by omega)
theorem rd0 {X : World} {v : Value} {q : Nat} (e : X.heap.size = q) : Reads (X.alloc (.cells #[v] 3)) (some ⟨q, 0, none⟩) 1 [v] := by
  subst e
  exact reads_all (n := 1) (Blk.new X 3 [v]) rfl
theorem rdA {W : World} {A : Option Addr} {n : Nat} {l : List Value} (h : Reads W A n l) (o : Obj) : Reads (W.alloc o) A n l := h.nob ((Keep.refl Nob _).alloc _)
theorem rdD {W : World} {A : Option Addr} {n : Nat} {l : List Value} (h : Reads W A n l) : Reads W.drew A n l := h.nob ((Keep.refl Nob _).drew)
set_option maxRecDepth 100000 in
set_option maxHeartbeats 4000000 in
theorem radd_is (h : IsDr w R) (lo n : Int) (hin : 0 ≤ lo ∧ 0 ≤ n ∧ lo + n ≤ R.xs.length) (hf : R.L.length < 32) :
    Calls Tryz.prog 165 #[.pointer (some ⟨R.r, 0, none⟩), .int .i64 lo, .int .i64 n] w fun e w' => ∃ Al' cl' An' cn', e = .returned (.tuple #[.int .i64 R.L.length, .int .i64 0]) ∧ Added1 w R lo n Al' cl' An' cn' w' := by
  have hlen := h.len
  have hwi := fun W => Cd.within_is true lo n R.xs.length W (by omega) (by omega) (by simp; omega)
  have c0 := h.obj.cell 0
  have c1 := h.obj.cell 1
  have c2 := h.obj.cell 2
  simp only [List.getElem?_cons_zero, List.getElem?_cons_succ] at c0 c1 c2
  have HV := Lib.hid (fun W (kk : Keep Nob w W) => (h.nob kk).lo)
  have HO := Lib.hid (fun W (kk : Keep Nob w W) wa (ka : Keep (Own R.Al) W wa) => (h.nob kk).obj.keep ka (fun ho => by obtain ⟨cur, hc⟩ := (h.nob kk).lo.blk ho; exact (h.nob kk).obj.ne_ hc (by decide) rfl))
  have HN := Lib.hid (fun W (kk : Keep Nob w W) wa (ka : Keep (Own R.Al) W wa) => (h.nob kk).nn.keep ka (fun x h1 h2 => h.dis x h2 h1))
  have nq : ∀ (x : Nat), w.heap.size ≤ x → ∀ (ad : Addr), (some ⟨x, 0, none⟩ : Option Addr) = some ad → ¬ Own R.Al ad.block := fun x hx ad e ho => by
    cases e
    have := h.lo.lt x ho
    omega
  have NQ := Lib.hid nq
  clear nq
  have FIN := Lib.hid (fun W (k : Keep Nob w W) Al2 cl2 wa hva hka hoa W' (k2 : Keep Nob wa W') An2 cn2 wb hvb hkb hob => h.add hin hf (W := W) (wa := wa) (W' := W') (wb := wb) k (Al2 := Al2) (cl2 := cl2) hva hka hoa k2 (An2 := An2) (cn2 := cn2) hvb hkb hob)
  have hf' : ¬ (32 ≤ (R.L.length : Int)) := by omega
  obtain ⟨q, hq⟩ : ∃ q, w.heap.size = q := ⟨_, rfl⟩
  have ka := (Keep.refl Nob w).alloc (.cells #[.int .i64 lo] 3)
  have kb := (Keep.refl Nob w).alloc (.cells #[.int .i64 n] 3)
  have kab := ((Keep.refl Nob w).alloc (.cells #[.int .i64 lo] 3)).alloc (.cells #[.int .i64 n] 3)
  have kba := ((Keep.refl Nob w).alloc (.cells #[.int .i64 n] 3)).alloc (.cells #[.int .i64 lo] 3)
  have d1 := (h.nob kb).obj.cell 1
  have d6 := (h.nob ka).obj.cell 1
  have d7 := (h.nob kab).obj.cell 1
  have d8 := (h.nob kba).obj.cell 1
  have d2 := (h.nob ka).obj.cell 2
  have d3 := (h.nob kb).obj.cell 2
  have d4 := (h.nob kab).obj.cell 2
  have d5 := (h.nob kba).obj.cell 2
  simp only [List.getElem?_cons_zero, List.getElem?_cons_succ] at d1 d2 d3 d4 d5 d6 d7 d8
  clear ka kb kab kba
  have kof : ∀ {W wa : World} {P : Nat → Prop}, Keep P W wa → Keep Nob w W → Keep Nob w W := fun _ k => k
  rw [hq] at NQ
  clear h hin hlen
  go_enter Tryz.func165, Tryz.ntmps165
  go_wp2_with fail
  refine (hwi _).mono ?_; rintro e w2 ⟨rfl, rfl⟩
  clear hwi c0
  go_wp2_with fail
  go_region_law (first
    | (refine Qu.step_ap (by rfl) _ _ 42 (by rfl) 3 1 8 (.int .i64 0) Tryz.underlying42 infoint' (by rfl) (by decide) R.Al R.L.length R.cl (ints (R.L.map (·.1))) (by rfl) (HV.out _ (by (repeat (first | exact Keep.refl _ _ | apply Keep.alloc | apply Keep.drew)))) _ 1 1 [.int .i64 lo] (by rfl) 1 (by rfl) (by (repeat (first | (with_reducible refine rd0 ?_; simp [hq]; done) | with_reducible refine rdA ?_ _ | with_reducible refine rdD ?_ | (with_reducible refine Reads.keep ?_ hka (NQ.out _ ?_); all_goals (try omega))))) (by simp [Value.oneCell']) (by unfold maxLen; omega) (by omega) ?_; intro Al2 cl2 wa hva hka hoa; have kW := kof hka (by (repeat (first | exact Keep.refl _ _ | apply Keep.alloc | apply Keep.drew))); have oa := HO.out _ kW wa hka; have za := oa.cell 2; simp only [List.getElem?_cons_zero, List.getElem?_cons_succ] at za; have zb := (oa.nob ((Keep.refl Nob wa).alloc (.cells #[.int .i64 n] 3))).cell 2; simp only [List.getElem?_cons_zero, List.getElem?_cons_succ] at zb)
    | (refine Qu.step_ap (by rfl) _ _ 42 (by rfl) 3 1 8 (.int .i64 0) Tryz.underlying42 infoint' (by rfl) (by decide) R.An R.L.length R.cn (ints (R.L.map (·.2))) (by rfl) ((HN.out _ kW wa hka).nob (by (repeat (first | exact Keep.refl _ _ | apply Keep.alloc | apply Keep.drew)))) _ 1 1 [.int .i64 n] (by rfl) 1 (by rfl) (by (repeat (first | (with_reducible refine rd0 ?_; simp [hq]; done) | with_reducible refine rdA ?_ _ | with_reducible refine rdD ?_ | (with_reducible refine Reads.keep ?_ hka (NQ.out _ ?_); all_goals (try omega))))) (by simp [Value.oneCell']) (by unfold maxLen; omega) (by omega) ?_; intro An2 cn2 wb hvb hkb hob; obtain ⟨ob, HFin⟩ := FIN.out _ kW _ _ _ hva hka hoa _ (by (repeat (first | exact Keep.refl _ _ | apply Keep.alloc | apply Keep.drew))) _ _ _ hvb hkb hob; have y1 := ob.cell 1; have y2 := ob.cell 2; have f1 := ob.frozen 1; have f2 := ob.frozen 2; simp only [List.getElem?_cons_zero, List.getElem?_cons_succ] at y1 y2))
  all_goals
    clear d1 d2 d3 d4 d5 d6 d7 d8 HV HO HN FIN NQ kof
    have e1 := HFin.is.obj.cell 1
    simp only [List.getElem?_cons_zero, List.getElem?_cons_succ, List.length_append, List.length_singleton] at e1
    go_wp2
    go_ret2
    exact ⟨_, _, _, _, rfl, HFin⟩
end
end Go.Proofs.YtgcikpgcoemfnaaGreat.Dk
namespace Go.Proofs.YtgcikpgcoemfnaaGreat.Dk
open Go.RowKit
set_option linter.unusedVariables false
set_option linter.unusedSimpArgs false
section
variable {w w' W W' : World} {R : Dr}
theorem AddM.blk {S : Ds} (h : IsDs W S) {e : Nat} (he : e < S.n) {x : Nat} (hx : AddM S e x) : ∃ t cs, Blk W x t cs ∧ (t = 378 ∨ t = 255) := by
  rcases hx with hx | rfl
  · obtain ⟨cur, hc⟩ := (h.nm e he).row.blk hx
    exact ⟨_, _, hc, .inl rfl⟩
  · exact ⟨_, _, h.cp e he, .inr rfl⟩
theorem offM {M : Nat → Prop} {T : List TypeId} (hM : ∀ x, M x → ∃ t cs, Blk W x t cs ∧ t ∈ T) {x : Nat} {u : TypeId} {cs : List Value} (hb : Blk W x u cs) (hu : u ∉ T) : ¬ M x := fun m => by
  obtain ⟨t, c, hc, ht⟩ := hM x m
  exact hb.ne_ hc (fun e => hu (e ▸ ht)) rfl
theorem offMV {M : Nat → Prop} {T : List TypeId} (hM : ∀ x, M x → ∃ t cs, Blk W x t cs ∧ t ∈ T) {e sz n c : Nat} {A : Option Addr} {xs : List Value} (hv : Vec W e sz A n c xs) (hu : e ∉ T) : ∀ g, Own A g → ¬ M g := fun g hg => by
  obtain ⟨cur, hc⟩ := hv.blk hg
  exact offM hM hc hu
theorem IsDr.puts (h : IsDr W R) {T' : St} (hs : IsDs W' { R.S with T := T' }) (I : Inv T' R.S.n) {e : Nat} (he : e < R.S.n) (k : Keep (AddM R.S e) W W') : IsDr W' { R with S := { R.S with T := T' } } := by
  have hM : ∀ x, AddM R.S e x → ∃ t cs, Blk W x t cs ∧ t ∈ [378, 255] := fun x hx => by
    obtain ⟨t, cs, hb, ht⟩ := AddM.blk h.sp he hx
    exact ⟨t, cs, hb, by rcases ht with rfl | rfl <;> simp⟩
  exact ⟨h.obj.keep k (offM hM h.obj (by decide)), h.mem.keep k (offM hM h.mem (by decide)), h.lo.keep k (offMV hM h.lo (by decide)), h.nn.keep k (offMV hM h.nn (by decide)), hs, I, h.ok, h.len, h.few, h.dis⟩
/-- A Cap of all rights but to grant is put, where rows are filled from below. -/
theorem put_row (h : IsDr W R) {cs : Nat → List Cp} (hT : R.S.T = tOf cs) (e : Nat) (he : e < R.S.n) (hl : (cs e).length < 32) (c : Cp) (hr : c.rights = 3) (hlo : c.lo = 0) (hn : 0 ≤ c.n ∧ c.n ≤ 65536) (ht : c.root = (0, 0)) :
    Calls Tryz.prog 167 #[.pointer (some ⟨R.S.s, 0, none⟩), .int .i64 e, cval c] W fun e' w' => ∃ v, e' = .returned v ∧ IsDr w' { R with S := { R.S with T := tOf (more cs e c) } } ∧ Keep (AddM R.S e) W w' := by
  have hx : (R.S.T e)[(cs e).length]? = some ⟨1, false, zcap⟩ := by
    rw [hT]
    exact rowQ_out (l := cs e) (Nat.le_refl _) hl
  have hb : ∀ (j : Nat) (y : Q), j < (cs e).length → (R.S.T e)[j]? = some y → y = ⟨1, true, y.c⟩ := fun j y hj hy => by
    rw [hT] at hy
    have h1 : (tOf cs e)[j]? = (rowQ (cs e))[j]? := rfl
    rw [h1, rowQ_in (List.getElem?_eq_getElem hj)] at hy
    cases hy
    rfl
  have hput := put_is h.sp e he c (by rw [hr]; decide) (by rw [hlo]; decide) hn (cs e).length ⟨1, false, zcap⟩ hx (by decide) (fun j y hj hy => by rw [hb j y hj hy]; rfl)
  have hA : Added R.S.T R.S.n e c (((cs e).length : Int) + 256 * ((1 : Nat) : Int)) 0 (up R.S.T e (cs e).length ⟨1, true, c⟩) := Added.put (cs e).length ⟨1, false, zcap⟩ hx (by decide) (fun j y hj hy => by rw [hb j y hj hy]; rfl)
  have hI := hA.inv h.inv he ⟨by rw [hr]; decide, by rw [hr]; decide, by rw [hlo]; decide, hn.1, by rw [hlo]; omega⟩ (.inl ht)
  have hrow := (added_row (by rw [hT] at hA; exact hA) hl).2.2
  have ec : (⟨c.obj, c.rights, c.lo, c.n, (0, 0)⟩ : Cp) = c := by
    cases c
    dsimp only at ht
    rw [ht]
  refine hput.mono ?_
  rintro e' w' ⟨rfl, h1, h2⟩
  rw [ec] at h1
  have eT : up R.S.T e (cs e).length ⟨1, true, c⟩ = tOf (more cs e c) := by rw [hT]; exact hrow
  dsimp only at h1
  rw [eT] at h1 hI
  exact ⟨_, rfl, h.puts h1 hI he h2, h2⟩
end
/-- A kernel that a call is making, since the world w. -/
structure Mk (w W : World) (b : Bt) (ns : List Nat) (k pq : Nat) (Aq : Option Addr) (cq : Nat) (gq : Nat → Nat) (bq : Nat → List Bool) (R : Dr) (Ag : Option Addr) (ng cg : Nat) (vs : List Value) : Prop where
  boot : Blk W w.heap.size 144 [.slice b.Af b.frames.length b.cf, .slice b.Ae b.envs.length b.ce, .slice b.As b.sects.length b.cs, .int .i64 b.lease, .slice b.Ah b.shared.length b.ch]
  obj : Blk W k 171 [.slice b.Af b.frames.length b.cf, .slice b.Ae b.envs.length b.ce, .slice b.As b.sects.length b.cs, .int .i64 b.lease, .slice b.Ah b.shared.length b.ch, .pointer (some ⟨pq, 0, none⟩), .pointer (some ⟨R.r, 0, none⟩), .slice Ag ng cg, .int .i64 0]
  quo : Qu.Dq W pq Aq cq gq ns bq
  reg : IsDr W R
  row : Vec W 184 1 Ag ng cg vs
  mine : ∀ x, R.Mine x → w.heap.size ≤ x
  lk : w.heap.size ≤ k
  lg : ∀ x, Own Ag x → w.heap.size ≤ x
  keep : Keep Nob w W
section
variable {w W W' : World} {b : Bt} {ns : List Nat} {k pq : Nat} {Aq : Option Addr} {cq : Nat} {gq : Nat → Nat} {bq : Nat → List Bool} {R R' : Dr} {Ag : Option Addr} {ng cg : Nat} {vs : List Value} {M : Nat → Prop}
theorem Mk.nob (h : Mk w W b ns k pq Aq cq gq bq R Ag ng cg vs) (kk : Keep Nob W W') : Mk w W' b ns k pq Aq cq gq bq R Ag ng cg vs :=
  ⟨h.boot.nob kk, h.obj.nob kk, h.quo.nob kk, h.reg.nob kk, h.row.nob kk, h.mine, h.lk, h.lg, h.keep.nobt kk⟩
theorem Mk.far (h : Mk w W b ns k pq Aq cq gq bq R Ag ng cg vs) (kk : Keep M W W') (hM : ∀ x, M x → ∃ t cs, Blk W x t cs ∧ t ∈ [179, 3, 378, 255]) (hl : ∀ x, M x → w.heap.size ≤ x) (hR : IsDr W' R') (hm : ∀ x, R'.Mine x → w.heap.size ≤ x) (he : R'.r = R.r) : Mk w W' b ns k pq Aq cq gq bq R' Ag ng cg vs :=
  ⟨h.boot.keep kk (offM hM h.boot (by decide)), by rw [he]; exact h.obj.keep kk (offM hM h.obj (by decide)), h.quo.keep kk (offM hM h.quo.obj (by decide)) (offMV hM h.quo.row (by decide)) (fun i hi => offM hM (h.quo.tab i hi) (by decide)), hR, h.row.keep kk (offMV hM h.row (by decide)), hm, h.lk, h.lg, h.keep.trans kk (fun x hx m => by have := hl x m; omega)⟩
/-- One more range. -/
theorem Mk.add (h : Mk w W b ns k pq Aq cq gq bq R Ag ng cg vs) {lo n : Int} {Al' : Option Addr} {cl' : Nat} {An' : Option Addr} {cn' : Nat} (ha : Added1 W R lo n Al' cl' An' cn' W') :
    Mk w W' b ns k pq Aq cq gq bq { R with L := R.L ++ [(lo, n)], Al := Al', cl := cl', An := An', cn := cn' } Ag ng cg vs := by
  have hs := h.keep.size
  refine h.far ha.keep (fun x hx => ?_) (fun x hx => ?_) ha.is (fun x hx => ?_) rfl
  · rcases hx with rfl | hx | hx
    · exact ⟨_, _, h.reg.obj, by simp⟩
    · obtain ⟨cur, hc⟩ := h.reg.lo.blk hx
      exact ⟨_, _, hc, by simp⟩
    · obtain ⟨cur, hc⟩ := h.reg.nn.blk hx
      exact ⟨_, _, hc, by simp⟩
  · rcases hx with rfl | hx | hx
    · exact h.mine _ (.inl rfl)
    · exact h.mine _ (.inr (.inr (.inl hx)))
    · exact h.mine _ (.inr (.inr (.inr (.inl hx))))
  · rcases hx with rfl | rfl | hx | hx | hx
    · exact h.mine _ (.inl rfl)
    · exact h.mine _ (.inr (.inl rfl))
    · rcases ha.al x hx with h1 | h1
      · exact h.mine _ (.inr (.inr (.inl h1)))
      · omega
    · rcases ha.an x hx with h1 | h1
      · exact h.mine _ (.inr (.inr (.inr (.inl h1))))
      · omega
    · exact h.mine _ (.inr (.inr (.inr (.inr hx))))
/-- One more Cap. -/
theorem Mk.put (h : Mk w W b ns k pq Aq cq gq bq R Ag ng cg vs) {T' : St} {e : Nat} (he : e < R.S.n) (hR : IsDr W' { R with S := { R.S with T := T' } }) (kk : Keep (AddM R.S e) W W') : Mk w W' b ns k pq Aq cq gq bq { R with S := { R.S with T := T' } } Ag ng cg vs :=
  h.far kk (fun x hx => by
    obtain ⟨t, cs, hb, ht⟩ := AddM.blk h.reg.sp he hx
    exact ⟨t, cs, hb, by rcases ht with rfl | rfl <;> simp⟩) (fun x hx => h.mine x (.inr (.inr (.inr (.inr (add_mine he x hx)))))) hR (fun x hx => h.mine x hx) rfl
/-- One more Sect. -/
theorem Mk.sect (h : Mk w W b ns k pq Aq cq gq bq R Ag ng cg vs) {W2 : World} {A2 : Option Addr} {c2 : Nat} {v : Value} (hv : Vec W2 184 1 A2 (ng + 1) c2 (vs ++ [v])) (hk : Keep (Own Ag) W W2) (ho : ∀ x, Own A2 x → Own Ag x ∨ W.heap.size ≤ x) :
    Blk W2 k 171 [.slice b.Af b.frames.length b.cf, .slice b.Ae b.envs.length b.ce, .slice b.As b.sects.length b.cs, .int .i64 b.lease, .slice b.Ah b.shared.length b.ch, .pointer (some ⟨pq, 0, none⟩), .pointer (some ⟨R.r, 0, none⟩), .slice Ag ng cg, .int .i64 0] ∧
    Mk w (W2.setCell ⟨k, 7, none⟩ (.slice A2 (ng + 1) c2)) b ns k pq Aq cq gq bq R A2 (ng + 1) c2 (vs ++ [v]) := by
  have hM : ∀ x, Own Ag x → ∃ t cs, Blk W x t cs ∧ t ∈ [184] := fun x hx => by
    obtain ⟨cur, hc⟩ := h.row.blk hx
    exact ⟨_, _, hc, by simp⟩
  have o1 := h.obj.keep hk (offM hM h.obj (by decide))
  have hM2 : ∀ x, x = k → ∃ t cs, Blk W2 x t cs ∧ t ∈ [171] := fun x e => e ▸ ⟨_, _, o1, by simp⟩
  have k2 : Keep (· = k) W2 (W2.setCell ⟨k, 7, none⟩ (.slice A2 (ng + 1) c2)) := (Keep.refl _ _).setCell _ _ (fun _ => rfl)
  have kk : Keep (fun x => x = k ∨ Own Ag x) W (W2.setCell ⟨k, 7, none⟩ (.slice A2 (ng + 1) c2)) := (hk.mono (fun _ _ m => .inr m)).trans k2 (fun _ _ m => .inl m)
  have hMM : ∀ x, (x = k ∨ Own Ag x) → ∃ t cs, Blk W x t cs ∧ t ∈ [171, 184] := fun x hx => by
    rcases hx with rfl | hx
    · exact ⟨_, _, h.obj, by simp⟩
    · obtain ⟨cur, hc⟩ := h.row.blk hx
      exact ⟨_, _, hc, by simp⟩
  have hs := h.keep.size
  refine ⟨o1, ⟨h.boot.keep kk (offM hMM h.boot (by decide)), ?_, h.quo.keep kk (offM hMM h.quo.obj (by decide)) (offMV hMM h.quo.row (by decide)) (fun i hi => offM hMM (h.quo.tab i hi) (by decide)), h.reg.keep kk (fun x hx => ?_), hv.keep k2 (offMV (M := (· = k)) hM2 hv (by decide)), h.mine, h.lk, fun x hx => ?_, h.keep.trans kk (fun x hx m => ?_)⟩⟩
  · exact o1.setCell 7 (.slice A2 (ng + 1) c2)
  · rcases hx with rfl | rfl | hx | hx | hx
    · exact offM hMM h.reg.obj (by decide)
    · exact offM hMM h.reg.mem (by decide)
    · exact offMV hMM h.reg.lo (by decide) x hx
    · exact offMV hMM h.reg.nn (by decide) x hx
    · rcases hx with rfl | hx | hx | ⟨i, hi, rfl | hx | rfl⟩
      · exact offM hMM h.reg.sp.obj (by decide)
      · exact offMV hMM h.reg.sp.nrow (by decide) x hx
      · exact offMV hMM h.reg.sp.cr (by decide) x hx
      · exact offM hMM (h.reg.sp.nm i hi).obj (by decide)
      · exact offMV hMM (h.reg.sp.nm i hi).row (by decide) x hx
      · exact offM hMM (h.reg.sp.cp i hi) (by decide)
  · rcases ho x hx with h1 | h1
    · exact h.lg x h1
    · omega
  · rcases m with rfl | m
    · have := h.lk; omega
    · have := h.lg x m; omega
end
end Go.Proofs.YtgcikpgcoemfnaaGreat.Dk
namespace Go.Proofs.YtgcikpgcoemfnaaGreat.Dk
open Go.RowKit
set_option linter.unusedVariables false
set_option linter.unusedSimpArgs false
theorem zblk {X : World} {q k : Nat} (e : X.heap.size = q) : Blk (X.alloc (.cells (madeCells #[.int .u8 0] (64 * k)) 5)) q 5 (bytes (zeros k)) := by
  subst e
  have := Blk.new X 5 (madeCells #[.int .u8 0] (64 * k)).toList
  rw [Array.toArray_toList, toList_madeCells_one] at this
  rw [zeros, bytes_replicate]
  exact this
theorem rblk {X : World} {q : Nat} {t : TypeId} {a b c d : Value} (e : X.heap.size = q) : Blk (X.alloc (.cells #[a, b, c, d] t)) q t [a, b, c, d] := by
  subst e
  exact Blk.new X t [a, b, c, d]
/-- What stands when the Regions are laid into the kernel. -/
theorem Mk.start {w W : World} {b : Bt} {ns : List Nat} {k pq : Nat} {Aq : Option Addr} {cq : Nat} {gq : Nat → Nat} {bq : Nat → List Bool} {rr zb f : Nat} {S : Ds} (hf : f ≤ 256)
    (kk : Keep Nob w W) (boot : Blk W w.heap.size 144 [.slice b.Af b.frames.length b.cf, .slice b.Ae b.envs.length b.ce, .slice b.As b.sects.length b.cs, .int .i64 b.lease, .slice b.Ah b.shared.length b.ch])
    (obj : Blk W k 171 [.slice b.Af b.frames.length b.cf, .slice b.Ae b.envs.length b.ce, .slice b.As b.sects.length b.cs, .int .i64 b.lease, .slice b.Ah b.shared.length b.ch, .pointer (some ⟨pq, 0, none⟩), .pointer none, .slice none 0 0, .int .i64 0])
    (hQ : Qu.Dq W pq Aq cq gq ns bq) (hR : Blk W rr 179 [.slice (some ⟨zb, 0, none⟩) (64 * f) (64 * f), .slice none 0 0, .slice none 0 0, .pointer (some ⟨S.s, 0, none⟩)]) (hZ : Blk W zb 5 (bytes (zeros f))) (hS : IsDs W S) (hI : Inv S.T S.n)
    (l1 : w.heap.size ≤ k) (l2 : w.heap.size ≤ rr) (l3 : w.heap.size ≤ zb) (l4 : ∀ x, S.Mine x → w.heap.size ≤ x) :
    Mk w (W.setCell ⟨k, 6, none⟩ (.pointer (some ⟨rr, 0, none⟩))) b ns k pq Aq cq gq bq ⟨rr, zb, zeros f, none, 0, none, 0, [], S⟩ none 0 0 [] := by
  have k2 : Keep (· = k) W (W.setCell ⟨k, 6, none⟩ (.pointer (some ⟨rr, 0, none⟩))) := (Keep.refl _ _).setCell _ _ (fun _ => rfl)
  have hM : ∀ x, x = k → ∃ t cs, Blk W x t cs ∧ t ∈ [171] := fun x e => e ▸ ⟨_, _, obj, by simp⟩
  have no : ∀ x, ¬ Own none x := fun x ⟨a, ha, _⟩ => by cases ha
  have e1 : (zeros f).length = 64 * f := zeros_len f
  have hd : IsDr W ⟨rr, zb, zeros f, none, 0, none, 0, [], S⟩ := ⟨by dsimp only; rw [e1]; exact hR, hZ, Vec.nil _ _ _, Vec.nil _ _ _, hS, hI, fun x hx => (by cases hx), by dsimp only; omega, by simp, fun x hx => (no x hx).elim⟩
  refine ⟨boot.keep k2 (offM (M := (· = k)) hM boot (by decide)), obj.setCell 6 _, hQ.keep k2 (offM (M := (· = k)) hM hQ.obj (by decide)) (offMV (M := (· = k)) hM hQ.row (by decide)) (fun i hi => offM (M := (· = k)) hM (hQ.tab i hi) (by decide)), hd.keep k2 (fun x hx => ?_), Vec.nil _ _ _, fun x hx => ?_, l1, fun x hx => (no x hx).elim, kk.trans k2 (fun x hx m => by have h9 : x = k := m; omega)⟩
  · rcases hx with rfl | rfl | hx | hx | hx
    · exact offM (M := (· = k)) hM hR (by decide)
    · exact offM (M := (· = k)) hM hZ (by decide)
    · exact (no x hx).elim
    · exact (no x hx).elim
    · rcases hx with rfl | hx | hx | ⟨i, hi, rfl | hx | rfl⟩
      · exact offM (M := (· = k)) hM hS.obj (by decide)
      · exact offMV (M := (· = k)) hM hS.nrow (by decide) x hx
      · exact offMV (M := (· = k)) hM hS.cr (by decide) x hx
      · exact offM (M := (· = k)) hM (hS.nm i hi).obj (by decide)
      · exact offMV (M := (· = k)) hM (hS.nm i hi).row (by decide) x hx
      · exact offM (M := (· = k)) hM (hS.cp i hi) (by decide)
  · rcases hx with rfl | rfl | hx | hx | hx
    · exact l2
    · exact l3
    · exact (no x hx).elim
    · exact (no x hx).elim
    · exact l4 x hx
theorem Mk.start2 {w wb ws W : World} {b : Bt} {ns : List Nat} {k pq : Nat} {Aq : Option Addr} {cq : Nat} {gq : Nat → Nat} {bq : Nat → List Bool} {rr zb f : Nat} {S : Ds} (hf : f ≤ 256)
    (kk : Keep Nob w wb) (boot : Blk wb w.heap.size 144 [.slice b.Af b.frames.length b.cf, .slice b.Ae b.envs.length b.ce, .slice b.As b.sects.length b.cs, .int .i64 b.lease, .slice b.Ah b.shared.length b.ch])
    (obj : Blk wb k 171 [.slice b.Af b.frames.length b.cf, .slice b.Ae b.envs.length b.ce, .slice b.As b.sects.length b.cs, .int .i64 b.lease, .slice b.Ah b.shared.length b.ch, .pointer (some ⟨pq, 0, none⟩), .pointer none, .slice none 0 0, .int .i64 0])
    (hQ : Qu.Dq wb pq Aq cq gq ns bq) (k9 : Keep Nob wb W) (hS : IsDs ws S) (k10 : Keep Nob ws W) (hI : Inv S.T S.n) (hR : Blk W rr 179 [.slice (some ⟨zb, 0, none⟩) (64 * f) (64 * f), .slice none 0 0, .slice none 0 0, .pointer (some ⟨S.s, 0, none⟩)]) (hZ : Blk W zb 5 (bytes (zeros f)))
    (l1 : w.heap.size ≤ k) (l2 : w.heap.size ≤ rr) (l3 : w.heap.size ≤ zb) (l4 : ∀ x, S.Mine x → w.heap.size ≤ x) :
    Mk w (W.setCell ⟨k, 6, none⟩ (.pointer (some ⟨rr, 0, none⟩))) b ns k pq Aq cq gq bq ⟨rr, zb, zeros f, none, 0, none, 0, [], S⟩ none 0 0 [] :=
  Mk.start hf (kk.nobt k9) (boot.nob k9) (obj.nob k9) (hQ.nob k9) hR hZ (hS.nob k10) hI l1 l2 l3 l4
theorem inq {w : World} {n m c : Nat} {A : Option Addr} {l : List Int} {x : Int} (hr : Reads (w.drewN n) A m (ints l)) (hm : m ≤ 1000) (v : Bool) (hv : decide (x ∈ l) = v) : Calls Tryz.prog 166 #[.slice A m c, .int .i64 x] (w.drewN n) fun e w'' => e = .returned (.bool v) ∧ ∃ z, w'' = w.drewN z :=
  (in_is A m c l x hr hm v hv).mono fun _ _ ⟨he, h2⟩ => ⟨he, n, h2.symm⟩
theorem put_all {w W W' : World} {b : Bt} {ns : List Nat} {k pq : Nat} {Aq : Option Addr} {cq : Nat} {gq : Nat → Nat} {bq : Nat → List Bool} {R : Dr} {Ag : Option Addr} {ng cg : Nat} {vs : List Value} {T' : St} {e g E : Nat} {cs : List Value}
    (h : Mk w W b ns k pq Aq cq gq bq R Ag ng cg vs) (hS : Blk W g 230 cs) (hn : R.S.n = E) (he : e < E) (hR : IsDr W' { R with S := { R.S with T := T' } }) (kP : Keep (AddM R.S e) W W') :
    Mk w W' b ns k pq Aq cq gq bq { R with S := { R.S with T := T' } } Ag ng cg vs ∧ Blk W' g 230 cs := by
  subst hn
  refine ⟨h.put he hR kP, hS.keep kP (fun m => ?_)⟩
  obtain ⟨t, c, hc, ht⟩ := AddM.blk h.reg.sp he m
  rcases ht with rfl | rfl
  · exact hS.ne_ hc (by decide) rfl
  · exact hS.ne_ hc (by decide) rfl
theorem infopS : (Tryz.prog.info? 184).map (fun i => (i.zero, i.size, i.bytes)) = some (some (.pointer none), 1, 8) := by kernel_rfl
section
variable {w : World}
set_option maxRecDepth 100000 in
set_option maxHeartbeats 40000000 in
theorem nkern_is {b : Bt} {ns : List Nat} (h : IsBt w b) (ok : BtOk b ns) (h1e : 1 ≤ b.envs.length) (h1s : 1 ≤ b.shared.length) :
    Calls Tryz.prog 76 #[b.val] w fun e w' => ∃ k pq Aq cq gq bq R Ag ng cg vs, e = .returned (.pointer (some ⟨k, 0, none⟩)) ∧ Mk w w' b ns k pq Aq cq gq bq R Ag ng cg vs ∧ R.xs = zeros (Qu.first ns ns.length) ∧ R.L = b.shared.map (spanOf ns) ∧ R.S.n = b.envs.length ∧ R.S.T = tOf (csAt b.envs b.shared b.shared.length) := by
  have hnl := ok.len
  have h4 := ok.f4
  have h1 := ok.f1
  have k1 := (Keep.refl Nob w).alloc (.cells #[.slice b.Af b.frames.length b.cf, .slice b.Ae b.envs.length b.ce, .slice b.As b.sects.length b.cs, .int .i64 b.lease, .slice b.Ah b.shared.length b.ch] 144)
  have b1 : Blk (w.alloc (.cells #[.slice b.Af b.frames.length b.cf, .slice b.Ae b.envs.length b.ce, .slice b.As b.sects.length b.cs, .int .i64 b.lease, .slice b.Ah b.shared.length b.ch] 144)) w.heap.size 144 [.slice b.Af b.frames.length b.cf, .slice b.Ae b.envs.length b.ce, .slice b.As b.sects.length b.cs, .int .i64 b.lease, .slice b.Ah b.shared.length b.ch] := Blk.new w 144 _
  have sf : ∀ W, Keep Nob (w.alloc (.cells #[.slice b.Af b.frames.length b.cf, .slice b.Ae b.envs.length b.ce, .slice b.As b.sects.length b.cs, .int .i64 b.lease, .slice b.Ah b.shared.length b.ch] 144)) W → W.cell? ⟨w.heap.size, 0, none⟩ = some (.slice b.Af b.frames.length b.cf) ∧ W.cell? ⟨w.heap.size, 1, none⟩ = some (.slice b.Ae b.envs.length b.ce) ∧ W.cell? ⟨w.heap.size, 2, none⟩ = some (.slice b.As b.sects.length b.cs) ∧ W.cell? ⟨w.heap.size, 3, none⟩ = some (.int .i64 b.lease) ∧ W.cell? ⟨w.heap.size, 4, none⟩ = some (.slice b.Ah b.shared.length b.ch) := fun W kk =>
    ⟨(b1.nob kk).cell 0, (b1.nob kk).cell 1, (b1.nob kk).cell 2, (b1.nob kk).cell 3, (b1.nob kk).cell 4⟩
  have hqn : ∀ W, Keep Nob (w.alloc (.cells #[.slice b.Af b.frames.length b.cf, .slice b.Ae b.envs.length b.ce, .slice b.As b.sects.length b.cs, .int .i64 b.lease, .slice b.Ah b.shared.length b.ch] 144)) W → Calls Tryz.prog 161 #[.slice b.Af b.frames.length b.cf] W (Qu.NewD ns W) := fun W kk => Qu.dnew_is ((h.nob k1).nob kk).fr ns ok.nse
  have HH := Lib.hid (And.intro h ok)
  have KB := Lib.hid (And.intro k1 b1)
  have HN := Lib.hid hnl
  clear h ok hnl k1 b1
  unfold Bt.val
  go_enter Tryz.func76, Tryz.ntmps76
  go_wp2_with fail
  generalize hw1 : (w.alloc (.cells #[.slice b.Af b.frames.length b.cf, .slice b.Ae b.envs.length b.ce, .slice b.As b.sects.length b.cs, .int .i64 b.lease, .slice b.Ah b.shared.length b.ch] 144)) = w1 at *
  have hs1 : w1.heap.size = w.heap.size + 1 := by rw [← hw1]; simp
  clear hw1
  have kd := Keep.nobdrew w1
  have s0 := sf _ kd
  go_region_held3 (fun w' => w'.cell? ⟨w.heap.size, 0, none⟩ = some (.slice b.Af b.frames.length b.cf) ∧ w'.cell? ⟨w.heap.size, 1, none⟩ = some (.slice b.Ae b.envs.length b.ce) ∧ w'.cell? ⟨w.heap.size, 2, none⟩ = some (.slice b.As b.sects.length b.cs) ∧ w'.cell? ⟨w.heap.size, 3, none⟩ = some (.int .i64 b.lease) ∧ w'.cell? ⟨w.heap.size, 4, none⟩ = some (.slice b.Ah b.shared.length b.ch))
    (first | exact s0 | exact sf _ kd1 | exact sf _ (kd1.alloc _))
    (first | (go_at_call 161; refine (hqn _ kd).mono ?_; rintro e wa ⟨pq, Aq, cq, gq, rfl, hQ, hgq, kQ⟩; have kd1 := kd.trans kQ (fun _ _ f => f)))
  have hB := (KB.out.2.nob kd1).alloc (.cells #[.slice b.Af b.frames.length b.cf, .slice b.Ae b.envs.length b.ce, .slice b.As b.sects.length b.cs, .int .i64 b.lease, .slice b.Ah b.shared.length b.ch, .pointer (some ⟨pq, 0, none⟩), .pointer none, .slice none 0 0, .int .i64 0] 171)
  have hK := Blk.new wa 171 [.slice b.Af b.frames.length b.cf, .slice b.Ae b.envs.length b.ce, .slice b.As b.sects.length b.cs, .int .i64 b.lease, .slice b.Ah b.shared.length b.ch, .pointer (some ⟨pq, 0, none⟩), .pointer none, .slice none 0 0, .int .i64 0]
  have ka := (Keep.refl Nob wa).alloc (.cells #[.slice b.Af b.frames.length b.cf, .slice b.Ae b.envs.length b.ce, .slice b.As b.sects.length b.cs, .int .i64 b.lease, .slice b.Ah b.shared.length b.ch, .pointer (some ⟨pq, 0, none⟩), .pointer none, .slice none 0 0, .int .i64 0] 171)
  have hQb := hQ.nob ka
  have kwb := (KB.out.1.nobt kd1).nobt ka
  have lkk : w.heap.size ≤ wa.heap.size := (KB.out.1.nobt kd1).size
  generalize hwb : (wa.alloc (.cells #[.slice b.Af b.frames.length b.cf, .slice b.Ae b.envs.length b.ce, .slice b.As b.sects.length b.cs, .int .i64 b.lease, .slice b.Ah b.shared.length b.ch, .pointer (some ⟨pq, 0, none⟩), .pointer none, .slice none 0 0, .int .i64 0] 171)) = wb at *
  have lkb : wa.heap.size < wb.heap.size := by rw [← hwb]; simp
  generalize wa.heap.size = kk at *
  have sf2 : ∀ W, Keep Nob wb W → W.cell? ⟨w.heap.size, 0, none⟩ = some (.slice b.Af b.frames.length b.cf) ∧ W.cell? ⟨w.heap.size, 1, none⟩ = some (.slice b.Ae b.envs.length b.ce) ∧ W.cell? ⟨kk, 5, none⟩ = some (.pointer (some ⟨pq, 0, none⟩)) ∧ W.cell? ⟨kk, 6, none⟩ = some (.pointer none) ∧ W.frozen? ⟨kk, 6, none⟩ = false := fun W k9 =>
    ⟨(hB.nob k9).cell 0, (hB.nob k9).cell 1, (hK.nob k9).cell 5, (hK.nob k9).cell 6, (hK.nob k9).frozen 6⟩
  have e40 := HH.out.2.e40
  have h64 : ∀ x ∈ ns, x ≤ 64 := by rw [← HH.out.2.nse]; exact sizes64
  have hfs := Qu.first_le h64 b.frames.length (by rw [HN.out]; exact Nat.le_refl _)
  obtain ⟨f, hf⟩ : ∃ f, Qu.first ns b.frames.length = f := ⟨_, rfl⟩
  have hfi : ∀ W, Keep Nob wb W → Calls Tryz.prog 162 #[.pointer (some ⟨pq, 0, none⟩), .int .i64 b.frames.length] W fun e w' => e = .returned (.int .i64 f) ∧ W = w' := fun W k9 => Qu.first_is (hQb.nob k9) _ (by rw [HN.out]; exact Nat.le_refl _) _ (by rw [hf])
  rw [hf] at hfs
  have hf2 : f ≤ 256 := by omega
  have hsp : ∀ W, Calls Tryz.prog 163 #[.int .i64 b.envs.length] W (MadeS b.envs.length W) := fun W => space_is b.envs.length e40 W
  have hmk := fun wx => run_make_row' (P := Tryz.prog) 28 5 (.int .u8 0) 1 Tryz.underlying28 Tryz.info5 rfl .i64 .i64 (64 * f) (by omega) (by omega) wx
  have e1 : (((64 * f : Nat)) : Int) = 64 * (f : Int) := by omega
  have hw64 : IntKind.i64.wrap (64 * (f : Int)) = 64 * (f : Int) := by simp [IntKind.wrap, IntKind.bits, IntKind.signed]; omega
  rw [e1, ← hw64] at hmk
  clear hw64
  have kof : ∀ {W wc : World} {P : Nat → Prop}, Keep P W wc → Keep Nob wb W → Keep Nob wb W := fun _ k => k
  have k0 := sf2 _ (Keep.refl Nob wb)
  have k3 := sf2 _ ((Keep.refl Nob wb).alloc (.cells (madeCells #[.int .u8 0] (64 * f)) 5))
  have HF := Lib.hid hf
  have HB := Lib.hid (And.intro hB (And.intro hK (And.intro hQb (And.intro kwb h64))))
  have HS2 := Lib.hid sf2
  clear hB hK hQb kwb h64 ka hQ hwb kd1 kQ hgq s0 kd hqn sf KB hs1 hf e1 hfs sf2
  go_upto_if 16 with fail
  go_cut [] from 16 to 34 (fun wx => ∃ R, Mk w wx b ns kk pq Aq cq gq (fun i => List.replicate (ns.getD i 0) false) R none 0 0 [] ∧ R.xs = zeros f ∧ R.L = [] ∧ R.S.n = b.envs.length ∧ R.S.T = init)
  case first =>
    go_wp2_with fail
    go_region_law (first
      | (go_simp; go_at_call 162; refine (hfi _ (by first | (repeat (first | exact Keep.refl _ _ | apply Keep.alloc | apply Keep.drew)) | exact kx)).mono ?_; rintro e wz ⟨rfl, rfl⟩)
      | (go_simp; go_at_call 163; refine (hsp _).mono ?_; rintro e ws ⟨S, rfl, hS, hSn, hST, hSm, kS⟩; have kW := kof kS (by (repeat (first | exact Keep.refl _ _ | apply Keep.alloc | apply Keep.drew))); have kx := kW.nobt kS; have q0 := HS2.out _ kx; have q1 := HS2.out _ (kx.alloc (.cells (madeCells #[.int .u8 0] (64 * f)) 5)); have q2 := HS2.out _ (kx.alloc (.cells #[.slice (some ⟨wb.heap.size, 0, none⟩) (64 * f) (64 * f), .slice none 0 0, .slice none 0 0, .pointer (some ⟨S.s, 0, none⟩)] 179)); have q3 := HS2.out _ ((kx.alloc (.cells (madeCells #[.int .u8 0] (64 * f)) 5)).alloc (.cells #[.slice (some ⟨ws.heap.size, 0, none⟩) (64 * f) (64 * f), .slice none 0 0, .slice none 0 0, .pointer (some ⟨S.s, 0, none⟩)] 179))))
    all_goals
      have hI : Inv S.T S.n := by rw [hST, hSn]; exact init_inv e40
      have l5 := kW.size
      have l6 := kx.size
      have l7 := HB.out.2.2.2.1.size
      clear q0 q1 q2 q3 k0 k3 hmk hsp hfi
      go_wp2_with fail
      go_meet
      exact ⟨_, Mk.start2 (ws := ws) hf2 HB.out.2.2.2.1 HB.out.1 HB.out.2.1 HB.out.2.2.1 (by (repeat (first | exact kx | exact Keep.refl _ _ | apply Keep.alloc | apply Keep.drew))) hS (by (repeat (first | exact Keep.refl _ _ | apply Keep.alloc | apply Keep.drew))) hI (by refine rblk ?_; simp; done) (by (repeat (first | (with_reducible refine zblk ?_; simp; done) | with_reducible refine Blk.alloc ?_ _ | with_reducible refine Blk.nob ?_ kS | with_reducible refine Blk.nob ?_ (Keep.nobdrew _)))) lkk (by omega) (by omega) (fun x hx => by have := hSm x hx; omega), rfl, rfl, hSn, hST⟩
  case rest =>
  obtain ⟨R, hM, hRx, hRL, hRn, hRT⟩ := hcut
  have HR := Lib.hid (And.intro hRx (And.intro hRL (And.intro hRn hRT)))
  have h64 := HB.out.2.2.2.2
  have H64 := Lib.hid h64
  have s8 := HH.out.2.s8
  have h16 := HH.out.2.h16
  clear hmk hsp hfi k0 k3 HS2 kof HB hRx hRL hRn hRT h64
  go_wp2_with fail
  go_loopw [4] (fun s4 wx => ∃ (j : Nat) (Ag : Option Addr) (cg : Nat) (vs : List Value), j ≤ b.sects.length ∧ s4 = .int .i64 j ∧ Mk w wx b ns kk pq Aq cq gq (fun i => List.replicate (ns.getD i 0) false) R Ag j cg vs) (fun s4 _ => b.sects.length - (intOf s4).toNat)
  case atStart => exact ⟨0, none, 0, [], Nat.zero_le _, rfl, hM⟩
  case round =>
    obtain ⟨j, Ag, cg, vs, hj, rfl, hP⟩ := hrel
    clear hM
    have e2 := hP.boot.cell 2
    simp only [List.getElem?_cons_zero, List.getElem?_cons_succ] at e2
    by_cases hlt : j < b.sects.length
    · have hlt2 : (j : Int) < b.sects.length := by omega
      have sf : ∀ W, Keep Nob wr W → W.cell? ⟨w.heap.size, 3, none⟩ = some (.int .i64 b.lease) ∧ W.cell? ⟨kk, 7, none⟩ = some (.slice Ag j cg) := fun W k9 => ⟨(hP.nob k9).boot.cell 3, (hP.nob k9).obj.cell 7⟩
      have q0 := sf _ (Keep.refl Nob wr)
      have SF := Lib.hid sf
      have HP := Lib.hid hP
      clear sf hP
      go_wp2_with fail
      clear e2
      go_region_law (first
        | (go_simp; go_at_call 164; refine (sect_is b.lease _).mono ?_; rintro e ws ⟨p, rfl, hp, kS⟩; have ka := (Keep.refl Nob wr).drew.nobt kS; have q1 := SF.out _ ka; have kx := ka.alloc (.cells #[.pointer (some ⟨p, 0, none⟩)] 184); have q2 := SF.out _ kx; have hv1 := (HP.out.nob kx).row; have hr1 := reads_all (n := 1) (Blk.new ws 184 [.pointer (some ⟨p, 0, none⟩)]) rfl)
        | (refine Qu.step_ap (by rfl) _ _ 169 (by rfl) 184 1 8 (.pointer none) Tryz.underlying169 infopS (by rfl) (by decide) Ag j cg _ (by rfl) hv1 (some ⟨ws.heap.size, 0, none⟩) 1 1 [.pointer (some ⟨p, 0, none⟩)] (by rfl) 1 (by rfl) hr1 (by simp [Value.oneCell']) (by unfold maxLen; omega) (by omega) ?_; intro A2 c2 w2 hv2 hk2 ho2; obtain ⟨o2, M5⟩ := (HP.out.nob kx).sect hv2 hk2 (fun x hx => (ho2 x hx).imp id (fun e => by omega)); have z7 := o2.cell 7; have f7 := o2.frozen 7; simp only [List.getElem?_cons_zero, List.getElem?_cons_succ] at z7))
      all_goals
        have M6 := Lib.hid M5
        clear M5 hv2 hk2 ho2 o2 z7 f7 hv1 hr1 q0 q1 q2 ka kx kS hp SF HP
        go_wp2_with fail
        go_roundw
        case rel => exact ⟨j + 1, A2, c2, _, by omega, by go_num, M6.out⟩
        case measure => simp [intOf]; omega
    · have hlt2 : ¬ ((j : Int) < b.sects.length) := by omega
      obtain ⟨gH, oH, hAH, -⟩ := (HH.out.1.sh).lit (by omega)
      have hcs : ∀ wx, Keep Nob w wx → ∀ (j : Nat) (x : Sh), b.shared[j]? = some x → wx.cell? ⟨gH, oH + j * 5, none⟩ = some (.int .i64 x.ses) ∧ wx.cell? ⟨gH, oH + j * 5 + 1, none⟩ = some (.int .i64 x.frame) ∧ wx.cell? ⟨gH, oH + j * 5 + 2, none⟩ = some (.int .i64 x.lo) ∧ wx.cell? ⟨gH, oH + j * 5 + 3, none⟩ = some (.int .i64 x.n) ∧ wx.cell? ⟨gH, oH + j * 5 + 4, none⟩ = some (.slice x.A x.tos.length x.c) := fun wx kk j x hx => by
        obtain ⟨g2, o2, h2, h3⟩ := (HH.out.1.nob kk).sh.lit (by have := get_lt hx; omega)
        rw [hAH] at h2
        cases h2
        have g0 := h3 _ _ (shares_get hx (j := 0) (by decide))
        have g1 := h3 _ _ (shares_get hx (j := 1) (by decide))
        have g2 := h3 _ _ (shares_get hx (j := 2) (by decide))
        have g3 := h3 _ _ (shares_get hx (j := 3) (by decide))
        have g4 := h3 _ _ (shares_get hx (j := 4) (by decide))
        rw [← Nat.add_assoc] at g1 g2 g3 g4
        rw [Nat.add_zero] at g0
        exact ⟨g0, g1, g2, g3, g4⟩
      obtain ⟨gE, oE, hAE, -⟩ := (HH.out.1.en).lit (by omega)
      have hce : ∀ wx, Keep Nob w wx → ∀ (e : Nat), e < b.envs.length → wx.cell? ⟨gE, oE + e, none⟩ = some (.int .i64 (b.envs.getD e 0)) := fun wx kk e he => by
        obtain ⟨g2, o2, h2, h3⟩ := (HH.out.1.nob kk).en.lit (by omega)
        rw [hAE] at h2
        cases h2
        exact h3 e _ (by rw [ints_get, List.getElem?_eq_getElem he, List.getD_eq_getElem?_getD, List.getElem?_eq_getElem he]; rfl)
      have HCS := Lib.hid (And.intro hcs (And.intro hce (And.intro hAH hAE)))
      clear hcs hce
      have hj0 : Mk w wr b ns kk pq Aq cq gq (fun i => List.replicate (ns.getD i 0) false) R Ag j cg vs ∧ R.xs = zeros f ∧ R.L = (b.shared.take 0).map (spanOf ns) ∧ R.S.n = b.envs.length ∧ R.S.T = tOf (csAt b.envs b.shared 0) := ⟨hP, HR.out.1, HR.out.2.1, HR.out.2.2.1, HR.out.2.2.2.trans init_rows⟩
      have J0 := Lib.hid hj0
      clear hj0 hP HR hAH hAE
      go_wp2_with fail
      clear e2
      go_loopw [5] (fun s5 wx => ∃ (k : Nat) (R : Dr), k ≤ b.shared.length ∧ s5 = .int .i64 k ∧ Mk w wx b ns kk pq Aq cq gq (fun i => List.replicate (ns.getD i 0) false) R Ag j cg vs ∧ R.xs = zeros f ∧ R.L = (b.shared.take k).map (spanOf ns) ∧ R.S.n = b.envs.length ∧ R.S.T = tOf (csAt b.envs b.shared k)) (fun s5 _ => b.shared.length - (intOf s5).toNat)
      case atStart => exact ⟨0, R, Nat.zero_le _, rfl, J0.out⟩
      case round =>
        clear J0
        obtain ⟨k, R, hk, rfl, hP, hx, hL, hn, hT⟩ := hrel
        have e4 := hP.boot.cell 4
        simp only [List.getElem?_cons_zero, List.getElem?_cons_succ] at e4
        by_cases hlt3 : k < b.shared.length
        · rw [HCS.out.2.2.1] at e4
          have hlt4 : (k : Int) < b.shared.length := by omega
          obtain ⟨x, hxs⟩ : ∃ x, b.shared[k]? = some x := ⟨_, List.getElem?_eq_getElem hlt3⟩
          obtain ⟨g0, g1, g2, g3, g4⟩ := HCS.out.1 wr hP.keep k x hxs
          have hxm := List.mem_of_getElem? hxs
          have hok := HH.out.2.sh x hxm
          have hsp := span_in hok
          obtain ⟨a1, a2, a3, a4, a5, a6, a7, a8, a9⟩ := hok
          obtain ⟨i, hi⟩ := Int.eq_ofNat_of_zero_le a1
          rw [hi, Int.toNat_natCast] at a4 a7
          have hin : i < ns.length := by omega
          have hf64 : ns.getD i 0 ≤ 64 := by
            rw [List.getD_eq_getElem?_getD, List.getElem?_eq_getElem hin]
            exact H64.out _ (List.getElem_mem hin)
          have hff := Qu.first_le H64.out i (by omega)
          have hN4 : ns.length ≤ 4 := by rw [HN.out]; exact h4
          obtain ⟨ah, hah⟩ : ∃ ah, Qu.first ns i = ah := ⟨_, rfl⟩
          rw [hah] at hff
          obtain ⟨lo, hlo⟩ : ∃ lo, (spanOf ns x).1 = lo := ⟨_, rfl⟩
          have hlo2 : ((ah : Int) + x.frame) * 64 + x.lo = lo := by rw [← hlo]; unfold spanOf; rw [hi, Int.toNat_natCast, hah]
          have hxl : R.xs.length = 64 * Qu.first ns ns.length := by rw [hx, zeros_len, ← HF.out, HN.out]
          have hLl : R.L.length = k := by rw [hL, List.length_map, List.length_take]; omega
          have hnn : (spanOf ns x).2 = x.n := rfl
          rw [hlo, hnn] at hsp
          have hlx : lo + x.n ≤ R.xs.length := by rw [hxl]; exact_mod_cast hsp.2
          have kA := (Keep.refl Nob wr).alloc (.cells #[.int .i64 i, .int .i64 x.frame, .int .i64 x.lo, .int .i64 x.n, .slice x.A x.tos.length x.c] 230)
          have bS := Blk.new wr 230 [.int .i64 i, .int .i64 x.frame, .int .i64 x.lo, .int .i64 x.n, .slice x.A x.tos.length x.c]
          have hPa := hP.nob kA
          rw [hi] at g0
          have kd := Keep.nobdrew (wr.alloc (.cells #[.int .i64 i, .int .i64 x.frame, .int .i64 x.lo, .int .i64 x.n, .slice x.A x.tos.length x.c] 230))
          have hFst := Qu.first_is (hPa.nob kd).quo i (by omega) ah (by rw [hah])
          have hAdd := radd_is (hPa.nob kd).reg lo x.n ⟨hsp.1, a6, hlx⟩ (by rw [hLl]; omega)
          rw [hLl] at hAdd
          have s0 : (wr.alloc (.cells #[.int .i64 i, .int .i64 x.frame, .int .i64 x.lo, .int .i64 x.n, .slice x.A x.tos.length x.c] 230)).drew.cell? ⟨kk, 5, none⟩ = some (.pointer (some ⟨pq, 0, none⟩)) ∧ (wr.alloc (.cells #[.int .i64 i, .int .i64 x.frame, .int .i64 x.lo, .int .i64 x.n, .slice x.A x.tos.length x.c] 230)).drew.cell? ⟨kk, 6, none⟩ = some (.pointer (some ⟨R.r, 0, none⟩)) := ⟨(hPa.nob kd).obj.cell 5, (hPa.nob kd).obj.cell 6⟩
          have s1 : (wr.alloc (.cells #[.int .i64 i, .int .i64 x.frame, .int .i64 x.lo, .int .i64 x.n, .slice x.A x.tos.length x.c] 230)).drew.cell? ⟨wr.heap.size, 0, none⟩ = some (.int .i64 i) ∧ (wr.alloc (.cells #[.int .i64 i, .int .i64 x.frame, .int .i64 x.lo, .int .i64 x.n, .slice x.A x.tos.length x.c] 230)).drew.cell? ⟨wr.heap.size, 1, none⟩ = some (.int .i64 x.frame) ∧ (wr.alloc (.cells #[.int .i64 i, .int .i64 x.frame, .int .i64 x.lo, .int .i64 x.n, .slice x.A x.tos.length x.c] 230)).drew.cell? ⟨wr.heap.size, 2, none⟩ = some (.int .i64 x.lo) ∧ (wr.alloc (.cells #[.int .i64 i, .int .i64 x.frame, .int .i64 x.lo, .int .i64 x.n, .slice x.A x.tos.length x.c] 230)).drew.cell? ⟨wr.heap.size, 3, none⟩ = some (.int .i64 x.n) := ⟨(bS.nob kd).cell 0, (bS.nob kd).cell 1, (bS.nob kd).cell 2, (bS.nob kd).cell 3⟩
          have hwr : IntKind.i64.wrap (IntKind.i64.wrap (64 * IntKind.i64.wrap ((ah : Int) + x.frame)) + x.lo) = lo := by
            have w1 : IntKind.i64.wrap ((ah : Int) + x.frame) = ah + x.frame := by simp [IntKind.wrap, IntKind.bits, IntKind.signed]; omega
            have w2 : IntKind.i64.wrap (64 * ((ah : Int) + x.frame)) = (ah + x.frame) * 64 := by simp [IntKind.wrap, IntKind.bits, IntKind.signed]; omega
            have w3 : IntKind.i64.wrap (((ah : Int) + x.frame) * 64 + x.lo) = (ah + x.frame) * 64 + x.lo := by simp [IntKind.wrap, IntKind.bits, IntKind.signed]; omega
            rw [w1, w2, w3, hlo2]
          have HW := Lib.hid hwr
          have SS := Lib.hid (And.intro s0 s1)
          have HX := Lib.hid (And.intro (hPa.nob kd) (And.intro (bS.nob kd) (And.intro hxs (And.intro hxm (And.intro hx (And.intro hL (And.intro hn hT)))))))
          have hb9 := a9
          have hn9 : x.n ≤ 65536 := by omega
          have hlk : k < 16 := by omega
          have HO := Lib.hid (And.intro hlo hnn)
          clear hwr hPa bS kA hxs hxm hP hx hL hn hT hxl hLl hlx hsp hlo hlo2 hah hff hf64 hin a1 a2 a4 a7 a8 hi s0 s1 hnn
          go_wp2_with fail
          generalize hW1 : (wr.alloc (.cells #[.int .i64 i, .int .i64 x.frame, .int .i64 x.lo, .int .i64 x.n, .slice x.A x.tos.length x.c] 230)) = W1 at *
          have s0 := SS.out
          go_region_held3 (fun w' => (w'.cell? ⟨kk, 5, none⟩ = some (.pointer (some ⟨pq, 0, none⟩)) ∧ w'.cell? ⟨kk, 6, none⟩ = some (.pointer (some ⟨R.r, 0, none⟩))) ∧ w'.cell? ⟨wr.heap.size, 0, none⟩ = some (.int .i64 i) ∧ w'.cell? ⟨wr.heap.size, 1, none⟩ = some (.int .i64 x.frame) ∧ w'.cell? ⟨wr.heap.size, 2, none⟩ = some (.int .i64 x.lo) ∧ w'.cell? ⟨wr.heap.size, 3, none⟩ = some (.int .i64 x.n))
            (first | exact s0 | exact SP.out)
            (first
              | (go_at_call 162; refine hFst.mono ?_; rintro e wz ⟨rfl, rfl⟩)
              | (go_at_call 165; rw [HW.out]; refine hAdd.mono ?_; rintro e w2 ⟨Al', cl', An', cn', rfl, hAd⟩; have hP2 := HX.out.1.add hAd; have bS2 := HX.out.2.1.keep hAd.keep (fun m => by
                  rcases m with m | m | m
                  · exact HX.out.2.1.ne_ HX.out.1.reg.obj (by decide) m
                  · obtain ⟨cur, hc⟩ := HX.out.1.reg.lo.blk m
                    exact HX.out.2.1.ne_ hc (by decide) rfl
                  · obtain ⟨cur, hc⟩ := HX.out.1.reg.nn.blk m
                    exact HX.out.2.1.ne_ hc (by decide) rfl); have SP := Lib.hid (show (w2.cell? ⟨kk, 5, none⟩ = some (.pointer (some ⟨pq, 0, none⟩)) ∧ w2.cell? ⟨kk, 6, none⟩ = some (.pointer (some ⟨R.r, 0, none⟩))) ∧ w2.cell? ⟨wr.heap.size, 0, none⟩ = some (.int .i64 i) ∧ w2.cell? ⟨wr.heap.size, 1, none⟩ = some (.int .i64 x.frame) ∧ w2.cell? ⟨wr.heap.size, 2, none⟩ = some (.int .i64 x.lo) ∧ w2.cell? ⟨wr.heap.size, 3, none⟩ = some (.int .i64 x.n) from ⟨⟨hP2.obj.cell 5, hP2.obj.cell 6⟩, bS2.cell 0, bS2.cell 1, bS2.cell 2, bS2.cell 3⟩)))
          have eL : R.L ++ [(lo, x.n)] = (b.shared.take (k + 1)).map (spanOf ns) := by
            rw [List.take_add_one, HX.out.2.2.1, List.map_append, HX.out.2.2.2.2.2.1]
            have : spanOf ns x = (lo, x.n) := Prod.ext HO.out.1 HO.out.2
            simp [this]
          have fin0 : ∃ R2 : Dr, Mk w w2 b ns kk pq Aq cq gq (fun i => List.replicate (ns.getD i 0) false) R2 Ag j cg vs ∧ R2.xs = zeros f ∧ R2.L = (b.shared.take (k + 1)).map (spanOf ns) ∧ R2.S.n = b.envs.length ∧ R2.S.T = tOf (gave (csAt b.envs b.shared k) b.envs x.tos ⟨k, 3, 0, x.n, (0, 0)⟩ 0) :=
            ⟨_, hP2, HX.out.2.2.2.2.1, eL, HX.out.2.2.2.2.2.2.1, by rw [gave_zero]; exact HX.out.2.2.2.2.2.2.2⟩
          obtain ⟨R2, hP3⟩ := fin0
          have J1 := Lib.hid (And.intro hP3 bS2)
          have HX2 := Lib.hid (And.intro HX.out.2.2.1 HX.out.2.2.2.1)
          clear hP3 bS2 hP2 hAd eL SP s0 hFst hAdd HX SS HW HO kd hW1
          generalize wr.heap.size = g6 at *
          go_wp2_with fail
          go_loopw [9] (fun s9 wx => ∃ (e : Nat) (R : Dr), e ≤ b.envs.length ∧ s9 = .int .i64 e ∧ (Mk w wx b ns kk pq Aq cq gq (fun i => List.replicate (ns.getD i 0) false) R Ag j cg vs ∧ R.xs = zeros f ∧ R.L = (b.shared.take (k + 1)).map (spanOf ns) ∧ R.S.n = b.envs.length ∧ R.S.T = tOf (gave (csAt b.envs b.shared k) b.envs x.tos ⟨k, 3, 0, x.n, (0, 0)⟩ e)) ∧ Blk wx g6 230 [.int .i64 i, .int .i64 x.frame, .int .i64 x.lo, .int .i64 x.n, .slice x.A x.tos.length x.c]) (fun s9 _ => b.envs.length - (intOf s9).toNat)
          case atStart => exact ⟨0, R2, Nat.zero_le _, rfl, J1.out⟩
          case round =>
            clear J1
            obtain ⟨e, R3, he, rfl, ⟨hP4, hx4, hL4, hn4, hT4⟩, hB4⟩ := hrel
            have e1 := hP4.boot.cell 1
            simp only [List.getElem?_cons_zero, List.getElem?_cons_succ] at e1
            by_cases hlt5 : e < b.envs.length
            · rw [HCS.out.2.2.2] at e1
              have hlt6 : (e : Int) < b.envs.length := by omega
              obtain ⟨ss, hss⟩ : ∃ ss, b.envs.getD e 0 = ss := ⟨_, rfl⟩
              have hc9 := HCS.out.2.1 wr hP4.keep e hlt5
              rw [hss] at hc9
              have hrd := fun n => ((HH.out.1.nob hP4.keep).tos x HX2.out.2).nob ((Keep.refl Nob wr).drewN n)
              have c4 : wr.cell? ⟨g6, 4, none⟩ = some (.slice x.A x.tos.length x.c) := hB4.cell 4
              by_cases hm : ss ∈ x.tos
              · have HIN := Lib.hid (fun n => inq (c := x.c) (hrd n) hb9 true (decide_eq_true hm))
                have hm9 := hm
                rw [← hss] at hm9
                have kq := fun n => ((Keep.refl Nob wr).drewN n).drew
                have hl : (gave (csAt b.envs b.shared k) b.envs x.tos ⟨k, 3, 0, x.n, (0, 0)⟩ e e).length < 32 := by
                  have h1 : gave (csAt b.envs b.shared k) b.envs x.tos ⟨k, 3, 0, x.n, (0, 0)⟩ e e = csAt b.envs b.shared k e := by unfold gave; rw [if_neg (by omega)]
                  rw [h1]
                  have := csAt_len b.envs b.shared k e
                  omega
                have hput := fun n => put_row (hP4.nob (kq n)).reg hT4 e (by rw [hn4]; exact hlt5) hl ⟨k, 3, 0, x.n, (0, 0)⟩ rfl rfl ⟨a6, hn9⟩ rfl
                simp only [cval] at hput
                rw [gave_yes hm9] at hput
                have t0 : ∀ n, (wr.drewN n).drew.cell? ⟨kk, 6, none⟩ = some (.pointer (some ⟨R3.r, 0, none⟩)) ∧ (wr.drewN n).drew.cell? ⟨R3.r, 3, none⟩ = some (.pointer (some ⟨R3.S.s, 0, none⟩)) ∧ (wr.drewN n).drew.cell? ⟨g6, 3, none⟩ = some (.int .i64 x.n) := fun n => ⟨(hP4.nob (kq n)).obj.cell 6, (hP4.nob (kq n)).reg.obj.cell 3, (hB4.nob (kq n)).cell 3⟩
                have HP4 := Lib.hid (fun n => And.intro (hP4.nob (kq n)) (And.intro (hB4.nob (kq n)) (And.intro hx4 (And.intro hL4 hn4))))
                have T0 := Lib.hid t0
                have HPUT := Lib.hid hput
                clear hP4 hB4 hx4 hL4 hT4 hrd hl hm hm9 hn4 hss t0 hput kq
                go_wp2_with fail
                go_quiet (first | (go_at_call 166; (with_reducible_and_instances exact HIN.out _)))
                clear HIN c4 e1 hc9
                go_wp2_with fail
                have t0 := T0.out
                go_region_held3 (fun w' => w'.cell? ⟨kk, 6, none⟩ = some (.pointer (some ⟨R3.r, 0, none⟩)) ∧ w'.cell? ⟨R3.r, 3, none⟩ = some (.pointer (some ⟨R3.S.s, 0, none⟩)) ∧ w'.cell? ⟨g6, 3, none⟩ = some (.int .i64 x.n))
                  (first | exact t0 _ | exact SP.out)
                  (first | (go_at_call 167; refine (HPUT.out _).mono ?_; rintro e9 w3 ⟨v9, rfl, hR5, kP⟩; obtain ⟨hP5, bS5⟩ := put_all (HP4.out _).1 (HP4.out _).2.1 (HP4.out 0).2.2.2.2 hlt5 hR5 kP; have SP := Lib.hid (show w3.cell? ⟨kk, 6, none⟩ = some (.pointer (some ⟨R3.r, 0, none⟩)) ∧ w3.cell? ⟨R3.r, 3, none⟩ = some (.pointer (some ⟨R3.S.s, 0, none⟩)) ∧ w3.cell? ⟨g6, 3, none⟩ = some (.int .i64 x.n) from ⟨hP5.obj.cell 6, hP5.reg.obj.cell 3, bS5.cell 3⟩)))
                have J2 := Lib.hid (And.intro (And.intro hP5 (And.intro (HP4.out 0).2.2.1 (And.intro (HP4.out 0).2.2.2.1 (And.intro (HP4.out 0).2.2.2.2 (show tOf (gave (csAt b.envs b.shared k) b.envs x.tos ⟨k, 3, 0, x.n, (0, 0)⟩ (e + 1)) = tOf (gave (csAt b.envs b.shared k) b.envs x.tos ⟨k, 3, 0, x.n, (0, 0)⟩ (e + 1)) from rfl))))) bS5)
                clear hP5 bS5 SP kP hR5 HP4 t0 T0 HPUT
                go_wp2_with fail
                go_roundw
                case rel => exact ⟨e + 1, _, by omega, by go_num, J2.out⟩
                case measure => simp [intOf]; omega
              · have HIN := Lib.hid (fun n => inq (c := x.c) (hrd n) hb9 false (decide_eq_false hm))
                have hm9 := hm
                rw [← hss] at hm9
                have hT5 := hT4
                rw [gave_no hm9] at hT5
                have J2 := Lib.hid (fun n => And.intro (And.intro (hP4.nob ((Keep.refl Nob wr).drewN n)) (And.intro hx4 (And.intro hL4 (And.intro hn4 hT5)))) (hB4.nob ((Keep.refl Nob wr).drewN n)))
                clear hP4 hB4 hx4 hL4 hT4 hrd hT5 hm hm9 hn4 hss
                go_wp2_with fail
                go_quiet (first | (go_at_call 166; (with_reducible_and_instances exact HIN.out _)))
                clear HIN c4 e1 hc9
                go_wp2_with fail
                go_roundw
                case rel => exact ⟨e + 1, R3, by omega, by go_num, J2.out _⟩
                case measure => simp [intOf]; omega
            · have hlt6 : ¬ ((e : Int) < b.envs.length) := by omega
              have ee : e = b.envs.length := by omega
              have hT6 : R3.S.T = tOf (csAt b.envs b.shared (k + 1)) := by rw [csAt_next HX2.out.1, ← ee]; exact hT4
              have J3 := Lib.hid (And.intro hP4 (And.intro hx4 (And.intro hL4 (And.intro hn4 hT6))))
              clear hP4 hx4 hL4 hn4 hT4 hT6 hB4
              go_wp2_with fail
              go_roundw
              case rel => exact ⟨k + 1, R3, by omega, by go_num, J3.out⟩
              case measure => simp [intOf]; omega
        · have hlt4 : ¬ ((k : Int) < b.shared.length) := by omega
          have ek : k = b.shared.length := by omega
          have FI := Lib.hid (And.intro hP (And.intro hx (And.intro hL (And.intro hn hT))))
          clear hP hx hL hn hT
          go_wp2
          go_ret
          refine ⟨kk, rfl, pq, Aq, cq, gq, _, R, ⟨Ag, j, cg, vs, FI.out.1⟩, ?_, ?_, FI.out.2.2.2.1, ?_⟩
          · rw [FI.out.2.1, ← HF.out, HN.out]
          · rw [FI.out.2.2.1, ek, List.take_of_length_le (Nat.le_refl _)]
          · rw [FI.out.2.2.2.2, ek]
end
end Go.Proofs.YtgcikpgcoemfnaaGreat.Dk
namespace Go.Proofs.YtgcikpgcoemfnaaGreat.Dk
open Go.RowKit
set_option linter.unusedVariables false
set_option linter.unusedSimpArgs false
/-- A kernel of the document. -/
structure IsKd (w : World) (b : Bt) (k pq : Nat) (R : Dr) (Ag : Option Addr) (ng cg : Nat) : Prop where
  obj : Blk w k 171 [.slice b.Af b.frames.length b.cf, .slice b.Ae b.envs.length b.ce, .slice b.As b.sects.length b.cs, .int .i64 b.lease, .slice b.Ah b.shared.length b.ch, .pointer (some ⟨pq, 0, none⟩), .pointer (some ⟨R.r, 0, none⟩), .slice Ag ng cg, .int .i64 0]
  reg : IsDr w R
section
variable {w w' : World} {b : Bt} {k pq : Nat} {R : Dr} {Ag : Option Addr} {ng cg : Nat}
theorem IsKd.nob (h : IsKd w b k pq R Ag ng cg) (kk : Keep Nob w w') : IsKd w' b k pq R Ag ng cg := ⟨h.obj.nob kk, h.reg.nob kk⟩
set_option maxRecDepth 100000 in
set_option maxHeartbeats 8000000 in
theorem kdo_write (h : IsKd w b k pq R Ag ng cg) (e : Nat) (he : e < b.envs.length) (cap at_ n to_ on : Int) (A : Option Addr) (m c : Nat) (l : List UInt8) (hl : Reads w A m (bytes l)) (hA : 0 < m → ∀ ad, A = some ad → ad.block ≠ R.m) (er : Int) (R' : Dr) (hr : R'.r = R.r)
    (hcall : ∀ W, Keep Nob w W → Calls Tryz.prog 91 #[.pointer (some ⟨R.r, 0, none⟩), .int .i64 e, .int .i64 cap, .int .i64 at_, .string (str l)] W fun e w' => e = .returned (.int .i64 er) ∧ IsDr w' R' ∧ Keep (· = R.m) W w') :
    Calls Tryz.prog 31 #[.pointer (some ⟨k, 0, none⟩), .int .i64 e, Calc 2 cap at_ n to_ on A m c] w fun e' w' => e' = .returned (.tuple #[.int .i64 er, .int .i64 0, .string (str [])]) ∧ IsKd w' b k pq R' Ag ng cg ∧ Keep (· = R.m) w w' := by
  have k1 := (Keep.refl Nob w).alloc (.cells #[.int .i64 2, .int .i64 cap, .int .i64 at_, .int .i64 n, .int .i64 to_, .int .i64 on, .slice A m c] 79)
  have b1 : Blk (w.alloc (.cells #[.int .i64 2, .int .i64 cap, .int .i64 at_, .int .i64 n, .int .i64 to_, .int .i64 on, .slice A m c] 79)) w.heap.size 79 [.int .i64 2, .int .i64 cap, .int .i64 at_, .int .i64 n, .int .i64 to_, .int .i64 on, .slice A m c] := Blk.new w 79 _
  have h1 := h.nob k1
  have c1 := h1.obj.cell 1
  have l0 := b1.cell 0
  simp only [List.getElem?_cons_zero, List.getElem?_cons_succ] at c1 l0
  have sf : ∀ W, Keep (· = R.m) (w.alloc (.cells #[.int .i64 2, .int .i64 cap, .int .i64 at_, .int .i64 n, .int .i64 to_, .int .i64 on, .slice A m c] 79)) W → (W.cell? ⟨k, 6, none⟩ = some (.pointer (some ⟨R.r, 0, none⟩)) ∧ W.cell? ⟨w.heap.size, 1, none⟩ = some (.int .i64 cap) ∧ W.cell? ⟨w.heap.size, 2, none⟩ = some (.int .i64 at_) ∧ W.cell? ⟨w.heap.size, 6, none⟩ = some (.slice A m c) ∧ (convert 28 9 (.slice A m c)).run Tryz.prog W = .ok (.string (str l)) W) ∧ Blk W k 171 [.slice b.Af b.frames.length b.cf, .slice b.Ae b.envs.length b.ce, .slice b.As b.sects.length b.cs, .int .i64 b.lease, .slice b.Ah b.shared.length b.ch, .pointer (some ⟨pq, 0, none⟩), .pointer (some ⟨R.r, 0, none⟩), .slice Ag ng cg, .int .i64 0] := fun W kk => by
    have o1 := h1.obj.keep kk (h1.obj.ne_ h1.reg.mem (by decide))
    have o2 := b1.keep kk (b1.ne_ h1.reg.mem (by decide))
    have hlW : Reads W A m (bytes l) := by
      by_cases h0 : 0 < m
      · exact (hl.nob k1).keep kk (hA h0)
      · exact ⟨hl.1, fun h1 => absurd h1 h0⟩
    exact ⟨⟨o1.cell 6, o2.cell 1, o2.cell 2, o2.cell 6, run_str (P := Tryz.prog) W 28 9 5 A m c l Tryz.underlying28 Tryz.underlying5 Tryz.underlying9 hlW⟩, o1⟩
  have kd := Keep.nobdrew (w.alloc (.cells #[.int .i64 2, .int .i64 cap, .int .i64 at_, .int .i64 n, .int .i64 to_, .int .i64 on, .slice A m c] 79))
  have kM : Keep (· = R.m) (w.alloc (.cells #[.int .i64 2, .int .i64 cap, .int .i64 at_, .int .i64 n, .int .i64 to_, .int .i64 on, .slice A m c] 79)) (w.alloc (.cells #[.int .i64 2, .int .i64 cap, .int .i64 at_, .int .i64 n, .int .i64 to_, .int .i64 on, .slice A m c] 79)).drew := kd.mono (fun _ _ f => f.elim)
  have s0 := (sf _ kM).1
  have hcl := hcall _ (k1.nobt kd)
  have he1 : ¬ ((e : Int) < 0) := by omega
  have he2 : ¬ ((b.envs.length : Int) ≤ e) := by omega
  have K1 := Lib.hid k1
  have SF := Lib.hid sf
  clear h h1 b1 k1 hcall sf hl hA
  unfold Calc
  go_enter Tryz.func31, Tryz.ntmps31
  go_wp2_with fail
  go_region_held3 (fun w' => w'.cell? ⟨k, 6, none⟩ = some (.pointer (some ⟨R.r, 0, none⟩)) ∧ w'.cell? ⟨w.heap.size, 1, none⟩ = some (.int .i64 cap) ∧ w'.cell? ⟨w.heap.size, 2, none⟩ = some (.int .i64 at_) ∧ w'.cell? ⟨w.heap.size, 6, none⟩ = some (.slice A m c) ∧ (convert 28 9 (.slice A m c)).run Tryz.prog w' = .ok (.string (str l)) w')
    (first | exact s0 | exact (SF.out _ (kM.trans k2 (fun _ _ m => m))).1)
    (first | (go_at_call 91; refine hcl.mono ?_; rintro e9 w2 ⟨rfl, hR2, k2⟩))
  have KK := Lib.hid (show IsKd w2 b k pq R' Ag ng cg ∧ Keep (· = R.m) w w2 from ⟨⟨by rw [hr]; exact (SF.out _ (kM.trans k2 (fun _ _ m => m))).2, hR2⟩, (((K1.out.mono (fun _ _ f => f.elim)).trans kM (fun _ _ m => m))).trans k2 (fun _ _ m => m)⟩)
  clear k2 hcl s0 kd kM c1 l0 hR2
  go_wp2
  go_ret3
  exact ⟨rfl, KK.out⟩
end
end Go.Proofs.YtgcikpgcoemfnaaGreat.Dk
