/- Texts AudO, AudP, packed. -/
import Derived.Laws.IdiomCopy
import Derived.Lib.LazyBuf
import Derived.Deep.RegionHeld3
import Derived.Test.YtngchjejmnfanaaGreatPu0
import Derived.Test.YtngchjejmnfanaaGreatPu2
import Derived.Test.YtngchjejmnfanaaGreatPu3
import Derived.Test.YtngchjejmnfanaaGreatPu4
import Derived.Test.YtngchjejmnfanaaGreatPu5
import Derived.Test.YtngchjejmnfanaaGreatPu8
import Derived.Test.YtngchjejmnfanaaGreatPu13
import Derived.Test.YtngchjejmnfanaaGreatPu16
import Derived.Test.YtngchjejmnfanaaGreatPu19
import Derived.Test.YtngchjejmnfanaaGreatPu20
import Derived.Test.YtngchjejmnfanaaGreatPu1
import Derived.Test.YtngchjejmnfanaaGreatPu7
import Derived.Test.YtngchjejmnfanaaGreatPu12
import Derived.Test.YtngchjejmnfanaaGreatPu22
import Derived.Test.YtngchjejmnfanaaGreatPu23
import Derived.Test.YtngchjejmnfanaaGreatPu15
import Derived.Test.YtngchjejmnfanaaGreatPu14
import Derived.Test.YtngchjejmnfanaaGreatPu17
import Derived.Test.YtngchjejmnfanaaGreatPu18
import Derived.Test.YtngchjejmnfanaaGreatPu25
import Derived.Test.YtngchjejmnfanaaGreatPu24
import Derived.Test.YtngchjejmnfanaaGreatPu21
import Derived.Test.YtngchjejmnfanaaGreatPu9
import Derived.Test.YtngchjejmnfanaaGreatPu26
import Derived.Test.YtngchjejmnfanaaGreatPu10
import Derived.Test.YtngchjejmnfanaaGreatPu27
import Derived.Test.YtngchjejmnfanaaGreatPu6
import Derived.Test.YtngchjejmnfanaaGreatPu11
namespace Go.Proofs.YtngchjejmnfanaaGreat.Au
open Go.RowKit Co
set_option linter.unusedVariables false
set_option linter.unusedSimpArgs false
/-- 492 bytes in a row that a conversion has made. -/
structure CRow (w : World) (g : Nat) (b : List UInt8) : Prop where
  len : b.length = 492
  at_ : ∀ j, j < 492 → w.cell? ⟨g, j, none⟩ = some (.int .u8 ((b.getD j 0).toNat : Int))
  fr : ∀ j, j < 492 → w.frozen? ⟨g, j, none⟩ = false
section
variable {w w' : World} {g : Nat} {b : List UInt8} {M : Nat → Prop}
theorem CRow.lt (h : CRow w g b) : g < w.heap.size := block_lt_of_cell (h.at_ 0 (by decide))
theorem CRow.keep (h : CRow w g b) (k : Keep M w w') (hm : ¬ M g) : CRow w' g b := by
  have e : w'.heap[g]? = w.heap[g]? := k.block g h.lt hm
  refine ⟨h.len, fun j hj => ?_, fun j hj => ?_⟩
  · rw [← h.at_ j hj]; simp only [World.cell?, e]
  · rw [← h.fr j hj]; simp only [World.frozen?, e]
theorem CRow.nob (h : CRow w g b) (k : Keep Nob w w') : CRow w' g b := h.keep k (fun f => f)
theorem CRow.reads (h : CRow w g b) : Reads w (some ⟨g, 0, none⟩) 492 (bytes b) := reads_of h.len h.at_
theorem CRow.set (h : CRow w g b) {k : Nat} (hk : k < 492) (x : UInt8) : CRow (w.setCell ⟨g, k, none⟩ (.int .u8 (x.toNat : Int))) g (b.set k x) := by
  refine ⟨by rw [List.length_set]; exact h.len, fun j hj => ?_, fun j hj => ?_⟩
  · by_cases e : k = j
    · subst e
      rw [World.cell?_setCell_same _ _ _ (h.at_ k hj), List.getD_eq_getElem?_getD, List.getElem?_set_self (by rw [h.len]; exact hj)]; rfl
    · rw [World.cell?_setCell_other _ _ _ _ (by intro hh; cases hh; exact e rfl), h.at_ j hj, List.getD_eq_getElem?_getD, List.getD_eq_getElem?_getD, List.getElem?_set_ne e]
  · rw [World.frozen?_setCell]; exact h.fr j hj
theorem CRow.sets {g : Nat} : ∀ (l : List UInt8) (o : Nat) (w : World) (b : List UInt8), CRow w g b → o + l.length ≤ 492 → ∃ b', CRow (w.setCells g o (bytes l)) g b'
  | [], _, _, b, h, _ => ⟨b, h⟩
  | x :: l, o, w, b, h, hl => by
    simp only [List.length_cons] at hl
    exact CRow.sets l (o + 1) _ _ (h.set (k := o) (by omega) x) (by omega)
theorem szB (w : World) : (Go.sizeOf 5).run Tryz.prog w = .ok 1 w := run_sizeOf' w 5 1 Tryz.size5
/-- copy(b[at:], s), s a string that fits. -/
theorem crow_cps (h : CRow w g b) (l : List UInt8) {at_ dCap : Nat} (hfit : at_ + l.length ≤ 492) :
    ∃ w2 b2, (∀ ty, (Builtin.copy_ #[36, 9] ty #[.slice (some ⟨g, at_, none⟩) (492 - at_) dCap, .string (str l)]).run Tryz.prog w = .ok (goInt l.length) w2) ∧ CRow w2 g b2 ∧ Keep (· = g) w w2 := by
  obtain ⟨b2, h2⟩ := CRow.sets l at_ w b h hfit
  have hsz := str_size l
  refine ⟨_, b2, fun ty => ?_, h2, Keep.setCells (bytes l) at_ w (Keep.refl _ w) (fun _ => rfl)⟩
  have hrun := Go.run_copy_string (P := Tryz.prog) w 36 9 ty 5 g at_ (492 - at_) dCap (str l) Tryz.underlying36 szB (by rw [hsz]; omega) (fun j hj => by rw [h.at_ _ (by rw [hsz] at hj; omega)]; rfl) (fun j hj => h.fr _ (by rw [hsz] at hj; omega))
  rw [hsz] at hrun
  exact hrun
/-- copy(b[at:], x), x whatever bytes. -/
theorem crow_cp (h : CRow w g b) {A : Option Addr} {n c : Nat} {l : List UInt8} (hr : Reads w A n (bytes l)) {at_ dCap : Nat} (ha : at_ < 492) :
    ∃ w2 b2, (∀ ty, (Builtin.copy_ #[36, 36] ty #[.slice (some ⟨g, at_, none⟩) (492 - at_) dCap, .slice A n c]).run Tryz.prog w = .ok (goInt (Nat.min n (492 - at_))) w2) ∧ CRow w2 g b2 ∧ Keep (· = g) w w2 := by
  have hln : l.length = n := by have := hr.1; simpa using this
  by_cases h0 : Nat.min n (492 - at_) = 0
  · refine ⟨w, b, fun ty => ?_, h, Keep.refl _ _⟩
    rw [h0]
    exact run_copy_none w 36 36 ty 5 _ A (492 - at_) dCap n c Tryz.underlying36 Tryz.size5 h0
  · have hn : 0 < n := by rcases Nat.eq_zero_or_pos n with e | e; · subst e; simp at h0
                          · exact e
    obtain ⟨ad, rfl, hc⟩ := hr.2 hn
    have hl : (l.take (492 - at_)).length = Nat.min n (492 - at_) := by rw [List.length_take, hln]; exact Nat.min_comm _ _
    have hm : Nat.min n (492 - at_) ≤ 492 - at_ := Nat.min_le_right _ _
    obtain ⟨b2, h2⟩ := CRow.sets (l.take (492 - at_)) at_ w b h (by rw [hl]; omega)
    refine ⟨_, b2, fun ty => ?_, h2, Keep.setCells (bytes (l.take (492 - at_))) at_ w (Keep.refl _ w) (fun _ => rfl)⟩
    have hrun := run_copy_cells (P := Tryz.prog) w 36 36 ty 5 g at_ (492 - at_) dCap ad n c (bytes (l.take (492 - at_))) Tryz.underlying36 Tryz.size5 (by rw [bytes_length, hl])
      (fun j v hj => hc j v (by rw [bytes_take, List.getElem?_take] at hj; split at hj; · exact hj
                                · cases hj)) (fun j hj => by rw [h.at_ _ (by rw [bytes_length, hl] at hj; omega)]; rfl) (fun j hj => h.fr _ (by rw [bytes_length, hl] at hj; omega)) (bytes_one _)
    rw [bytes_length, hl] at hrun
    exact hrun
theorem exec_cut5 {ρ : Operand → Value} {o : Oper} {x lo : Operand} {w : World} (ho : o.op = .slice 36 x (some lo) none none) (g cap l : Nat) (hx : ρ x = .slice (some ⟨g, 0, none⟩) 492 cap) (hlo : ρ lo = .int .i64 (l : Int)) (hl : l < 492) (hc : 492 ≤ cap) :
    (execOp ρ o).run Tryz.prog w = .ok (.value (.slice (some ⟨g, l, none⟩) (492 - l) (cap - l))) w := by
  have hu := Tryz.underlying36
  have hel : Tryz.prog.elem 36 = 5 := by simp [Program.elem, hu]
  have hu' : Tryz.prog.underlying 36 = some (.slice (Tryz.prog.elem 36)) := by rw [hel]; exact hu
  have hrun := run_slice_l (P := Tryz.prog) w 36 (some ⟨g, 0, none⟩) 492 cap hu' .i64 (l : Int) (by omega) (by omega)
  rw [hel, run_sizeOf' w 5 1 Tryz.size5] at hrun
  simp only [Result.andThen, sliced, Int.toNat_natCast, Nat.mul_one] at hrun
  have hr2 := run_sliceAt_slice (P := Tryz.prog) w 36 (.slice (some ⟨g, 0, none⟩) 492 cap) (some (.int .i64 l)) none none hu'
  rw [hrun] at hr2
  have hne : ¬ (cap = l) := by omega
  simp only [execOp, ho, hx, hlo, Option.map_some, Option.map_none]
  simp [hr2, Result.andThen, hne, add_lit]
end
/-- What an element of the argument is. -/
def RTy : Ty := .pair (.int .i64) (.pair (.int .i64) (.pair (.int .i64) (.pair (.sl 8 (.int .i64)) (.pair (.sl 1 .byte) .unit))))
theorem holds_ints16 {w : World} {A : Option Addr} {n c : Nat} {xs : List Int} (h : Holds w (.sl 8 (.int .i64)) xs [.slice A n c]) : Reads w A n (ints xs) := by
  have hl := (holds_len h).1
  have hl' : List.length (α := Int) xs = n := hl
  refine ⟨by rw [ints_len]; exact hl', fun h0 => ?_⟩
  obtain ⟨b0, off0, _, hA, _⟩ := holds_at (e := .int .i64) h (by decide) h0
  refine ⟨_, hA, fun j u hu => ?_⟩
  have hj : j < n := by have := get_lt hu; rw [ints_len] at this; omega
  obtain ⟨b, off, cs', hA', hcl, hcc, hk', hh⟩ := holds_at (e := .int .i64) h (by decide) hj
  rw [hA] at hA'
  cases hA'
  obtain ⟨hh, _⟩ := hh
  rw [ints_get] at hu
  have he : xs[j]? = some (xs.get ⟨j, hk'⟩) := List.getElem?_eq_getElem hk'
  rw [he] at hu
  have := hcc 0 u (by rw [hh]; exact hu)
  rw [add_lit]
  simpa [Ty.size] using this
theorem op16_at {w : World} {A : Option Addr} {n c : Nat} {xs : Ty.den (.sl 72 RTy)} (h : Holds w (.sl 72 RTy) xs [.slice A n c]) {k : Nat} (hk : k < n) :
    ∃ bb off o0 o1 o2 L lm cL ls B m cB l, A = some ⟨bb, off, none⟩ ∧ (∀ w', Keep (From w.heap.size) w w' → w'.cell? ⟨bb, off + k * 5, none⟩ = some (.int .i64 o0) ∧ w'.cell? ⟨bb, off + k * 5 + 1, none⟩ = some (.int .i64 o1) ∧ w'.cell? ⟨bb, off + k * 5 + 2, none⟩ = some (.int .i64 o2) ∧ w'.cell? ⟨bb, off + k * 5 + 3, none⟩ = some (.slice L lm cL) ∧ w'.cell? ⟨bb, off + k * 5 + 4, none⟩ = some (.slice B m cB) ∧ Reads w' L lm (ints ls) ∧ Reads w' B m (bytes l)) ∧ lm ≤ 9000000000000000000 := by
  obtain ⟨bb, off, cs', rfl, hcl, hcc, hk', hh⟩ := holds_at (e := RTy) h (by decide) hk
  generalize xs.get ⟨k, hk'⟩ = x at hh
  obtain ⟨o0, o1, o2, ls, l, u⟩ := x
  obtain ⟨c0, r0, e0, ⟨h0, f0⟩, ⟨c1, r1, e1, ⟨h1, f1⟩, ⟨c2, r2, e2, ⟨h2, f2⟩, ⟨c3, r3, e3, hL, ⟨c4, r4, e4, hB, t⟩⟩⟩⟩⟩ := hh
  have t : r4 = [] := t
  have hL' := hL
  have hB' := hB
  obtain ⟨L, cL, heqL, hl1, hl2, hl3, -⟩ := hL'
  obtain ⟨B, cB, heqB, -⟩ := hB'
  subst heqL
  subst heqB
  have hrB := holds_bytes hB
  have hrL := holds_ints16 hL
  subst t
  simp only at h0 h1 h2
  rw [e4] at e3
  rw [e3] at e2
  rw [e2, h2] at e1
  rw [e1, h1] at e0
  rw [h0] at e0
  subst e0
  have g0 := hcc 0 _ rfl
  have g1 := hcc 1 _ rfl
  have g2 := hcc 2 _ rfl
  have g3 := hcc 3 _ rfl
  have g4 := hcc 4 _ rfl
  simp only [show RTy.size = 5 from rfl, Nat.add_zero] at g0 g1 g2 g3 g4
  exact ⟨bb, off, o0, o1, o2, L, _, cL, ls, B, _, cB, l, rfl, fun w' K => ⟨K.cell_from g0, K.cell_from g1, K.cell_from g2, K.cell_from g3, K.cell_from g4, hrL.from_ K, hrB.2.1.from_ K⟩, by simp only at hl1; omega⟩
end Go.Proofs.YtngchjejmnfanaaGreat.Au
namespace Go.Proofs.YtngchjejmnfanaaGreat.Au
open Go.RowKit Co
set_option linter.unusedVariables false
set_option linter.unusedSimpArgs false
structure By (w0 w : World) (g : Nat) : Prop where
  row : ∃ b, CRow w g b
  lo : w0.heap.size ≤ g
  keep : Keep (From w0.heap.size) w0 w
theorem By.nob {w0 w w' : World} {g : Nat} (h : By w0 w g) (k : Keep Nob w w') : By w0 w' g := by
  obtain ⟨b, hb⟩ := h.row
  exact ⟨⟨b, hb.nob k⟩, h.lo, h.keep.nob k⟩
set_option maxRecDepth 100000 in
set_option maxHeartbeats 16000000 in
theorem bytes_is {w : World} (A : Option Addr) (n c : Nat) (xs : Ty.den (.sl 72 RTy)) (h : Holds w (.sl 72 RTy) xs [.slice A n c]) :
    Calls Tryz.prog 24 #[.slice A n c] w fun e w' => ∃ g cp b, e = .returned (.slice (some ⟨g, 0, none⟩) 492 cp) ∧ b.length = 492 ∧ Reads w' (some ⟨g, 0, none⟩) 492 (bytes b) ∧ w.heap.size ≤ g ∧ Keep (From w.heap.size) w w' := by
  have HH := Lib.hid (fun k (hk : k < n) => op16_at h hk)
  have hn64 : n ≤ 9000000000000000000 := by
    have := (holds_len h).2
    have h2 := maxLen
    omega
  have hbl := Pn.rblank_is w
  clear h
  go_enter Tryz.func24, Tryz.ntmps24
  go_wp2_with fail
  refine hbl.mono ?_; rintro e w1 ⟨rfl, k1⟩
  have HBL := Lib.hid Pn.blank_len
  obtain ⟨bb0, hbb0⟩ : ∃ x, Pn.blankB = x := ⟨_, rfl⟩
  rw [hbb0] at HBL ⊢
  clear hbl hbb0
  go_upto_region 1 with (refine wpList_sb rfl _ rfl bb0 rfl ?_; intro w2 c2 hcl hfr k2 hc2)
  rw [HBL.out] at hcl hfr hc2 ⊢
  have HY := Lib.hid (show By w w2 w1.heap.size from ⟨⟨bb0, HBL.out, hcl, hfr⟩, k1.size, (k1.mono (fun _ _ f => f.elim) : Keep (From w.heap.size) w w1).nob k2⟩)
  generalize w1.heap.size = g at *
  have HC := Lib.hid hc2
  clear hcl hfr k2 hc2 k1
  go_wp2_with fail
  go_loopw [4, 5] (fun s4 s5 wx => ∃ k : Nat, k ≤ n ∧ s4 = .int .i64 k ∧ Hid (By w wx g)) (fun s4 _ _ => n - (intOf s4).toNat)
  case atStart => exact ⟨0, Nat.zero_le _, rfl, HY⟩
  case round =>
    clear HY
    obtain ⟨k, hk, rfl, HY⟩ := hrel
    obtain ⟨bo, hbo⟩ : ∃ bo, bo = decide (k < n ∧ k < 20) := ⟨_, rfl⟩
    have Hbo := Lib.hid hbo
    clear hbo
    go_upto_region 3 with fail
    go_cut [15] from 8 to 15 (fun s15 wx => s15 = .bool bo ∧ wx = wr)
    case first =>
      by_cases h1 : k < n
      · by_cases h2 : k < 20
        · have h3 : decide (k < n ∧ k < 20) = true := by simp [h1, h2]
          go_wp2_with fail
          go_meet
          exact ⟨by (try rw [Hbo.out, h3]); (first | rfl | exact congrArg Value.bool (decide_eq_true (by omega)) | exact congrArg Value.bool (decide_eq_false (by omega)) | skip), rfl⟩
        · have h3 : decide (k < n ∧ k < 20) = false := by simp [h2]
          go_wp2_with fail
          go_meet
          exact ⟨by (try rw [Hbo.out, h3]); (first | rfl | exact congrArg Value.bool (decide_eq_true (by omega)) | exact congrArg Value.bool (decide_eq_false (by omega)) | skip), rfl⟩
      · have h3 : decide (k < n ∧ k < 20) = false := by simp [h1]
        go_wp2_with fail
        go_meet
        exact ⟨by (try rw [Hbo.out, h3]); (first | rfl | exact congrArg Value.bool (decide_eq_true (by omega)) | exact congrArg Value.bool (decide_eq_false (by omega)) | skip), rfl⟩
    case rest =>
    obtain ⟨rfl, hw⟩ := hcut
    have hw := hw.symm
    subst hw
    cases bo with
    | false =>
      go_wp2
      go_ret
      obtain ⟨b, hb⟩ := HY.out.row
      exact ⟨g, ⟨c2, rfl⟩, b, hb.len, hb.reads, HY.out.lo, HY.out.keep⟩
    | true =>
      have hbo := of_decide_eq_true Hbo.out.symm
      have hkn := hbo.1
      obtain ⟨bb, off, o0, o1, o2, L, lm, cL, ls, B, m, cB, l, hA, hat, hlm⟩ := HH.out k hkn
      subst hA
      obtain ⟨d0, d1, d2, d3, d4, rL, rB⟩ := hat wr HY.out.keep
      have k3 := (Keep.refl Nob wr).alloc (.cells #[.int .i64 o0, .int .i64 o1, .int .i64 o2, .slice L lm cL, .slice B m cB] 163)
      have HRd := Lib.hid (And.intro (rL.nob k3) (rB.nob k3))
      have HY3 := Lib.hid (HY.out.nob k3)
      have b3 := Blk.new wr 163 [.int .i64 o0, .int .i64 o1, .int .i64 o2, .slice L lm cL, .slice B m cB]
      have H3 := Lib.hid (show ∀ W, Keep Nob (wr.alloc (.cells #[.int .i64 o0, .int .i64 o1, .int .i64 o2, .slice L lm cL, .slice B m cB] 163)) W → W.cell? ⟨wr.heap.size, 0, none⟩ = some (.int .i64 o0) ∧ W.cell? ⟨wr.heap.size, 1, none⟩ = some (.int .i64 o1) ∧ W.cell? ⟨wr.heap.size, 2, none⟩ = some (.int .i64 o2) ∧ W.cell? ⟨wr.heap.size, 3, none⟩ = some (.slice L lm cL) ∧ W.cell? ⟨wr.heap.size, 4, none⟩ = some (.slice B m cB) from fun W kk =>
        ⟨(b3.nob kk).cell 0, (b3.nob kk).cell 1, (b3.nob kk).cell 2, (b3.nob kk).cell 3, (b3.nob kk).cell 4⟩)
      have HLm := Lib.hid hlm
      have HNe := Lib.hid (show ¬ (wr.heap.size = g) from fun e => by obtain ⟨bz, hbz⟩ := HY.out.row; have := hbz.lt; omega)
      clear hat rL rB k3 b3 hbo Hbo hlm
      go_upto_region 6 with fail
      generalize wr.alloc (.cells #[.int .i64 o0, .int .i64 o1, .int .i64 o2, .slice L lm cL, .slice B m cB] 163) = w3 at *
      generalize wr.heap.size = q at *
      clear d0 d1 d2 d3 d4 HY
      have c0 := (H3.out w3 (Keep.refl Nob w3)).1
      have hQg := fun (W W2 : World) (hb : True) (hs : W.cell? ⟨q, 1, none⟩ = some (.int .i64 o1) ∧ W.cell? ⟨q, 2, none⟩ = some (.int .i64 o2) ∧ W.cell? ⟨q, 3, none⟩ = some (.slice L lm cL) ∧ W.cell? ⟨q, 4, none⟩ = some (.slice B m cB)) (hk : Keep (· = g) W W2) => show W2.cell? ⟨q, 1, none⟩ = some (.int .i64 o1) ∧ W2.cell? ⟨q, 2, none⟩ = some (.int .i64 o2) ∧ W2.cell? ⟨q, 3, none⟩ = some (.slice L lm cL) ∧ W2.cell? ⟨q, 4, none⟩ = some (.slice B m cB) from
        have f : ∀ j v, W.cell? ⟨q, j, none⟩ = some v → W2.cell? ⟨q, j, none⟩ = some v := fun j v hv => by rw [← hv]; exact World.cell?_of_block (w := W) (hk.block _ (block_lt_of_cell hv) (fun e => HNe.out e))
        ⟨f _ _ hs.1, f _ _ hs.2.1, f _ _ hs.2.2.1, f _ _ hs.2.2.2⟩
      have HQg := Lib.hid hQg
      clear hQg
      rcases (show o0 = 0 ∨ (¬ (o0 = 0) ∧ o0 = 1) ∨ (¬ (o0 = 0) ∧ ¬ (o0 = 1) ∧ o0 = 2) ∨ (¬ (o0 = 0) ∧ ¬ (o0 = 1) ∧ ¬ (o0 = 2)) by omega) with e0 | ⟨e0, e1⟩ | ⟨e0, e1, e2⟩ | ⟨e0, e1, e2⟩
      · have z0 : (o0 == 0) = true := by simp [e0]
        clear e0
        obtain ⟨qi, hq8, hqi⟩ : ∃ x : Nat, x < 8 ∧ o1 % 8 = (x : Int) := ⟨(o1 % 8).toNat, by omega, by omega⟩
        obtain ⟨at_, hat_⟩ : ∃ x : Nat, x = 24 * qi := ⟨_, rfl⟩
        have h4 : 24 * (qi : Int) = (at_ : Int) := by omega
        have h5 : IntKind.i64.wrap (at_ : Int) = (at_ : Int) := by simp [IntKind.wrap, IntKind.bits, IntKind.signed]; omega
        have hat : at_ < 492 := by omega
        have hat2 : at_ + 24 ≤ 492 := by omega
        clear hat_
        obtain ⟨R, hR⟩ : ∃ x, Cd.made ls = x := ⟨_, rfl⟩
        have hcP := fun W (kk : Keep Nob w3 W) => Cd.made_is L lm cL ls W (HRd.out.1.nob kk) HLm.out R hR
        have hcB := fun W => Cd.procbytes_is R (by rw [← hR]; exact Cd.made_len ls) (by rw [← hR]; exact Cd.made_ok ls) W
        unfold Cd.pv at hcP hcB
        have HcP := Lib.hid hcP
        have HcB := Lib.hid hcB
        have HRl := Lib.hid (show (Cd.enc R).length = 24 by rw [← hR]; exact Cd.enc_len (Cd.made_len ls))
        clear hcP hcB hR
        go_upto_region 9 with fail
        have kd := Lib.hid (Keep.nobdrew w3)
        have s0 := (H3.out _ kd.out).2
        refine wp_region_held_drew (S := (fun W => W.cell? ⟨q, 1, none⟩ = some (.int .i64 o1) ∧ W.cell? ⟨q, 2, none⟩ = some (.int .i64 o2) ∧ W.cell? ⟨q, 3, none⟩ = some (.slice L lm cL) ∧ W.cell? ⟨q, 4, none⟩ = some (.slice B m cB))) (by kernel_rfl) s0 (fun hHeld => ?_)
        refine wpAnyH_take (i := 0) (v := ?_) rfl (by kernel_rfl) (by kernel_rfl) (by kernel_rfl) (fun _ _ _ h => h) (Or.inl ⟨by rfl, ?_⟩) (by assumption) ?_
        rotate_left
        · (intro w hSw; (try dsimp only at hSw); obtain ⟨s1, s2, s3, s4⟩ := hSw; go_simp; try with_reducible rfl)
        try simp only [Act.put, List.getElem_toArray, List.getElem_cons_zero, List.getElem_cons_succ, List.setIfInBounds_toArray, List.set_cons_zero, List.set_cons_succ]
        refine wpAnyH_take (i := 1) (v := ?_) rfl (by kernel_rfl) (by kernel_rfl) (by kernel_rfl) (fun _ _ _ h => h) (Or.inl ⟨by rfl, ?_⟩) (by assumption) ?_
        rotate_left
        · (intro w hSw; (try dsimp only at hSw); obtain ⟨s1, s2, s3, s4⟩ := hSw; go_simp; try with_reducible rfl)
        try simp only [Act.put, List.getElem_toArray, List.getElem_cons_zero, List.getElem_cons_succ, List.setIfInBounds_toArray, List.set_cons_zero, List.set_cons_succ]
        refine wpAnyH_take (i := 2) (v := ?_) rfl (by kernel_rfl) (by kernel_rfl) (by kernel_rfl) (fun _ _ _ h => h) (Or.inl ⟨by rfl, ?_⟩) (by assumption) ?_
        rotate_left
        · (intro w hSw; (try dsimp only at hSw); obtain ⟨s1, s2, s3, s4⟩ := hSw; go_simp; try with_reducible rfl)
        try simp only [Act.put, List.getElem_toArray, List.getElem_cons_zero, List.getElem_cons_succ, List.setIfInBounds_toArray, List.set_cons_zero, List.set_cons_succ]
        refine wpAnyH_take (i := 3) (v := ?_) rfl (by kernel_rfl) (by kernel_rfl) (by kernel_rfl) (fun _ _ _ h => h) (Or.inl ⟨by rfl, ?_⟩) (by assumption) ?_
        rotate_left
        · (intro w hSw; (try dsimp only at hSw); obtain ⟨s1, s2, s3, s4⟩ := hSw; go_simp; try with_reducible rfl)
        try simp only [Act.put, List.getElem_toArray, List.getElem_cons_zero, List.getElem_cons_succ, List.setIfInBounds_toArray, List.set_cons_zero, List.set_cons_succ]
        refine wpAnyH_take (i := 4) (v := ?_) rfl (by kernel_rfl) (by kernel_rfl) (by kernel_rfl) (fun _ _ _ h => h) (Or.inl ⟨by rfl, ?_⟩) (by assumption) ?_
        rotate_left
        · (intro w hSw; (try dsimp only at hSw); obtain ⟨s1, s2, s3, s4⟩ := hSw; go_simp; try with_reducible rfl)
        try simp only [Act.put, List.getElem_toArray, List.getElem_cons_zero, List.getElem_cons_succ, List.setIfInBounds_toArray, List.set_cons_zero, List.set_cons_succ]
        refine wpAnyH_take (i := 5) (v := ?_) rfl (by kernel_rfl) (by kernel_rfl) (by kernel_rfl) (fun _ _ _ h => h) (Or.inl ⟨by rfl, ?_⟩) (by assumption) ?_
        rotate_left
        · (intro w hSw; (try dsimp only at hSw); obtain ⟨s1, s2, s3, s4⟩ := hSw; refine exec_cut5 (x := .tmp 35) (lo := .tmp 39) ?_ g c2 at_ ?_ ?_ hat HC.out <;> rfl)
        try simp only [Act.put, List.getElem_toArray, List.getElem_cons_zero, List.getElem_cons_succ, List.setIfInBounds_toArray, List.set_cons_zero, List.set_cons_succ]
        refine wpAnyH_take (i := 6) (v := ?_) rfl (by kernel_rfl) (by kernel_rfl) (by kernel_rfl) (fun _ _ _ h => h) (Or.inl ⟨by rfl, ?_⟩) (by assumption) ?_
        rotate_left
        · (intro w hSw; (try dsimp only at hSw); obtain ⟨s1, s2, s3, s4⟩ := hSw; go_simp; try with_reducible rfl)
        try simp only [Act.put, List.getElem_toArray, List.getElem_cons_zero, List.getElem_cons_succ, List.setIfInBounds_toArray, List.set_cons_zero, List.set_cons_succ]
        refine wpAnyH_take (i := 7) (v := ?_) rfl (by kernel_rfl) (by kernel_rfl) (by kernel_rfl) (fun _ _ _ h => h) (Or.inl ⟨by rfl, ?_⟩) (by assumption) ?_
        rotate_left
        · (intro w hSw; (try dsimp only at hSw); obtain ⟨s1, s2, s3, s4⟩ := hSw; go_simp; try with_reducible rfl)
        try simp only [Act.put, List.getElem_toArray, List.getElem_cons_zero, List.getElem_cons_succ, List.setIfInBounds_toArray, List.set_cons_zero, List.set_cons_succ]
        refine wpAnyH_ready (rs := [8]) (by kernel_rfl) (by simp) ?_
        refine AllReadyH.cons rfl (fun K hK => ?_) AllReadyH.nil
        go_simp
        with_reducible_and_instances apply Calls.mono (HcP.out _ kd.out); rintro e x8 ⟨rfl, y8⟩
        have K8 := Lib.hid (show Keep Nob w3 x8 from (kd.out).nobt y8)
        refine hK.out _ _ ?_ (fun hHeld => ?_)
        · exact (H3.out _ K8.out).2
        clear hK K
        try simp only [Act.put, List.getElem_toArray, List.getElem_cons_zero, List.getElem_cons_succ, List.setIfInBounds_toArray, List.set_cons_zero, List.set_cons_succ]
        refine wpAnyH_ready (rs := [9]) (by kernel_rfl) (by simp) ?_
        refine AllReadyH.cons rfl (fun K hK => ?_) AllReadyH.nil
        go_simp
        with_reducible_and_instances apply Calls.mono (HcB.out _); rintro e x9 ⟨rfl, y9⟩
        have K9 := Lib.hid (show Keep Nob w3 x9 from (K8.out).nobt y9)
        refine hK.out _ _ ?_ (fun hHeld => ?_)
        · exact (H3.out _ K9.out).2
        clear hK K
        try simp only [Act.put, List.getElem_toArray, List.getElem_cons_zero, List.getElem_cons_succ, List.setIfInBounds_toArray, List.set_cons_zero, List.set_cons_succ]
        obtain ⟨bq, hbq⟩ := (HY3.out.nob (K9.out)).row
        obtain ⟨z, b2, hcp, hb2, hk2⟩ := crow_cps hbq (Cd.enc R) (at_ := at_) (dCap := c2 - at_) (by rw [HRl.out]; omega)
        have HYn := Lib.hid (show By w z g from ⟨⟨b2, hb2⟩, HY3.out.lo, (HY3.out.nob (K9.out)).keep.at_ hk2 HY3.out.lo⟩)
        have HS2 := Lib.hid (H3.out _ (K9.out)).2
        refine wpAnyH_ready (rs := [10]) (by kernel_rfl) (by simp) ?_
        refine AllReadyH.cons rfl (fun K hK => ?_) AllReadyH.nil
        go_simp
        refine hK.out _ _ ?_ (fun hHeld => ?_)
        · exact (HQg.out _ _ trivial HS2.out hk2)
        clear hK K
        try simp only [Act.put, List.getElem_toArray, List.getElem_cons_zero, List.getElem_cons_succ, List.setIfInBounds_toArray, List.set_cons_zero, List.set_cons_succ]
        refine wpAnyH_done (by kernel_rfl) ?_ _
        go_wp2_with fail
        go_roundw
        case rel => exact ⟨k + 1, by omega, by go_num, HYn⟩
        case measure => simp [intOf]; omega
      · have z0 : (o0 == 0) = false := by simp [e0]
        have z1 : (o0 == 1) = true := by simp [e1]
        clear e0 e1
        obtain ⟨qj, hqj8, hqj⟩ : ∃ x : Nat, x < 256 ∧ o1 % 256 = (x : Int) := ⟨(o1 % 256).toNat, by omega, by omega⟩
        obtain ⟨qi, hq8, hqi⟩ : ∃ x : Nat, x < 12 ∧ (qj : Int) % 12 = (x : Int) := ⟨((qj : Int) % 12).toNat, by omega, by omega⟩
        have hqt : Int.tmod (qj : Int) 12 = (qi : Int) := by rw [Int.tmod_eq_emod_of_nonneg (by omega)]; exact hqi
        obtain ⟨at_, hat_⟩ : ∃ x : Nat, x = 192 + 8 * qi := ⟨_, rfl⟩
        have h4 : 192 + 8 * (qi : Int) = (at_ : Int) := by omega
        have h6 : IntKind.i64.wrap (8 * (qi : Int)) = 8 * (qi : Int) := by simp [IntKind.wrap, IntKind.bits, IntKind.signed]; omega
        have h5 : IntKind.i64.wrap (at_ : Int) = (at_ : Int) := by simp [IntKind.wrap, IntKind.bits, IntKind.signed]; omega
        have hat : at_ < 492 := by omega
        have hat2 : at_ + 8 ≤ 492 := by omega
        clear hat_
        obtain ⟨R, hR⟩ : ∃ x, Fi.made o2 = x := ⟨_, rfl⟩
        have hcP := fun W => Fi.made_is o2 W R hR
        have hcB := fun W => Fi.filebytes_is R (by rw [← hR]; rfl) W
        unfold Fi.pv at hcP hcB
        have HcP := Lib.hid hcP
        have HcB := Lib.hid hcB
        have HRl := Lib.hid (show (Fi.enc R).length = 8 from Fi.enc_len _)
        clear hcP hcB hR
        go_upto_region 11 with fail
        have kd := Lib.hid (Keep.nobdrew w3)
        have s0 := (H3.out _ kd.out).2
        refine wp_region_held_drew (S := (fun W => W.cell? ⟨q, 1, none⟩ = some (.int .i64 o1) ∧ W.cell? ⟨q, 2, none⟩ = some (.int .i64 o2) ∧ W.cell? ⟨q, 3, none⟩ = some (.slice L lm cL) ∧ W.cell? ⟨q, 4, none⟩ = some (.slice B m cB))) (by kernel_rfl) s0 (fun hHeld => ?_)
        refine wpAnyH_take (i := 0) (v := ?_) rfl (by kernel_rfl) (by kernel_rfl) (by kernel_rfl) (fun _ _ _ h => h) (Or.inl ⟨by rfl, ?_⟩) (by assumption) ?_
        rotate_left
        · (intro w hSw; (try dsimp only at hSw); obtain ⟨s1, s2, s3, s4⟩ := hSw; go_simp; try with_reducible rfl)
        try simp only [Act.put, List.getElem_toArray, List.getElem_cons_zero, List.getElem_cons_succ, List.setIfInBounds_toArray, List.set_cons_zero, List.set_cons_succ]
        refine wpAnyH_take (i := 1) (v := ?_) rfl (by kernel_rfl) (by kernel_rfl) (by kernel_rfl) (fun _ _ _ h => h) (Or.inl ⟨by rfl, ?_⟩) (by assumption) ?_
        rotate_left
        · (intro w hSw; (try dsimp only at hSw); obtain ⟨s1, s2, s3, s4⟩ := hSw; go_simp; try with_reducible rfl)
        try simp only [Act.put, List.getElem_toArray, List.getElem_cons_zero, List.getElem_cons_succ, List.setIfInBounds_toArray, List.set_cons_zero, List.set_cons_succ]
        refine wpAnyH_take (i := 2) (v := ?_) rfl (by kernel_rfl) (by kernel_rfl) (by kernel_rfl) (fun _ _ _ h => h) (Or.inl ⟨by rfl, ?_⟩) (by assumption) ?_
        rotate_left
        · (intro w hSw; (try dsimp only at hSw); obtain ⟨s1, s2, s3, s4⟩ := hSw; go_simp; try with_reducible rfl)
        try simp only [Act.put, List.getElem_toArray, List.getElem_cons_zero, List.getElem_cons_succ, List.setIfInBounds_toArray, List.set_cons_zero, List.set_cons_succ]
        refine wpAnyH_take (i := 3) (v := ?_) rfl (by kernel_rfl) (by kernel_rfl) (by kernel_rfl) (fun _ _ _ h => h) (Or.inl ⟨by rfl, ?_⟩) (by assumption) ?_
        rotate_left
        · (intro w hSw; (try dsimp only at hSw); obtain ⟨s1, s2, s3, s4⟩ := hSw; go_simp; try with_reducible rfl)
        try simp only [Act.put, List.getElem_toArray, List.getElem_cons_zero, List.getElem_cons_succ, List.setIfInBounds_toArray, List.set_cons_zero, List.set_cons_succ]
        refine wpAnyH_take (i := 4) (v := ?_) rfl (by kernel_rfl) (by kernel_rfl) (by kernel_rfl) (fun _ _ _ h => h) (Or.inl ⟨by rfl, ?_⟩) (by assumption) ?_
        rotate_left
        · (intro w hSw; (try dsimp only at hSw); obtain ⟨s1, s2, s3, s4⟩ := hSw; go_simp; try with_reducible rfl)
        try simp only [Act.put, List.getElem_toArray, List.getElem_cons_zero, List.getElem_cons_succ, List.setIfInBounds_toArray, List.set_cons_zero, List.set_cons_succ]
        refine wpAnyH_take (i := 5) (v := ?_) rfl (by kernel_rfl) (by kernel_rfl) (by kernel_rfl) (fun _ _ _ h => h) (Or.inl ⟨by rfl, ?_⟩) (by assumption) ?_
        rotate_left
        · (intro w hSw; (try dsimp only at hSw); obtain ⟨s1, s2, s3, s4⟩ := hSw; go_simp; try with_reducible rfl)
        try simp only [Act.put, List.getElem_toArray, List.getElem_cons_zero, List.getElem_cons_succ, List.setIfInBounds_toArray, List.set_cons_zero, List.set_cons_succ]
        refine wpAnyH_take (i := 6) (v := ?_) rfl (by kernel_rfl) (by kernel_rfl) (by kernel_rfl) (fun _ _ _ h => h) (Or.inl ⟨by rfl, ?_⟩) (by assumption) ?_
        rotate_left
        · (intro w hSw; (try dsimp only at hSw); obtain ⟨s1, s2, s3, s4⟩ := hSw; go_simp; try with_reducible rfl)
        try simp only [Act.put, List.getElem_toArray, List.getElem_cons_zero, List.getElem_cons_succ, List.setIfInBounds_toArray, List.set_cons_zero, List.set_cons_succ]
        refine wpAnyH_take (i := 7) (v := ?_) rfl (by kernel_rfl) (by kernel_rfl) (by kernel_rfl) (fun _ _ _ h => h) (Or.inl ⟨by rfl, ?_⟩) (by assumption) ?_
        rotate_left
        · (intro w hSw; (try dsimp only at hSw); obtain ⟨s1, s2, s3, s4⟩ := hSw; refine exec_cut5 (x := .tmp 48) (lo := .tmp 54) ?_ g c2 at_ ?_ ?_ hat HC.out <;> rfl)
        try simp only [Act.put, List.getElem_toArray, List.getElem_cons_zero, List.getElem_cons_succ, List.setIfInBounds_toArray, List.set_cons_zero, List.set_cons_succ]
        refine wpAnyH_take (i := 8) (v := ?_) rfl (by kernel_rfl) (by kernel_rfl) (by kernel_rfl) (fun _ _ _ h => h) (Or.inl ⟨by rfl, ?_⟩) (by assumption) ?_
        rotate_left
        · (intro w hSw; (try dsimp only at hSw); obtain ⟨s1, s2, s3, s4⟩ := hSw; go_simp; try with_reducible rfl)
        try simp only [Act.put, List.getElem_toArray, List.getElem_cons_zero, List.getElem_cons_succ, List.setIfInBounds_toArray, List.set_cons_zero, List.set_cons_succ]
        refine wpAnyH_take (i := 9) (v := ?_) rfl (by kernel_rfl) (by kernel_rfl) (by kernel_rfl) (fun _ _ _ h => h) (Or.inl ⟨by rfl, ?_⟩) (by assumption) ?_
        rotate_left
        · (intro w hSw; (try dsimp only at hSw); obtain ⟨s1, s2, s3, s4⟩ := hSw; go_simp; try with_reducible rfl)
        try simp only [Act.put, List.getElem_toArray, List.getElem_cons_zero, List.getElem_cons_succ, List.setIfInBounds_toArray, List.set_cons_zero, List.set_cons_succ]
        refine wpAnyH_ready (rs := [10]) (by kernel_rfl) (by simp) ?_
        refine AllReadyH.cons rfl (fun K hK => ?_) AllReadyH.nil
        go_simp
        with_reducible_and_instances apply Calls.mono (HcP.out _); rintro e x10 ⟨rfl, y10⟩
        have K10 := Lib.hid (show Keep Nob w3 x10 from (kd.out).nobt y10)
        refine hK.out _ _ ?_ (fun hHeld => ?_)
        · exact (H3.out _ K10.out).2
        clear hK K
        try simp only [Act.put, List.getElem_toArray, List.getElem_cons_zero, List.getElem_cons_succ, List.setIfInBounds_toArray, List.set_cons_zero, List.set_cons_succ]
        refine wpAnyH_ready (rs := [11]) (by kernel_rfl) (by simp) ?_
        refine AllReadyH.cons rfl (fun K hK => ?_) AllReadyH.nil
        go_simp
        with_reducible_and_instances apply Calls.mono (HcB.out _); rintro e x11 ⟨rfl, y11⟩
        have K11 := Lib.hid (show Keep Nob w3 x11 from (K10.out).nobt y11)
        refine hK.out _ _ ?_ (fun hHeld => ?_)
        · exact (H3.out _ K11.out).2
        clear hK K
        try simp only [Act.put, List.getElem_toArray, List.getElem_cons_zero, List.getElem_cons_succ, List.setIfInBounds_toArray, List.set_cons_zero, List.set_cons_succ]
        obtain ⟨bq, hbq⟩ := (HY3.out.nob (K11.out)).row
        obtain ⟨z, b2, hcp, hb2, hk2⟩ := crow_cps hbq (Fi.enc R) (at_ := at_) (dCap := c2 - at_) (by rw [HRl.out]; omega)
        have HYn := Lib.hid (show By w z g from ⟨⟨b2, hb2⟩, HY3.out.lo, (HY3.out.nob (K11.out)).keep.at_ hk2 HY3.out.lo⟩)
        have HS2 := Lib.hid (H3.out _ (K11.out)).2
        refine wpAnyH_ready (rs := [12]) (by kernel_rfl) (by simp) ?_
        refine AllReadyH.cons rfl (fun K hK => ?_) AllReadyH.nil
        go_simp
        refine hK.out _ _ ?_ (fun hHeld => ?_)
        · exact (HQg.out _ _ trivial HS2.out hk2)
        clear hK K
        try simp only [Act.put, List.getElem_toArray, List.getElem_cons_zero, List.getElem_cons_succ, List.setIfInBounds_toArray, List.set_cons_zero, List.set_cons_succ]
        refine wpAnyH_done (by kernel_rfl) ?_ _
        go_wp2_with fail
        go_roundw
        case rel => exact ⟨k + 1, by omega, by go_num, HYn⟩
        case measure => simp [intOf]; omega
      · have z0 : (o0 == 0) = false := by simp [e0]
        have z1 : (o0 == 1) = false := by simp [e1]
        have z2 : (o0 == 2) = true := by simp [e2]
        clear e0 e1 e2
        obtain ⟨qi, hq8, hqi⟩ : ∃ x : Nat, x < 4 ∧ o1 % 4 = (x : Int) := ⟨(o1 % 4).toNat, by omega, by omega⟩
        obtain ⟨at_, hat_⟩ : ∃ x : Nat, x = 288 + 40 * qi := ⟨_, rfl⟩
        have h4 : 288 + 40 * (qi : Int) = (at_ : Int) := by omega
        have h6 : IntKind.i64.wrap (40 * (qi : Int)) = 40 * (qi : Int) := by simp [IntKind.wrap, IntKind.bits, IntKind.signed]; omega
        have h5 : IntKind.i64.wrap (at_ : Int) = (at_ : Int) := by simp [IntKind.wrap, IntKind.bits, IntKind.signed]; omega
        have hat : at_ < 492 := by omega
        have hat2 : at_ + 40 ≤ 492 := by omega
        clear hat_
        obtain ⟨R, hR⟩ : ∃ x, Ri.made o2 l = x := ⟨_, rfl⟩
        have hcP := fun W (kk : Keep Nob w3 W) => Ri.made_is o2 B m cB l W (HRd.out.2.nob kk) R hR
        have hcB := fun W => Ri.pipebytes_is R (by rw [← hR]; exact Ri.made_len o2 l) W
        unfold Ri.pv at hcP hcB
        have HcP := Lib.hid hcP
        have HcB := Lib.hid hcB
        have HRl := Lib.hid (show (Ri.enc R).length = 40 by rw [← hR]; exact Ri.enc_len (Ri.made_len o2 l))
        clear hcP hcB hR
        go_upto_region 13 with fail
        have kd := Lib.hid (Keep.nobdrew w3)
        have s0 := (H3.out _ kd.out).2
        refine wp_region_held_drew (S := (fun W => W.cell? ⟨q, 1, none⟩ = some (.int .i64 o1) ∧ W.cell? ⟨q, 2, none⟩ = some (.int .i64 o2) ∧ W.cell? ⟨q, 3, none⟩ = some (.slice L lm cL) ∧ W.cell? ⟨q, 4, none⟩ = some (.slice B m cB))) (by kernel_rfl) s0 (fun hHeld => ?_)
        refine wpAnyH_take (i := 0) (v := ?_) rfl (by kernel_rfl) (by kernel_rfl) (by kernel_rfl) (fun _ _ _ h => h) (Or.inl ⟨by rfl, ?_⟩) (by assumption) ?_
        rotate_left
        · (intro w hSw; (try dsimp only at hSw); obtain ⟨s1, s2, s3, s4⟩ := hSw; go_simp; try with_reducible rfl)
        try simp only [Act.put, List.getElem_toArray, List.getElem_cons_zero, List.getElem_cons_succ, List.setIfInBounds_toArray, List.set_cons_zero, List.set_cons_succ]
        refine wpAnyH_take (i := 1) (v := ?_) rfl (by kernel_rfl) (by kernel_rfl) (by kernel_rfl) (fun _ _ _ h => h) (Or.inl ⟨by rfl, ?_⟩) (by assumption) ?_
        rotate_left
        · (intro w hSw; (try dsimp only at hSw); obtain ⟨s1, s2, s3, s4⟩ := hSw; go_simp; try with_reducible rfl)
        try simp only [Act.put, List.getElem_toArray, List.getElem_cons_zero, List.getElem_cons_succ, List.setIfInBounds_toArray, List.set_cons_zero, List.set_cons_succ]
        refine wpAnyH_take (i := 2) (v := ?_) rfl (by kernel_rfl) (by kernel_rfl) (by kernel_rfl) (fun _ _ _ h => h) (Or.inl ⟨by rfl, ?_⟩) (by assumption) ?_
        rotate_left
        · (intro w hSw; (try dsimp only at hSw); obtain ⟨s1, s2, s3, s4⟩ := hSw; go_simp; try with_reducible rfl)
        try simp only [Act.put, List.getElem_toArray, List.getElem_cons_zero, List.getElem_cons_succ, List.setIfInBounds_toArray, List.set_cons_zero, List.set_cons_succ]
        refine wpAnyH_take (i := 3) (v := ?_) rfl (by kernel_rfl) (by kernel_rfl) (by kernel_rfl) (fun _ _ _ h => h) (Or.inl ⟨by rfl, ?_⟩) (by assumption) ?_
        rotate_left
        · (intro w hSw; (try dsimp only at hSw); obtain ⟨s1, s2, s3, s4⟩ := hSw; go_simp; try with_reducible rfl)
        try simp only [Act.put, List.getElem_toArray, List.getElem_cons_zero, List.getElem_cons_succ, List.setIfInBounds_toArray, List.set_cons_zero, List.set_cons_succ]
        refine wpAnyH_take (i := 4) (v := ?_) rfl (by kernel_rfl) (by kernel_rfl) (by kernel_rfl) (fun _ _ _ h => h) (Or.inl ⟨by rfl, ?_⟩) (by assumption) ?_
        rotate_left
        · (intro w hSw; (try dsimp only at hSw); obtain ⟨s1, s2, s3, s4⟩ := hSw; go_simp; try with_reducible rfl)
        try simp only [Act.put, List.getElem_toArray, List.getElem_cons_zero, List.getElem_cons_succ, List.setIfInBounds_toArray, List.set_cons_zero, List.set_cons_succ]
        refine wpAnyH_take (i := 5) (v := ?_) rfl (by kernel_rfl) (by kernel_rfl) (by kernel_rfl) (fun _ _ _ h => h) (Or.inl ⟨by rfl, ?_⟩) (by assumption) ?_
        rotate_left
        · (intro w hSw; (try dsimp only at hSw); obtain ⟨s1, s2, s3, s4⟩ := hSw; go_simp; try with_reducible rfl)
        try simp only [Act.put, List.getElem_toArray, List.getElem_cons_zero, List.getElem_cons_succ, List.setIfInBounds_toArray, List.set_cons_zero, List.set_cons_succ]
        refine wpAnyH_take (i := 6) (v := ?_) rfl (by kernel_rfl) (by kernel_rfl) (by kernel_rfl) (fun _ _ _ h => h) (Or.inl ⟨by rfl, ?_⟩) (by assumption) ?_
        rotate_left
        · (intro w hSw; (try dsimp only at hSw); obtain ⟨s1, s2, s3, s4⟩ := hSw; refine exec_cut5 (x := .tmp 63) (lo := .tmp 68) ?_ g c2 at_ ?_ ?_ hat HC.out <;> rfl)
        try simp only [Act.put, List.getElem_toArray, List.getElem_cons_zero, List.getElem_cons_succ, List.setIfInBounds_toArray, List.set_cons_zero, List.set_cons_succ]
        refine wpAnyH_take (i := 7) (v := ?_) rfl (by kernel_rfl) (by kernel_rfl) (by kernel_rfl) (fun _ _ _ h => h) (Or.inl ⟨by rfl, ?_⟩) (by assumption) ?_
        rotate_left
        · (intro w hSw; (try dsimp only at hSw); obtain ⟨s1, s2, s3, s4⟩ := hSw; go_simp; try with_reducible rfl)
        try simp only [Act.put, List.getElem_toArray, List.getElem_cons_zero, List.getElem_cons_succ, List.setIfInBounds_toArray, List.set_cons_zero, List.set_cons_succ]
        refine wpAnyH_take (i := 8) (v := ?_) rfl (by kernel_rfl) (by kernel_rfl) (by kernel_rfl) (fun _ _ _ h => h) (Or.inl ⟨by rfl, ?_⟩) (by assumption) ?_
        rotate_left
        · (intro w hSw; (try dsimp only at hSw); obtain ⟨s1, s2, s3, s4⟩ := hSw; go_simp; try with_reducible rfl)
        try simp only [Act.put, List.getElem_toArray, List.getElem_cons_zero, List.getElem_cons_succ, List.setIfInBounds_toArray, List.set_cons_zero, List.set_cons_succ]
        refine wpAnyH_take (i := 9) (v := ?_) rfl (by kernel_rfl) (by kernel_rfl) (by kernel_rfl) (fun _ _ _ h => h) (Or.inl ⟨by rfl, ?_⟩) (by assumption) ?_
        rotate_left
        · (intro w hSw; (try dsimp only at hSw); obtain ⟨s1, s2, s3, s4⟩ := hSw; go_simp; try with_reducible rfl)
        try simp only [Act.put, List.getElem_toArray, List.getElem_cons_zero, List.getElem_cons_succ, List.setIfInBounds_toArray, List.set_cons_zero, List.set_cons_succ]
        refine wpAnyH_take (i := 10) (v := ?_) rfl (by kernel_rfl) (by kernel_rfl) (by kernel_rfl) (fun _ _ _ h => h) (Or.inl ⟨by rfl, ?_⟩) (by assumption) ?_
        rotate_left
        · (intro w hSw; (try dsimp only at hSw); obtain ⟨s1, s2, s3, s4⟩ := hSw; go_simp; try with_reducible rfl)
        try simp only [Act.put, List.getElem_toArray, List.getElem_cons_zero, List.getElem_cons_succ, List.setIfInBounds_toArray, List.set_cons_zero, List.set_cons_succ]
        refine wpAnyH_ready (rs := [11]) (by kernel_rfl) (by simp) ?_
        refine AllReadyH.cons rfl (fun K hK => ?_) AllReadyH.nil
        go_simp
        with_reducible_and_instances apply Calls.mono (HcP.out _ kd.out); rintro e x11 ⟨rfl, y11⟩
        have K11 := Lib.hid (show Keep Nob w3 x11 from (kd.out).nobt y11)
        refine hK.out _ _ ?_ (fun hHeld => ?_)
        · exact (H3.out _ K11.out).2
        clear hK K
        try simp only [Act.put, List.getElem_toArray, List.getElem_cons_zero, List.getElem_cons_succ, List.setIfInBounds_toArray, List.set_cons_zero, List.set_cons_succ]
        refine wpAnyH_ready (rs := [12]) (by kernel_rfl) (by simp) ?_
        refine AllReadyH.cons rfl (fun K hK => ?_) AllReadyH.nil
        go_simp
        with_reducible_and_instances apply Calls.mono (HcB.out _); rintro e x12 ⟨rfl, y12⟩
        have K12 := Lib.hid (show Keep Nob w3 x12 from (K11.out).nobt y12)
        refine hK.out _ _ ?_ (fun hHeld => ?_)
        · exact (H3.out _ K12.out).2
        clear hK K
        try simp only [Act.put, List.getElem_toArray, List.getElem_cons_zero, List.getElem_cons_succ, List.setIfInBounds_toArray, List.set_cons_zero, List.set_cons_succ]
        obtain ⟨bq, hbq⟩ := (HY3.out.nob (K12.out)).row
        obtain ⟨z, b2, hcp, hb2, hk2⟩ := crow_cps hbq (Ri.enc R) (at_ := at_) (dCap := c2 - at_) (by rw [HRl.out]; omega)
        have HYn := Lib.hid (show By w z g from ⟨⟨b2, hb2⟩, HY3.out.lo, (HY3.out.nob (K12.out)).keep.at_ hk2 HY3.out.lo⟩)
        have HS2 := Lib.hid (H3.out _ (K12.out)).2
        refine wpAnyH_ready (rs := [13]) (by kernel_rfl) (by simp) ?_
        refine AllReadyH.cons rfl (fun K hK => ?_) AllReadyH.nil
        go_simp
        refine hK.out _ _ ?_ (fun hHeld => ?_)
        · exact (HQg.out _ _ trivial HS2.out hk2)
        clear hK K
        try simp only [Act.put, List.getElem_toArray, List.getElem_cons_zero, List.getElem_cons_succ, List.setIfInBounds_toArray, List.set_cons_zero, List.set_cons_succ]
        refine wpAnyH_done (by kernel_rfl) ?_ _
        go_wp2_with fail
        go_roundw
        case rel => exact ⟨k + 1, by omega, by go_num, HYn⟩
        case measure => simp [intOf]; omega
      · have z0 : (o0 == 0) = false := by simp [e0]
        have z1 : (o0 == 1) = false := by simp [e1]
        have z2 : (o0 == 2) = false := by simp [e2]
        clear e0 e1 e2
        obtain ⟨qj, hqj8, hqj⟩ : ∃ x : Nat, x < 512 ∧ o2 % 512 = (x : Int) := ⟨(o2 % 512).toNat, by omega, by omega⟩
        obtain ⟨at_, hat, hqi⟩ : ∃ x : Nat, x < 492 ∧ (qj : Int) % 492 = (x : Int) := ⟨((qj : Int) % 492).toNat, by omega, by omega⟩
        have hqt : Int.tmod (qj : Int) 492 = (at_ : Int) := by rw [Int.tmod_eq_emod_of_nonneg (by omega)]; exact hqi
        go_upto_region 7 with fail
        have kd := Lib.hid (Keep.nobdrew w3)
        have s0 := (H3.out _ kd.out).2
        refine wp_region_held_drew (S := (fun W => W.cell? ⟨q, 1, none⟩ = some (.int .i64 o1) ∧ W.cell? ⟨q, 2, none⟩ = some (.int .i64 o2) ∧ W.cell? ⟨q, 3, none⟩ = some (.slice L lm cL) ∧ W.cell? ⟨q, 4, none⟩ = some (.slice B m cB))) (by kernel_rfl) s0 (fun hHeld => ?_)
        refine wpAnyH_take (i := 0) (v := ?_) rfl (by kernel_rfl) (by kernel_rfl) (by kernel_rfl) (fun _ _ _ h => h) (Or.inl ⟨by rfl, ?_⟩) (by assumption) ?_
        rotate_left
        · (intro w hSw; (try dsimp only at hSw); obtain ⟨s1, s2, s3, s4⟩ := hSw; go_simp; try with_reducible rfl)
        try simp only [Act.put, List.getElem_toArray, List.getElem_cons_zero, List.getElem_cons_succ, List.setIfInBounds_toArray, List.set_cons_zero, List.set_cons_succ]
        refine wpAnyH_take (i := 1) (v := ?_) rfl (by kernel_rfl) (by kernel_rfl) (by kernel_rfl) (fun _ _ _ h => h) (Or.inl ⟨by rfl, ?_⟩) (by assumption) ?_
        rotate_left
        · (intro w hSw; (try dsimp only at hSw); obtain ⟨s1, s2, s3, s4⟩ := hSw; go_simp; try with_reducible rfl)
        try simp only [Act.put, List.getElem_toArray, List.getElem_cons_zero, List.getElem_cons_succ, List.setIfInBounds_toArray, List.set_cons_zero, List.set_cons_succ]
        refine wpAnyH_take (i := 2) (v := ?_) rfl (by kernel_rfl) (by kernel_rfl) (by kernel_rfl) (fun _ _ _ h => h) (Or.inl ⟨by rfl, ?_⟩) (by assumption) ?_
        rotate_left
        · (intro w hSw; (try dsimp only at hSw); obtain ⟨s1, s2, s3, s4⟩ := hSw; go_simp; try with_reducible rfl)
        try simp only [Act.put, List.getElem_toArray, List.getElem_cons_zero, List.getElem_cons_succ, List.setIfInBounds_toArray, List.set_cons_zero, List.set_cons_succ]
        refine wpAnyH_take (i := 3) (v := ?_) rfl (by kernel_rfl) (by kernel_rfl) (by kernel_rfl) (fun _ _ _ h => h) (Or.inl ⟨by rfl, ?_⟩) (by assumption) ?_
        rotate_left
        · (intro w hSw; (try dsimp only at hSw); obtain ⟨s1, s2, s3, s4⟩ := hSw; go_simp; try with_reducible rfl)
        try simp only [Act.put, List.getElem_toArray, List.getElem_cons_zero, List.getElem_cons_succ, List.setIfInBounds_toArray, List.set_cons_zero, List.set_cons_succ]
        refine wpAnyH_take (i := 4) (v := ?_) rfl (by kernel_rfl) (by kernel_rfl) (by kernel_rfl) (fun _ _ _ h => h) (Or.inl ⟨by rfl, ?_⟩) (by assumption) ?_
        rotate_left
        · (intro w hSw; (try dsimp only at hSw); obtain ⟨s1, s2, s3, s4⟩ := hSw; go_simp; try with_reducible rfl)
        try simp only [Act.put, List.getElem_toArray, List.getElem_cons_zero, List.getElem_cons_succ, List.setIfInBounds_toArray, List.set_cons_zero, List.set_cons_succ]
        refine wpAnyH_take (i := 5) (v := ?_) rfl (by kernel_rfl) (by kernel_rfl) (by kernel_rfl) (fun _ _ _ h => h) (Or.inl ⟨by rfl, ?_⟩) (by assumption) ?_
        rotate_left
        · (intro w hSw; (try dsimp only at hSw); obtain ⟨s1, s2, s3, s4⟩ := hSw; refine exec_cut5 (x := .tmp 24) (lo := .tmp 28) ?_ g c2 at_ ?_ ?_ hat HC.out <;> rfl)
        try simp only [Act.put, List.getElem_toArray, List.getElem_cons_zero, List.getElem_cons_succ, List.setIfInBounds_toArray, List.set_cons_zero, List.set_cons_succ]
        refine wpAnyH_take (i := 6) (v := ?_) rfl (by kernel_rfl) (by kernel_rfl) (by kernel_rfl) (fun _ _ _ h => h) (Or.inl ⟨by rfl, ?_⟩) (by assumption) ?_
        rotate_left
        · (intro w hSw; (try dsimp only at hSw); obtain ⟨s1, s2, s3, s4⟩ := hSw; go_simp; try with_reducible rfl)
        try simp only [Act.put, List.getElem_toArray, List.getElem_cons_zero, List.getElem_cons_succ, List.setIfInBounds_toArray, List.set_cons_zero, List.set_cons_succ]
        refine wpAnyH_take (i := 7) (v := ?_) rfl (by kernel_rfl) (by kernel_rfl) (by kernel_rfl) (fun _ _ _ h => h) (Or.inl ⟨by rfl, ?_⟩) (by assumption) ?_
        rotate_left
        · (intro w hSw; (try dsimp only at hSw); obtain ⟨s1, s2, s3, s4⟩ := hSw; go_simp; try with_reducible rfl)
        try simp only [Act.put, List.getElem_toArray, List.getElem_cons_zero, List.getElem_cons_succ, List.setIfInBounds_toArray, List.set_cons_zero, List.set_cons_succ]
        obtain ⟨bq, hbq⟩ := (HY3.out.nob (kd.out)).row
        obtain ⟨z, b2, hcp, hb2, hk2⟩ := crow_cp hbq (HRd.out.2.nob (kd.out)) (c := cB) (at_ := at_) (dCap := c2 - at_) hat
        have HYn := Lib.hid (show By w z g from ⟨⟨b2, hb2⟩, HY3.out.lo, (HY3.out.nob (kd.out)).keep.at_ hk2 HY3.out.lo⟩)
        have HS2 := Lib.hid (H3.out _ (kd.out)).2
        refine wpAnyH_ready (rs := [8]) (by kernel_rfl) (by simp) ?_
        refine AllReadyH.cons rfl (fun K hK => ?_) AllReadyH.nil
        go_simp
        refine hK.out _ _ ?_ (fun hHeld => ?_)
        · exact (HQg.out _ _ trivial HS2.out hk2)
        clear hK K
        try simp only [Act.put, List.getElem_toArray, List.getElem_cons_zero, List.getElem_cons_succ, List.setIfInBounds_toArray, List.set_cons_zero, List.set_cons_succ]
        refine wpAnyH_done (by kernel_rfl) ?_ _
        go_wp2_with fail
        go_roundw
        case rel => exact ⟨k + 1, by omega, by go_num, HYn⟩
        case measure => simp [intOf]; omega
end Go.Proofs.YtngchjejmnfanaaGreat.Au
