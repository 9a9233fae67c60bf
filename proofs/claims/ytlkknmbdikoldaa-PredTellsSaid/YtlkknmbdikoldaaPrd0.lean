/- Package pred (layer 7): the plain model of programs; contracts of fits, oneIf, byteOf, isSound, Check, Eval and of the document's named, bit, Check, Eval. -/
import Derived.Test.YtlkknmbdikoldaaRows
import Derived.Test.YtlkknmbdikoldaaTab1
import Derived.Test.YtlkknmbdikoldaaRead
import Derived.Deep.QuietTactic
import Derived.Deep.RegionHeld3
import Derived.BigQuiet
import Derived.WalkLawsBesides
import Derived.Outline
import Derived.Deep.DeepCutAuto
import Derived.Deep.CutBlock
import Derived.Deep.RegionLaw
namespace Go.Proofs.Ytlkknmbdikoldaa
open Go.RowKit
set_option linter.unusedVariables false
set_option linter.unusedSimpArgs false
/-- An instruction. -/
structure Prim where
  op : Int
  a : Int
  b : Int
def Prim.cells (x : Prim) : List Value := [.int .i64 x.op, .int .i64 x.a, .int .i64 x.b]
def Prim.val (x : Prim) : Value := .agg #[.int .i64 x.op, .int .i64 x.a, .int .i64 x.b]
/-- May it stand where so many are behind it? -/
def Prim.sound (x : Prim) (behind : Int) : Bool :=
  decide (x.b = 0) && (if x.op = 1 ∨ x.op = 3 ∨ x.op = 4 then decide (0 ≤ x.a ∧ x.a ≤ 65535) else if x.op = 5 then decide (0 ≤ x.a ∧ x.a ≤ behind) else if x.op = 2 ∨ x.op = 6 ∨ x.op = 7 then decide (x.a = 0) else false)
/-- A program as cells. -/
def laid (l : List Prim) : List Value := (l.map Prim.cells).flatten
/-- Is each one of them sound? -/
def sounds : List Prim → Bool
  | [] => true
  | x :: l => x.sound l.length && sounds l
def check (l : List Prim) : Int := if 32 < l.length then 6 else if sounds l then 0 else 1
/-- The view's byte at a place that is not below 0. -/
def byteAt (view : List UInt8) (a : Int) : Int := (((view.getD a.toNat 0).toNat : Nat) : Int)
/-- The number behind an instruction that is none of PSkip and PTrue. -/
def Prim.next (view : List UInt8) (now n : Int) (x : Prim) : Int :=
  if x.op = 1 then byteAt view x.a else if x.op = 2 then now else if x.op = 3 then bits .and .i64 n x.a else if x.op = 4 then (if n < x.a then 1 else 0) else (if n = 0 then 1 else 0)
/-- The answer from here on, of which so many are passed over, and how many are done. -/
def ev (view : List UInt8) (now : Int) : List Prim → Nat → Int → Bool × Nat
  | [], _, _ => (false, 0)
  | _ :: l, s + 1, n => ev view now l s n
  | x :: l, 0, n =>
    if x.op = 6 then (true, 1)
    else if x.op = 5 then ((ev view now l (if n = 0 then 0 else x.a.toNat) n).1, (ev view now l (if n = 0 then 0 else x.a.toNat) n).2 + 1)
    else ((ev view now l 0 (x.next view now n)).1, (ev view now l 0 (x.next view now n)).2 + 1)
def eval (view : List UInt8) (now : Int) (l : List Prim) : Bool × Nat := if check l = 0 then ev view now l 0 0 else (false, 0)
theorem ev_skip (view : List UInt8) (now n : Int) : ∀ (l : List Prim) (s : Nat), ev view now l s n = ev view now (l.drop s) 0 n
  | [], s => by simp [ev]
  | _ :: _, 0 => rfl
  | _ :: l, s + 1 => by
    rw [ev, ev_skip view now n l s]
    rfl
theorem ev_le (view : List UInt8) (now : Int) : ∀ (l : List Prim) (s : Nat) (n : Int), (ev view now l s n).2 ≤ l.length
  | [], _, _ => by simp [ev]
  | _ :: l, s + 1, n => by
    have := ev_le view now l s n
    rw [ev, List.length_cons]; omega
  | x :: l, 0, n => by
    have h1 := ev_le view now l (if n = 0 then 0 else x.a.toNat) n
    have h2 := ev_le view now l 0 (x.next view now n)
    rw [ev, List.length_cons]
    split
    · simp
    · split <;> simp only <;> omega
theorem sounds_drop : ∀ (l : List Prim) (i : Nat), sounds l = true → sounds (l.drop i) = true
  | [], i, _ => by simp [sounds]
  | _ :: _, 0, h => h
  | x :: l, i + 1, h => by
    simp only [sounds, Bool.and_eq_true] at h
    exact sounds_drop l i h.2
theorem drop_at {α : Type} {l : List α} {i : Nat} {x : α} (h : l[i]? = some x) : l.drop i = x :: l.drop (i + 1) := by
  obtain ⟨hi, rfl⟩ := List.getElem?_eq_some_iff.1 h
  exact List.drop_eq_getElem_cons hi
theorem sounds_at {l : List Prim} (h : sounds l = true) {i : Nat} {x : Prim} (hx : l[i]? = some x) : x.sound ((l.length : Int) - i - 1) = true := by
  have h1 := sounds_drop l i h
  have hi := get_lt hx
  rw [drop_at hx, sounds, Bool.and_eq_true, List.length_drop] at h1
  rw [show (l.length : Int) - i - 1 = ((l.length - (i + 1) : Nat) : Int) from by omega]
  exact h1.1
@[simp] theorem laid_len (l : List Prim) : (laid l).length = l.length * 3 := by
  rw [laid, flatten_len (W := 3) _ (by intro c hc; obtain ⟨x, _, rfl⟩ := List.mem_map.1 hc; rfl), List.length_map]
theorem laid_at {l : List Prim} {i : Nat} {x : Prim} (hx : l[i]? = some x) : (laid l)[i * 3]? = some (.int .i64 x.op) ∧ (laid l)[i * 3 + 1]? = some (.int .i64 x.a) ∧ (laid l)[i * 3 + 2]? = some (.int .i64 x.b) := by
  have h3 : ∀ c ∈ l.map Prim.cells, c.length = 3 := by intro c hc; obtain ⟨x, _, rfl⟩ := List.mem_map.1 hc; rfl
  have e : (l.map Prim.cells)[i]? = some x.cells := by rw [List.getElem?_map, hx]; rfl
  have f0 := flatten_get _ h3 i 0 (by decide)
  have f1 := flatten_get _ h3 i 1 (by decide)
  have f2 := flatten_get _ h3 i 2 (by decide)
  rw [e] at f0 f1 f2
  exact ⟨f0, f1, f2⟩
theorem laid_append (a b : List Prim) : laid (a ++ b) = laid a ++ laid b := by simp [laid]
theorem laid_one (x : Prim) : laid [x] = [.int .i64 x.op, .int .i64 x.a, .int .i64 x.b] := by simp [laid, Prim.cells]
theorem laid_cells (l : List Prim) : ∀ v ∈ laid l, v.oneCell' = true := by
  intro v hv
  simp only [laid, List.mem_flatten, List.mem_map] at hv
  obtain ⟨c, ⟨x, _, rfl⟩, hv⟩ := hv
  simp only [Prim.cells, List.mem_cons, List.not_mem_nil, or_false] at hv
  rcases hv with rfl | rfl | rfl <;> rfl
/-- '.slice A n _' is a program. -/
def IsProg (w : World) (A : Option Addr) (n : Nat) (l : List Prim) : Prop := l.length = n ∧ Reads w A (n * 3) (laid l)
section
variable {w w' : World} {A : Option Addr} {n : Nat} {l : List Prim}
theorem IsProg.nob (h : IsProg w A n l) (k : Keep Nob w w') : IsProg w' A n l := ⟨h.1, h.2.nob k⟩
theorem IsProg.from_ (h : IsProg w A n l) (k : Keep (From w.heap.size) w w') : IsProg w' A n l := ⟨h.1, h.2.from_ k⟩
theorem IsProg.of_vec {c : Nat} {t : TypeId} (h : Vec w t 3 A n c (laid l)) : IsProg w A n l := ⟨by have := h.len; rw [laid_len] at this; omega, h.reads⟩
theorem IsProg.nil_ (w : World) (A : Option Addr) : IsProg w A 0 [] := ⟨rfl, Reads.nil_ w A⟩
theorem IsProg.at_ (h : IsProg w A n l) {i : Nat} (hi : i < n) : ∃ (b off : Nat) (x : Prim), A = some ⟨b, off, none⟩ ∧ l[i]? = some x ∧ w.cell? ⟨b, off + i * 3, none⟩ = some (.int .i64 x.op) ∧ w.cell? ⟨b, off + i * 3 + 1, none⟩ = some (.int .i64 x.a) ∧ w.cell? ⟨b, off + i * 3 + 2, none⟩ = some (.int .i64 x.b) := by
  obtain ⟨b, off, hA, hc⟩ := h.2.lit (by omega)
  have hx : l[i]? = some (l[i]'(by have := h.1; omega)) := List.getElem?_eq_getElem (by have := h.1; omega)
  obtain ⟨e0, e1, e2⟩ := laid_at hx
  exact ⟨b, off, _, hA, hx, hc _ _ e0, hc _ _ e1, hc _ _ e2⟩
end
set_option maxHeartbeats 1000000 in
theorem fits_is (w : World) (a : Int) (z : Bool) (hz : decide (0 ≤ a ∧ a ≤ 65535) = z) : Calls Try.prog 25 #[.int .i64 a] w fun e w' => e = .returned (.bool z) ∧ w' = w := by
  subst hz
  by_cases h0 : 0 ≤ a
  · by_cases h1 : a ≤ 65535
    · go_enter Try.func25, Try.ntmps25
      go_wp2
      go_ret
      exact ⟨by rw [decide_eq_true ⟨h0, h1⟩]; rfl, rfl⟩
    · go_enter Try.func25, Try.ntmps25
      go_wp2
      go_ret
      exact ⟨by rw [decide_eq_false (by omega)]; rfl, rfl⟩
  · go_enter Try.func25, Try.ntmps25
    go_wp2
    go_ret
    exact ⟨by rw [decide_eq_false (by omega)]; rfl, rfl⟩
theorem oneIf_is (w : World) (b : Bool) (v : Int) (hv : (if b then 1 else 0) = v) : Calls Try.prog 21 #[.bool b] w fun e w' => e = .returned (.int .i64 v) ∧ w' = w := by
  subst hv
  cases b
  all_goals
    go_enter Try.func21, Try.ntmps21
    go_wp2
    go_ret
    exact ⟨rfl, rfl⟩
theorem u8_wrap (b : UInt8) : IntKind.i64.wrap ((b.toNat : Nat) : Int) = ((b.toNat : Nat) : Int) := by
  have := b.toNat_lt
  simp [IntKind.wrap, IntKind.bits, IntKind.signed]
  omega
set_option maxHeartbeats 1000000 in
theorem byteOf_is (w : World) (B : Option Addr) (m c : Nat) (view : List UInt8) (hm : view.length = m) (hB : Reads w B m (bytes view)) (a : Int) (h0 : 0 ≤ a) (v : Int) (hv : byteAt view a = v) :
    Calls Try.prog 20 #[.slice B m c, .int .i64 a] w fun e w' => e = .returned (.int .i64 v) ∧ w' = w := by
  subst hv
  obtain ⟨k, rfl⟩ := Int.eq_ofNat_of_zero_le h0
  by_cases hk : k < m
  · obtain ⟨b, off, rfl, hc⟩ := hB.lit (by omega)
    have hcell := hc k _ (bytes_getD (by omega))
    have e : byteAt view (k : Int) = (((view.getD k 0).toNat : Nat) : Int) := by simp [byteAt]
    rw [e]
    have hwrap := u8_wrap (view.getD k 0)
    generalize view.getD k 0 = x at *
    clear hB hc e
    go_enter Try.func20, Try.ntmps20
    go_wp2
    go_ret
    exact ⟨by simp [hwrap], rfl⟩
  · have e : byteAt view (k : Int) = 0 := by
      simp [byteAt, List.getD_eq_getElem?_getD, List.getElem?_eq_none (show view.length ≤ k by omega)]
    rw [e]
    clear hB
    go_enter Try.func20, Try.ntmps20
    go_wp2
    go_ret
    exact ⟨rfl, rfl⟩
set_option maxHeartbeats 4000000 in
theorem isSound_is (w : World) (op a b k : Int) (hk0 : 0 ≤ k) (z : Bool) (hz : (Prim.mk op a b).sound k = z) :
    Calls Try.prog 22 #[.agg #[.int .i64 op, .int .i64 a, .int .i64 b], .int .i64 k] w fun e w' => e = .returned (.bool z) ∧ Keep Nob w w' := by
  subst hz
  have k1 := (Keep.refl Nob w).alloc (.cells #[.int .i64 op, .int .i64 a, .int .i64 b] 25)
  have hb := Blk.new w 25 [.int .i64 op, .int .i64 a, .int .i64 b]
  have d0 := hb.cell 0
  have d1 := hb.cell 1
  have d2 := hb.cell 2
  simp only [List.getElem?_cons_zero, List.getElem?_cons_succ] at d0 d1 d2
  clear hb
  by_cases hb : b = 0
  · subst hb
    rcases (by omega : op = 1 ∨ op = 2 ∨ op = 3 ∨ op = 4 ∨ op = 5 ∨ op = 6 ∨ op = 7 ∨ (op ≠ 1 ∧ op ≠ 2 ∧ op ≠ 3 ∧ op ≠ 4 ∧ op ≠ 5 ∧ op ≠ 6 ∧ op ≠ 7)) with rfl | rfl | rfl | rfl | rfl | rfl | rfl | ⟨h1, h2, h3, h4, h5, h6, h7⟩
    · go_enter Try.func22, Try.ntmps22
      go_wp2_with fail
      refine (fits_is _ a _ rfl).mono ?_; rintro e w1 ⟨rfl, rfl⟩
      go_wp2_with fail
      go_ret
      exact ⟨by simp [Prim.sound], k1⟩
    · by_cases ha : a = 0
      · subst ha
        go_enter Try.func22, Try.ntmps22
        go_wp2_with fail
        go_ret
        exact ⟨by simp [Prim.sound], k1⟩
      · go_enter Try.func22, Try.ntmps22
        go_wp2_with fail
        go_ret
        exact ⟨by simp [Prim.sound, ha], k1⟩
    · go_enter Try.func22, Try.ntmps22
      go_wp2_with fail
      refine (fits_is _ a _ rfl).mono ?_; rintro e w1 ⟨rfl, rfl⟩
      go_wp2_with fail
      go_ret
      exact ⟨by simp [Prim.sound], k1⟩
    · go_enter Try.func22, Try.ntmps22
      go_wp2_with fail
      refine (fits_is _ a _ rfl).mono ?_; rintro e w1 ⟨rfl, rfl⟩
      go_wp2_with fail
      go_ret
      exact ⟨by simp [Prim.sound], k1⟩
    · by_cases h0 : 0 ≤ a
      · by_cases h1 : a ≤ k
        · go_enter Try.func22, Try.ntmps22
          go_wp2_with fail
          go_ret
          exact ⟨by simp [Prim.sound, h0, h1], k1⟩
        · go_enter Try.func22, Try.ntmps22
          go_wp2_with fail
          go_ret
          exact ⟨by simp [Prim.sound]; omega, k1⟩
      · go_enter Try.func22, Try.ntmps22
        go_wp2_with fail
        go_ret
        exact ⟨by simp [Prim.sound]; omega, k1⟩
    · by_cases ha : a = 0
      · subst ha
        go_enter Try.func22, Try.ntmps22
        go_wp2_with fail
        go_ret
        exact ⟨by simp [Prim.sound], k1⟩
      · go_enter Try.func22, Try.ntmps22
        go_wp2_with fail
        go_ret
        exact ⟨by simp [Prim.sound, ha], k1⟩
    · by_cases ha : a = 0
      · subst ha
        go_enter Try.func22, Try.ntmps22
        go_wp2_with fail
        go_ret
        exact ⟨by simp [Prim.sound], k1⟩
      · go_enter Try.func22, Try.ntmps22
        go_wp2_with fail
        go_ret
        exact ⟨by simp [Prim.sound, ha], k1⟩
    · go_enter Try.func22, Try.ntmps22
      go_wp2_with fail
      go_ret
      exact ⟨by simp [Prim.sound, h1, h2, h3, h4, h5, h6, h7], k1⟩
  · go_enter Try.func22, Try.ntmps22
    go_wp2_with fail
    go_ret
    exact ⟨by simp [Prim.sound, hb], k1⟩
end Go.Proofs.Ytlkknmbdikoldaa
