/- Words for memory that my contracts share: a block that is known whole, a world of which only some blocks have turned, and the laws of make, copy, slices and clear over such blocks. -/
import Derived.WalkKit
import Derived.Laws.CopyOwn
import Derived.Deep.OwnRows
import Derived.Deep.Draws
import Derived.Lib.Hide
import Derived.Maps.AppendAt
namespace Go.Proofs.YtgcikpgcoemfnaaGreat
open Go.RowKit
set_option linter.unusedVariables false
set_option linter.unusedSimpArgs false

/-- Block g is just the cells cs of element type t, none of them frozen. -/
def Blk (w : World) (g : Nat) (t : TypeId) (cs : List Value) : Prop := w.heap[g]? = some (.cells cs.toArray t (0, 0))

/-- Bytes as cells. -/
def bytes (l : List UInt8) : List Value := l.map fun b => Value.int .u8 (b.toNat : Int)

/-- Of the blocks that were there, only those of M may have turned. -/
structure Keep (M : Nat → Prop) (w w' : World) : Prop where
  os : w'.os = w.os
  tape : w'.tape = w.tape
  output : w'.output = w.output
  size : w.heap.size ≤ w'.heap.size
  block : ∀ k, k < w.heap.size → ¬ M k → w'.heap[k]? = w.heap[k]?

def Nob : Nat → Prop := fun _ => False

/-- n & (2^i - 1) of an int is the remainder by 2^i, below zero too. -/
theorem i64_mask (n : Int) (i : Nat) (hi : i ≤ 62) : bits .and .i64 n (2 ^ i - 1) = n % 2 ^ i := by
  have hp : (2 : Nat) ^ i ≤ 2 ^ 62 := Nat.pow_le_pow_right (by decide) hi
  have h0 : 0 < (2 : Nat) ^ i := Nat.two_pow_pos i
  have ec : (2 : Int) ^ i - 1 = ((2 ^ i - 1 : Nat) : Int) := by
    rw [Int.natCast_sub (by omega)]; simp
  have h : (BitVec.ofInt 64 n &&& BitVec.ofInt 64 ((2 : Int) ^ i - 1)).toNat = (n % 2 ^ i).toNat := by
    rw [ec, BitVec.toNat_and, BitVec.toNat_ofInt, BitVec.toNat_ofInt]
    have e2 : (((2 ^ i - 1 : Nat) : Int) % ((2 ^ 64 : Nat) : Int)).toNat = 2 ^ i - 1 := by
      rw [Int.emod_eq_of_lt (by omega) (by
        have : (2 : Nat) ^ i - 1 < 2 ^ 64 := by omega
        exact_mod_cast this)]
      exact Int.toNat_natCast _
    rw [e2, Nat.and_two_pow_sub_one_eq_mod]
    have hd : ((2 : Nat) ^ i : Nat) ∣ 2 ^ 64 := Nat.pow_dvd_pow 2 (by omega)
    have h1 : (n % ((2 ^ 64 : Nat) : Int)) % ((2 ^ i : Nat) : Int) = n % ((2 ^ i : Nat) : Int) := Int.emod_emod_of_dvd n (by exact_mod_cast hd)
    have h2 : 0 ≤ n % ((2 ^ 64 : Nat) : Int) := Int.emod_nonneg _ (by decide)
    obtain ⟨m, hm⟩ := Int.eq_ofNat_of_zero_le h2
    rw [hm] at h1 ⊢
    rw [Int.toNat_natCast]
    have h3 : ((m % 2 ^ i : Nat) : Int) = n % ((2 ^ i : Nat) : Int) := by rw [Int.natCast_emod]; exact h1
    have h4 : n % (2 : Int) ^ i = ((m % 2 ^ i : Nat) : Int) := by rw [h3]; simp
    rw [h4, Int.toNat_natCast]
  have hr0 : 0 ≤ n % (2 : Int) ^ i := Int.emod_nonneg _ (by have : (0 : Int) < 2 ^ i := by exact_mod_cast h0
                                                            omega)
  have hr1 : n % (2 : Int) ^ i < 2 ^ 62 := Int.lt_of_lt_of_le (Int.emod_lt_of_pos _ (by exact_mod_cast h0)) (by exact_mod_cast hp)
  show IntKind.i64.wrap ((BitVec.ofInt 64 n &&& BitVec.ofInt 64 ((2 : Int) ^ i - 1)).toNat : Nat) = _
  rw [h, Int.toNat_of_nonneg hr0]
  simp only [IntKind.wrap, IntKind.bits, IntKind.signed]
  generalize n % (2 : Int) ^ i = z at *
  simp
  omega
@[go_sem] theorem i64_and1 (n : Int) : bits .and .i64 n 1 = n % 2 := i64_mask n 1 (by decide)
@[go_sem] theorem i64_and3 (n : Int) : bits .and .i64 n 3 = n % 4 := i64_mask n 2 (by decide)
@[go_sem] theorem i64_and7 (n : Int) : bits .and .i64 n 7 = n % 8 := i64_mask n 3 (by decide)
@[go_sem] theorem i64_and15 (n : Int) : bits .and .i64 n 15 = n % 16 := i64_mask n 4 (by decide)
@[go_sem] theorem i64_and31 (n : Int) : bits .and .i64 n 31 = n % 32 := i64_mask n 5 (by decide)
@[go_sem] theorem i64_and63 (n : Int) : bits .and .i64 n 63 = n % 64 := i64_mask n 6 (by decide)
@[go_sem] theorem i64_and127 (n : Int) : bits .and .i64 n 127 = n % 128 := i64_mask n 7 (by decide)
@[go_sem] theorem i64_and255 (n : Int) : bits .and .i64 n 255 = n % 256 := i64_mask n 8 (by decide)
@[go_sem] theorem i64_and511 (n : Int) : bits .and .i64 n 511 = n % 512 := i64_mask n 9 (by decide)
@[go_sem] theorem i64_and1023 (n : Int) : bits .and .i64 n 1023 = n % 1024 := i64_mask n 10 (by decide)
@[go_sem] theorem i64_and4095 (n : Int) : bits .and .i64 n 4095 = n % 4096 := i64_mask n 12 (by decide)
@[go_sem] theorem i64_and65535 (n : Int) : bits .and .i64 n 65535 = n % 65536 := i64_mask n 16 (by decide)

section
variable {M M' : Nat → Prop} {w w' w'' : World} {g r : Nat} {t t' : TypeId} {cs : List Value}
theorem Keep.refl (M : Nat → Prop) (w : World) : Keep M w w := ⟨rfl, rfl, rfl, Nat.le_refl _, fun _ _ _ => rfl⟩
theorem Keep.trans (h : Keep M w w') (h' : Keep M' w' w'') (hm : ∀ k, k < w.heap.size → M' k → M k) : Keep M w w'' :=
  ⟨h'.os.trans h.os, h'.tape.trans h.tape, h'.output.trans h.output, Nat.le_trans h.size h'.size,
   fun k hk hn => (h'.block k (Nat.lt_of_lt_of_le hk h.size) (fun m => hn (hm k hk m))).trans (h.block k hk hn)⟩
theorem Keep.mono (h : Keep M w w') (hm : ∀ k, k < w.heap.size → M k → M' k) : Keep M' w w' :=
  ⟨h.os, h.tape, h.output, h.size, fun k hk hn => h.block k hk (fun m => hn (hm k hk m))⟩
theorem Keep.drewN (h : Keep M w w') (n : Nat) : Keep M w (w'.drewN n) := ⟨h.os, h.tape, h.output, h.size, h.block⟩
theorem Keep.drew (h : Keep M w w') : Keep M w w'.drew := ⟨h.os, h.tape, h.output, h.size, h.block⟩
theorem Keep.alloc (h : Keep M w w') (o : Obj) : Keep M w (w'.alloc o) :=
  ⟨h.os, h.tape, h.output, by have := h.size; simp; omega, fun k hk hn => (Below.heap_alloc w' o k (Nat.lt_of_lt_of_le hk h.size)).trans (h.block k hk hn)⟩
theorem Keep.setCell (h : Keep M w w') (a : Addr) (v : Value) (ha : a.block < w.heap.size → M a.block) : Keep M w (w'.setCell a v) :=
  ⟨h.os, h.tape, h.output, by simpa [World.setCell] using h.size, fun k hk hn =>
    (Below.heap_setCell w' a v k (fun e => hn (e ▸ ha (e ▸ hk)))).trans (h.block k hk hn)⟩
theorem Keep.setRow (h : Keep M w w') (b : Nat) (vs : Array Value) (ha : b < w.heap.size → M b) : Keep M w (w'.setRow b vs) :=
  ⟨h.os, h.tape, h.output, by simpa using h.size, fun k hk hn =>
    (setRow_other w' b k vs (fun e => hn (e ▸ ha (e ▸ hk)))).trans (h.block k hk hn)⟩
theorem Keep.below {B : Nat} (h : Keep M w w') (hB : B ≤ w.heap.size) (hm : ∀ k, k < B → ¬ M k) : Below B w w' :=
  ⟨h.os, h.tape, h.output, h.size, fun k hk => h.block k (by omega) (hm k hk)⟩
theorem Keep.of_below {B : Nat} (h : Below B w w') (hm : ∀ k, k < w.heap.size → ¬ M k → k < B) : Keep M w w' :=
  ⟨h.os, h.tape, h.output, h.size, fun k hk hn => h.block k (hm k hk hn)⟩

theorem Blk.lt (h : Blk w g t cs) : g < w.heap.size := (Array.getElem?_eq_some_iff.1 h).1
theorem Blk.cell (h : Blk w g t cs) (i : Nat) : w.cell? ⟨g, i, none⟩ = cs[i]? := by
  have := cell_of_row w g i cs.toArray t (0, 0) h
  simpa using this
theorem Blk.frozen (h : Blk w g t cs) (i : Nat) : w.frozen? ⟨g, i, none⟩ = false := by
  unfold Blk at h
  simp [World.frozen?, h]
theorem Blk.keep (h : Blk w g t cs) (hk : Keep M w w') (hm : ¬ M g) : Blk w' g t cs := (hk.block g h.lt hm).trans h
theorem Blk.drewN (h : Blk w g t cs) (n : Nat) : Blk (w.drewN n) g t cs := h
theorem Blk.drew (h : Blk w g t cs) : Blk w.drew g t cs := h
theorem Blk.alloc (h : Blk w g t cs) (o : Obj) : Blk (w.alloc o) g t cs := (Below.heap_alloc w o g h.lt).trans h
theorem Blk.new (w : World) (t : TypeId) (cs : List Value) : Blk (w.alloc (.cells cs.toArray t)) w.heap.size t cs := heap_alloc_new w _
theorem Blk.setCell (h : Blk w g t cs) (i : Nat) (u : Value) : Blk (w.setCell ⟨g, i, none⟩ u) g t (cs.set i u) := by
  unfold Blk at h ⊢
  simp [World.setCell, Array.getElem?_modify, h]
theorem Blk.far (h : Blk w g t cs) {p : Addr} (hp : g ≠ p.block) (u : Value) : Blk (w.setCell p u) g t cs := (Below.heap_setCell w p u g hp).trans h
theorem Blk.setRow (h : Blk w g t cs) (vs : List Value) : Blk (w.setRow g vs.toArray) g t vs := setRow_heap w g _ _ t _ h
theorem Blk.setRow_far (h : Blk w g t cs) {b : Nat} (hp : g ≠ b) (vs : Array Value) : Blk (w.setRow b vs) g t cs := (setRow_other w b g vs hp).trans h
theorem Blk.ne_ {g' : Nat} {t' : TypeId} {cs' : List Value} (h : Blk w g t cs) (h' : Blk w g' t' cs') (hne : t ≠ t') : g ≠ g' := by
  intro e
  subst e
  have e2 := Option.some.inj (Eq.trans (Eq.symm h) h')
  simp only [Obj.cells.injEq] at e2
  exact hne e2.2.1
theorem Blk.same {cs' : List Value} (h : Blk w g t cs) (h' : Blk w g t' cs') : cs = cs' ∧ t = t' := by
  have e2 := Option.some.inj (Eq.trans (Eq.symm h) h')
  simp only [Obj.cells.injEq] at e2
  exact ⟨by simpa using e2.1, e2.2.1⟩
theorem Blk.below {B : Nat} (h : Blk w g t cs) (hb : Below B w w') (hg : g < B) : Blk w' g t cs := (hb.block g hg).trans h
end

/-- The slice value '.slice A n _' holds the cells xs. -/
def Reads (w : World) (A : Option Addr) (n : Nat) (xs : List Value) : Prop :=
  xs.length = n ∧ (0 < n → ∃ ad, A = some ad ∧ ∀ j u, xs[j]? = some u → w.cell? (ad.add j) = some u)
theorem add_lit (g i j : Nat) : (⟨g, i, none⟩ : Addr).add j = ⟨g, i + j, none⟩ := by
  unfold Addr.add; split <;> simp_all
theorem block_of_add (a : Addr) : ∀ n : Nat, (a.add n).block = a.block
  | 0 => rfl
  | _ + 1 => rfl
theorem add_of_add (a : Addr) : ∀ i j : Nat, (a.add i).add j = a.add (i + j)
  | 0, _ => by rw [Nat.zero_add]; rfl
  | _ + 1, 0 => rfl
  | i + 1, j + 1 => by simp [Addr.add, Nat.add_assoc]
theorem Reads.of_blk {w : World} {g off n : Nat} {t : TypeId} {cs : List Value} {A : Option Addr} (h : Blk w g t cs) (hA : 0 < n → A = some ⟨g, off, none⟩) (hn : off + n ≤ cs.length) :
    Reads w A n ((cs.drop off).take n) := by
  refine ⟨by simp; omega, fun h0 => ⟨_, hA h0, fun j u hu => ?_⟩⟩
  rw [add_lit, h.cell]
  rw [List.getElem?_take, List.getElem?_drop] at hu
  split at hu
  · exact hu
  · cases hu
theorem Reads.keep {M : Nat → Prop} {w w' : World} {A : Option Addr} {n : Nat} {xs : List Value} (h : Reads w A n xs) (k : Keep M w w') (hm : ∀ ad, A = some ad → ¬ M ad.block) : Reads w' A n xs := by
  refine ⟨h.1, fun h0 => ?_⟩
  obtain ⟨ad, rfl, hc⟩ := h.2 h0
  refine ⟨ad, rfl, fun j u hu => ?_⟩
  have hcu := hc j u hu
  rw [← hcu]
  exact World.cell?_of_block (w := w) (k.block _ (block_lt_of_cell hcu) (by rw [block_of_add]; exact hm ad rfl))
theorem Reads.nil_ (w : World) (A : Option Addr) : Reads w A 0 [] := ⟨rfl, fun h => absurd h (by omega)⟩

@[simp] theorem bytes_length (l : List UInt8) : (bytes l).length = l.length := by simp [bytes]
theorem bytes_get (l : List UInt8) (i : Nat) : (bytes l)[i]? = (l[i]?).map fun b => Value.int .u8 (b.toNat : Int) := by simp [bytes]
theorem bytes_at {l : List UInt8} {i : Nat} (h : i < l.length) : (bytes l)[i]? = some (.int .u8 ((l[i]).toNat : Int)) := by rw [bytes_get, List.getElem?_eq_getElem h]; rfl
theorem bytes_getD {l : List UInt8} {i : Nat} (h : i < l.length) : (bytes l)[i]? = some (.int .u8 ((l.getD i 0).toNat : Int)) := by rw [bytes_at h, List.getD_eq_getElem?_getD, List.getElem?_eq_getElem h]; rfl
theorem bytes_append (a b : List UInt8) : bytes (a ++ b) = bytes a ++ bytes b := by simp [bytes]
theorem bytes_take (a : List UInt8) (n : Nat) : bytes (a.take n) = (bytes a).take n := by simp [bytes]
theorem bytes_drop (a : List UInt8) (n : Nat) : bytes (a.drop n) = (bytes a).drop n := by simp [bytes]
theorem bytes_replicate (n : Nat) : bytes (List.replicate n 0) = List.replicate n (Value.int .u8 0) := by simp [bytes]
theorem bytes_one (l : List UInt8) : ∀ v ∈ bytes l, v.oneCell' = true := by
  intro v hv
  simp [bytes] at hv
  obtain ⟨b, _, rfl⟩ := hv
  rfl
theorem bytes_inj {a b : List UInt8} (h : bytes a = bytes b) : a = b := by
  unfold bytes at h
  refine List.map_inj_right (fun x y hxy => ?_) |>.1 h
  injection hxy with _ e
  exact UInt8.toNat_inj.1 (by omega)
theorem splice_bytes (L : List UInt8) (off : Nat) (cs : List UInt8) : splice (bytes L) off (bytes cs) = bytes (splice L off cs) := by
  simp [splice, bytes_append, bytes_take, bytes_drop]

theorem splice_get {α : Type} (L : List α) (off : Nat) (cs : List α) (h : off + cs.length ≤ L.length) (i : Nat) :
    (splice L off cs)[i]? = if off ≤ i ∧ i < off + cs.length then cs[i - off]? else L[i]? := by
  unfold splice
  have ht : (L.take off).length = off := by simp; omega
  rcases Nat.lt_or_ge i off with h1 | h1
  · rw [List.getElem?_append_left (by omega), if_neg (by omega), List.getElem?_take, if_pos h1]
  · rw [List.getElem?_append_right (by omega), ht]
    rcases Nat.lt_or_ge i (off + cs.length) with h2 | h2
    · rw [if_pos ⟨h1, h2⟩, List.getElem?_append_left (by omega)]
    · rw [if_neg (by omega), List.getElem?_append_right (by omega), List.getElem?_drop]
      congr 1
      omega
theorem splice_getD {α : Type} (L : List α) (off : Nat) (cs : List α) (h : off + cs.length ≤ L.length) (i : Nat) (d : α) :
    (splice L off cs).getD i d = if off ≤ i ∧ i < off + cs.length then cs.getD (i - off) d else L.getD i d := by
  rw [List.getD_eq_getElem?_getD, splice_get L off cs h]
  split <;> rfl
theorem splice_mid {α : Type} (L : List α) (off : Nat) (cs : List α) (h : off + cs.length ≤ L.length) : ((splice L off cs).drop off).take cs.length = cs := by
  unfold splice
  have ht : (L.take off).length = off := by simp; omega
  rw [List.drop_append, List.drop_of_length_le (by omega), ht, Nat.sub_self, List.drop_zero, List.nil_append, List.take_append_of_le_length (Nat.le_refl _), List.take_length]

theorem splice_before {α : Type} (L : List α) (off : Nat) (cs : List α) (h : off + cs.length ≤ L.length) (i n : Nat) (hi : i + n ≤ off) : ((splice L off cs).drop i).take n = (L.drop i).take n := by
  apply List.ext_getElem?
  intro j
  rw [List.getElem?_take, List.getElem?_take, List.getElem?_drop, List.getElem?_drop, splice_get L off cs h]
  by_cases hj : j < n
  · rw [if_pos hj, if_pos hj, if_neg (by omega)]
  · rw [if_neg hj, if_neg hj]
theorem splice_behind {α : Type} (L : List α) (off : Nat) (cs : List α) (h : off + cs.length ≤ L.length) (i n : Nat) (hi : off + cs.length ≤ i) : ((splice L off cs).drop i).take n = (L.drop i).take n := by
  apply List.ext_getElem?
  intro j
  rw [List.getElem?_take, List.getElem?_take, List.getElem?_drop, List.getElem?_drop, splice_get L off cs h]
  by_cases hj : j < n
  · rw [if_pos hj, if_pos hj, if_neg (by omega)]
  · rw [if_neg hj, if_neg hj]

/-- A list of bytes as a string. -/
def str (l : List UInt8) : ByteArray := ⟨l.toArray⟩
theorem str_inj {a b : List UInt8} (h : str a = str b) : a = b := by
  unfold str at h
  injection h with h
  simpa using h
theorem str_size (l : List UInt8) : (str l).size = l.length := by simp [str, ByteArray.size]

section
variable {P : Program} {w : World} {ops : Array Oper} {rest : List Oper} {o : Oper} {a : Act} {Q : Exit → Act → World → Prop}

/-- make([]T, n) of a T of one cell: the world behind it is a letter, of which the new row is known. -/
theorem wpList_mk (hgd : o.guard = none) (l c : Operand) (t : TypeId) (ho : o.op = .makeSlice t l c)
    (e : TypeId) (z : Value) (by_ : Nat) (ht : P.underlying t = some (.slice e)) (hinfo : (P.info? e).map (fun i => (i.zero, i.size, i.bytes)) = some (some z, 1, by_)) (hz1 : z.cells = #[z])
    (kl kc : IntKind) (n : Nat) (L : Int) (hL : L = n) (hl : a.eval l = .int kl L) (hc : a.eval c = .int kc L) (hb : by_ * n ≤ 281474976710656) (h63 : n ≤ 9223372036854775807)
    (h : ∀ w', Blk w' w.heap.size e (List.replicate n z) → Keep Nob w w' → w'.heap.size = w.heap.size + 1 → wpList P ops Q rest (a.put o.dst (.slice (some ⟨w.heap.size, 0, none⟩) n n)) w') :
    wpList P ops Q (o :: rest) a w := by
  subst hL
  refine wpList_plain hgd fun K hK => ?_
  have hrun := run_make_row' (P := P) t e z by_ ht hinfo hz1 kl kc n hb h63 w
  have hh := h (w.alloc (.cells (madeCells #[z] n) e)) (by
    have := Blk.new w e (madeCells #[z] n).toList
    rw [Array.toArray_toList, toList_madeCells_one] at this
    exact this) ((Keep.refl _ w).alloc _) (by simp)
  unfold Oper.wp
  simp [execOp, ho, hl, hc, hrun, Result.andThen]
  exact hK _ _ hh

/-- copy(dst, src): dst lies in a row that is known whole, src is whatever reads as cells. -/
theorem wpList_cp (hgd : o.guard = none) (d s : Operand) (dT sT : TypeId)
    (ho : o.op = .call { callee := .builtin .copy, args := #[d, s], argTypes := #[dT, sT] }) (elem : TypeId) (hu : P.underlying dT = some (.slice elem)) (hsz : (P.info? elem).map (·.size) = some 1)
    (dp sp : Option Addr) (dLen dCap sLen sCap : Nat) (hd : a.eval d = .slice dp dLen dCap) (hs : a.eval s = .slice sp sLen sCap)
    (g off : Nat) (cur : List Value) (t : TypeId) (hg : Blk w g t cur) (ss : List Value) (hr : Reads w sp sLen ss)
    (hpos : 0 < dLen → dp = some ⟨g, off, none⟩)
    (hfit : off + dLen ≤ cur.length) (h1 : ∀ v ∈ ss, v.oneCell' = true)
    (h : ∀ w', Blk w' g t (splice cur off (ss.take dLen)) → Keep (· = g) w w' → w'.heap.size = w.heap.size → wpList P ops Q rest (a.put o.dst (goInt (Nat.min sLen dLen))) w') :
    wpList P ops Q (o :: rest) a w := by
  have hlen : (ss.take dLen).length = Nat.min sLen dLen := by rw [List.length_take, hr.1]; exact Nat.min_comm _ _
  by_cases h0 : Nat.min sLen dLen = 0
  · refine wpList_copy_nothing hgd d s dT sT ho elem hu hsz dp sp dLen dCap sLen sCap hd hs h0 ?_
    have e : ss.take dLen = [] := List.eq_nil_of_length_eq_zero (by omega)
    rw [h0] at h
    exact h w (by rw [e, show splice cur off [] = cur from by simp [splice]]; exact hg) (Keep.refl _ _) rfl
  · have hd0 : 0 < dLen := by rcases Nat.eq_zero_or_pos dLen with e | e; · subst e; simp at h0
                              · exact e
    have hs0 : 0 < sLen := by rcases Nat.eq_zero_or_pos sLen with e | e; · subst e; simp at h0
                              · exact e
    obtain rfl := hpos hd0
    obtain ⟨ad, rfl, hsrc⟩ := hr.2 hs0
    have hle : (ss.take dLen).length ≤ dLen := by rw [List.length_take]; exact Nat.min_le_left _ _
    refine wpList_copy_own hgd d s dT sT ho elem hu hsz g off dLen dCap ad sLen sCap hd hs cur.toArray t hg (ss.take dLen) hlen
      (fun j v hj => hsrc j v (by rw [List.getElem?_take] at hj; split at hj <;> simp_all)) (by simp; omega) (fun v hv => h1 v (List.mem_of_mem_take hv)) ?_
    have hh := h _ (hg.setRow (splice cur off (ss.take dLen))) ((Keep.refl _ w).setRow g _ (fun _ => rfl)) (by simp)
    simp only [splice, hlen] at hh
    rw [hlen]
    exact hh

theorem run_sizeOf' (w : World) (e sz : Nat) (hsz : (P.info? e).map (·.size) = some sz) : (sizeOf e).run P w = .ok sz w := by
  obtain ⟨i, hi, rfl⟩ := Option.map_eq_some_iff.1 hsz
  simp [sizeOf, typeInfo, hi]

/-- string(b) of a slice that reads as bytes. -/
theorem run_str (W : World) (src dst e : TypeId) (A : Option Addr) (n c : Nat) (l : List UInt8) (hs : P.underlying src = some (.slice e)) (he : P.underlying e = some (.int .u8)) (hd : P.underlying dst = some .string)
    (hr : Reads W A n (bytes l)) : (convert src dst (.slice A n c)).run P W = .ok (.string (str l)) W := by
  have hn : l.length = n := by simpa using hr.1
  rcases Nat.eq_zero_or_pos n with h0 | h0
  · obtain rfl : l = [] := List.eq_nil_of_length_eq_zero (by omega)
    subst h0
    rw [run_convert_bytes_string W src dst e A 0 c hs he hd]
    cases A with
    | none => simp [Conv.bytesToString]; rfl
    | some a => simp [Conv.bytesToString, loadCells]; rfl
  · obtain ⟨ad, rfl, hc⟩ := hr.2 h0
    subst hn
    exact run_convert_bytes_back W src dst e ad c l hs he hd (fun j hj => hc j _ (bytes_at hj))

/-- copy as a run equation, for a region that draws its order: lay it ahead, at the world as the walk will spell it. -/
theorem run_cp (W : World) (dT sT elem : TypeId) (hu : P.underlying dT = some (.slice elem)) (hsz : (P.info? elem).map (·.size) = some 1)
    (dp sp : Option Addr) (dLen dCap sLen sCap g off : Nat) (cur : List Value) (t : TypeId) (hg : Blk W g t cur) (ss : List Value) (hr : Reads W sp sLen ss)
    (hpos : 0 < dLen → dp = some ⟨g, off, none⟩) (hfit : off + dLen ≤ cur.length) (h1 : ∀ v ∈ ss, v.oneCell' = true) :
    ∃ w2, (∀ ty, (Builtin.copy_ #[dT, sT] ty #[.slice dp dLen dCap, .slice sp sLen sCap]).run P W = .ok (goInt (Nat.min sLen dLen)) w2) ∧ Blk w2 g t (splice cur off (ss.take dLen)) ∧ Keep (· = g) W w2 ∧ w2.heap.size = W.heap.size := by
  have hlen : (ss.take dLen).length = Nat.min sLen dLen := by rw [List.length_take, hr.1]; exact Nat.min_comm _ _
  by_cases h0 : Nat.min sLen dLen = 0
  · have e : ss.take dLen = [] := List.eq_nil_of_length_eq_zero (by omega)
    refine ⟨W, fun ty => ?_, by rw [e, show splice cur off [] = cur from by simp [splice]]; exact hg, Keep.refl _ _, rfl⟩
    rw [h0]
    exact run_copy_none W dT sT ty elem dp sp dLen dCap sLen sCap hu hsz h0
  · have hd0 : 0 < dLen := by rcases Nat.eq_zero_or_pos dLen with e | e; · subst e; simp at h0
                              · exact e
    have hs0 : 0 < sLen := by rcases Nat.eq_zero_or_pos sLen with e | e; · subst e; simp at h0
                              · exact e
    obtain rfl := hpos hd0
    obtain ⟨ad, rfl, hsrc⟩ := hr.2 hs0
    have hle : (ss.take dLen).length ≤ dLen := by rw [List.length_take]; exact Nat.min_le_left _ _
    refine ⟨W.setRow g (splice cur off (ss.take dLen)).toArray, fun ty => ?_, hg.setRow _, (Keep.refl _ W).setRow g _ (fun _ => rfl), by simp⟩
    have hrun := run_copy_row (P := P) W dT sT ty elem g off dLen dCap ad sLen sCap cur.toArray t (ss.take dLen) hu hsz hg hlen
      (fun j v hj => hsrc j v (by rw [List.getElem?_take] at hj; split at hj <;> simp_all)) (by simp; omega) (fun v hv => h1 v (List.mem_of_mem_take hv))
    rw [hrun, hlen, splice, hlen]
    simp

/-- copy(dst, s), s a string. -/
theorem run_cps (W : World) (dT sT elem : TypeId) (hu : P.underlying dT = some (.slice elem)) (hsz : (P.info? elem).map (·.size) = some 1)
    (dp : Option Addr) (dLen dCap g off : Nat) (cur : List Value) (t : TypeId) (hg : Blk W g t cur) (l : List UInt8)
    (hpos : 0 < dLen → dp = some ⟨g, off, none⟩) (hfit : off + dLen ≤ cur.length) (hl : l.length ≤ dLen) :
    ∃ w2, (∀ ty, (Builtin.copy_ #[dT, sT] ty #[.slice dp dLen dCap, .string (str l)]).run P W = .ok (goInt l.length) w2) ∧ Blk w2 g t (splice cur off (bytes l)) ∧ Keep (· = g) W w2 ∧ w2.heap.size = W.heap.size := by
  obtain ⟨i, hi, his⟩ := Option.map_eq_some_iff.1 hsz
  have hmin : Nat.min (str l).size dLen = l.length := by rw [str_size]; exact Nat.min_eq_left hl
  have hcells : List.take l.length (List.map (fun b : UInt8 => Value.int .u8 (b.toNat : Int)) (str l).data.toList) = bytes l :=
    List.take_of_length_le (by simp [str])
  rcases Nat.eq_zero_or_pos l.length with h0 | h0
  · obtain rfl : l = [] := List.eq_nil_of_length_eq_zero h0
    refine ⟨W, fun ty => ?_, by rw [show splice cur off (bytes []) = cur from by simp [splice, bytes]]; exact hg, Keep.refl _ _, rfl⟩
    cases dp with
    | none => simp [Builtin.copy_, run_underlying hu, Builtin.lenOf, Builtin.firstCells, sizeOf, typeInfo, hi, hmin]
    | some a =>
      simp only [List.length_nil] at hmin hcells
      simp [Builtin.copy_, run_underlying hu, Builtin.lenOf, Builtin.firstCells, sizeOf, typeInfo, hi, hmin, storeCells]
  · obtain rfl := hpos (by omega)
    have hst := run_storeCells_at P g off t (bytes l) 0 cur.toArray W hg (by simp; omega) (bytes_one l)
    refine ⟨W.setRow g (splice cur off (bytes l)).toArray, fun ty => ?_, hg.setRow _, (Keep.refl _ W).setRow g _ (fun _ => rfl), by simp⟩
    simp [Builtin.copy_, run_underlying hu, Builtin.lenOf, Builtin.firstCells, sizeOf, typeInfo, hi, hmin, hcells, hst, splice]
theorem wpList_cps (hgd : o.guard = none) (d s : Operand) (dT sT : TypeId)
    (ho : o.op = .call { callee := .builtin .copy, args := #[d, s], argTypes := #[dT, sT] }) (elem : TypeId) (hu : P.underlying dT = some (.slice elem)) (hsz : (P.info? elem).map (·.size) = some 1)
    (dp : Option Addr) (dLen dCap : Nat) (l : List UInt8) (hd : a.eval d = .slice dp dLen dCap) (hs : a.eval s = .string (str l))
    (g off : Nat) (cur : List Value) (t : TypeId) (hg : Blk w g t cur)
    (hpos : 0 < dLen → dp = some ⟨g, off, none⟩) (hfit : off + dLen ≤ cur.length) (hl : l.length ≤ dLen)
    (h : ∀ w', Blk w' g t (splice cur off (bytes l)) → Keep (· = g) w w' → w'.heap.size = w.heap.size → wpList P ops Q rest (a.put o.dst (goInt l.length)) w') :
    wpList P ops Q (o :: rest) a w := by
  refine wpList_plain hgd fun K hK => ?_
  obtain ⟨w2, hrun, h2, h3, h4⟩ := run_cps (P := P) w dT sT elem hu hsz dp dLen dCap g off cur t hg l hpos hfit hl
  unfold Oper.wp
  simp [execOp, ho, resolve, invoke, builtin, hd, hs, hrun, Result.andThen]
  exact hK _ _ (h w2 h2 h3 h4)

/-- clear(s), s a part of a row that is known whole, of elements of one cell. -/
theorem run_clear_row (w : World) (t e ty : TypeId) (z : Value) (by_ : Nat) (ht : P.underlying t = some (.slice e)) (hinfo : (P.info? e).map (fun i => (i.zero, i.size, i.bytes)) = some (some z, 1, by_)) (hz : z.cells = #[z]) (h1 : z.oneCell' = true)
    (g off n c : Nat) (t' : TypeId) (cur : List Value) (hg : Blk w g t' cur) (hfit : off + n ≤ cur.length) :
    (Builtin.clear_ #[t] ty #[.slice (some ⟨g, off, none⟩) n c]).run P w = .ok (.tuple #[]) (w.setRow g (splice cur off (List.replicate n z)).toArray) := by
  obtain ⟨i, hi, hzz⟩ := Option.map_eq_some_iff.1 hinfo
  simp only [Prod.mk.injEq] at hzz
  have hzc : (Builtin.zeroCells z.cells n).toList = List.replicate n z := by
    rw [hz]
    simp [Builtin.zeroCells]
    apply List.ext_getElem
    · simp
    · intro i h1 h2
      simp [Nat.mod_one]
  rcases Nat.eq_zero_or_pos n with rfl | hn
  · rw [show splice cur off (List.replicate 0 z) = cur from by simp [splice], setRow_self w g cur.toArray t' (0, 0) hg]
    simp [Builtin.clear_, run_underlying ht]
  · have hst := run_storeCells_at P g off t' (List.replicate n z) 0 cur.toArray w hg (by simpa using hfit) (by intro v hv; rw [List.eq_of_mem_replicate hv]; exact h1)
    obtain ⟨m, rfl⟩ : ∃ m, n = m + 1 := ⟨n - 1, by omega⟩
    rw [← hzc] at hst
    simp only [Builtin.clear_, splice, ← hzc]
    simp [run_underlying ht, zeroValue, typeInfo, hi, hzz.1, hst]

/-- The slice value '.slice A n cap' is the call's own: its n elements, of sz cells each, are xs. -/
def Vec (w : World) (e sz : Nat) (A : Option Addr) (n cap : Nat) (xs : List Value) : Prop := w.ownsRow 0 e sz (.slice A n cap) n xs
theorem Vec.nil (w : World) (e sz : Nat) : Vec w e sz none 0 0 [] := World.ownsRow_nil w 0 e sz
theorem Vec.len {w : World} {e sz n cap : Nat} {A : Option Addr} {xs : List Value} (h : Vec w e sz A n cap xs) : xs.length = n * sz := h.1
theorem Vec.at_ {w : World} {e sz n cap : Nat} {A : Option Addr} {xs : List Value} (h : Vec w e sz A n cap xs) (hn : 0 < n) :
    ∃ g cur, A = some ⟨g, 0, none⟩ ∧ Blk w g e cur ∧ n ≤ cap ∧ cur.length = cap * sz ∧ cur.take (n * sz) = xs := by
  rcases h.2 with ⟨he, h0⟩ | ⟨g, cap', cur, he, _, hg, hc, _, hs, ht⟩
  · omega
  · simp only [Value.slice.injEq, true_and] at he
    obtain ⟨rfl, rfl⟩ := he
    exact ⟨g, cur.toList, rfl, by simpa [Blk] using hg, hc, by simpa using hs, ht⟩
theorem Vec.of_blk {w : World} {g e sz n : Nat} {cs : List Value} (h : Blk w g e cs) (hn : cs.length = n * sz) (hm : n ≤ maxLen) : Vec w e sz (some ⟨g, 0, none⟩) n n cs :=
  ⟨hn, .inr ⟨g, n, cs.toArray, rfl, Nat.zero_le _, h, Nat.le_refl _, hm, by simpa using hn, List.take_of_length_le (by simp; omega)⟩⟩
theorem Vec.reads {w : World} {e sz n cap : Nat} {A : Option Addr} {xs : List Value} (h : Vec w e sz A n cap xs) : Reads w A (n * sz) xs := by
  refine ⟨h.len, fun h0 => ?_⟩
  obtain ⟨g, cur, rfl, hb, _, hc, ht⟩ := h.at_ (Nat.pos_of_mul_pos_right h0)
  refine ⟨_, rfl, fun j u hu => ?_⟩
  rw [add_lit, Nat.zero_add, hb.cell]
  rw [← ht, List.getElem?_take] at hu
  split at hu
  · exact hu
  · cases hu
def Own (A : Option Addr) : Nat → Prop := fun k => ∃ a : Addr, A = some a ∧ a.block = k
theorem Vec.keep {M : Nat → Prop} {w w' : World} {e sz n cap : Nat} {A : Option Addr} {xs : List Value} (h : Vec w e sz A n cap xs) (k : Keep M w w') (hm : ∀ g, Own A g → ¬ M g) : Vec w' e sz A n cap xs := by
  refine ⟨h.1, ?_⟩
  rcases h.2 with h0 | ⟨g, cap', cur, he, hb, hg, r⟩
  · exact .inl h0
  · refine .inr ⟨g, cap', cur, he, hb, ?_, r⟩
    simp only [Value.slice.injEq, true_and] at he
    rw [k.block g (Array.getElem?_eq_some_iff.1 hg).1 (hm g ⟨_, he.1, rfl⟩)]
    exact hg
theorem Vec.lt {w : World} {e sz n cap : Nat} {A : Option Addr} {xs : List Value} (h : Vec w e sz A n cap xs) : ∀ g, Own A g → g < w.heap.size := by
  rintro g ⟨a, rfl, rfl⟩
  rcases h.2 with ⟨he, _⟩ | ⟨g', cap', cur, he, _, hg, _⟩
  · simp at he
  · simp only [Value.slice.injEq, Option.some.injEq, true_and] at he
    rw [he.1]
    exact (Array.getElem?_eq_some_iff.1 hg).1
/-- One cell of the row is written. -/
theorem Vec.setCell {w : World} {e sz n cap g : Nat} {xs : List Value} (h : Vec w e sz (some ⟨g, 0, none⟩) n cap xs) (j : Nat) (u : Value) : Vec (w.setCell ⟨g, j, none⟩ u) e sz (some ⟨g, 0, none⟩) n cap (xs.set j u) := by
  refine ⟨by rw [List.length_set]; exact h.1, ?_⟩
  rcases h.2 with ⟨he, _⟩ | ⟨g', cap', cur, he, hb, hg, h1, h2, h3, h4⟩
  · simp at he
  · simp only [Value.slice.injEq, Option.some.injEq, Addr.mk.injEq, and_true, true_and] at he
    obtain ⟨rfl, rfl⟩ := he
    have hs := Blk.setCell (w := w) (g := g) (t := e) (cs := cur.toList) (by simpa [Blk] using hg) j u
    refine .inr ⟨g, cap, (cur.toList.set j u).toArray, rfl, hb, hs, h1, h2, by simpa using h3, ?_⟩
    rw [← h4, List.take_set]
theorem own_block (A : Option Addr) (n cap : Nat) : (Value.slice A n cap).ownBlock = A.map (·.block) := by cases A <;> rfl

/-- append(v, x...): v the call's own, x whatever reads as cells; what comes out is the call's own too, in v's block or in a new one. -/
theorem run_ap (w : World) (t ty e sz by_ : Nat) (z : Value) (ht : P.underlying t = some (.slice e)) (hinfo : (P.info? e).map (fun i => (i.zero, i.size, i.bytes)) = some (some z, sz, by_)) (hzs : z.cells.size = sz) (hsz : 0 < sz)
    (A : Option Addr) (n cap : Nat) (xs : List Value) (hv : Vec w e sz A n cap xs) (B : Option Addr) (m c : Nat) (news : List Value) (hr : Reads w B (m * sz) news) (h1 : ∀ u ∈ news, u.oneCell' = true)
    (h63 : n + m ≤ maxLen) (hby : (n + m) * by_ ≤ 140737488355328) :
    ∃ A' cap' w', (Builtin.append_ #[t, t] ty #[.slice A n cap, .slice B m c]).run P w = .ok (.slice A' (n + m) cap') w' ∧ Vec w' e sz A' (n + m) cap' (xs ++ news) ∧ Keep (Own A) w w' ∧
      (∀ g, Own A' g → Own A g ∨ g = w.heap.size) := by
  obtain ⟨i, hi, hzz⟩ := Option.map_eq_some_iff.1 hinfo
  simp only [Prod.mk.injEq] at hzz
  obtain ⟨hz, hsize, hbytes⟩ := hzz
  by_cases hm : m = 0
  · subst hm
    obtain rfl : news = [] := List.eq_nil_of_length_eq_zero (by have := hr.1; simpa using this)
    refine ⟨A, cap, w, ?_, by simpa using hv, Keep.refl _ _, fun g hg => .inl hg⟩
    have hle : n ≤ cap := by
      rcases hv.2 with ⟨he, h0⟩ | ⟨g, cap', cur, he, _, _, h2, _⟩
      · omega
      · simp only [Value.slice.injEq, true_and] at he
        omega
    cases A <;> cases B <;> simp [Builtin.append_, run_underlying ht, sizeOf, typeInfo, hi, Builtin.lenOf, Builtin.firstCells, hle, storeCells, loadCells, loadCellsFrom]
  · obtain ⟨ad, rfl, hc⟩ := hr.2 (Nat.mul_pos (by omega) hsz)
    obtain ⟨v', w', h2, h3, h4, _, h5⟩ := run_append_own_at (P := P) w 0 t ty e i z sz by_ ht hi hz hsize hbytes hzs hsz (.slice A n cap) n xs hv ad m c news hr.1 hc h1 h63 hby (Nat.zero_le _)
    have hform : ∃ A' cap', v' = .slice A' (n + m) cap' := by
      rcases h3.2 with ⟨he, h0⟩ | ⟨g, cap', cur, he, _⟩
      · omega
      · exact ⟨_, _, he⟩
    obtain ⟨A', cap', rfl⟩ := hform
    refine ⟨A', cap', w', h2, h3, ⟨h4.os, h4.tape, h4.output, h4.size, fun k hk hn => h4.block k hk (fun e => hn ?_)⟩, fun g hg => ?_⟩
    · rw [own_block] at e
      obtain ⟨a, ha, hb⟩ := Option.map_eq_some_iff.1 e.symm
      exact ⟨a, ha, hb⟩
    · obtain ⟨a, rfl, rfl⟩ := hg
      rw [own_block, own_block] at h5
      rcases h5 with h5 | h5
      · obtain ⟨b, hb1, hb2⟩ := Option.map_eq_some_iff.1 h5.symm
        exact .inl ⟨b, hb1, hb2⟩
      · exact .inr (by simpa using h5)
theorem wpList_ap (hgd : o.guard = none) (s x : Operand) (t : TypeId) (ho : o.op = .call { callee := .builtin .append, args := #[s, x], argTypes := #[t, t] })
    (e sz by_ : Nat) (z : Value) (ht : P.underlying t = some (.slice e)) (hinfo : (P.info? e).map (fun i => (i.zero, i.size, i.bytes)) = some (some z, sz, by_)) (hzs : z.cells.size = sz) (hsz : 0 < sz)
    (A : Option Addr) (n cap : Nat) (xs : List Value) (hs : a.eval s = .slice A n cap) (hv : Vec w e sz A n cap xs) (B : Option Addr) (m c : Nat) (news : List Value) (hx : a.eval x = .slice B m c) (q : Nat) (hq : m * sz = q) (hr : Reads w B q news) (h1 : ∀ u ∈ news, u.oneCell' = true)
    (h63 : n + m ≤ maxLen) (hby : (n + m) * by_ ≤ 140737488355328)
    (h : ∀ A' cap' w', Vec w' e sz A' (n + m) cap' (xs ++ news) → Keep (Own A) w w' → (∀ g, Own A' g → Own A g ∨ g = w.heap.size) → wpList P ops Q rest (a.put o.dst (.slice A' (n + m) cap')) w') :
    wpList P ops Q (o :: rest) a w := by
  subst hq
  refine wpList_plain hgd fun K hK => ?_
  obtain ⟨A', cap', w', h2, h3, h4, h5⟩ := run_ap (P := P) w t o.type e sz by_ z ht hinfo hzs hsz A n cap xs hv B m c news hr h1 h63 hby
  unfold Oper.wp
  simp [execOp, ho, resolve, invoke, builtin, hs, hx, h2, Result.andThen]
  exact hK _ _ (h A' cap' w' h3 h4 h5)

/-- x[l:]: the head is a letter, known where an element is left. -/
theorem wpList_cut_l (hgd : o.guard = none) (t : TypeId) (x lo : Operand) (ho : o.op = .slice t x (some lo) none none)
    (e sz : Nat) (hu : P.underlying t = some (.slice e)) (hsz : (P.info? e).map (·.size) = some sz)
    (A : Option Addr) (len cap l : Nat) (k : IntKind) (hx : a.eval x = .slice A len cap) (hlo : a.eval lo = .int k (l : Int)) (hl : l ≤ len)
    (h : ∀ A', (l < cap → A' = A.map (·.add (l * sz))) → wpList P ops Q rest (a.put o.dst (.slice A' (len - l) (cap - l))) w) :
    wpList P ops Q (o :: rest) a w := by
  have hel : P.elem t = e := by simp [Program.elem, hu]
  have hu' : P.underlying t = some (.slice (P.elem t)) := by rw [hel]; exact hu
  refine wpList_plain hgd fun K hK => ?_
  have hrun := run_slice_l (P := P) w t A len cap hu' k (l : Int) (by omega) (by omega)
  rw [hel, run_sizeOf' w e sz hsz] at hrun
  simp only [Result.andThen, sliced, Int.toNat_natCast] at hrun
  have hr2 := run_sliceAt_slice (P := P) w t (.slice A len cap) (some (.int k l)) none none hu'
  rw [hrun] at hr2
  have hh := h (if cap = l then A else A.map (·.add (l * sz))) (fun hlt => by rw [if_neg (by omega)])
  unfold Oper.wp
  simp only [execOp, ho, hx, hlo, Option.map_some, Option.map_none]
  simp [hr2, Result.andThen]
  exact hK _ _ hh

/-- x[l:h]: the head is a letter, known where there is room behind l. -/
theorem wpList_cut_lh (hgd : o.guard = none) (t : TypeId) (x lo hi : Operand) (ho : o.op = .slice t x (some lo) (some hi) none)
    (e sz : Nat) (hu : P.underlying t = some (.slice e)) (hsz : (P.info? e).map (·.size) = some sz)
    (A : Option Addr) (len cap l h' : Nat) (k kh : IntKind) (hx : a.eval x = .slice A len cap) (hlo : a.eval lo = .int k (l : Int)) (hhi : a.eval hi = .int kh (h' : Int)) (hl : l ≤ h') (hlh : h' ≤ cap)
    (h : ∀ A', (l < cap → A' = A.map (·.add (l * sz))) → wpList P ops Q rest (a.put o.dst (.slice A' (h' - l) (cap - l))) w) :
    wpList P ops Q (o :: rest) a w := by
  have hel : P.elem t = e := by simp [Program.elem, hu]
  have hu' : P.underlying t = some (.slice (P.elem t)) := by rw [hel]; exact hu
  refine wpList_plain hgd fun K hK => ?_
  have hrun := run_slice_lh (P := P) w t A len cap hu' k kh (l : Int) (h' : Int) (by omega) (by omega) (by omega)
  rw [hel, run_sizeOf' w e sz hsz] at hrun
  simp only [Result.andThen, sliced, Int.toNat_natCast] at hrun
  have hr2 := run_sliceAt_slice (P := P) w t (.slice A len cap) (some (.int k l)) (some (.int kh h')) none hu'
  rw [hrun] at hr2
  have hh := h (if cap = l then A else A.map (·.add (l * sz))) (fun hlt => by rw [if_neg (by omega)])
  unfold Oper.wp
  simp only [execOp, ho, hx, hlo, hhi, Option.map_some, Option.map_none]
  simp [hr2, Result.andThen]
  exact hK _ _ hh
end
/-- Blocks from B on may have turned. -/
def From (B : Nat) : Nat → Prop := fun k => B ≤ k
theorem Keep.from_ {M : Nat → Prop} {w0 w w' : World} (h : Keep (From w0.heap.size) w0 w) (k : Keep M w w') (hm : ∀ b, M b → w0.heap.size ≤ b) : Keep (From w0.heap.size) w0 w' := h.trans k (fun b _ m => hm b m)
theorem Keep.nob {w0 w w' : World} (h : Keep (From w0.heap.size) w0 w) (k : Keep Nob w w') : Keep (From w0.heap.size) w0 w' := h.from_ k (fun _ f => f.elim)
theorem Keep.at_ {w0 w w' : World} {r : Nat} (h : Keep (From w0.heap.size) w0 w) (k : Keep (· = r) w w') (hr : w0.heap.size ≤ r) : Keep (From w0.heap.size) w0 w' := h.from_ k (fun _ e => e ▸ hr)
theorem Keep.done {w0 w : World} (h : Keep (From w0.heap.size) w0 w) : Below w0.heap.size w0 w := h.below (Nat.le_refl _) (fun k hk m => by have : w0.heap.size ≤ k := m; omega)
theorem Reads.nob {w w' : World} {A : Option Addr} {n : Nat} {xs : List Value} (h : Reads w A n xs) (k : Keep Nob w w') : Reads w' A n xs := h.keep k (fun _ _ f => f)
theorem Reads.from_ {w w' : World} {A : Option Addr} {n : Nat} {xs : List Value} (h : Reads w A n xs) (k : Keep (From w.heap.size) w w') : Reads w' A n xs := by
  refine ⟨h.1, fun h0 => ?_⟩
  obtain ⟨ad, rfl, hc⟩ := h.2 h0
  refine ⟨ad, rfl, fun j u hu => ?_⟩
  have hcu := hc j u hu
  rw [← hcu]
  have hlt := block_lt_of_cell hcu
  exact World.cell?_of_block (w := w) (k.block _ hlt (fun m => by have : w.heap.size ≤ (ad.add j).block := m; omega))
theorem reads_all {w : World} {g : Nat} {t : TypeId} {cs : List Value} {n : Nat} (h : Blk w g t cs) (hn : cs.length = n) : Reads w (some ⟨g, 0, none⟩) n cs := by
  have R := Reads.of_blk (A := some ⟨g, 0, none⟩) (off := 0) (n := n) h (fun _ => rfl) (by omega)
  rwa [List.drop_zero, List.take_of_length_le (by omega)] at R
theorem Keep.nobdrew (w : World) : Keep Nob w w.drew := (Keep.refl Nob w).drew
theorem Keep.cell_from {w0 w : World} (h : Keep (From w0.heap.size) w0 w) {a : Addr} {v : Value} (hc : w0.cell? a = some v) : w.cell? a = some v := by
  rw [← hc]
  have hlt := block_lt_of_cell hc
  exact World.cell?_of_block (w := w0) (h.block _ hlt (fun m => by have : w0.heap.size ≤ a.block := m; omega))
theorem Reads.lit {w : World} {A : Option Addr} {n : Nat} {xs : List Value} (h : Reads w A n xs) (h0 : 0 < n) : ∃ b off, A = some ⟨b, off, none⟩ ∧ ∀ j u, xs[j]? = some u → w.cell? ⟨b, off + j, none⟩ = some u := by
  obtain ⟨⟨b, off, spot⟩, rfl, hc⟩ := h.2 h0
  have h1 : 0 < xs.length := by rw [h.1]; exact h0
  have hs : spot = none := by
    have := World.cell?_spot (hc 0 _ (List.getElem?_eq_getElem h1))
    simpa [Addr.add] using this
  subst hs
  refine ⟨b, off, rfl, fun j u hu => ?_⟩
  have := hc j u hu
  rwa [add_lit] at this
/-- The block of a number in a function's code. -/
def blkOf (n : Nat) : Code → Option Code
  | .block id c => if id = n then some (.block id c) else blkOf n c
  | .seq a b => match blkOf n a with
    | some c => some c
    | none => blkOf n b
  | .cond _ a b => match blkOf n a with
    | some c => some c
    | none => blkOf n b
  | .loop c => blkOf n c
  | _ => none
end Go.Proofs.YtgcikpgcoemfnaaGreat
