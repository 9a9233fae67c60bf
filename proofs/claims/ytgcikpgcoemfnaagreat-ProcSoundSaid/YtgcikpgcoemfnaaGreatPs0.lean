import Derived.WalkKit
import Derived.Laws.CopyOwn
import Derived.Deep.OwnRows
import Derived.Deep.Draws
import Derived.Lib.Hide
import Derived.Maps.AppendAt
set_option linter.unusedVariables false
set_option linter.unusedSimpArgs false
namespace Go.Proofs.YtgcikpgcoemfnaaGreat
theorem aa {p : Prop} (h : p) : RowKit.Hid p := Lib.hid h
open Go.RowKit
def Blk (w : World) (g : Nat) (t : TypeId) (cs : List Value) : Prop := w.heap[g]? = some (.cells cs.toArray t (0, 0))
def bytes (l : List UInt8) : List Value := l.map fun b => Value.int .u8 (b.toNat : Int)
structure Keep (M : Nat → Prop) (w w' : World) : Prop where
 os : w'.os = w.os
 tape : w'.tape = w.tape
 output : w'.output = w.output
 size : w.heap.size ≤ w'.heap.size
 block : ∀ k, k < w.heap.size → ¬ M k → w'.heap[k]? = w.heap[k]?
def Nob : Nat → Prop := fun _ => False
theorem bU (n : Int) (i : Nat) (hi : i ≤ 62) : bits .and .i64 n (2 ^ i - 1) = n % 2 ^ i := by
  have hp : (2 : Nat) ^ i ≤ 2 ^ 62 := Nat.pow_le_pow_right (by decide) hi
  have h0 : 0 < (2 : Nat) ^ i := Nat.two_pow_pos i
  have ec : (2 : Int) ^ i - 1 = ((2 ^ i - 1 : Nat) : Int) := by
    rw [Int.natCast_sub (by omega)]; simp
  have h : (BitVec.ofInt 64 n &&& BitVec.ofInt 64 ((2 : Int) ^ i - 1)).toNat = (n % 2 ^ i).toNat := by
    rw [ec, BitVec.toNat_and, BitVec.toNat_ofInt, BitVec.toNat_ofInt]
    have e2 : (((2 ^ i - 1 : Nat) : Int) % ((2 ^ 64 : Nat) : Int)).toNat = 2 ^ i - 1 := by
      rw [Int.emod_eq_of_lt (by omega) (by
        have : (2 : Nat) ^ i - 1 < 2 ^ 64 := by omega
        exact_mod_cast this)]
      exact Int.toNat_natCast _
    rw [e2, Nat.and_two_pow_sub_one_eq_mod]
    have hd : ((2 : Nat) ^ i : Nat) ∣ 2 ^ 64 := Nat.pow_dvd_pow 2 (by omega)
    have h1 : (n % ((2 ^ 64 : Nat) : Int)) % ((2 ^ i : Nat) : Int) = n % ((2 ^ i : Nat) : Int) := Int.emod_emod_of_dvd n (by exact_mod_cast hd)
    have h2 : 0 ≤ n % ((2 ^ 64 : Nat) : Int) := Int.emod_nonneg _ (by decide)
    obtain ⟨m, hm⟩ := Int.eq_ofNat_of_zero_le h2
    rw [hm] at h1 ⊢
    rw [Int.toNat_natCast]
    have h3 : ((m % 2 ^ i : Nat) : Int) = n % ((2 ^ i : Nat) : Int) := by rw [Int.natCast_emod]; exact h1
    have h4 : n % (2 : Int) ^ i = ((m % 2 ^ i : Nat) : Int) := by rw [h3]; simp
    rw [h4, Int.toNat_natCast]
  have hr0 : 0 ≤ n % (2 : Int) ^ i := Int.emod_nonneg _ (by have : (0 : Int) < 2 ^ i := by exact_mod_cast h0
                                                            omega)
  have hr1 : n % (2 : Int) ^ i < 2 ^ 62 := Int.lt_of_lt_of_le (Int.emod_lt_of_pos _ (by exact_mod_cast h0)) (by exact_mod_cast hp)
  show IntKind.i64.wrap ((BitVec.ofInt 64 n &&& BitVec.ofInt 64 ((2 : Int) ^ i - 1)).toNat : Nat) = _
  rw [h, Int.toNat_of_nonneg hr0]
  simp only [IntKind.wrap, IntKind.bits, IntKind.signed]
  generalize n % (2 : Int) ^ i = z at *
  simp
  omega
@[go_sem] theorem i64_and1 (n : Int) : bits .and .i64 n 1 = n % 2 := bU n 1 (by decide)
@[go_sem] theorem i64_and3 (n : Int) : bits .and .i64 n 3 = n % 4 := bU n 2 (by decide)
@[go_sem] theorem i64_and7 (n : Int) : bits .and .i64 n 7 = n % 8 := bU n 3 (by decide)
@[go_sem] theorem i64_and15 (n : Int) : bits .and .i64 n 15 = n % 16 := bU n 4 (by decide)
@[go_sem] theorem i64_and31 (n : Int) : bits .and .i64 n 31 = n % 32 := bU n 5 (by decide)
@[go_sem] theorem i64_and63 (n : Int) : bits .and .i64 n 63 = n % 64 := bU n 6 (by decide)
@[go_sem] theorem i64_and127 (n : Int) : bits .and .i64 n 127 = n % 128 := bU n 7 (by decide)
@[go_sem] theorem i64_and255 (n : Int) : bits .and .i64 n 255 = n % 256 := bU n 8 (by decide)
@[go_sem] theorem i64_and511 (n : Int) : bits .and .i64 n 511 = n % 512 := bU n 9 (by decide)
@[go_sem] theorem i64_and1023 (n : Int) : bits .and .i64 n 1023 = n % 1024 := bU n 10 (by decide)
@[go_sem] theorem i64_and4095 (n : Int) : bits .and .i64 n 4095 = n % 4096 := bU n 12 (by decide)
@[go_sem] theorem i64_and65535 (n : Int) : bits .and .i64 n 65535 = n % 65536 := bU n 16 (by decide)
section
variable {M M' : Nat → Prop} {w w' w'' : World} {g r : Nat} {t t' : TypeId} {cs : List Value}
theorem Keep.refl (M : Nat → Prop) (w : World) : Keep M w w := ⟨rfl, rfl, rfl, Nat.le_refl _, fun _ _ _ => rfl⟩
theorem Keep.trans (h : Keep M w w') (h' : Keep M' w' w'') (hm : ∀ k, k < w.heap.size → M' k → M k) : Keep M w w'' :=
  ⟨h'.os.trans h.os, h'.tape.trans h.tape, h'.output.trans h.output, Nat.le_trans h.size h'.size,
   fun k hk hn => (h'.block k (Nat.lt_of_lt_of_le hk h.size) (fun m => hn (hm k hk m))).trans (h.block k hk hn)⟩
theorem Keep.mono (h : Keep M w w') (hm : ∀ k, k < w.heap.size → M k → M' k) : Keep M' w w' :=
 ⟨h.os, h.tape, h.output, h.size, fun k hk hn => h.block k hk (fun m => hn (hm k hk m))⟩
theorem Keep.drewN (h : Keep M w w') (n : Nat) : Keep M w (w'.drewN n) := ⟨h.os, h.tape, h.output, h.size, h.block⟩
theorem Keep.drew (h : Keep M w w') : Keep M w w'.drew := ⟨h.os, h.tape, h.output, h.size, h.block⟩
theorem Keep.alloc (h : Keep M w w') (o : Obj) : Keep M w (w'.alloc o) :=
 ⟨h.os, h.tape, h.output, by have := h.size; simp; omega, fun k hk hn => (Below.heap_alloc w' o k (Nat.lt_of_lt_of_le hk h.size)).trans (h.block k hk hn)⟩
theorem Keep.setCell (h : Keep M w w') (a : Addr) (v : Value) (ha : a.block < w.heap.size → M a.block) : Keep M w (w'.setCell a v) :=
 ⟨h.os, h.tape, h.output, by simpa [World.setCell] using h.size, fun k hk hn =>
  (Below.heap_setCell w' a v k (fun e => hn (e ▸ ha (e ▸ hk)))).trans (h.block k hk hn)⟩
theorem Keep.setRow (h : Keep M w w') (b : Nat) (vs : Array Value) (ha : b < w.heap.size → M b) : Keep M w (w'.setRow b vs) :=
 ⟨h.os, h.tape, h.output, by simpa using h.size, fun k hk hn =>
  (setRow_other w' b k vs (fun e => hn (e ▸ ha (e ▸ hk)))).trans (h.block k hk hn)⟩
theorem Keep.below {B : Nat} (h : Keep M w w') (hB : B ≤ w.heap.size) (hm : ∀ k, k < B → ¬ M k) : Below B w w' :=
 ⟨h.os, h.tape, h.output, h.size, fun k hk => h.block k (by omega) (hm k hk)⟩
theorem Blk.lt (h : Blk w g t cs) : g < w.heap.size := (Array.getElem?_eq_some_iff.1 h).1
theorem Blk.cell (h : Blk w g t cs) (i : Nat) : w.cell? ⟨g, i, none⟩ = cs[i]? := by
 have := cell_of_row w g i cs.toArray t (0, 0) h
 simpa using this
theorem Blk.frozen (h : Blk w g t cs) (i : Nat) : w.frozen? ⟨g, i, none⟩ = false := by
 unfold Blk at h
 simp [World.frozen?, h]
theorem Blk.keep (h : Blk w g t cs) (hk : Keep M w w') (hm : ¬ M g) : Blk w' g t cs := (hk.block g h.lt hm).trans h
theorem Blk.drew (h : Blk w g t cs) : Blk w.drew g t cs := h
theorem Blk.alloc (h : Blk w g t cs) (o : Obj) : Blk (w.alloc o) g t cs := (Below.heap_alloc w o g h.lt).trans h
theorem Blk.new (w : World) (t : TypeId) (cs : List Value) : Blk (w.alloc (.cells cs.toArray t)) w.heap.size t cs := heap_alloc_new w _
theorem Blk.setCell (h : Blk w g t cs) (i : Nat) (u : Value) : Blk (w.setCell ⟨g, i, none⟩ u) g t (cs.set i u) := by
 unfold Blk at h ⊢
 simp [World.setCell, Array.getElem?_modify, h]
theorem Blk.far (h : Blk w g t cs) {p : Addr} (hp : g ≠ p.block) (u : Value) : Blk (w.setCell p u) g t cs := (Below.heap_setCell w p u g hp).trans h
theorem Blk.setRow (h : Blk w g t cs) (vs : List Value) : Blk (w.setRow g vs.toArray) g t vs := setRow_heap w g _ _ t _ h
theorem Blk.setRow_far (h : Blk w g t cs) {b : Nat} (hp : g ≠ b) (vs : Array Value) : Blk (w.setRow b vs) g t cs := (setRow_other w b g vs hp).trans h
theorem Blk.ne_ {g' : Nat} {t' : TypeId} {cs' : List Value} (h : Blk w g t cs) (h' : Blk w g' t' cs') (hne : t ≠ t') : g ≠ g' := by
 intro e
 subst e
 have e2 := Option.some.inj (Eq.trans (Eq.symm h) h')
 simp only [Obj.cells.injEq] at e2
 exact hne e2.2.1
theorem Blk.same {cs' : List Value} (h : Blk w g t cs) (h' : Blk w g t' cs') : cs = cs' ∧ t = t' := by
 have e2 := Option.some.inj (Eq.trans (Eq.symm h) h')
 simp only [Obj.cells.injEq] at e2
 exact ⟨by simpa using e2.1, e2.2.1⟩
end
def ae (w : World) (A : Option Addr) (n : Nat) (xs : List Value) : Prop :=
 xs.length = n ∧ (0 < n → ∃ ad, A = some ad ∧ ∀ j u, xs[j]? = some u → w.cell? (ad.add j) = some u)
theorem cR (g i j : Nat) : (⟨g, i, none⟩ : Addr).add j = ⟨g, i + j, none⟩ := by
 unfold Addr.add; split <;> simp_all
theorem iG (a : Addr) : ∀ n : Nat, (a.add n).block = a.block
 | 0 => rfl
 | _ + 1 => rfl
theorem add_of_add (a : Addr) : ∀ i j : Nat, (a.add i).add j = a.add (i + j)
 | 0, _ => by rw [Nat.zero_add]; rfl
 | _ + 1, 0 => rfl
 | i + 1, j + 1 => by simp [Addr.add, Nat.add_assoc]
theorem ae.of_blk {w : World} {g off n : Nat} {t : TypeId} {cs : List Value} {A : Option Addr} (h : Blk w g t cs) (hA : 0 < n → A = some ⟨g, off, none⟩) (hn : off + n ≤ cs.length) :
  ae w A n ((cs.drop off).take n) := by
 refine ⟨by simp; omega, fun h0 => ⟨_, hA h0, fun j u hu => ?_⟩⟩
 rw [cR, h.cell]
 rw [List.getElem?_take, List.getElem?_drop] at hu
 split at hu
 ·exact hu
 ·cases hu
theorem ae.keep {M : Nat → Prop} {w w' : World} {A : Option Addr} {n : Nat} {xs : List Value} (h : ae w A n xs) (k : Keep M w w') (hm : ∀ ad, A = some ad → ¬ M ad.block) : ae w' A n xs := by
 refine ⟨h.1, fun h0 => ?_⟩
 obtain ⟨ad, rfl, hc⟩ := h.2 h0
 refine ⟨ad, rfl, fun j u hu => ?_⟩
 have hcu := hc j u hu
 rw [← hcu]
 exact World.cell?_of_block (w := w) (k.block _ (block_lt_of_cell hcu) (by rw [iG]; exact hm ad rfl))
theorem ae.nil_ (w : World) (A : Option Addr) : ae w A 0 [] := ⟨rfl, fun h => absurd h (by omega)⟩
@[simp] theorem am (l : List UInt8) : (bytes l).length = l.length := by simp [bytes]
theorem bytes_get (l : List UInt8) (i : Nat) : (bytes l)[i]? = (l[i]?).map fun b => Value.int .u8 (b.toNat : Int) := by simp [bytes]
theorem bytes_at {l : List UInt8} {i : Nat} (h : i < l.length) : (bytes l)[i]? = some (.int .u8 ((l[i]).toNat : Int)) := by rw [bytes_get, List.getElem?_eq_getElem h]; rfl
theorem aB {l : List UInt8} {i : Nat} (h : i < l.length) : (bytes l)[i]? = some (.int .u8 ((l.getD i 0).toNat : Int)) := by rw [bytes_at h, List.getD_eq_getElem?_getD, List.getElem?_eq_getElem h]; rfl
theorem bytes_append (a b : List UInt8) : bytes (a ++ b) = bytes a ++ bytes b := by simp [bytes]
theorem eI (a : List UInt8) (n : Nat) : bytes (a.take n) = (bytes a).take n := by simp [bytes]
theorem ip (a : List UInt8) (n : Nat) : bytes (a.drop n) = (bytes a).drop n := by simp [bytes]
theorem ao (n : Nat) : bytes (List.replicate n 0) = List.replicate n (Value.int .u8 0) := by simp [bytes]
theorem dX (l : List UInt8) : ∀ v ∈ bytes l, v.oneCell' = true := by
 intro v hv
 simp [bytes] at hv
 obtain ⟨b, _, rfl⟩ := hv
 rfl
theorem ev (L : List UInt8) (off : Nat) (cs : List UInt8) : splice (bytes L) off (bytes cs) = bytes (splice L off cs) := by
 simp [splice, bytes_append, eI, ip]
theorem eW {α : Type} (L : List α) (off : Nat) (cs : List α) (h : off + cs.length ≤ L.length) (i : Nat) :
  (splice L off cs)[i]? = if off ≤ i ∧ i < off + cs.length then cs[i - off]? else L[i]? := by
 unfold splice
 have ht : (L.take off).length = off := by simp; omega
 rcases Nat.lt_or_ge i off with h1 | h1
 ·rw [List.getElem?_append_left (by omega), if_neg (by omega), List.getElem?_take, if_pos h1]
 ·rw [List.getElem?_append_right (by omega), ht]
  rcases Nat.lt_or_ge i (off + cs.length) with h2 | h2
  ·rw [if_pos ⟨h1, h2⟩, List.getElem?_append_left (by omega)]
  ·rw [if_neg (by omega), List.getElem?_append_right (by omega), List.getElem?_drop]
   congr 1
   omega
theorem lM {α : Type} (L : List α) (off : Nat) (cs : List α) (h : off + cs.length ≤ L.length) (i n : Nat) (hi : i + n ≤ off) : ((splice L off cs).drop i).take n = (L.drop i).take n := by
 apply List.ext_getElem?
 intro j
 rw [List.getElem?_take, List.getElem?_take, List.getElem?_drop, List.getElem?_drop, eW L off cs h]
 by_cases hj : j < n
 ·rw [if_pos hj, if_pos hj, if_neg (by omega)]
 ·rw [if_neg hj, if_neg hj]
theorem lL {α : Type} (L : List α) (off : Nat) (cs : List α) (h : off + cs.length ≤ L.length) (i n : Nat) (hi : off + cs.length ≤ i) : ((splice L off cs).drop i).take n = (L.drop i).take n := by
 apply List.ext_getElem?
 intro j
 rw [List.getElem?_take, List.getElem?_take, List.getElem?_drop, List.getElem?_drop, eW L off cs h]
 by_cases hj : j < n
 ·rw [if_pos hj, if_pos hj, if_neg (by omega)]
 ·rw [if_neg hj, if_neg hj]
def str (l : List UInt8) : ByteArray := ⟨l.toArray⟩
theorem gy (l : List UInt8) : (str l).size = l.length := by simp [str, ByteArray.size]
section
variable {P : Program} {w : World} {ops : Array Oper} {rest : List Oper} {o : Oper} {a : Act} {Q : Exit → Act → World → Prop}
theorem bu (hgd : o.guard = none) (l c : Operand) (t : TypeId) (ho : o.op = .makeSlice t l c)
  (e : TypeId) (z : Value) (by_ : Nat) (ht : P.underlying t = some (.slice e)) (hinfo : (P.info? e).map (fun i => (i.zero, i.size, i.bytes)) = some (some z, 1, by_)) (hz1 : z.cells = #[z])
  (kl kc : IntKind) (n : Nat) (L : Int) (hL : L = n) (hl : a.eval l = .int kl L) (hc : a.eval c = .int kc L) (hb : by_ * n ≤ 281474976710656) (h63 : n ≤ 9223372036854775807)
  (h : ∀ w', Blk w' w.heap.size e (List.replicate n z) → Keep Nob w w' → w'.heap.size = w.heap.size + 1 → wpList P ops Q rest (a.put o.dst (.slice (some ⟨w.heap.size, 0, none⟩) n n)) w') :
  wpList P ops Q (o :: rest) a w := by
 subst hL
 refine wpList_plain hgd fun K hK => ?_
 have hrun := run_make_row' (P := P) t e z by_ ht hinfo hz1 kl kc n hb h63 w
 have hh := h (w.alloc (.cells (madeCells #[z] n) e)) (by
  have := Blk.new w e (madeCells #[z] n).toList
  rw [Array.toArray_toList, toList_madeCells_one] at this
  exact this) ((Keep.refl _ w).alloc _) (by simp)
 unfold Oper.wp
 simp [execOp, ho, hl, hc, hrun, Result.andThen]
 exact hK _ _ hh
theorem wpList_cp (hgd : o.guard = none) (d s : Operand) (dT sT : TypeId)
    (ho : o.op = .call { callee := .builtin .copy, args := #[d, s], argTypes := #[dT, sT] }) (elem : TypeId) (hu : P.underlying dT = some (.slice elem)) (hsz : (P.info? elem).map (·.size) = some 1)
    (dp sp : Option Addr) (dLen dCap sLen sCap : Nat) (hd : a.eval d = .slice dp dLen dCap) (hs : a.eval s = .slice sp sLen sCap)
    (g off : Nat) (cur : List Value) (t : TypeId) (hg : Blk w g t cur) (ss : List Value) (hr : ae w sp sLen ss)
    (hpos : 0 < dLen → dp = some ⟨g, off, none⟩)
    (hfit : off + dLen ≤ cur.length) (h1 : ∀ v ∈ ss, v.oneCell' = true)
    (h : ∀ w', Blk w' g t (splice cur off (ss.take dLen)) → Keep (· = g) w w' → w'.heap.size = w.heap.size → wpList P ops Q rest (a.put o.dst (goInt (Nat.min sLen dLen))) w') :
    wpList P ops Q (o :: rest) a w := by
  have hlen : (ss.take dLen).length = Nat.min sLen dLen := by rw [List.length_take, hr.1]; exact Nat.min_comm _ _
  by_cases h0 : Nat.min sLen dLen = 0
  · refine wpList_copy_nothing hgd d s dT sT ho elem hu hsz dp sp dLen dCap sLen sCap hd hs h0 ?_
    have e : ss.take dLen = [] := List.eq_nil_of_length_eq_zero (by omega)
    rw [h0] at h
    exact h w (by rw [e, show splice cur off [] = cur from by simp [splice]]; exact hg) (Keep.refl _ _) rfl
  · have hd0 : 0 < dLen := by rcases Nat.eq_zero_or_pos dLen with e | e; · subst e; simp at h0
                              · exact e
    have hs0 : 0 < sLen := by rcases Nat.eq_zero_or_pos sLen with e | e; · subst e; simp at h0
                              · exact e
    obtain rfl := hpos hd0
    obtain ⟨ad, rfl, hsrc⟩ := hr.2 hs0
    have hle : (ss.take dLen).length ≤ dLen := by rw [List.length_take]; exact Nat.min_le_left _ _
    refine wpList_copy_own hgd d s dT sT ho elem hu hsz g off dLen dCap ad sLen sCap hd hs cur.toArray t hg (ss.take dLen) hlen
      (fun j v hj => hsrc j v (by rw [List.getElem?_take] at hj; split at hj <;> simp_all)) (by simp; omega) (fun v hv => h1 v (List.mem_of_mem_take hv)) ?_
    have hh := h _ (hg.setRow (splice cur off (ss.take dLen))) ((Keep.refl _ w).setRow g _ (fun _ => rfl)) (by simp)
    simp only [splice, hlen] at hh
    rw [hlen]
    exact hh
theorem jL (w : World) (e sz : Nat) (hsz : (P.info? e).map (·.size) = some sz) : (sizeOf e).run P w = .ok sz w := by
 obtain ⟨i, hi, rfl⟩ := Option.map_eq_some_iff.1 hsz
 simp [sizeOf, typeInfo, hi]
theorem cw (W : World) (src dst e : TypeId) (A : Option Addr) (n c : Nat) (l : List UInt8) (hs : P.underlying src = some (.slice e)) (he : P.underlying e = some (.int .u8)) (hd : P.underlying dst = some .string)
  (hr : ae W A n (bytes l)) : (convert src dst (.slice A n c)).run P W = .ok (.string (str l)) W := by
 have hn : l.length = n := by simpa using hr.1
 rcases Nat.eq_zero_or_pos n with h0 | h0
 ·obtain rfl : l = [] := List.eq_nil_of_length_eq_zero (by omega)
  subst h0
  rw [run_convert_bytes_string W src dst e A 0 c hs he hd]
  cases A with
  | none => simp [Conv.bytesToString]; rfl
  | some a => simp [Conv.bytesToString, loadCells]; rfl
 ·obtain ⟨ad, rfl, hc⟩ := hr.2 h0
  subst hn
  exact run_convert_bytes_back W src dst e ad c l hs he hd (fun j hj => hc j _ (bytes_at hj))
theorem run_cp (W : World) (dT sT elem : TypeId) (hu : P.underlying dT = some (.slice elem)) (hsz : (P.info? elem).map (·.size) = some 1)
    (dp sp : Option Addr) (dLen dCap sLen sCap g off : Nat) (cur : List Value) (t : TypeId) (hg : Blk W g t cur) (ss : List Value) (hr : ae W sp sLen ss)
    (hpos : 0 < dLen → dp = some ⟨g, off, none⟩) (hfit : off + dLen ≤ cur.length) (h1 : ∀ v ∈ ss, v.oneCell' = true) :
    ∃ w2, (∀ ty, (Builtin.copy_ #[dT, sT] ty #[.slice dp dLen dCap, .slice sp sLen sCap]).run P W = .ok (goInt (Nat.min sLen dLen)) w2) ∧ Blk w2 g t (splice cur off (ss.take dLen)) ∧ Keep (· = g) W w2 ∧ w2.heap.size = W.heap.size := by
  have hlen : (ss.take dLen).length = Nat.min sLen dLen := by rw [List.length_take, hr.1]; exact Nat.min_comm _ _
  by_cases h0 : Nat.min sLen dLen = 0
  · have e : ss.take dLen = [] := List.eq_nil_of_length_eq_zero (by omega)
    refine ⟨W, fun ty => ?_, by rw [e, show splice cur off [] = cur from by simp [splice]]; exact hg, Keep.refl _ _, rfl⟩
    rw [h0]
    exact run_copy_none W dT sT ty elem dp sp dLen dCap sLen sCap hu hsz h0
  · have hd0 : 0 < dLen := by rcases Nat.eq_zero_or_pos dLen with e | e; · subst e; simp at h0
                              · exact e
    have hs0 : 0 < sLen := by rcases Nat.eq_zero_or_pos sLen with e | e; · subst e; simp at h0
                              · exact e
    obtain rfl := hpos hd0
    obtain ⟨ad, rfl, hsrc⟩ := hr.2 hs0
    have hle : (ss.take dLen).length ≤ dLen := by rw [List.length_take]; exact Nat.min_le_left _ _
    refine ⟨W.setRow g (splice cur off (ss.take dLen)).toArray, fun ty => ?_, hg.setRow _, (Keep.refl _ W).setRow g _ (fun _ => rfl), by simp⟩
    have hrun := run_copy_row (P := P) W dT sT ty elem g off dLen dCap ad sLen sCap cur.toArray t (ss.take dLen) hu hsz hg hlen
      (fun j v hj => hsrc j v (by rw [List.getElem?_take] at hj; split at hj <;> simp_all)) (by simp; omega) (fun v hv => h1 v (List.mem_of_mem_take hv))
    rw [hrun, hlen, splice, hlen]
    simp
theorem run_cps (W : World) (dT sT elem : TypeId) (hu : P.underlying dT = some (.slice elem)) (hsz : (P.info? elem).map (·.size) = some 1)
  (dp : Option Addr) (dLen dCap g off : Nat) (cur : List Value) (t : TypeId) (hg : Blk W g t cur) (l : List UInt8)
  (hpos : 0 < dLen → dp = some ⟨g, off, none⟩) (hfit : off + dLen ≤ cur.length) (hl : l.length ≤ dLen) :
  ∃ w2, (∀ ty, (Builtin.copy_ #[dT, sT] ty #[.slice dp dLen dCap, .string (str l)]).run P W = .ok (goInt l.length) w2) ∧ Blk w2 g t (splice cur off (bytes l)) ∧ Keep (· = g) W w2 ∧ w2.heap.size = W.heap.size := by
 obtain ⟨i, hi, his⟩ := Option.map_eq_some_iff.1 hsz
 have hmin : Nat.min (str l).size dLen = l.length := by rw [gy]; exact Nat.min_eq_left hl
 have hcells : List.take l.length (List.map (fun b : UInt8 => Value.int .u8 (b.toNat : Int)) (str l).data.toList) = bytes l :=
  List.take_of_length_le (by simp [str])
 rcases Nat.eq_zero_or_pos l.length with h0 | h0
 ·obtain rfl : l = [] := List.eq_nil_of_length_eq_zero h0
  refine ⟨W, fun ty => ?_, by rw [show splice cur off (bytes []) = cur from by simp [splice, bytes]]; exact hg, Keep.refl _ _, rfl⟩
  cases dp with
  | none => simp [Builtin.copy_, run_underlying hu, Builtin.lenOf, Builtin.firstCells, sizeOf, typeInfo, hi, hmin]
  | some a =>
   simp only [List.length_nil] at hmin hcells
   simp [Builtin.copy_, run_underlying hu, Builtin.lenOf, Builtin.firstCells, sizeOf, typeInfo, hi, hmin, storeCells]
 ·obtain rfl := hpos (by omega)
  have hst := run_storeCells_at P g off t (bytes l) 0 cur.toArray W hg (by simp; omega) (dX l)
  refine ⟨W.setRow g (splice cur off (bytes l)).toArray, fun ty => ?_, hg.setRow _, (Keep.refl _ W).setRow g _ (fun _ => rfl), by simp⟩
  simp [Builtin.copy_, run_underlying hu, Builtin.lenOf, Builtin.firstCells, sizeOf, typeInfo, hi, hmin, hcells, hst, splice]
theorem wpList_cps (hgd : o.guard = none) (d s : Operand) (dT sT : TypeId)
  (ho : o.op = .call { callee := .builtin .copy, args := #[d, s], argTypes := #[dT, sT] }) (elem : TypeId) (hu : P.underlying dT = some (.slice elem)) (hsz : (P.info? elem).map (·.size) = some 1)
  (dp : Option Addr) (dLen dCap : Nat) (l : List UInt8) (hd : a.eval d = .slice dp dLen dCap) (hs : a.eval s = .string (str l))
  (g off : Nat) (cur : List Value) (t : TypeId) (hg : Blk w g t cur)
  (hpos : 0 < dLen → dp = some ⟨g, off, none⟩) (hfit : off + dLen ≤ cur.length) (hl : l.length ≤ dLen)
  (h : ∀ w', Blk w' g t (splice cur off (bytes l)) → Keep (· = g) w w' → w'.heap.size = w.heap.size → wpList P ops Q rest (a.put o.dst (goInt l.length)) w') :
  wpList P ops Q (o :: rest) a w := by
 refine wpList_plain hgd fun K hK => ?_
 obtain ⟨w2, hrun, h2, h3, h4⟩ := run_cps (P := P) w dT sT elem hu hsz dp dLen dCap g off cur t hg l hpos hfit hl
 unfold Oper.wp
 simp [execOp, ho, resolve, invoke, builtin, hd, hs, hrun, Result.andThen]
 exact hK _ _ (h w2 h2 h3 h4)
def Vec (w : World) (e sz : Nat) (A : Option Addr) (n cap : Nat) (xs : List Value) : Prop := w.ownsRow 0 e sz (.slice A n cap) n xs
theorem Vec.nil (w : World) (e sz : Nat) : Vec w e sz none 0 0 [] := World.ownsRow_nil w 0 e sz
theorem Vec.len {w : World} {e sz n cap : Nat} {A : Option Addr} {xs : List Value} (h : Vec w e sz A n cap xs) : xs.length = n * sz := h.1
theorem Vec.at_ {w : World} {e sz n cap : Nat} {A : Option Addr} {xs : List Value} (h : Vec w e sz A n cap xs) (hn : 0 < n) :
  ∃ g cur, A = some ⟨g, 0, none⟩ ∧ Blk w g e cur ∧ n ≤ cap ∧ cur.length = cap * sz ∧ cur.take (n * sz) = xs := by
 rcases h.2 with ⟨he, h0⟩ | ⟨g, cap', cur, he, _, hg, hc, _, hs, ht⟩
 ·omega
 ·simp only [Value.slice.injEq, true_and] at he
  obtain ⟨rfl, rfl⟩ := he
  exact ⟨g, cur.toList, rfl, by simpa [Blk] using hg, hc, by simpa using hs, ht⟩
theorem Vec.of_blk {w : World} {g e sz n : Nat} {cs : List Value} (h : Blk w g e cs) (hn : cs.length = n * sz) (hm : n ≤ maxLen) : Vec w e sz (some ⟨g, 0, none⟩) n n cs :=
 ⟨hn, .inr ⟨g, n, cs.toArray, rfl, Nat.zero_le _, h, Nat.le_refl _, hm, by simpa using hn, List.take_of_length_le (by simp; omega)⟩⟩
theorem Vec.reads {w : World} {e sz n cap : Nat} {A : Option Addr} {xs : List Value} (h : Vec w e sz A n cap xs) : ae w A (n * sz) xs := by
 refine ⟨h.len, fun h0 => ?_⟩
 obtain ⟨g, cur, rfl, hb, _, hc, ht⟩ := h.at_ (Nat.pos_of_mul_pos_right h0)
 refine ⟨_, rfl, fun j u hu => ?_⟩
 rw [cR, Nat.zero_add, hb.cell]
 rw [← ht, List.getElem?_take] at hu
 split at hu
 ·exact hu
 ·cases hu
def Own (A : Option Addr) : Nat → Prop := fun k => ∃ a : Addr, A = some a ∧ a.block = k
theorem Vec.keep {M : Nat → Prop} {w w' : World} {e sz n cap : Nat} {A : Option Addr} {xs : List Value} (h : Vec w e sz A n cap xs) (k : Keep M w w') (hm : ∀ g, Own A g → ¬ M g) : Vec w' e sz A n cap xs := by
 refine ⟨h.1, ?_⟩
 rcases h.2 with h0 | ⟨g, cap', cur, he, hb, hg, r⟩
 ·exact .inl h0
 ·refine .inr ⟨g, cap', cur, he, hb, ?_, r⟩
  simp only [Value.slice.injEq, true_and] at he
  rw [k.block g (Array.getElem?_eq_some_iff.1 hg).1 (hm g ⟨_, he.1, rfl⟩)]
  exact hg
theorem Vec.lt {w : World} {e sz n cap : Nat} {A : Option Addr} {xs : List Value} (h : Vec w e sz A n cap xs) : ∀ g, Own A g → g < w.heap.size := by
 rintro g ⟨a, rfl, rfl⟩
 rcases h.2 with ⟨he, _⟩ | ⟨g', cap', cur, he, _, hg, _⟩
 ·simp at he
 ·simp only [Value.slice.injEq, Option.some.injEq, true_and] at he
  rw [he.1]
  exact (Array.getElem?_eq_some_iff.1 hg).1
theorem Vec.setCell {w : World} {e sz n cap g : Nat} {xs : List Value} (h : Vec w e sz (some ⟨g, 0, none⟩) n cap xs) (j : Nat) (u : Value) : Vec (w.setCell ⟨g, j, none⟩ u) e sz (some ⟨g, 0, none⟩) n cap (xs.set j u) := by
 refine ⟨by rw [List.length_set]; exact h.1, ?_⟩
 rcases h.2 with ⟨he, _⟩ | ⟨g', cap', cur, he, hb, hg, h1, h2, h3, h4⟩
 ·simp at he
 ·simp only [Value.slice.injEq, Option.some.injEq, Addr.mk.injEq, and_true, true_and] at he
  obtain ⟨rfl, rfl⟩ := he
  have hs := Blk.setCell (w := w) (g := g) (t := e) (cs := cur.toList) (by simpa [Blk] using hg) j u
  refine .inr ⟨g, cap, (cur.toList.set j u).toArray, rfl, hb, hs, h1, h2, by simpa using h3, ?_⟩
  rw [← h4, List.take_set]
theorem jk (A : Option Addr) (n cap : Nat) : (Value.slice A n cap).ownBlock = A.map (·.block) := by cases A <;> rfl
theorem run_ap (w : World) (t ty e sz by_ : Nat) (z : Value) (ht : P.underlying t = some (.slice e)) (hinfo : (P.info? e).map (fun i => (i.zero, i.size, i.bytes)) = some (some z, sz, by_)) (hzs : z.cells.size = sz) (hsz : 0 < sz)
  (A : Option Addr) (n cap : Nat) (xs : List Value) (hv : Vec w e sz A n cap xs) (B : Option Addr) (m c : Nat) (news : List Value) (hr : ae w B (m * sz) news) (h1 : ∀ u ∈ news, u.oneCell' = true)
  (h63 : n + m ≤ maxLen) (hby : (n + m) * by_ ≤ 140737488355328) :
  ∃ A' cap' w', (Builtin.append_ #[t, t] ty #[.slice A n cap, .slice B m c]).run P w = .ok (.slice A' (n + m) cap') w' ∧ Vec w' e sz A' (n + m) cap' (xs ++ news) ∧ Keep (Own A) w w' ∧
   (∀ g, Own A' g → Own A g ∨ g = w.heap.size) := by
 obtain ⟨i, hi, hzz⟩ := Option.map_eq_some_iff.1 hinfo
 simp only [Prod.mk.injEq] at hzz
 obtain ⟨hz, hsize, hbytes⟩ := hzz
 by_cases hm : m = 0
 ·subst hm
  obtain rfl : news = [] := List.eq_nil_of_length_eq_zero (by have := hr.1; simpa using this)
  refine ⟨A, cap, w, ?_, by simpa using hv, Keep.refl _ _, fun g hg => .inl hg⟩
  have hle : n ≤ cap := by
   rcases hv.2 with ⟨he, h0⟩ | ⟨g, cap', cur, he, _, _, h2, _⟩
   ·omega
   ·simp only [Value.slice.injEq, true_and] at he
    omega
  cases A <;> cases B <;> simp [Builtin.append_, run_underlying ht, sizeOf, typeInfo, hi, Builtin.lenOf, Builtin.firstCells, hle, storeCells, loadCells, loadCellsFrom]
 ·obtain ⟨ad, rfl, hc⟩ := hr.2 (Nat.mul_pos (by omega) hsz)
  obtain ⟨v', w', h2, h3, h4, _, h5⟩ := run_append_own_at (P := P) w 0 t ty e i z sz by_ ht hi hz hsize hbytes hzs hsz (.slice A n cap) n xs hv ad m c news hr.1 hc h1 h63 hby (Nat.zero_le _)
  have hform : ∃ A' cap', v' = .slice A' (n + m) cap' := by
   rcases h3.2 with ⟨he, h0⟩ | ⟨g, cap', cur, he, _⟩
   ·omega
   ·exact ⟨_, _, he⟩
  obtain ⟨A', cap', rfl⟩ := hform
  refine ⟨A', cap', w', h2, h3, ⟨h4.os, h4.tape, h4.output, h4.size, fun k hk hn => h4.block k hk (fun e => hn ?_)⟩, fun g hg => ?_⟩
  ·rw [jk] at e
   obtain ⟨a, ha, hb⟩ := Option.map_eq_some_iff.1 e.symm
   exact ⟨a, ha, hb⟩
  ·obtain ⟨a, rfl, rfl⟩ := hg
   rw [jk, jk] at h5
   rcases h5 with h5 | h5
   ·obtain ⟨b, hb1, hb2⟩ := Option.map_eq_some_iff.1 h5.symm
    exact .inl ⟨b, hb1, hb2⟩
   ·exact .inr (by simpa using h5)
theorem aN (hgd : o.guard = none) (s x : Operand) (t : TypeId) (ho : o.op = .call { callee := .builtin .append, args := #[s, x], argTypes := #[t, t] })
  (e sz by_ : Nat) (z : Value) (ht : P.underlying t = some (.slice e)) (hinfo : (P.info? e).map (fun i => (i.zero, i.size, i.bytes)) = some (some z, sz, by_)) (hzs : z.cells.size = sz) (hsz : 0 < sz)
  (A : Option Addr) (n cap : Nat) (xs : List Value) (hs : a.eval s = .slice A n cap) (hv : Vec w e sz A n cap xs) (B : Option Addr) (m c : Nat) (news : List Value) (hx : a.eval x = .slice B m c) (q : Nat) (hq : m * sz = q) (hr : ae w B q news) (h1 : ∀ u ∈ news, u.oneCell' = true)
  (h63 : n + m ≤ maxLen) (hby : (n + m) * by_ ≤ 140737488355328)
  (h : ∀ A' cap' w', Vec w' e sz A' (n + m) cap' (xs ++ news) → Keep (Own A) w w' → (∀ g, Own A' g → Own A g ∨ g = w.heap.size) → wpList P ops Q rest (a.put o.dst (.slice A' (n + m) cap')) w') :
  wpList P ops Q (o :: rest) a w := by
 subst hq
 refine wpList_plain hgd fun K hK => ?_
 obtain ⟨A', cap', w', h2, h3, h4, h5⟩ := run_ap (P := P) w t o.type e sz by_ z ht hinfo hzs hsz A n cap xs hv B m c news hr h1 h63 hby
 unfold Oper.wp
 simp [execOp, ho, resolve, invoke, builtin, hs, hx, h2, Result.andThen]
 exact hK _ _ (h A' cap' w' h3 h4 h5)
theorem gf (hgd : o.guard = none) (t : TypeId) (x lo : Operand) (ho : o.op = .slice t x (some lo) none none)
  (e sz : Nat) (hu : P.underlying t = some (.slice e)) (hsz : (P.info? e).map (·.size) = some sz)
  (A : Option Addr) (len cap l : Nat) (k : IntKind) (hx : a.eval x = .slice A len cap) (hlo : a.eval lo = .int k (l : Int)) (hl : l ≤ len)
  (h : ∀ A', (l < cap → A' = A.map (·.add (l * sz))) → wpList P ops Q rest (a.put o.dst (.slice A' (len - l) (cap - l))) w) :
  wpList P ops Q (o :: rest) a w := by
 have hel : P.elem t = e := by simp [Program.elem, hu]
 have hu' : P.underlying t = some (.slice (P.elem t)) := by rw [hel]; exact hu
 refine wpList_plain hgd fun K hK => ?_
 have hrun := run_slice_l (P := P) w t A len cap hu' k (l : Int) (by omega) (by omega)
 rw [hel, jL w e sz hsz] at hrun
 simp only [Result.andThen, sliced, Int.toNat_natCast] at hrun
 have hr2 := run_sliceAt_slice (P := P) w t (.slice A len cap) (some (.int k l)) none none hu'
 rw [hrun] at hr2
 have hh := h (if cap = l then A else A.map (·.add (l * sz))) (fun hlt => by rw [if_neg (by omega)])
 unfold Oper.wp
 simp only [execOp, ho, hx, hlo, Option.map_some, Option.map_none]
 simp [hr2, Result.andThen]
 exact hK _ _ hh
end
def bT (B : Nat) : Nat → Prop := fun k => B ≤ k
theorem Keep.from_ {M : Nat → Prop} {w0 w w' : World} (h : Keep (bT w0.heap.size) w0 w) (k : Keep M w w') (hm : ∀ b, M b → w0.heap.size ≤ b) : Keep (bT w0.heap.size) w0 w' := h.trans k (fun b _ m => hm b m)
theorem Keep.nob {w0 w w' : World} (h : Keep (bT w0.heap.size) w0 w) (k : Keep Nob w w') : Keep (bT w0.heap.size) w0 w' := h.from_ k (fun _ f => f.elim)
theorem Keep.at_ {w0 w w' : World} {r : Nat} (h : Keep (bT w0.heap.size) w0 w) (k : Keep (· = r) w w') (hr : w0.heap.size ≤ r) : Keep (bT w0.heap.size) w0 w' := h.from_ k (fun _ e => e ▸ hr)
theorem Keep.done {w0 w : World} (h : Keep (bT w0.heap.size) w0 w) : Below w0.heap.size w0 w := h.below (Nat.le_refl _) (fun k hk m => by have : w0.heap.size ≤ k := m; omega)
theorem ae.nob {w w' : World} {A : Option Addr} {n : Nat} {xs : List Value} (h : ae w A n xs) (k : Keep Nob w w') : ae w' A n xs := h.keep k (fun _ _ f => f)
theorem ae.from_ {w w' : World} {A : Option Addr} {n : Nat} {xs : List Value} (h : ae w A n xs) (k : Keep (bT w.heap.size) w w') : ae w' A n xs := by
 refine ⟨h.1, fun h0 => ?_⟩
 obtain ⟨ad, rfl, hc⟩ := h.2 h0
 refine ⟨ad, rfl, fun j u hu => ?_⟩
 have hcu := hc j u hu
 rw [← hcu]
 have hlt := block_lt_of_cell hcu
 exact World.cell?_of_block (w := w) (k.block _ hlt (fun m => by have : w.heap.size ≤ (ad.add j).block := m; omega))
theorem aj {w : World} {g : Nat} {t : TypeId} {cs : List Value} {n : Nat} (h : Blk w g t cs) (hn : cs.length = n) : ae w (some ⟨g, 0, none⟩) n cs := by
 have R := ae.of_blk (A := some ⟨g, 0, none⟩) (off := 0) (n := n) h (fun _ => rfl) (by omega)
 rwa [List.drop_zero, List.take_of_length_le (by omega)] at R
theorem Keep.nobdrew (w : World) : Keep Nob w w.drew := (Keep.refl Nob w).drew
theorem Keep.cell_from {w0 w : World} (h : Keep (bT w0.heap.size) w0 w) {a : Addr} {v : Value} (hc : w0.cell? a = some v) : w.cell? a = some v := by
 rw [← hc]
 have hlt := block_lt_of_cell hc
 exact World.cell?_of_block (w := w0) (h.block _ hlt (fun m => by have : w0.heap.size ≤ a.block := m; omega))
theorem ae.lit {w : World} {A : Option Addr} {n : Nat} {xs : List Value} (h : ae w A n xs) (h0 : 0 < n) : ∃ b off, A = some ⟨b, off, none⟩ ∧ ∀ j u, xs[j]? = some u → w.cell? ⟨b, off + j, none⟩ = some u := by
 obtain ⟨⟨b, off, spot⟩, rfl, hc⟩ := h.2 h0
 have h1 : 0 < xs.length := by rw [h.1]; exact h0
 have hs : spot = none := by
  have := World.cell?_spot (hc 0 _ (List.getElem?_eq_getElem h1))
  simpa [Addr.add] using this
 subst hs
 refine ⟨b, off, rfl, fun j u hu => ?_⟩
 have := hc j u hu
 rwa [cR] at this
end Go.Proofs.YtgcikpgcoemfnaaGreat
namespace Go.Proofs.YtgcikpgcoemfnaaGreat
open Go.RowKit
theorem aE {W : Nat} : ∀ (L : List (List Value)), (∀ c ∈ L, c.length = W) → ∀ (i j : Nat), j < W → L.flatten[i * W + j]? = (L[i]?).bind (·[j]?)
 | [], _, i, j, _ => by simp
 | c :: L, h, 0, j, hj => by
  have := h c (by simp)
  rw [List.flatten_cons, List.getElem?_append_left (by omega)]
  simp
 | c :: L, h, i + 1, j, hj => by
  have := h c (by simp)
  have e : (i + 1) * W = i * W + W := Nat.succ_mul i W
  rw [List.flatten_cons, List.getElem?_append_right (by omega), show (i + 1) * W + j - c.length = i * W + j from by omega, aE L (fun d hd => h d (by simp [hd])) i j hj]
  simp
theorem eh {W : Nat} (u : Value) : ∀ (L : List (List Value)), (∀ c ∈ L, c.length = W) → ∀ (i j : Nat) (c : List Value), j < W → L[i]? = some c → L.flatten.set (i * W + j) u = (L.set i (c.set j u)).flatten
 | [], _, i, j, c, _, hc => by simp at hc
 | d :: L, h, 0, j, c, hj, hc => by
  have := h d (by simp)
  obtain rfl : d = c := by simpa using hc
  rw [List.flatten_cons, List.set_append_left _ _ (by omega)]
  simp
 | d :: L, h, i + 1, j, c, hj, hc => by
  have := h d (by simp)
  have e : (i + 1) * W = i * W + W := Nat.succ_mul i W
  rw [List.flatten_cons, List.set_append_right _ _ (by omega), show (i + 1) * W + j - d.length = i * W + j from by omega, eh u L (fun d hd => h d (by simp [hd])) i j c hj (by simpa using hc)]
  simp
theorem jI {W : Nat} : ∀ (L : List (List Value)), (∀ c ∈ L, c.length = W) → L.flatten.length = L.length * W
 | [], _ => by simp
 | c :: L, h => by
  have := h c (by simp)
  rw [List.flatten_cons, List.length_append, jI L (fun d hd => h d (by simp [hd])), List.length_cons, Nat.succ_mul]; omega
theorem gx (z : Array Value) (n : Nat) : (madeCells z (n * z.size)).toList = (List.replicate n z.toList).flatten := by
 rcases Nat.eq_zero_or_pos z.size with h0 | h0
 ·have : z = #[] := Array.eq_empty_of_size_eq_zero h0
  subst this
  have e : madeCells #[] (n * (#[] : Array Value).size) = #[] := Array.eq_empty_of_size_eq_zero (by rw [size_madeCells]; simp)
  rw [e]
  induction n with
  | zero => rfl
  | succ n ih => rw [List.replicate_succ, List.flatten_cons]; simp
 ·apply List.ext_getElem?
  intro k
  have hW : ∀ c ∈ List.replicate n z.toList, c.length = z.size := fun c hc => by rw [List.eq_of_mem_replicate hc]; simp
  have e := aE (List.replicate n z.toList) hW (k / z.size) (k % z.size) (Nat.mod_lt _ h0)
  rw [show k / z.size * z.size + k % z.size = k from by rw [Nat.mul_comm]; exact Nat.div_add_mod k z.size] at e
  rw [e]
  have hm := Nat.mod_lt k h0
  by_cases hk : k / z.size < n
  ·have hk2 : k < n * z.size := (Nat.div_lt_iff_lt_mul h0).1 hk
   simp [madeCells, hk2, hk, hm]
  ·have hk2 : ¬ k < n * z.size := fun h => hk ((Nat.div_lt_iff_lt_mul h0).2 h)
   simp [madeCells, hk2, hk]
theorem Vec.blk {w : World} {e sz n cap : Nat} {A : Option Addr} {xs : List Value} (h : Vec w e sz A n cap xs) {g : Nat} (hg : Own A g) : ∃ cur, Blk w g e cur := by
 obtain ⟨a, rfl, rfl⟩ := hg
 rcases h.2 with ⟨he, _⟩ | ⟨g', cap', cur, he, _, hg, _⟩
 ·simp at he
 ·simp only [Value.slice.injEq, Option.some.injEq, true_and] at he
  rw [he.1]
  exact ⟨cur.toList, by simpa [Blk] using hg⟩
structure Pl where
 gen : Nat
 on : Bool
 v : List Value
def Pl.cells (q : Pl) : List Value := .int .i64 q.gen :: .bool q.on :: q.v
def flat (L : List Pl) : List Value := (L.map Pl.cells).flatten
structure dV (W : Nat) (L : List Pl) : Prop where
 each : ∀ q ∈ L, q.v.length + 2 = W
 gen : ∀ q ∈ L, q.gen ≤ 1000001
 len : L.length ≤ 256
theorem dV.cells {W : Nat} {L : List Pl} (h : dV W L) : ∀ c ∈ L.map Pl.cells, c.length = W := by
 intro c hc
 obtain ⟨q, hq, rfl⟩ := List.mem_map.1 hc
 simpa [Pl.cells] using h.each q hq
theorem dV.get {W : Nat} {L : List Pl} (h : dV W L) {i j : Nat} (hj : j < W) {q : Pl} (hq : L[i]? = some q) : (flat L)[i * W + j]? = q.cells[j]? := by
 rw [flat, aE _ h.cells i j hj, List.getElem?_map, hq]
 rfl
theorem dV.set_cells {W : Nat} {L : List Pl} (h : dV W L) {i j : Nat} (hj : j < W) {q q' : Pl} (hq : L[i]? = some q) (u : Value) (hu : q.cells.set j u = q'.cells) : (flat L).set (i * W + j) u = flat (L.set i q') := by
 rw [flat, eh u _ h.cells i j q.cells hj (by rw [List.getElem?_map, hq]; rfl), flat, List.map_set, hu]
theorem dV.set {W : Nat} {L : List Pl} (h : dV W L) (i : Nat) (q' : Pl) (h1 : q'.v.length + 2 = W) (h2 : q'.gen ≤ 1000001) : dV W (L.set i q') := by
 refine ⟨fun q hq => ?_, fun q hq => ?_, by rw [List.length_set]; exact h.len⟩
 ·rcases List.mem_or_eq_of_mem_set hq with h3 | rfl
  ·exact h.each q h3
  ·exact h1
 ·rcases List.mem_or_eq_of_mem_set hq with h3 | rfl
  ·exact h.gen q h3
  ·exact h2
theorem aP {α : Type} {L : List α} {i : Nat} {q : α} (h : L[i]? = some q) : i < L.length := (List.getElem?_eq_some_iff.1 h).1
theorem bE {α : Type} {L : List α} {i : Nat} {q : α} (h : L[i]? = some q) : q ∈ L := List.mem_of_getElem? h
def Pl.free (q : Pl) : Bool := !q.on && decide (q.gen ≤ 1000000)
structure bM (tT tP : TypeId) (W : Nat) (w : World) (p r : Nat) (L : List Pl) : Prop where
 obj : Blk w p tT [.slice (some ⟨r, 0, none⟩) L.length L.length]
 row : Blk w r tP (flat L)
 pl : dV W L
 ne : tT ≠ tP
section
variable {tT tP : TypeId} {W : Nat} {w w' : World} {p r : Nat} {L : List Pl}
theorem bM.head (h : bM tT tP W w p r L) : w.cell? ⟨p, 0, none⟩ = some (.slice (some ⟨r, 0, none⟩) L.length L.length) := h.obj.cell 0
theorem bM.ne_ (h : bM tT tP W w p r L) : p ≠ r := h.obj.ne_ h.row h.ne
theorem bM.keep {M : Nat → Prop} (h : bM tT tP W w p r L) (k : Keep M w w') (hp : ¬ M p) (hr : ¬ M r) : bM tT tP W w' p r L := ⟨h.obj.keep k hp, h.row.keep k hr, h.pl, h.ne⟩
theorem bM.nob (h : bM tT tP W w p r L) (k : Keep Nob w w') : bM tT tP W w' p r L := h.keep k (fun f => f) (fun f => f)
theorem bM.gen_ (h : bM tT tP W w p r L) {i : Nat} {q : Pl} (hq : L[i]? = some q) : w.cell? ⟨r, i * W, none⟩ = some (.int .i64 q.gen) := by
 have := h.pl.each q (bE hq)
 have e := h.pl.get (i := i) (j := 0) (by omega) hq
 rw [h.row.cell]
 exact e
theorem bM.on_ (h : bM tT tP W w p r L) {i : Nat} {q : Pl} (hq : L[i]? = some q) : w.cell? ⟨r, i * W + 1, none⟩ = some (.bool q.on) := by
 have := h.pl.each q (bE hq)
 have e := h.pl.get (i := i) (j := 1) (by omega) hq
 rw [h.row.cell, e]
 rfl
theorem bM.v_ (h : bM tT tP W w p r L) {i : Nat} {q : Pl} (hq : L[i]? = some q) {j : Nat} {u : Value} (hj : q.v[j]? = some u) : w.cell? ⟨r, i * W + (2 + j), none⟩ = some u := by
 have := h.pl.each q (bE hq)
 have hl := aP hj
 have e := h.pl.get (i := i) (j := 2 + j) (by omega) hq
 rw [h.row.cell, e, Nat.add_comm 2 j]
 exact hj
theorem bM.put (h : bM tT tP W w p r L) {i : Nat} (q' : Pl) (k : Keep (· = r) w w') (hb : Blk w' r tP (flat (L.set i q'))) (h1 : q'.v.length + 2 = W) (h2 : q'.gen ≤ 1000001) : bM tT tP W w' p r (L.set i q') :=
 ⟨by rw [List.length_set]; exact h.obj.keep k h.ne_, hb, h.pl.set i q' h1 h2, h.ne⟩
end
section
variable {tT tP : TypeId} {W : Nat} {w w' : World} {p r : Nat} {L : List Pl}
theorem bM.wr (h : bM tT tP W w p r L) {i : Nat} {q : Pl} (hq : L[i]? = some q) (j : Nat) (u : Value) (q' : Pl) (hj : j < W) (hu : q.cells.set j u = q'.cells) (h2 : q'.gen ≤ 1000001) :
  bM tT tP W (w.setCell ⟨r, i * W + j, none⟩ u) p r (L.set i q') ∧ Keep (· = r) w (w.setCell ⟨r, i * W + j, none⟩ u) := by
 have k : Keep (· = r) w (w.setCell ⟨r, i * W + j, none⟩ u) := (Keep.refl _ w).setCell _ u (fun _ => rfl)
 have h1 := h.pl.each q (bE hq)
 have hl : q'.v.length + 2 = W := by
  have := congrArg List.length hu
  simp [Pl.cells] at this
  omega
 refine ⟨h.put q' k ?_ hl h2, k⟩
 have hb := h.row.setCell (i * W + j) u
 rwa [h.pl.set_cells hj hq u hu] at hb
theorem iY (w : World) (a : Addr) (u : Value) : (w.setCell a u).heap.size = w.heap.size := by simp [World.setCell]
theorem dA {R : List (List Value)} (hR : ∀ c ∈ R, c.length = W) {i : Nat} {c : List Value} (hc : R[i]? = some c) (j : Nat) (hj : j < W) (u : Value) :
  R.flatten.set (i * W + j) u = (R.set i (c.set j u)).flatten ∧ (∀ c' ∈ R.set i (c.set j u), c'.length = W) ∧ (R.set i (c.set j u))[i]? = some (c.set j u) := by
 refine ⟨eh u R hR i j c hj hc, fun c' h' => ?_, by rw [List.getElem?_set_self (aP hc)]⟩
 rcases List.mem_or_eq_of_mem_set h' with h3 | rfl
 ·exact hR _ h3
 ·rw [List.length_set]; exact hR c (bE hc)
theorem bM.wr8add (h : bM tT tP 8 w p r L) {i : Nat} {q : Pl} (hq : L[i]? = some q) (c0 c1 c2 c3 c4 c5 : Int) {u0 u1 u2 u3 u4 u5 : Value} (hu : q.v = [u0, u1, u2, u3, u4, u5]) :
  bM tT tP 8 (((((((w.setCell ⟨r, i * 8 + 1, none⟩ (.bool true)).setCell ⟨r, i * 8 + 2, none⟩ (.int .i64 c0)).setCell ⟨r, i * 8 + 3, none⟩ (.int .i64 c1)).setCell ⟨r, i * 8 + 4, none⟩ (.int .i64 c2)).setCell ⟨r, i * 8 + 5, none⟩ (.int .i64 c3)).setCell ⟨r, i * 8 + 6, none⟩ (.int .i64 c4)).setCell ⟨r, i * 8 + 7, none⟩ (.int .i64 c5)) p r (L.set i ⟨q.gen, true, [.int .i64 c0, .int .i64 c1, .int .i64 c2, .int .i64 c3, .int .i64 c4, .int .i64 c5]⟩) ∧ Keep (· = r) w (((((((w.setCell ⟨r, i * 8 + 1, none⟩ (.bool true)).setCell ⟨r, i * 8 + 2, none⟩ (.int .i64 c0)).setCell ⟨r, i * 8 + 3, none⟩ (.int .i64 c1)).setCell ⟨r, i * 8 + 4, none⟩ (.int .i64 c2)).setCell ⟨r, i * 8 + 5, none⟩ (.int .i64 c3)).setCell ⟨r, i * 8 + 6, none⟩ (.int .i64 c4)).setCell ⟨r, i * 8 + 7, none⟩ (.int .i64 c5)) := by
 have hg := h.pl.gen q (bE hq)
 have hi := aP hq
 obtain ⟨f1, k1⟩ := h.wr hq 1 (.bool true) ⟨q.gen, true, [u0, u1, u2, u3, u4, u5]⟩ (by decide) (by simp [Pl.cells, hu]) hg
 have hq1 : (L.set i ⟨q.gen, true, [u0, u1, u2, u3, u4, u5]⟩)[i]? = some ⟨q.gen, true, [u0, u1, u2, u3, u4, u5]⟩ := List.getElem?_set_self hi
 obtain ⟨f2, k2⟩ := f1.wr hq1 2 (.int .i64 c0) ⟨q.gen, true, [.int .i64 c0, u1, u2, u3, u4, u5]⟩ (by decide) (by simp [Pl.cells]) hg
 rw [List.set_set] at f2
 have hq2 : (L.set i ⟨q.gen, true, [.int .i64 c0, u1, u2, u3, u4, u5]⟩)[i]? = some ⟨q.gen, true, [.int .i64 c0, u1, u2, u3, u4, u5]⟩ := List.getElem?_set_self hi
 obtain ⟨f3, k3⟩ := f2.wr hq2 3 (.int .i64 c1) ⟨q.gen, true, [.int .i64 c0, .int .i64 c1, u2, u3, u4, u5]⟩ (by decide) (by simp [Pl.cells]) hg
 rw [List.set_set] at f3
 have hq3 : (L.set i ⟨q.gen, true, [.int .i64 c0, .int .i64 c1, u2, u3, u4, u5]⟩)[i]? = some ⟨q.gen, true, [.int .i64 c0, .int .i64 c1, u2, u3, u4, u5]⟩ := List.getElem?_set_self hi
 obtain ⟨f4, k4⟩ := f3.wr hq3 4 (.int .i64 c2) ⟨q.gen, true, [.int .i64 c0, .int .i64 c1, .int .i64 c2, u3, u4, u5]⟩ (by decide) (by simp [Pl.cells]) hg
 rw [List.set_set] at f4
 have hq4 : (L.set i ⟨q.gen, true, [.int .i64 c0, .int .i64 c1, .int .i64 c2, u3, u4, u5]⟩)[i]? = some ⟨q.gen, true, [.int .i64 c0, .int .i64 c1, .int .i64 c2, u3, u4, u5]⟩ := List.getElem?_set_self hi
 obtain ⟨f5, k5⟩ := f4.wr hq4 5 (.int .i64 c3) ⟨q.gen, true, [.int .i64 c0, .int .i64 c1, .int .i64 c2, .int .i64 c3, u4, u5]⟩ (by decide) (by simp [Pl.cells]) hg
 rw [List.set_set] at f5
 have hq5 : (L.set i ⟨q.gen, true, [.int .i64 c0, .int .i64 c1, .int .i64 c2, .int .i64 c3, u4, u5]⟩)[i]? = some ⟨q.gen, true, [.int .i64 c0, .int .i64 c1, .int .i64 c2, .int .i64 c3, u4, u5]⟩ := List.getElem?_set_self hi
 obtain ⟨f6, k6⟩ := f5.wr hq5 6 (.int .i64 c4) ⟨q.gen, true, [.int .i64 c0, .int .i64 c1, .int .i64 c2, .int .i64 c3, .int .i64 c4, u5]⟩ (by decide) (by simp [Pl.cells]) hg
 rw [List.set_set] at f6
 have hq6 : (L.set i ⟨q.gen, true, [.int .i64 c0, .int .i64 c1, .int .i64 c2, .int .i64 c3, .int .i64 c4, u5]⟩)[i]? = some ⟨q.gen, true, [.int .i64 c0, .int .i64 c1, .int .i64 c2, .int .i64 c3, .int .i64 c4, u5]⟩ := List.getElem?_set_self hi
 obtain ⟨f7, k7⟩ := f6.wr hq6 7 (.int .i64 c5) ⟨q.gen, true, [.int .i64 c0, .int .i64 c1, .int .i64 c2, .int .i64 c3, .int .i64 c4, .int .i64 c5]⟩ (by decide) (by simp [Pl.cells]) hg
 rw [List.set_set] at f7
 exact ⟨f7, ((((((k1.trans k2 (fun _ _ e => e)).trans k3 (fun _ _ e => e)).trans k4 (fun _ _ e => e)).trans k5 (fun _ _ e => e)).trans k6 (fun _ _ e => e)).trans k7 (fun _ _ e => e))⟩
end
section
variable {tT tP : TypeId} {W : Nat} {w w' : World} {p r : Nat} {L : List Pl}
theorem Keep.nobt {w'' : World} (h : Keep Nob w w') (h' : Keep Nob w' w'') : Keep Nob w w'' := h.trans h' (fun _ _ f => f)
theorem Vec.nob {e sz n cap : Nat} {A : Option Addr} {xs : List Value} (hv : Vec w e sz A n cap xs) (k : Keep Nob w w') : Vec w' e sz A n cap xs := hv.keep k (fun _ _ f => f)
theorem Blk.nob {g : Nat} {t : TypeId} {cs : List Value} (h : Blk w g t cs) (k : Keep Nob w w') : Blk w' g t cs := h.keep k (fun f => f)
end
def gi (zc : List Value) (k j : Nat) : List Pl := (List.range k).map fun i => ⟨if i < j then 1 else 0, false, zc⟩
theorem dt (zc : List Value) (k j : Nat) : (gi zc k j).length = k := by simp [gi]
theorem fP (zc : List Value) {k j i : Nat} (h : i < k) : (gi zc k j)[i]? = some ⟨if i < j then 1 else 0, false, zc⟩ := by simp [gi, h]
theorem fresh_set (zc : List Value) (k j : Nat) (h : j < k) : (gi zc k j).set j ⟨1, false, zc⟩ = gi zc k (j + 1) := by
 apply List.ext_getElem?
 intro i
 rw [List.getElem?_set, dt]
 by_cases hi : i < k
 ·rw [fP zc hi, fP zc hi]
  by_cases he : j = i
  ·subst he; simp [h]
  ·rw [if_neg he]
   have : (i < j) = (i < j + 1) := by simp; omega
   simp only [this]
 ·rw [List.getElem?_eq_none (by rw [dt]; omega), List.getElem?_eq_none (by rw [dt]; omega)]
  split
  ·omega
  ·rfl
theorem fresh_all (zc : List Value) (k : Nat) : gi zc k k = List.replicate k ⟨1, false, zc⟩ := by
 apply List.ext_getElem?
 intro i
 by_cases hi : i < k
 ·rw [fP zc hi]; simp [hi]
 ·rw [List.getElem?_eq_none (by rw [dt]; omega), List.getElem?_eq_none (by simp; omega)]
theorem fresh_none (zc : List Value) (k : Nat) : flat (gi zc k 0) = (List.replicate k (Value.int .i64 0 :: Value.bool false :: zc)).flatten := by
 unfold flat
 congr 1
 apply List.ext_getElem?
 intro i
 by_cases hi : i < k
 ·rw [List.getElem?_map, fP zc hi]; simp [hi, Pl.cells]
 ·rw [List.getElem?_eq_none (by rw [List.length_map, dt]; omega), List.getElem?_eq_none (by simp; omega)]
theorem fresh_places (zc : List Value) (W k j : Nat) (hW : zc.length + 2 = W) (hk : k ≤ 256) : dV W (gi zc k j) := by
 refine ⟨fun q hq => ?_, fun q hq => ?_, by rw [dt]; exact hk⟩
 all_goals
  simp only [gi, List.mem_map] at hq
  obtain ⟨i, _, rfl⟩ := hq
 ·exact hW
 ·dsimp only; split <;> omega
def names (L : List Pl) : Nat → List Int
 | 0 => []
 | k + 1 => names L k ++ (match L[k]? with | some q => if q.on then [(k : Int) + 256 * q.gen] else [] | none => [])
theorem kD {L : List Pl} {k : Nat} {q : Pl} (hq : L[k]? = some q) (h : q.on = true) : names L (k + 1) = names L k ++ [(k : Int) + 256 * q.gen] := by
 rw [names, hq]
 dsimp only
 rw [if_pos h]
theorem jg {L : List Pl} {k : Nat} {q : Pl} (hq : L[k]? = some q) (h : q.on = false) : names L (k + 1) = names L k := by
 rw [names, hq]
 dsimp only
 rw [if_neg (by rw [h]; decide), List.append_nil]
theorem km (L : List Pl) : ∀ k, (names L k).length ≤ k
 | 0 => by simp [names]
 | k + 1 => by
  have := km L k
  unfold names
  rw [List.length_append]
  split
  ·split <;> simp <;> omega
  ·simp; omega
def ab (l : List Int) : List Value := l.map fun x => Value.int .i64 x
@[simp] theorem dd (l : List Int) : (ab l).length = l.length := by simp [ab]
theorem fh (a b : List Int) : ab (a ++ b) = ab a ++ ab b := by simp [ab]
theorem bg (l : List Int) (i : Nat) : (ab l)[i]? = (l[i]?).map fun x => Value.int .i64 x := by simp [ab]
theorem dz (l : List Int) : ∀ v ∈ ab l, v.oneCell' = true := by
 intro v hv
 simp [ab] at hv
 obtain ⟨b, _, rfl⟩ := hv
 rfl
section
variable {P : Program} {w : World} {ops : Array Oper} {rest : List Oper} {o : Oper} {a : Act} {Q : Exit → Act → World → Prop}
theorem lj (hgd : o.guard = none) (l c : Operand) (t : TypeId) (ho : o.op = .makeSlice t l c)
  (e : TypeId) (z : Value) (by_ : Nat) (ht : P.underlying t = some (.slice e)) (hinfo : (P.info? e).map (fun i => (i.zero, i.size, i.bytes)) = some (some z, z.cells.size, by_))
  (kl kc : IntKind) (n : Nat) (L : Int) (hL : L = n) (hl : a.eval l = .int kl L) (hc : a.eval c = .int kc L) (hb : by_ * n ≤ 281474976710656) (h63 : n ≤ 9223372036854775807)
  (h : ∀ w', Blk w' w.heap.size e (List.replicate n z.cells.toList).flatten → Keep Nob w w' → w'.heap.size = w.heap.size + 1 → wpList P ops Q rest (a.put o.dst (.slice (some ⟨w.heap.size, 0, none⟩) n n)) w') :
  wpList P ops Q (o :: rest) a w := by
 subst hL
 refine wpList_plain hgd fun K hK => ?_
 obtain ⟨i, hi, hzz⟩ := Option.map_eq_some_iff.1 hinfo
 simp only [Prod.mk.injEq] at hzz
 obtain ⟨hz, hs, hby⟩ := hzz
 have hrun := run_make (P := P) w t e i z ht hi hz kl kc n n (by omega) (Int.le_refl _) (by
  have h : ((by_ * n : Nat) : Int) ≤ 281474976710656 := by omega
  rw [hby]
  rwa [Int.natCast_mul] at h) (by omega)
 simp only [Int.toNat_natCast, hs] at hrun
 have hh := h (w.alloc (.cells (madeCells z.cells (n * z.cells.size)) e)) (by
  have := Blk.new w e (madeCells z.cells (n * z.cells.size)).toList
  rw [Array.toArray_toList, gx] at this
  exact this) ((Keep.refl _ w).alloc _) (by simp)
 unfold Oper.wp
 simp [execOp, ho, hl, hc, hrun, Result.andThen]
 exact hK _ _ hh
theorem af (hgd : o.guard = none) (t : TypeId) (x : Operand) (ho : o.op = .box t x) (cs : Array Value) (hx : a.eval x = .agg cs)
  (h : ∀ w', Blk w' w.heap.size t (Value.agg cs).cells.toList → Keep Nob w w' → w'.heap.size = w.heap.size + 1 → wpList P ops Q rest (a.put o.dst (.pointer (some ⟨w.heap.size, 0, none⟩))) w') :
  wpList P ops Q (o :: rest) a w := by
 refine wpList_plain hgd fun K hK => ?_
 have hh := h (w.alloc (.cells (Value.agg cs).cells t)) (by
  have := Blk.new w t (Value.agg cs).cells.toList
  rwa [Array.toArray_toList] at this) ((Keep.refl _ w).alloc _) (by simp)
 unfold Oper.wp
 simp [execOp, ho, hx, Instr.box, newRow, Result.andThen]
 exact hK _ _ hh
end
end Go.Proofs.YtgcikpgcoemfnaaGreat
namespace Go.Proofs.YtgcikpgcoemfnaaGreat
open Go.RowKit
theorem fX (x : BitVec 64) : IntKind.i64.wrap (x.toNat : Int) = x.toInt := by
 have h0 := x.isLt
 have hw : ∀ n : Int, IntKind.i64.wrap n = if n % 18446744073709551616 ≥ 9223372036854775808 then n % 18446744073709551616 - 18446744073709551616 else n % 18446744073709551616 := fun n => by
  simp [IntKind.wrap, IntKind.bits, IntKind.signed]
 rw [hw]
 unfold BitVec.toInt
 generalize x.toNat = n at *
 have e1 : ((2 ^ 64 : Nat) : Int) = 18446744073709551616 := by decide
 rw [e1]
 rcases Nat.lt_or_ge (2 * n) (2 ^ 64) with h | h
 ·rw [if_neg (by omega), if_pos h]; omega
 ·rw [if_pos (by omega), if_neg (by omega)]; omega
end Go.Proofs.YtgcikpgcoemfnaaGreat
namespace Go.Proofs.YtgcikpgcoemfnaaGreat
open Go.RowKit
def mk {α : Type} (n : Nat) (f : Nat → α) : List α := (List.range n).map f
section
variable {α : Type} {n : Nat} {f g : Nat → α}
@[simp] theorem mk_len : (mk n f).length = n := by simp [mk]
theorem dn {i : Nat} (h : i < n) : (mk n f)[i]? = some (f i) := by simp [mk, h]
theorem iT {i : Nat} (h : n ≤ i) : (mk n f)[i]? = none := List.getElem?_eq_none (by simpa using h)
theorem gu (h : ∀ i, i < n → f i = g i) : mk n f = mk n g := by
 apply List.ext_getElem?
 intro i
 by_cases hi : i < n
 ·rw [dn hi, dn hi, h i hi]
 ·rw [iT (by omega), iT (by omega)]
theorem mk_set {i : Nat} (q : α) (h : ∀ j, j < n → (if j = i then q else f j) = g j) : (mk n f).set i q = mk n g := by
 apply List.ext_getElem?
 intro j
 rw [List.getElem?_set]
 by_cases hj : j < n
 ·rw [dn hj, dn hj, ← h j hj]
  by_cases e : i = j
  ·subst e; simp [hj]
  ·rw [if_neg e, if_neg (fun e' => e e'.symm)]
 ·rw [iT (f := f) (by omega), iT (f := g) (by omega)]
  split
  ·rw [mk_len, if_neg (by omega)]
  ·rfl
theorem mk_rep (q : α) : List.replicate n q = mk n (fun _ => q) := by
 apply List.ext_getElem?
 intro i
 by_cases hi : i < n
 ·rw [dn hi]; simp [hi]
 ·rw [iT (by omega), List.getElem?_eq_none (by simp; omega)]
theorem dE (f : Nat → α) (n : Nat) : mk n f ++ [f n] = mk (n + 1) f := by simp [mk, List.range_succ]
end
theorem kX : ∀ L : List Pl, (∃ (i : Nat) (q : Pl), L[i]? = some q ∧ q.free = true ∧ ∀ (j : Nat) (y : Pl), j < i → L[j]? = some y → y.free = false) ∨ (∀ (j : Nat) (y : Pl), L[j]? = some y → y.free = false)
 | [] => .inr (by simp)
 | q :: L => by
  cases hq : q.free with
  | true => exact .inl ⟨0, q, rfl, hq, fun j y hj => absurd hj (by omega)⟩
  | false =>
   rcases kX L with ⟨i, x, hx, hf, hb⟩ | hb
   ·refine .inl ⟨i + 1, x, by simpa using hx, hf, fun j y hj hy => ?_⟩
    cases j with
    | zero => simp at hy; rw [← hy]; exact hq
    | succ j => exact hb j y (by omega) (by simpa using hy)
   ·refine .inr fun j y hy => ?_
    cases j with
    | zero => simp at hy; rw [← hy]; exact hq
    | succ j => exact hb j y (by simpa using hy)
theorem free_off {q : Pl} (h : q.free = true) : q.on = false ∧ q.gen ≤ 1000000 := by
 unfold Pl.free at h
 simp at h
 exact h
end Go.Proofs.YtgcikpgcoemfnaaGreat
namespace Go.Proofs.YtgcikpgcoemfnaaGreat
open Go.RowKit
abbrev Rf := Int × Int
structure Cp where
 obj : Int
 rights : Int
 lo : Int
 n : Int
 root : Rf
deriving DecidableEq
def Cp.cells (c : Cp) : List Value := [.int .i64 c.obj, .int .i64 c.rights, .int .i64 c.lo, .int .i64 c.n, .int .i64 c.root.1, .int .i64 c.root.2]
def cX : Cp := ⟨0, 0, 0, 0, (0, 0)⟩
structure Q where
 gen : Nat
 on : Bool
 c : Cp
def Q.pl (q : Q) : Pl := ⟨q.gen, q.on, q.c.cells⟩
abbrev St := Nat → List Q
def Has (T : St) (n : Nat) (ρ : Rf) (c : Cp) : Prop := ∃ (e i : Nat) (q : Q), ρ = ((e : Int), (i : Int) + 256 * (q.gen : Int)) ∧ e < n ∧ (T e)[i]? = some q ∧ q.on = true ∧ q.c = c
structure Inv (T : St) (n : Nat) : Prop where
 n40 : n ≤ 40
 len : ∀ e, e < n → (T e).length = 32
 gen : ∀ e (i : Nat) q, e < n → (T e)[i]? = some q → 1 ≤ q.gen ∧ (q.on = true → q.gen ≤ 1000000)
 cap : ∀ ρ c, Has T n ρ c → 0 ≤ c.rights ∧ c.rights ≤ 7 ∧ 0 ≤ c.lo ∧ 0 ≤ c.n ∧ c.lo + c.n ≤ 131072
 root : ∀ ρ c, Has T n ρ c → c.root = (0, 0) ∨ ∃ c', Has T n c.root c'
 rank : ∃ rk : Rf → Nat, ∀ ρ c, Has T n ρ c → c.root ≠ (0, 0) → rk c.root < rk ρ
theorem Inv.len256 {T : St} {n : Nat} (h : Inv T n) : ∀ e, e < n → (T e).length ≤ 256 := fun e he => by rw [h.len e he]; decide
theorem nodup_le {α : Type} [DecidableEq α] : ∀ {a b : List α}, a.Nodup → (∀ x ∈ a, x ∈ b) → a.length ≤ b.length
 | [], _, _, _ => by simp
 | x :: a, b, h, hs => by
  have hx := hs x (by simp)
  rw [List.nodup_cons] at h
  have := nodup_le (b := b.erase x) h.2 (fun y hy => (List.mem_erase_of_ne (by rintro rfl; exact h.1 hy)).2 (hs y (by simp [hy])))
  rw [List.length_erase_of_mem hx] at this
  have := List.length_pos_of_mem hx
  simp
  omega
section
variable {T : St} {n : Nat} {top of : Rf} {W F : List Rf}
end
def bP (x : Rf) : List Value := [.int .i64 x.1, .int .i64 x.2]
def eA (x : Rf) : Value := .agg #[.int .i64 x.1, .int .i64 x.2]
def cU (l : List Rf) : List Value := (l.map bP).flatten
theorem eZ (l : List Rf) : (cU l).length = l.length * 2 := by
 rw [cU, jI (W := 2) _ (by intro c hc; obtain ⟨x, _, rfl⟩ := List.mem_map.1 hc; rfl), List.length_map]
theorem jJ (a b : List Rf) : cU (a ++ b) = cU a ++ cU b := by simp [cU]
theorem fK {l : List Rf} {i j : Nat} {x : Rf} (hx : l[i]? = some x) (hj : j < 2) : (cU l)[i * 2 + j]? = (bP x)[j]? := by
 rw [cU, aE (W := 2) _ (by intro c hc; obtain ⟨x, _, rfl⟩ := List.mem_map.1 hc; rfl) i j hj, List.getElem?_map, hx]
 rfl
theorem refs_one (l : List Rf) : ∀ v ∈ cU l, v.oneCell' = true := by
 intro v hv
 obtain ⟨c, hc, hv⟩ := List.mem_flatten.1 hv
 obtain ⟨x, _, rfl⟩ := List.mem_map.1 hc
 simp [bP] at hv
 rcases hv with rfl | rfl <;> rfl
theorem Vec.rf {w : World} {e : TypeId} {n cap : Nat} {A : Option Addr} {l : List Rf} (h : Vec w e 2 A n cap (cU l)) {j : Nat} {ρ : Rf} (hj : l[j]? = some ρ) :
  ∃ g, A = some ⟨g, 0, none⟩ ∧ w.cell? ⟨g, j * 2, none⟩ = some (.int .i64 ρ.1) ∧ w.cell? ⟨g, j * 2 + 1, none⟩ = some (.int .i64 ρ.2) := by
 have hl := h.len
 rw [eZ] at hl
 have hjl := aP hj
 obtain ⟨g, cur, hA, hb, _, _, ht⟩ := h.at_ (by omega)
 refine ⟨g, hA, ?_, ?_⟩
 ·rw [hb.cell]
  have e1 : (cur.take (n * 2))[j * 2 + 0]? = (cU l)[j * 2 + 0]? := by rw [ht]
  rw [List.getElem?_take, if_pos (by omega), fK hj (by omega)] at e1
  exact e1
 ·rw [hb.cell]
  have e1 : (cur.take (n * 2))[j * 2 + 1]? = (cU l)[j * 2 + 1]? := by rw [ht]
  rw [List.getElem?_take, if_pos (by omega), fK hj (by omega)] at e1
  exact e1
end Go.Proofs.YtgcikpgcoemfnaaGreat
