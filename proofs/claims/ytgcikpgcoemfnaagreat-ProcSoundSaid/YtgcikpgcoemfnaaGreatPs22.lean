import Derived.Lib.LazyBuf
import Derived.Test.YtgcikpgcoemfnaaGreatPs10
import Derived.Test.YtgcikpgcoemfnaaGreatPs17
set_option linter.unusedVariables false
set_option linter.unusedSimpArgs false
namespace Go.Proofs.YtgcikpgcoemfnaaGreat.Cr
open Go.RowKit Cd
structure CR (w : World) (g n : Nat) (b : List UInt8) : Prop where
 len : b.length = n
 at_ : ∀ j, j < n → w.cell? ⟨g, j, none⟩ = some (.int .u8 ((b.getD j 0).toNat : Int))
 fr : ∀ j, j < n → w.frozen? ⟨g, j, none⟩ = false
section
variable {w w' : World} {g n : Nat} {b : List UInt8} {M : Nat → Prop}
theorem CR.lt (h : CR w g n b) (h0 : 0 < n) : g < w.heap.size := block_lt_of_cell (h.at_ 0 h0)
theorem CR.keep (h : CR w g n b) (h0 : 0 < n) (k : Keep M w w') (hm : ¬ M g) : CR w' g n b := by
 have e : w'.heap[g]? = w.heap[g]? := k.block g (h.lt h0) hm
 refine ⟨h.len, fun j hj => ?_, fun j hj => ?_⟩
 ·rw [← h.at_ j hj]; simp only [World.cell?, e]
 ·rw [← h.fr j hj]; simp only [World.frozen?, e]
theorem CR.nob (h : CR w g n b) (h0 : 0 < n) (k : Keep Nob w w') : CR w' g n b := h.keep h0 k (fun f => f)
theorem CR.reads (h : CR w g n b) : ae w (some ⟨g, 0, none⟩) n (bytes b) := kH h.len h.at_
theorem CR.set (h : CR w g n b) {k : Nat} (hk : k < n) (x : UInt8) : CR (w.setCell ⟨g, k, none⟩ (.int .u8 (x.toNat : Int))) g n (b.set k x) := by
 refine ⟨by rw [List.length_set]; exact h.len, fun j hj => ?_, fun j hj => ?_⟩
 ·by_cases e : k = j
  ·subst e
   rw [World.cell?_setCell_same _ _ _ (h.at_ k hj), List.getD_eq_getElem?_getD, List.getElem?_set_self (by rw [h.len]; exact hj)]; rfl
  ·rw [World.cell?_setCell_other _ _ _ _ (by intro hh; cases hh; exact e rfl), h.at_ j hj, List.getD_eq_getElem?_getD, List.getD_eq_getElem?_getD, List.getElem?_set_ne e]
 ·rw [World.frozen?_setCell]; exact h.fr j hj
theorem splice_cons {b l : List UInt8} {o : Nat} {x : UInt8} (ho : o < b.length) : splice (b.set o x) (o + 1) l = splice b o (x :: l) := by
 have h1 : (b.set o x).take (o + 1) = b.take o ++ [x] := by
  rw [List.take_add_one, List.take_set_of_le (Nat.le_refl _), List.getElem?_set_self ho]
  rfl
 have h2 : (b.set o x).drop (o + 1 + l.length) = b.drop (o + (x :: l).length) := by
  rw [List.drop_set_of_lt (by omega), List.length_cons]
  congr 1
  omega
 unfold splice
 rw [h1, h2]
 simp
theorem CR.sets {g n : Nat} : ∀ (l : List UInt8) (o : Nat) (w : World) (b : List UInt8), CR w g n b → o + l.length ≤ n → CR (w.setCells g o (bytes l)) g n (splice b o l)
 | [], o, _, b, h, _ => by rw [show splice b o [] = b by simp [splice]]; exact h
 | x :: l, o, w, b, h, hl => by
  simp only [List.length_cons] at hl
  rw [← splice_cons (by rw [h.len]; omega)]
  exact CR.sets l (o + 1) _ _ (h.set (k := o) (by omega) x) (by omega)
theorem szB (w : World) : (Go.sizeOf 5).run Tryz.prog w = .ok 1 w := jL w 5 1 Tryz.size5
theorem cr_cps (h : CR w g n b) (l : List UInt8) {at_ dl dCap : Nat} (hd : at_ + dl = n) (hfit : l.length ≤ dl) :
  ∃ w2, (∀ ty, (Builtin.copy_ #[28, 9] ty #[.slice (some ⟨g, at_, none⟩) dl dCap, .string (str l)]).run Tryz.prog w = .ok (goInt l.length) w2) ∧ CR w2 g n (splice b at_ l) ∧ Keep (· = g) w w2 := by
 have hsz := gy l
 refine ⟨_, fun ty => ?_, CR.sets l at_ w b h (by omega), Keep.setCells (bytes l) at_ w (Keep.refl _ w) (fun _ => rfl)⟩
 have hrun := Go.run_copy_string (P := Tryz.prog) w 28 9 ty 5 g at_ dl dCap (str l) Tryz.underlying28 szB (by rw [hsz]; omega) (fun j hj => by rw [h.at_ _ (by rw [hsz] at hj; omega)]; rfl) (fun j hj => h.fr _ (by rw [hsz] at hj; omega))
 rw [hsz] at hrun
 exact hrun
end
section
variable {ops : Array Oper} {rest : List Oper} {o : Oper} {a : Act} {Q : Exit → Act → World → Prop} {w : World} {g n : Nat} {b : List UInt8}
theorem wpList_cpr (hgd : o.guard = none) (d s : Operand) (ho : o.op = .call { callee := .builtin .copy, args := #[d, s], argTypes := #[28, 9] }) (at_ dl dCap : Nat) (l : List UInt8) (hd : a.eval d = .slice (some ⟨g, at_, none⟩) dl dCap) (hs : a.eval s = .string (str l))
  (hr : CR w g n b) (hn : at_ + dl = n) (hl : l.length ≤ dl) (h : ∀ w', CR w' g n (splice b at_ l) → Keep (· = g) w w' → wpList Tryz.prog ops Q rest (a.put o.dst (goInt l.length)) w') : wpList Tryz.prog ops Q (o :: rest) a w := by
 refine wpList_plain hgd fun K hK => ?_
 obtain ⟨w2, hrun, h2, h3⟩ := cr_cps hr l (dCap := dCap) hn hl
 unfold Oper.wp
 simp [execOp, ho, resolve, invoke, builtin, hd, hs, hrun, Result.andThen]
 exact hK _ _ (h w2 h2 h3)
theorem kg (hgd : o.guard = none) (x : Operand) (ho : o.op = .convert 9 28 x) (l : List UInt8) (hx : a.eval x = .string (str l)) (hn : l.length = n)
  (h : ∀ w' c, CR w' w.heap.size n l → Keep Nob w w' → n ≤ c → wpList Tryz.prog ops Q rest (a.put o.dst (.slice (some ⟨w.heap.size, 0, none⟩) n c)) w') : wpList Tryz.prog ops Q (o :: rest) a w := by
 subst hn
 exact jF hgd x ho l hx fun w' c h1 h2 k hc => h w' c ⟨rfl, h1, h2⟩ k hc
end
end Go.Proofs.YtgcikpgcoemfnaaGreat.Cr
