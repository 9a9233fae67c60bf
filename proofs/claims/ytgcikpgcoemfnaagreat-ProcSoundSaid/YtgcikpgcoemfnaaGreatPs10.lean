import Derived.Lib.ConvBytes
import Derived.Test.YtgcikpgcoemfnaaGreatPs9
set_option linter.unusedVariables false
set_option linter.unusedSimpArgs false
namespace Go.Proofs.YtgcikpgcoemfnaaGreat
open Go.RowKit Ri
section
variable {ops : Array Oper} {rest : List Oper} {o : Oper} {a : Act} {Q : Exit → Act → World → Prop} {w : World}
theorem jF (hgd : o.guard = none) (x : Operand) (ho : o.op = .convert 9 28 x) (l : List UInt8) (hx : a.eval x = .string (str l))
  (h : ∀ w' c, (∀ j, j < l.length → w'.cell? ⟨w.heap.size, j, none⟩ = some (.int .u8 ((l.getD j 0).toNat : Int))) → (∀ j, j < l.length → w'.frozen? ⟨w.heap.size, j, none⟩ = false) → Keep Nob w w' → l.length ≤ c → wpList Tryz.prog ops Q rest (a.put o.dst (.slice (some ⟨w.heap.size, 0, none⟩) l.length c)) w') :
  wpList Tryz.prog ops Q (o :: rest) a w := by
 refine wpList_plain hgd fun K hK => ?_
 have hrun := Go.Lib.run_convert_string_bytes (P := Tryz.prog) w 9 28 5 (str l) Tryz.underlying9 Tryz.underlying28 Tryz.underlying5
 have hsz := gy l
 have hcap : (str l).size ≤ grownCap w (str l).size 0 5 := grownCap_ge w _ 0 _
 have hn := Go.Lib.bytesWorld_at_new w 5 (str l)
 have hcs : (Go.Lib.bytesCells w 5 (str l)).size = grownCap w (str l).size 0 5 := by
  have : (str l).data.size = (str l).size := rfl
  simp [Go.Lib.bytesCells]
  omega
 have hh := h (Go.Lib.bytesWorld w 5 (str l)) (grownCap w (str l).size 0 5) (fun j hj => by
   have := Go.Lib.bytesWorld_cell w 5 (str l) j (by rw [hsz]; exact hj)
   rw [this]; rfl)
  (fun j hj => by
   simp only [World.frozen?, hn, hcs]
   simp
   omega)
  ⟨rfl, rfl, rfl, by rw [Go.Lib.bytesWorld_size]; omega, fun k hk _ => Go.Lib.bytesWorld_at_old w 5 (str l) k hk⟩ (by rw [← hsz]; exact hcap)
 rw [← hsz] at hh
 unfold Oper.wp
 simp [execOp, ho, hx, hrun, Result.andThen]
 exact hK _ _ hh
end
theorem kH {w : World} {g n : Nat} {l : List UInt8} (hl : l.length = n) (h : ∀ j, j < n → w.cell? ⟨g, j, none⟩ = some (.int .u8 ((l.getD j 0).toNat : Int))) : ae w (some ⟨g, 0, none⟩) n (bytes l) := by
 refine ⟨by rw [am, hl], fun _ => ⟨_, rfl, fun j u hu => ?_⟩⟩
 have hj : j < l.length := by
  rcases Nat.lt_or_ge j l.length with h1 | h1
  ·exact h1
  ·rw [List.getElem?_eq_none (by simpa using h1)] at hu; cases hu
 rw [aB hj] at hu
 rw [cR, Nat.zero_add, h j (by omega)]
 exact hu
end Go.Proofs.YtgcikpgcoemfnaaGreat
