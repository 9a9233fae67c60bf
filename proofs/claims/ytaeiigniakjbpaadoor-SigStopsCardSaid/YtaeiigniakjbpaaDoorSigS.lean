/- Plain facts on signals below nine. -/
import Derived.Test.YtaeiigniakjbpaaDoorSigW
namespace Go.Proofs.YtaeiigniakjbpaaDoor
open Go.RowKit Sg
set_option linter.unusedVariables false
set_option linter.unusedSimpArgs false
def ok8 (a : Int) : Bool := decide (0 ≤ a ∧ a < 512 ∧ a % 2 = 0)
def of8 (k : Fin 256) : Int := 2 * (k.val : Int)
theorem ok8_of {a : Int} (h : ok8 a = true) : ∃ k : Fin 256, a = of8 k := by
  have h := of_decide_eq_true h
  exact ⟨⟨(a / 2).toNat, by omega⟩, by show a = 2 * (((a / 2).toNat : Nat) : Int); omega⟩
theorem wi8 : ∀ k : Fin 256, ∀ n : Fin 8, ok8 (wi (of8 k) ((n.val : Int) + 1)) = true := by decide +kernel
theorem ok8_wi {a n : Int} (h : ok8 a = true) (h0 : 1 ≤ n) (h1 : n ≤ 8) : ok8 (wi a n) = true := by
  obtain ⟨k, rfl⟩ := ok8_of h
  have := wi8 k ⟨(n - 1).toNat, by omega⟩
  have e : ((((n - 1).toNat : Nat) : Int)) + 1 = n := by omega
  simp only at this
  rwa [e] at this
theorem in18 {n : Int} (h0 : 1 ≤ n) (h : n ≤ 8) : n = 1 ∨ n = 2 ∨ n = 3 ∨ n = 4 ∨ n = 5 ∨ n = 6 ∨ n = 7 ∨ n = 8 := by omega
/-- One of whom just the state and what waits are told: all below nine are caught. -/
def sp (s a : Int) : Ps := ⟨s, 0, 0, 0, a, 0, 0, 510, nof⟩
theorem sp_len (s a : Int) : (sp s a).f.length = 8 := rfl
theorem sp_raise (a : Int) {n : Int} (h0 : 1 ≤ n) (h : n ≤ 8) : raise (sp 3 a) n = (sp 3 (wi a n), true) := by
  have hb : bt (bits .andNot .i64 0 16896) n = false := by rcases in18 h0 h with rfl | rfl | rfl | rfl | rfl | rfl | rfl | rfl <;> decide +kernel
  have h9 : ¬ n = 9 := by omega
  have h14 : ¬ n = 14 := by omega
  have h15 : ¬ n = 15 := by omega
  have e := raise_rz (p := sp 3 a) (n := n) (decide_eq_true (by omega)) rfl hb
  rw [e]
  unfold rz
  simp only [h9, h14, h15, if_false, Bool.false_eq_true]
  rfl
theorem sp_still (a : Int) : deliver (sp 3 a) = (sp 3 a, [], 0) := rfl
theorem sp_sleeps (a : Int) : wakes (sp 3 a) = false := rfl
theorem sp_first : raise (sp 1 0) 14 = (sp 1 16384, true) := rfl
theorem sp_stops : deliver (sp 1 16384) = (sp 3 0, [], 0) := rfl
theorem sp_stop (a : Int) : raise (sp 3 a) 14 = (sp 3 (wo (wi a 14) 15), true) := by
  have e := raise_rz (p := sp 3 a) (n := 14) rfl rfl (b := false) (show bt (bits .andNot .i64 0 16896) 14 = false by decide +kernel)
  rw [e]
  unfold rz
  simp only [if_true, if_false, Bool.false_eq_true]
  rfl
theorem sp_go (a : Int) : raise (sp 3 a) 15 = (sp 1 (wo (wi a 15) 14), true) := by
  have e := raise_rz (p := sp 3 a) (n := 15) rfl rfl (b := false) (show bt (bits .andNot .i64 0 16896) 15 = false by decide +kernel)
  rw [e]
  unfold rz
  simp only [if_true, if_false, Bool.false_eq_true, show ¬ (15 : Int) = 14 from by decide]
  rfl
/-- The signals below nine of a set, in their order. -/
def l8 : List Int := [1, 2, 3, 4, 5, 6, 7, 8]
def tl8 (a : Int) : List Int := l8.filter fun k => bt a k
theorem sp_tells : ∀ k : Fin 256, deliver (sp 1 (wo (wi (wo (wi (of8 k) 14) 15) 15) 14)) = (sp 1 0, tl8 (of8 k), 0) := by decide +kernel
theorem tl8_back : ∀ k : Fin 256, (tl8 (of8 k)).foldl wi 0 = of8 k := by decide +kernel
theorem tl8_in {a x : Int} (h : x ∈ tl8 a) : 1 ≤ x ∧ x ≤ 8 := by
  have := (List.mem_filter.1 h).1
  simp only [l8, List.mem_cons, List.not_mem_nil, or_false] at this
  omega
theorem tl8_len (a : Int) : (tl8 a).length ≤ 8 := List.length_filter_le _ _
theorem fold_step (l : List Int) (i : Nat) (h : i < l.length) : (l.take (i + 1)).foldl wi 0 = wi ((l.take i).foldl wi 0) (l.getD i 0) := by
  rw [List.take_succ_eq_append_getElem h, List.foldl_append, List.getD_eq_getElem?_getD, List.getElem?_eq_getElem h]
  rfl
theorem bu2_at {ops : Array Oper} {rest : List Oper} {o : Oper} {a : Act} {Q : Exit → Act → World → Prop} {w : World} {Z : Ps} (hZ : Z = sp 1 0) (hgd : o.guard = none) (ho : o.op = .build 25 #[(0, .const (.int .i64 1)), (7, .const (.int .i64 510))])
    (h : wpList Tryd.prog ops Q rest (a.put o.dst (.agg (pc Z).toArray)) w) : wpList Tryd.prog ops Q (o :: rest) a w := by
  subst hZ
  exact wpList_bu2 hgd _ _ ho 1 510 rfl rfl h
end Go.Proofs.YtaeiigniakjbpaaDoor
