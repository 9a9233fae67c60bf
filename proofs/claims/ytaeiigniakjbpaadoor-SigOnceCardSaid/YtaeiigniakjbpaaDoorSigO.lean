/- Plain facts on signals below nine, all caught, some kept off: what is told, and in which order. -/
import Derived.Test.YtaeiigniakjbpaaDoorSigS
namespace Go.Proofs.YtaeiigniakjbpaaDoor
open Go.RowKit Sg
set_option linter.unusedVariables false
set_option linter.unusedSimpArgs false
theorem ok8_put (k : Fin 256) : of8 k = (if bt (of8 k) 1 then 2 else 0) + (if bt (of8 k) 2 then 4 else 0) + (if bt (of8 k) 3 then 8 else 0) + (if bt (of8 k) 4 then 16 else 0) + (if bt (of8 k) 5 then 32 else 0) + (if bt (of8 k) 6 then 64 else 0) + (if bt (of8 k) 7 then 128 else 0) + (if bt (of8 k) 8 then 256 else 0) := by
  revert k
  decide +kernel
theorem ok8_ext {a b : Int} (ha : ok8 a = true) (hb : ok8 b = true) (h : ∀ k : Int, 1 ≤ k → k ≤ 8 → bt a k = bt b k) : a = b := by
  obtain ⟨x, rfl⟩ := ok8_of ha
  obtain ⟨y, rfl⟩ := ok8_of hb
  rw [ok8_put x, ok8_put y, h 1 (by omega) (by omega), h 2 (by omega) (by omega), h 3 (by omega) (by omega), h 4 (by omega) (by omega), h 5 (by omega) (by omega), h 6 (by omega) (by omega), h 7 (by omega) (by omega), h 8 (by omega) (by omega)]
theorem ok8_none : ∀ k : Fin 256, bt (of8 k) 9 = false ∧ bt (of8 k) 10 = false ∧ bt (of8 k) 11 = false ∧ bt (of8 k) 12 = false ∧ bt (of8 k) 13 = false ∧ bt (of8 k) 14 = false ∧ bt (of8 k) 15 = false := by decide +kernel
theorem wo8 : ∀ k : Fin 256, ∀ n : Fin 8, ok8 (wo (of8 k) ((n.val : Int) + 1)) = true := by decide +kernel
theorem ok8_wo {a n : Int} (h : ok8 a = true) (h0 : 1 ≤ n) (h1 : n ≤ 8) : ok8 (wo a n) = true := by
  obtain ⟨k, rfl⟩ := ok8_of h
  have := wo8 k ⟨(n - 1).toNat, by omega⟩
  have e : ((((n - 1).toNat : Nat) : Int)) + 1 = n := by omega
  simp only at this
  rwa [e] at this
theorem mask8 : ∀ k : Fin 256, maskOf (of8 k) = of8 k := by decide +kernel
theorem and510 (a : Int) : ok8 (bits .and .i64 a 510) = true := by
  have h2 : (BitVec.ofInt 64 a &&& BitVec.ofInt 64 510).toNat ≤ 510 := by
    rw [BitVec.toNat_and]
    exact Nat.le_trans Nat.and_le_right (by decide)
  have h4 : (BitVec.ofInt 64 a &&& BitVec.ofInt 64 510).toNat % 2 = 0 := by
    have : (BitVec.ofInt 64 a &&& BitVec.ofInt 64 510).getLsbD 0 = false := by
      rw [BitVec.getLsbD_and, show (BitVec.ofInt 64 510).getLsbD 0 = false from by decide, Bool.and_false]
    unfold BitVec.getLsbD at this
    rw [Nat.testBit_zero] at this
    have := of_decide_eq_false this
    omega
  rw [and_i64, BitVec.toInt_eq_toNat_of_lt (by omega)]
  exact decide_eq_true (by omega)
/-- The law's process: al waits, M is kept off. -/
def qp (al M : Int) : Ps := ⟨1, 0, 0, 0, al, M, 0, 510, nof⟩
/-- Ahead of that: the signals below n are caught. -/
def cau (n : Nat) : Int := if n ≤ 1 then 0 else if n = 2 then 2 else if n = 3 then 6 else if n = 4 then 14 else if n = 5 then 30 else if n = 6 then 62 else if n = 7 then 126 else if n = 8 then 254 else 510
def og (n : Nat) : Ps := ⟨1, 0, 0, 0, 0, 0, 0, cau n, nof⟩
theorem og_next : ∀ k : Fin 8, handle (og (k.val + 1)) ((k.val : Int) + 1) 2 = (og (k.val + 2), 0) := by decide +kernel
theorem og_handle {n : Nat} (h0 : 1 ≤ n) (h : n ≤ 8) : handle (og n) n 2 = (og (n + 1), 0) := by
  have := og_next ⟨n - 1, by omega⟩
  simp only at this
  rwa [show n - 1 + 1 = n from by omega, show n - 1 + 2 = n + 1 from by omega, show ((n - 1 : Nat) : Int) + 1 = n from by omega] at this
theorem og_done : og 9 = qp 0 0 := rfl
theorem qp_mask {M : Int} (h : ok8 M = true) : mask (qp 0 0) M = (qp 0 M, 0, 0) := by
  obtain ⟨k, rfl⟩ := ok8_of h
  have h2 := of_decide_eq_true h
  unfold mask
  rw [if_pos (by omega), mask8 k]
  rfl
theorem qp_open (al : Int) {M : Int} : mask (qp al M) 0 = (qp al 0, M, 0) := by
  unfold mask
  rw [if_pos (by omega), show maskOf 0 = 0 from by decide +kernel]
  rfl
theorem qp_raise (al M : Int) {n : Int} (h0 : 1 ≤ n) (h : n ≤ 8) : raise (qp al M) n = (qp (wi al n) M, true) := by
  have hb : bt (bits .andNot .i64 0 16896) n = false := by rcases in18 h0 h with rfl | rfl | rfl | rfl | rfl | rfl | rfl | rfl <;> decide +kernel
  have h9 : ¬ n = 9 := by omega
  have h14 : ¬ n = 14 := by omega
  have h15 : ¬ n = 15 := by omega
  have e := raise_rz (p := qp al M) (n := n) (decide_eq_true (by omega)) rfl hb
  rw [e]
  unfold rz
  simp only [h9, h14, h15, if_false, Bool.false_eq_true]
  rfl
theorem dl_caught (p : Ps) : ∀ (l c : List Int), (∀ k ∈ l, fate p.ca k = 2) → ∀ x, dl l { p with pe := x } c = ({ p with pe := l.foldl wo x }, c ++ l, 0)
  | [], c, _, x => by simp [dl]
  | n :: l, c, h, x => by
    have h1 := h n (by simp)
    unfold dl
    rw [if_pos h1]
    have := dl_caught p l (c ++ [n]) (fun k hk => h k (by simp [hk])) (wo x n)
    rw [this]
    simp
theorem l8_in {k : Int} (h : k ∈ l8) : 1 ≤ k ∧ k ≤ 8 := by
  simp only [l8, List.mem_cons, List.not_mem_nil, or_false] at h
  omega
theorem in_l8 {k : Int} (h : 1 ≤ k ∧ k ≤ 8) : k ∈ l8 := by
  simp only [l8, List.mem_cons, List.not_mem_nil, or_false]
  omega
theorem order_l8 (f : Int → Bool) (h9 : f 9 = false) (h10 : f 10 = false) (h11 : f 11 = false) (h12 : f 12 = false) (h13 : f 13 = false) (h14 : f 14 = false) (h15 : f 15 = false) : order.filter f = l8.filter f := by
  have e : order = 9 :: (l8 ++ [10, 11, 12, 13, 14, 15]) := rfl
  rw [e, List.filter_cons_of_neg (by rw [h9]; simp), List.filter_append]
  simp [List.filter_cons, h10, h11, h12, h13, h14, h15]
theorem caught8 {k : Int} (h : 1 ≤ k ∧ k ≤ 8) : fate 510 k = 2 := by
  rcases in18 h.1 h.2 with rfl | rfl | rfl | rfl | rfl | rfl | rfl | rfl <;> decide +kernel
theorem bt_rdy8 (P : Ps) {k : Int} (k0 : 1 ≤ k) (hk : k ≤ 15) : bt (rdy P) k = (bt P.pe k && !bt P.m k) := by
  unfold rdy
  rw [bt_and _ _ (by omega) hk, bt_off _ _ (by omega) hk, bt_all k0 hk, Bool.and_true]
/-- What is told, and what stays. -/
theorem qp_tells {al M : Int} (h : ok8 al = true) : deliver (qp al M) = (qp ((l8.filter fun k => bt al k && !bt M k).foldl wo al) M, l8.filter fun k => bt al k && !bt M k, 0) := by
  obtain ⟨x, hx⟩ := ok8_of h
  obtain ⟨n9, n10, n11, n12, n13, n14, n15⟩ := ok8_none x
  rw [← hx] at n9 n10 n11 n12 n13 n14 n15
  have hr : rdl (qp al M) = l8.filter fun k => bt al k && !bt M k := by
    have e : rdl (qp al M) = order.filter fun k => bt al k && !bt M k := by
      unfold rdl
      refine List.filter_congr fun k hk => ?_
      obtain ⟨k1, k2⟩ := order_in hk
      exact bt_rdy8 _ k1 k2
    rw [e]
    exact order_l8 _ (by rw [n9]; rfl) (by rw [n10]; rfl) (by rw [n11]; rfl) (by rw [n12]; rfl) (by rw [n13]; rfl) (by rw [n14]; rfl) (by rw [n15]; rfl)
  unfold deliver
  rw [if_pos (show (qp al M).s = 1 from rfl), hr]
  have := dl_caught (qp al M) (l8.filter fun k => bt al k && !bt M k) [] (fun k hk => caught8 (l8_in (List.mem_filter.1 hk).1)) al
  exact this
theorem bt_wos : ∀ (l : List Int) (a : Int) {k : Int}, (∀ x ∈ l, 1 ≤ x ∧ x ≤ 8) → 1 ≤ k → k ≤ 8 → bt (l.foldl wo a) k = (bt a k && !l.contains k)
  | [], a, k, _, _, _ => by simp
  | n :: l, a, k, h, h0, h1 => by
    obtain ⟨n0, n1⟩ := h n (by simp)
    rw [List.foldl_cons, bt_wos l (wo a n) (fun x hx => h x (by simp [hx])) h0 h1, bt_wo _ (by omega) (by omega) (by omega) (by omega), List.contains_cons]
    cases bt a k <;> cases (k == n) <;> simp
theorem bt_wis : ∀ (l : List Int) (a : Int) {k : Int}, (∀ x ∈ l, 1 ≤ x ∧ x ≤ 8) → 1 ≤ k → k ≤ 8 → bt (l.foldl wi a) k = (bt a k || l.contains k)
  | [], a, k, _, _, _ => by simp
  | n :: l, a, k, h, h0, h1 => by
    obtain ⟨n0, n1⟩ := h n (by simp)
    rw [List.foldl_cons, bt_wis l (wi a n) (fun x hx => h x (by simp [hx])) h0 h1, bt_wi _ (by omega) (by omega) (by omega) (by omega), List.contains_cons]
    cases bt a k <;> cases (k == n) <;> simp
theorem ok8_wos : ∀ (l : List Int) {a : Int}, ok8 a = true → (∀ x ∈ l, 1 ≤ x ∧ x ≤ 8) → ok8 (l.foldl wo a) = true
  | [], _, h, _ => h
  | n :: l, a, h, hl => ok8_wos l (ok8_wo h (hl n (by simp)).1 (hl n (by simp)).2) (fun x hx => hl x (by simp [hx]))
theorem ok8_wis : ∀ (l : List Int) {a : Int}, ok8 a = true → (∀ x ∈ l, 1 ≤ x ∧ x ≤ 8) → ok8 (l.foldl wi a) = true
  | [], _, h, _ => h
  | n :: l, a, h, hl => ok8_wis l (ok8_wi h (hl n (by simp)).1 (hl n (by simp)).2) (fun x hx => hl x (by simp [hx]))
theorem filter_has (f : Int → Bool) {k : Int} (h : 1 ≤ k ∧ k ≤ 8) : (l8.filter f).contains k = f k := by
  cases hf : f k with
  | true => exact List.contains_iff_mem.2 (List.mem_filter.2 ⟨in_l8 h, hf⟩)
  | false =>
    cases hc : (l8.filter f).contains k with
    | false => rfl
    | true =>
      have := (List.mem_filter.1 (List.contains_iff_mem.1 hc)).2
      rw [hf] at this
      cases this
def fst8 (al M : Int) : List Int := l8.filter fun k => bt al k && !bt M k
def snd8 (al M : Int) : List Int := l8.filter fun k => bt al k && bt M k
def rest8 (al M : Int) : Int := (fst8 al M).foldl wo al
theorem fst8_in {al M x : Int} (h : x ∈ fst8 al M) : (1 ≤ x ∧ x ≤ 8) ∧ bt al x = true ∧ bt M x = false := by
  obtain ⟨h1, h2⟩ := List.mem_filter.1 h
  simp at h2
  exact ⟨l8_in h1, h2.1, h2.2⟩
theorem snd8_in {al M x : Int} (h : x ∈ snd8 al M) : (1 ≤ x ∧ x ≤ 8) ∧ bt al x = true ∧ bt M x = true := by
  obtain ⟨h1, h2⟩ := List.mem_filter.1 h
  simp at h2
  exact ⟨l8_in h1, h2.1, h2.2⟩
theorem rest8_ok {al M : Int} (h : ok8 al = true) : ok8 (rest8 al M) = true := ok8_wos _ h fun _ hx => (fst8_in hx).1
theorem rest8_bt {al M k : Int} (h : 1 ≤ k ∧ k ≤ 8) : bt (rest8 al M) k = (bt al k && bt M k) := by
  unfold rest8
  rw [bt_wos _ _ (fun _ hx => (fst8_in hx).1) h.1 h.2]
  unfold fst8
  rw [filter_has _ h]
  cases bt al k <;> cases bt M k <;> rfl
theorem once_first {al M : Int} (h : ok8 al = true) : deliver (qp al M) = (qp (rest8 al M) M, fst8 al M, 0) := qp_tells h
theorem once_second {al M : Int} (h : ok8 al = true) : deliver (qp (rest8 al M) 0) = (qp 0 0, snd8 al M, 0) := by
  have e := qp_tells (M := 0) (rest8_ok (M := M) h)
  have hl : (l8.filter fun k => bt (rest8 al M) k && !bt 0 k) = snd8 al M := by
    unfold snd8
    refine List.filter_congr fun k hk => ?_
    have h8 := l8_in hk
    rw [rest8_bt h8]
    have : bt 0 k = false := by rcases in18 h8.1 h8.2 with rfl | rfl | rfl | rfl | rfl | rfl | rfl | rfl <;> decide +kernel
    rw [this]
    simp
  rw [hl] at e
  have hz : (snd8 al M).foldl wo (rest8 al M) = 0 := by
    refine ok8_ext (ok8_wos _ (rest8_ok h) fun _ hx => (snd8_in hx).1) rfl fun k k0 k1 => ?_
    rw [bt_wos _ _ (fun _ hx => (snd8_in hx).1) k0 k1, rest8_bt ⟨k0, k1⟩]
    unfold snd8
    rw [filter_has _ ⟨k0, k1⟩]
    have : bt 0 k = false := by rcases in18 k0 k1 with rfl | rfl | rfl | rfl | rfl | rfl | rfl | rfl <;> decide +kernel
    rw [this]
    simp
  rw [hz] at e
  exact e
def all8 (al M : Int) : List Int := fst8 al M ++ snd8 al M
theorem all8_in {al M x : Int} (h : x ∈ all8 al M) : 1 ≤ x ∧ x ≤ 8 := by
  rcases List.mem_append.1 h with h | h
  · exact (fst8_in h).1
  · exact (snd8_in h).1
theorem once_all {al M : Int} (h : ok8 al = true) : (all8 al M).foldl wi 0 = al := by
  refine ok8_ext (ok8_wis _ rfl fun _ hx => all8_in hx) h fun k k0 k1 => ?_
  rw [bt_wis _ _ (fun _ hx => all8_in hx) k0 k1]
  unfold all8 fst8 snd8
  rw [List.contains_append, filter_has _ ⟨k0, k1⟩, filter_has _ ⟨k0, k1⟩]
  have : bt 0 k = false := by rcases in18 k0 k1 with rfl | rfl | rfl | rfl | rfl | rfl | rfl | rfl <;> decide +kernel
  rw [this]
  cases bt al k <;> cases bt M k <;> rfl
theorem l8_sorted : l8.Pairwise (· < ·) := by decide
theorem sorted_at {l : List Int} (h : l.Pairwise (· < ·)) {i : Nat} (hi : i + 1 < l.length) : l.getD i 0 < l.getD (i + 1) 0 := by
  rw [List.getD_eq_getElem?_getD, List.getD_eq_getElem?_getD, List.getElem?_eq_getElem (by omega), List.getElem?_eq_getElem hi]
  exact List.pairwise_iff_getElem.1 h i (i + 1) (by omega) hi (by omega)
theorem fst8_sorted (al M : Int) : (fst8 al M).Pairwise (· < ·) := l8_sorted.filter _
theorem snd8_sorted (al M : Int) : (snd8 al M).Pairwise (· < ·) := l8_sorted.filter _
theorem all8_nodup (al M : Int) : (all8 al M).Nodup := by
  refine List.nodup_append.2 ⟨((fst8_sorted al M).imp fun h => by omega), ((snd8_sorted al M).imp fun h => by omega), fun x hx y hy e => ?_⟩
  subst e
  have h1 := (fst8_in hx).2.2
  rw [(snd8_in hy).2.2] at h1
  cases h1
/-- What was told ahead of a place does not hold what is told there. -/
theorem told_new {l : List Int} (hin : ∀ x ∈ l, 1 ≤ x ∧ x ≤ 8) (hn : l.Nodup) {j : Nat} (hj : j < l.length) : bt ((l.take j).foldl wi 0) (l.getD j 0) = false := by
  have he : l.getD j 0 = l[j] := by rw [List.getD_eq_getElem?_getD, List.getElem?_eq_getElem hj]; rfl
  rw [he]
  obtain ⟨h0, h1⟩ := hin _ (List.getElem_mem hj)
  rw [bt_wis _ _ (fun x hx => hin x (List.mem_of_mem_take hx)) h0 h1]
  have h0' : bt 0 l[j] = false := by rcases in18 h0 h1 with e | e | e | e | e | e | e | e <;> rw [e] <;> decide +kernel
  rw [h0', Bool.false_or]
  cases hc : (l.take j).contains l[j] with
  | false => rfl
  | true =>
    obtain ⟨i, hi, e⟩ := List.getElem_of_mem (List.contains_iff_mem.1 hc)
    rw [List.getElem_take] at e
    have hi2 : i < j := by rw [List.length_take] at hi; omega
    exact absurd ((List.nodup_iff_pairwise_ne.1 hn |> List.pairwise_iff_getElem.1) i j (by omega) hj hi2 e) (fun f => f)
/-- All that the law's last loop looks at: F, S what was told, L both. -/
structure OnceAt (al M : Int) (F S L : List Int) : Prop where
  fl : F.length ≤ 8
  sl : S.length ≤ 8
  ll : L.length = F.length + S.length
  lf : ∀ j, j < F.length → L.getD j 0 = F.getD j 0
  ls : ∀ i j : Nat, j = F.length + i → i < S.length → L.getD j 0 = S.getD i 0
  fs : ∀ i j : Nat, j = i + 1 → j < F.length → F.getD i 0 < F.getD j 0
  ss : ∀ i j : Nat, j = i + 1 → j < S.length → S.getD i 0 < S.getD j 0
  in8 : ∀ j, j < L.length → 1 ≤ L.getD j 0 ∧ L.getD j 0 ≤ 8
  new : ∀ j, j < L.length → bt ((L.take j).foldl wi 0) (L.getD j 0) = false
  mask : ∀ j, j < L.length → bt M (L.getD j 0) = decide (F.length ≤ j)
  sum : L.foldl wi 0 = al
theorem getD_mem {l : List Int} {j : Nat} (h : j < l.length) : l.getD j 0 ∈ l := by
  rw [List.getD_eq_getElem?_getD, List.getElem?_eq_getElem h]
  exact List.getElem_mem h
theorem once_at {al M : Int} (h : ok8 al = true) : OnceAt al M (fst8 al M) (snd8 al M) (all8 al M) := by
  have hl : (all8 al M).length = (fst8 al M).length + (snd8 al M).length := by unfold all8; rw [List.length_append]
  have hf : ∀ j, j < (fst8 al M).length → (all8 al M).getD j 0 = (fst8 al M).getD j 0 := fun j hj => by
    unfold all8
    rw [List.getD_eq_getElem?_getD, List.getElem?_append_left hj, ← List.getD_eq_getElem?_getD]
  have hs : ∀ i j : Nat, j = (fst8 al M).length + i → i < (snd8 al M).length → (all8 al M).getD j 0 = (snd8 al M).getD i 0 := fun i j hj hi => by
    unfold all8
    rw [List.getD_eq_getElem?_getD, List.getElem?_append_right (by omega), show j - (fst8 al M).length = i from by omega, ← List.getD_eq_getElem?_getD]
  refine ⟨List.length_filter_le _ _, List.length_filter_le _ _, hl, hf, hs, ?_, ?_, fun j hj => all8_in (getD_mem hj), fun j hj => told_new (fun x hx => all8_in hx) (all8_nodup al M) hj, fun j hj => ?_, once_all h⟩
  · rintro i j rfl hj
    exact sorted_at (fst8_sorted al M) hj
  · rintro i j rfl hj
    exact sorted_at (snd8_sorted al M) hj
  · by_cases hjf : j < (fst8 al M).length
    · rw [hf j hjf, (fst8_in (getD_mem hjf)).2.2]
      exact (decide_eq_false (by omega)).symm
    · rw [hs (j - (fst8 al M).length) j (by omega) (by omega), (snd8_in (getD_mem (show j - (fst8 al M).length < _ from by omega))).2.2]
      exact (decide_eq_true (by omega)).symm
end Go.Proofs.YtaeiigniakjbpaaDoor
