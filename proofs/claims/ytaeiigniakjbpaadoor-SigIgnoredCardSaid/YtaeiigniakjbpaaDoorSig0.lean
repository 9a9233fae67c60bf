/- A process as plain data (nine parts), sets of signals by their bits, and what package sig does, with no program. -/
import Derived.Test.YtaeiigniakjbpaaDoorRows
import Derived.Test.YtaeiigniakjbpaaDoorTab0
import Derived.BigQuiet
import Derived.Test.YtaeiigniakjbpaaDoorBits
import Derived.Lib.TrailingZeros
namespace Go.Proofs.YtaeiigniakjbpaaDoor.Sg
open Go.RowKit
set_option linter.unusedVariables false
set_option linter.unusedSimpArgs false
theorem or_i64 (a b : Int) : bits .or .i64 a b = (BitVec.ofInt 64 a ||| BitVec.ofInt 64 b).toInt := wrap_toInt _
theorem off_i64 (a b : Int) : bits .andNot .i64 a b = (BitVec.ofInt 64 a &&& ~~~ BitVec.ofInt 64 b).toInt := wrap_toInt _
/-- A process: State, Parent, Group, Code, Pending, Mask, Ignored, Caught, the Fds. -/
structure Ps where
  s : Int
  pa : Int
  g : Int
  c : Int
  pe : Int
  m : Int
  i : Int
  ca : Int
  f : List Int
def ls (p : Ps) : List Int := [p.s, p.pa, p.g, p.c, p.pe, p.m, p.i, p.ca] ++ p.f
def pc (p : Ps) : List Value := ints (ls p)
def pv (p : Ps) : Value := .agg (pc p).toArray
def nof : List Int := [0, 0, 0, 0, 0, 0, 0, 0]
def noP : Ps := ⟨0, 0, 0, 0, 0, 0, 0, 0, nof⟩
theorem pc_len {p : Ps} (h : p.f.length = 8) : (pc p).length = 16 := by simp [pc, ls, h]
theorem pc_one (p : Ps) : ∀ v ∈ pc p, v.oneCell' = true := ints_one _
theorem ls_inj {p q : Ps} : ls p = ls q ↔ p = q := by
  constructor
  · intro h
    cases p; cases q
    simp only [ls, List.cons_append, List.nil_append, List.cons.injEq] at h
    obtain ⟨rfl, rfl, rfl, rfl, rfl, rfl, rfl, rfl, rfl⟩ := h
    rfl
  · rintro rfl; rfl
instance : DecidableEq Ps := fun p q => decidable_of_iff _ ls_inj
/-- A process out of sixteen numbers. -/
def ofL (l : List Int) : Ps := ⟨l.getD 0 0, l.getD 1 0, l.getD 2 0, l.getD 3 0, l.getD 4 0, l.getD 5 0, l.getD 6 0, l.getD 7 0, l.drop 8⟩
theorem ls_ofL {l : List Int} (h : l.length = 16) : ls (ofL l) = l := by
  match l, h with
  | [a0, a1, a2, a3, a4, a5, a6, a7, f0, f1, f2, f3, f4, f5, f6, f7], _ => rfl
theorem ofL_len {l : List Int} (h : l.length = 16) : (ofL l).f.length = 8 := by simp [ofL, h]
/-- Bit n of a set. -/
def pw (n : Int) : Int := 2 ^ n.toNat
def bt (s n : Int) : Bool := s / pw n % 2 == 1
def wi (s n : Int) : Int := bits .or .i64 s (pw n)
def wo (s n : Int) : Int := bits .andNot .i64 s (pw n)
theorem bt_nat (s : Int) (k : Nat) (hk : k < 64) : bt s (k : Int) = (BitVec.ofInt 64 s).getLsbD k := by
  unfold bt pw BitVec.getLsbD
  rw [Int.toNat_natCast, BitVec.toNat_ofInt]
  have e : s / 2 ^ k % 2 = (s % 18446744073709551616) / 2 ^ k % 2 := by
    obtain ⟨d, hd⟩ : ∃ d, 64 = k + (d + 1) := ⟨64 - k - 1, by omega⟩
    have h64 : (18446744073709551616 : Int) = 2 ^ k * (2 * 2 ^ d) := by
      have : (18446744073709551616 : Int) = 2 ^ 64 := by decide
      rw [this, hd, Int.pow_add, Int.pow_succ, Int.mul_comm (2 ^ d)]
    have h1 : s = s % 18446744073709551616 + 2 ^ k * ((2 * 2 ^ d) * (s / 18446744073709551616)) := by
      rw [← Int.mul_assoc, ← h64, Int.emod_add_mul_ediv]
    have hk0 : (2 : Int) ^ k ≠ 0 := by
      have : (0 : Int) < 2 ^ k := Int.pow_pos (by decide)
      omega
    have h2 : s / 2 ^ k = s % 18446744073709551616 / 2 ^ k + 2 * (2 ^ d * (s / 18446744073709551616)) := by
      conv => lhs; rw [h1]
      rw [Int.add_mul_ediv_left _ _ hk0, Int.mul_assoc]
    rw [h2, Int.add_mul_emod_self_left]
  rw [e]
  have h0 : 0 ≤ s % 18446744073709551616 := Int.emod_nonneg _ (by decide)
  have e3 : (((2 ^ 64 : Nat) : Int)) = 18446744073709551616 := by decide
  rw [e3]
  obtain ⟨x, hx⟩ := Int.eq_ofNat_of_zero_le h0
  rw [hx, Int.toNat_natCast, Nat.testBit_eq_decide_div_mod_eq]
  have e2 : (x : Int) / 2 ^ k % 2 = ((x / 2 ^ k % 2 : Nat) : Int) := by simp
  rw [e2]
  generalize x / 2 ^ k % 2 = y
  by_cases h : y = 1
  · subst h; rfl
  · have h3 : ((y : Int) == 1) = false := by simpa using (by omega : ¬ (y : Int) = 1)
    rw [h3, decide_eq_false h]
theorem nat_of {n : Int} (h0 : 0 ≤ n) (h : n ≤ 15) : ∃ k : Nat, n = k ∧ k ≤ 15 := ⟨n.toNat, by omega, by omega⟩
theorem pw_bv (k : Nat) (hk : k < 63) : BitVec.ofInt 64 (pw (k : Int)) = BitVec.twoPow 64 k := by
  unfold pw
  rw [Int.toNat_natCast]
  apply BitVec.eq_of_toNat_eq
  rw [BitVec.toNat_ofInt, BitVec.toNat_twoPow]
  have : ((2 : Int) ^ k) = ((2 ^ k : Nat) : Int) := by simp
  rw [this]
  omega
theorem bt_bv (x : BitVec 64) (k : Nat) (hk : k < 64) : bt x.toInt (k : Int) = x.getLsbD k := by rw [bt_nat _ _ hk, BitVec.ofInt_toInt]
theorem bt_wi (s : Int) {n k : Int} (h0 : 0 ≤ n) (h : n ≤ 15) (k0 : 0 ≤ k) (hk : k ≤ 15) : bt (wi s n) k = (bt s k || k == n) := by
  obtain ⟨n, rfl, hn⟩ := nat_of h0 h
  obtain ⟨k, rfl, hk'⟩ := nat_of k0 hk
  rw [wi, or_i64, bt_bv _ _ (by omega), BitVec.getLsbD_or, pw_bv _ (by omega), BitVec.getLsbD_twoPow, bt_nat _ _ (by omega)]
  congr 1
  by_cases e : n = k
  · subst e; simp; try omega
  · have : ((k : Int) == (n : Int)) = false := by simpa using (by omega : ¬ (k : Int) = n)
    rw [this]; simp [e]
theorem bt_wo (s : Int) {n k : Int} (h0 : 0 ≤ n) (h : n ≤ 15) (k0 : 0 ≤ k) (hk : k ≤ 15) : bt (wo s n) k = (bt s k && !(k == n)) := by
  obtain ⟨n, rfl, hn⟩ := nat_of h0 h
  obtain ⟨k, rfl, hk'⟩ := nat_of k0 hk
  rw [wo, off_i64, bt_bv _ _ (by omega), BitVec.getLsbD_and, BitVec.getLsbD_not, pw_bv _ (by omega), BitVec.getLsbD_twoPow, bt_nat _ _ (by omega)]
  by_cases e : n = k
  · subst e; simp
  · have : ((k : Int) == (n : Int)) = false := by simpa using (by omega : ¬ (k : Int) = n)
    rw [this]; simp [e]; try omega
theorem bt_and (a b : Int) {k : Int} (k0 : 0 ≤ k) (hk : k ≤ 15) : bt (bits .and .i64 a b) k = (bt a k && bt b k) := by
  obtain ⟨k, rfl, hk'⟩ := nat_of k0 hk
  rw [and_i64, bt_bv _ _ (by omega), BitVec.getLsbD_and, bt_nat _ _ (by omega), bt_nat _ _ (by omega)]
theorem bt_off (a b : Int) {k : Int} (k0 : 0 ≤ k) (hk : k ≤ 15) : bt (bits .andNot .i64 a b) k = (bt a k && !bt b k) := by
  obtain ⟨k, rfl, hk'⟩ := nat_of k0 hk
  rw [off_i64, bt_bv _ _ (by omega), BitVec.getLsbD_and, BitVec.getLsbD_not, bt_nat _ _ (by omega), bt_nat _ _ (by omega), decide_eq_true (by omega), Bool.true_and]
theorem bt_or (a b : Int) {k : Int} (k0 : 0 ≤ k) (hk : k ≤ 15) : bt (bits .or .i64 a b) k = (bt a k || bt b k) := by
  obtain ⟨k, rfl, hk'⟩ := nat_of k0 hk
  rw [or_i64, bt_bv _ _ (by omega), BitVec.getLsbD_or, bt_nat _ _ (by omega), bt_nat _ _ (by omega)]
theorem in15 {n : Int} (h0 : 0 ≤ n) (h : n ≤ 15) : n = 0 ∨ n = 1 ∨ n = 2 ∨ n = 3 ∨ n = 4 ∨ n = 5 ∨ n = 6 ∨ n = 7 ∨ n = 8 ∨ n = 9 ∨ n = 10 ∨ n = 11 ∨ n = 12 ∨ n = 13 ∨ n = 14 ∨ n = 15 := by omega
theorem bt_hard {k : Int} (k0 : 0 ≤ k) (hk : k ≤ 15) : bt 16896 k = (k == 9 || k == 14) := by
  rcases in15 k0 hk with rfl | rfl | rfl | rfl | rfl | rfl | rfl | rfl | rfl | rfl | rfl | rfl | rfl | rfl | rfl | rfl <;> decide
theorem bt_all {k : Int} (k0 : 1 ≤ k) (hk : k ≤ 15) : bt 65534 k = true := by
  rcases in15 (by omega) hk with rfl | rfl | rfl | rfl | rfl | rfl | rfl | rfl | rfl | rfl | rfl | rfl | rfl | rfl | rfl | rfl <;> first | decide | omega
/-- A number of which the set of signals is what counts: within 0 to 65534, and even. -/
theorem mask_lo (a : Int) : 0 ≤ bits .and .i64 a 65534 ∧ bits .and .i64 a 65534 ≤ 65534 ∧ bits .and .i64 a 65534 % 2 = 0 := by
  rw [and_i64]
  have h2 : (BitVec.ofInt 64 a &&& BitVec.ofInt 64 65534).toNat ≤ 65534 := by
    rw [BitVec.toNat_and]
    exact Nat.le_trans Nat.and_le_right (by decide)
  have h3 := (BitVec.ofInt 64 a &&& BitVec.ofInt 64 65534).getLsbD_eq_getElem (i := 0) (by decide)
  have h4 : (BitVec.ofInt 64 a &&& BitVec.ofInt 64 65534).toNat % 2 = 0 := by
    have : (BitVec.ofInt 64 a &&& BitVec.ofInt 64 65534).getLsbD 0 = false := by
      rw [BitVec.getLsbD_and, show (BitVec.ofInt 64 65534).getLsbD 0 = false from by decide, Bool.and_false]
    unfold BitVec.getLsbD at this
    rw [Nat.testBit_zero] at this
    have := of_decide_eq_false this
    omega
  rw [BitVec.toInt_eq_toNat_of_lt (by omega)]
  omega
/-- The order in which signals are told. -/
def order : List Int := [9, 1, 2, 3, 4, 5, 6, 7, 8, 10, 11, 12, 13, 14, 15]
theorem order_in {k : Int} (h : k ∈ order) : 1 ≤ k ∧ k ≤ 15 := by
  simp only [order, List.mem_cons, List.not_mem_nil, or_false] at h
  omega
theorem in_order {k : Int} (h : 1 ≤ k ∧ k ≤ 15) : k ∈ order := by
  simp only [order, List.mem_cons, List.not_mem_nil, or_false]
  omega
def rdy (p : Ps) : Int := bits .and .i64 (bits .andNot .i64 p.pe p.m) 65534
/-- The signals that a process can be told of, in their order. -/
def rdl (p : Ps) : List Int := order.filter fun k => bt (rdy p) k
def fate (ca n : Int) : Int := if bt ca n then 2 else if n = 15 then 1 else if n = 14 then 3 else 4
def next (p : Ps) : Int × Int := if p.s = 1 then (match rdl p with | [] => (0, 0) | n :: _ => (n, fate p.ca n)) else (0, 0)
def wakes (p : Ps) : Bool := !((next p).1 == 0) && !((next p).2 == 1)
def dl : List Int → Ps → List Int → Ps × List Int × Int
  | [], p, c => (p, c, 0)
  | n :: l, p, c => if fate p.ca n = 2 then dl l { p with pe := wo p.pe n } (c ++ [n]) else if fate p.ca n = 3 then ({ p with pe := wo p.pe n, s := 3 }, c, 0)
      else if fate p.ca n = 4 then ({ p with pe := wo p.pe n }, c, n) else dl l { p with pe := wo p.pe n } c
def deliver (p : Ps) : Ps × List Int × Int := if p.s = 1 then dl (rdl p) p [] else (p, [], 0)
def sign (n : Int) : Bool := decide (0 < n ∧ n ≤ 15)
def told (p : Ps) : Bool := p.s == 1 || p.s == 3
/-- The Pending of one for whom n is raised. -/
def rpe (p : Ps) (n : Int) : Int := if bt (bits .andNot .i64 p.i 16896) n then p.pe else wi p.pe n
def raise (p : Ps) (n : Int) : Ps × Bool :=
  if sign n && told p then
    (if n = 14 then { p with pe := wo (rpe p n) 15 } else if n = 15 then { p with pe := wo (rpe p n) 14, s := 1 } else if n = 9 then { p with pe := rpe p n, s := 1 } else { p with pe := rpe p n }, true)
  else (p, false)
def free (n : Int) : Bool := sign n && !(n == 9 || n == 14)
def handle (p : Ps) (n how : Int) : Ps × Int :=
  if free n then
    if how = 0 then ({ p with i := wo p.i n, ca := wo p.ca n }, 0)
    else if how = 1 then ({ p with i := wi (wo p.i n) n, ca := wo p.ca n, pe := wo p.pe n }, 0)
    else if how = 2 then ({ p with i := wo p.i n, ca := wi (wo p.ca n) n }, 0)
    else (noP, 122)
  else (noP, 122)
def maskOf (m : Int) : Int := bits .andNot .i64 (bits .and .i64 m 65534) 16896
def mask (p : Ps) (m : Int) : Ps × Int × Int := if 0 ≤ m ∧ m ≤ 65535 then ({ p with m := maskOf m }, p.m, 0) else (noP, 0, 122)
theorem sign_in {n : Int} (h : sign n = true) : 1 ≤ n ∧ n ≤ 15 := by
  have := of_decide_eq_true h
  omega
theorem raise_len {p : Ps} (h : p.f.length = 8) (n : Int) : (raise p n).1.f.length = 8 := by
  unfold raise; split <;> (try split) <;> (try split) <;> (try split) <;> exact h
theorem handle_len {p : Ps} (h : p.f.length = 8) (n how : Int) : (handle p n how).1.f.length = 8 := by
  unfold handle; split <;> (try split) <;> (try split) <;> (try split) <;> first | exact h | rfl
theorem mask_len {p : Ps} (h : p.f.length = 8) (m : Int) : (mask p m).1.f.length = 8 := by
  unfold mask; split <;> first | exact h | rfl
theorem dl_len {p : Ps} (h : p.f.length = 8) (l c : List Int) : (dl l p c).1.f.length = 8 := by
  induction l generalizing p c with
  | nil => exact h
  | cons n l ih =>
    unfold dl
    split
    · exact ih (p := { p with pe := wo p.pe n }) h _
    · split
      · exact h
      · split
        · exact h
        · exact ih (p := { p with pe := wo p.pe n }) h _
theorem deliver_len {p : Ps} (h : p.f.length = 8) : (deliver p).1.f.length = 8 := by
  unfold deliver; split
  · exact dl_len h _ _
  · exact h
theorem rdy_bt {p : Ps} {k : Int} (h : 1 ≤ k ∧ k ≤ 15) : bt (rdy p) k = (bt p.pe k && !bt p.m k) := by
  rw [rdy, bt_and _ _ (by omega) h.2, bt_all h.1 h.2, Bool.and_true, bt_off _ _ (by omega) h.2]
theorem order_nodup : order.Nodup := by decide
theorem rdl_in {p : Ps} {k : Int} (h : k ∈ rdl p) : 1 ≤ k ∧ k ≤ 15 := order_in (List.mem_filter.1 h).1
/-- One taken out of Pending: what is left is what was behind it. -/
theorem rdl_next {p : Ps} {n : Int} {l : List Int} (h : rdl p = n :: l) : rdl { p with pe := wo p.pe n } = l := by
  have hn := rdl_in (p := p) (k := n) (by rw [h]; exact List.mem_cons_self)
  have e : rdl { p with pe := wo p.pe n } = (rdl p).filter fun k => !(k == n) := by
    unfold rdl
    rw [List.filter_filter]
    apply List.filter_congr
    intro k hk
    have hk := order_in hk
    rw [rdy_bt hk, rdy_bt hk]
    show (bt (wo p.pe n) k && !bt p.m k) = _
    rw [bt_wo _ (by omega) hn.2 (by omega) hk.2]
    cases bt p.pe k <;> cases bt p.m k <;> cases (k == n) <;> rfl
  have hd : (rdl p).Nodup := order_nodup.filter _
  rw [h] at hd
  rw [e, h, List.filter_cons]
  have hn2 : (!(n == n)) = false := by simp
  rw [hn2, if_neg (by simp)]
  apply List.filter_eq_self.2
  intro k hk
  have : k ≠ n := fun e => (List.nodup_cons.1 hd).1 (e ▸ hk)
  simpa using this
theorem rdl_none {p : Ps} (h : ∀ k, 1 ≤ k → k ≤ 15 → bt (rdy p) k = false) : rdl p = [] := by
  unfold rdl
  apply List.filter_eq_nil_iff.2
  intro k hk
  have := order_in hk
  rw [h k this.1 this.2]; simp
theorem rdl_kill {p : Ps} (h : bt (rdy p) 9 = true) : ∃ l, rdl p = 9 :: l := by
  refine ⟨[1, 2, 3, 4, 5, 6, 7, 8, 10, 11, 12, 13, 14, 15].filter fun k => bt (rdy p) k, ?_⟩
  unfold rdl order
  rw [List.filter_cons, h, if_pos rfl]
theorem rdl_least {p : Ps} {n : Int} (h9 : bt (rdy p) 9 = false) (hn : 1 ≤ n ∧ n ≤ 15) (hb : bt (rdy p) n = true) (hl : ∀ k, 1 ≤ k → k < n → bt (rdy p) k = false) : ∃ l, rdl p = n :: l := by
  have hf : ∀ (L R : List Int), (∀ k ∈ L, bt (rdy p) k = false) → ∃ l, (L ++ n :: R).filter (fun k => bt (rdy p) k) = n :: l := by
    intro L R hL
    rw [List.filter_append, List.filter_eq_nil_iff.2 (fun k hk => by rw [hL k hk]; simp), List.nil_append, List.filter_cons, hb, if_pos rfl]
    exact ⟨_, rfl⟩
  have go : ∀ (L R : List Int), order = L ++ n :: R → (∀ k ∈ L, k = 9 ∨ (1 ≤ k ∧ k < n)) → ∃ l, rdl p = n :: l := by
    intro L R e hL
    obtain ⟨l, hl2⟩ := hf L R (fun k hk => by
      rcases hL k hk with rfl | ⟨h1, h2⟩
      · exact h9
      · exact hl k h1 h2)
    exact ⟨l, by unfold rdl; rw [e]; exact hl2⟩
  rcases in15 (by omega) hn.2 with rfl | rfl | rfl | rfl | rfl | rfl | rfl | rfl | rfl | rfl | rfl | rfl | rfl | rfl | rfl | rfl
  · omega
  · exact go [9] [2, 3, 4, 5, 6, 7, 8, 10, 11, 12, 13, 14, 15] rfl (by decide)
  · exact go [9, 1] [3, 4, 5, 6, 7, 8, 10, 11, 12, 13, 14, 15] rfl (by decide)
  · exact go [9, 1, 2] [4, 5, 6, 7, 8, 10, 11, 12, 13, 14, 15] rfl (by decide)
  · exact go [9, 1, 2, 3] [5, 6, 7, 8, 10, 11, 12, 13, 14, 15] rfl (by decide)
  · exact go [9, 1, 2, 3, 4] [6, 7, 8, 10, 11, 12, 13, 14, 15] rfl (by decide)
  · exact go [9, 1, 2, 3, 4, 5] [7, 8, 10, 11, 12, 13, 14, 15] rfl (by decide)
  · exact go [9, 1, 2, 3, 4, 5, 6] [8, 10, 11, 12, 13, 14, 15] rfl (by decide)
  · exact go [9, 1, 2, 3, 4, 5, 6, 7] [10, 11, 12, 13, 14, 15] rfl (by decide)
  · rw [h9] at hb; cases hb
  · exact go [9, 1, 2, 3, 4, 5, 6, 7, 8] [11, 12, 13, 14, 15] rfl (by decide)
  · exact go [9, 1, 2, 3, 4, 5, 6, 7, 8, 10] [12, 13, 14, 15] rfl (by decide)
  · exact go [9, 1, 2, 3, 4, 5, 6, 7, 8, 10, 11] [13, 14, 15] rfl (by decide)
  · exact go [9, 1, 2, 3, 4, 5, 6, 7, 8, 10, 11, 12] [14, 15] rfl (by decide)
  · exact go [9, 1, 2, 3, 4, 5, 6, 7, 8, 10, 11, 12, 13] [15] rfl (by decide)
  · exact go [9, 1, 2, 3, 4, 5, 6, 7, 8, 10, 11, 12, 13, 14] [] rfl (by decide)
/-- The least bit of a set of signals that is not empty. -/
theorem ctz_is {r : Int} (h0 : 0 < r) (h1 : r ≤ 65534) (h2 : r % 2 = 0) : ∃ c : Nat, Lib.ctz 64 r.toNat = c ∧ 1 ≤ c ∧ c ≤ 15 ∧ bt r (c : Int) = true ∧ ∀ k : Int, 1 ≤ k → k < c → bt r k = false := by
  obtain ⟨x, rfl⟩ : ∃ x : Nat, r = x := ⟨r.toNat, by omega⟩
  rw [Int.toNat_natCast]
  obtain ⟨m, hm, hc⟩ := Lib.ctzFrom_spec 64 x (by omega) (by omega)
  have e : Lib.ctz 64 x = Lib.ctzFrom 64 x := by rw [Lib.ctz, if_neg (by omega)]
  rw [e]
  generalize Lib.ctzFrom 64 x = c at *
  have hp : 0 < 2 ^ c := Nat.two_pow_pos c
  have hc16 : c < 16 := by
    apply Nat.lt_of_not_le
    intro hle
    have h3 : 2 ^ 16 ≤ 2 ^ c := Nat.pow_le_pow_right (by decide) hle
    have h4 : 2 ^ c ≤ 2 ^ c * (2 * m + 1) := Nat.le_mul_of_pos_right _ (by omega)
    omega
  have hc1 : 1 ≤ c := by
    apply Nat.pos_of_ne_zero
    rintro rfl
    rw [Nat.pow_zero, Nat.one_mul] at hm
    omega
  refine ⟨c, rfl, hc1, by omega, ?_, fun k k1 k2 => ?_⟩
  · unfold bt pw
    rw [Int.toNat_natCast]
    have e2 : (x : Int) / 2 ^ c % 2 = ((x / 2 ^ c % 2 : Nat) : Int) := by simp
    rw [e2, hm, Nat.mul_div_cancel_left _ hp]
    rw [show (2 * m + 1) % 2 = 1 from by omega]; rfl
  · obtain ⟨j, rfl⟩ : ∃ j : Nat, k = j := ⟨k.toNat, by omega⟩
    unfold bt pw
    rw [Int.toNat_natCast]
    have e2 : (x : Int) / 2 ^ j % 2 = ((x / 2 ^ j % 2 : Nat) : Int) := by simp
    obtain ⟨d, hd⟩ : ∃ d, c = j + (d + 1) := ⟨c - j - 1, by omega⟩
    rw [e2, hm, hd, Nat.pow_add, Nat.mul_assoc, Nat.mul_div_cancel_left _ (Nat.two_pow_pos j), Nat.pow_succ, Nat.mul_comm (2 ^ d), Nat.mul_assoc, Nat.mul_mod_right]
    rfl
end Go.Proofs.YtaeiigniakjbpaaDoor.Sg
