/- Plain facts: who may not be kept off. -/
import Derived.Test.YtaeiigniakjbpaaDoorSigW
namespace Go.Proofs.YtaeiigniakjbpaaDoor
open Go.RowKit Sg
set_option linter.unusedVariables false
set_option linter.unusedSimpArgs false
/-- A living process with nothing pending, to whom SKill and SStop come. -/
structure Hard (P : Ps) : Prop where
  s : P.s = 1
  pe : P.pe = 0
  len : P.f.length = 8
  m9 : bt P.m 9 = false
  m14 : bt P.m 14 = false
  c9 : bt P.ca 9 = false
  c14 : bt P.ca 14 = false
theorem wo_nought {n : Int} (h0 : 0 ≤ n) (h : n ≤ 15) : wo 0 n = 0 := by
  rcases in15 h0 h with rfl | rfl | rfl | rfl | rfl | rfl | rfl | rfl | rfl | rfl | rfl | rfl | rfl | rfl | rfl | rfl <;> decide +kernel
theorem soft_in {n : Int} (h : free n = true) : 1 ≤ n ∧ n ≤ 15 ∧ ¬ n = 9 ∧ ¬ n = 14 := by
  unfold free at h
  rw [Bool.and_eq_true] at h
  have := sign_in h.1
  have h2 := h.2
  simp at h2
  omega
theorem hard_handle {P : Ps} (h : Hard P) (n how : Int) : ∃ Q e, handle P n how = (Q, e) ∧ Q.f.length = 8 ∧ (e = 0 ∨ e = 122) ∧ (e = 0 → Hard Q) := by
  cases hf : free n with
  | false => exact ⟨noP, 122, by unfold handle; rw [hf, if_neg (by simp)], rfl, .inr rfl, fun e => absurd e (by decide)⟩
  | true =>
    obtain ⟨n0, n1, n9, n14⟩ := soft_in hf
    have b9 : ((9 : Int) == n) = false := by simpa using (by omega : ¬ 9 = n)
    have b14 : ((14 : Int) == n) = false := by simpa using (by omega : ¬ 14 = n)
    have k9 : bt (wo P.ca n) 9 = false := by rw [bt_wo _ (by omega) n1 (by omega) (by omega), h.c9]; rfl
    have k14 : bt (wo P.ca n) 14 = false := by rw [bt_wo _ (by omega) n1 (by omega) (by omega), h.c14]; rfl
    by_cases h0 : how = 0
    · exact ⟨{ P with i := wo P.i n, ca := wo P.ca n }, 0, by unfold handle; rw [hf, if_pos rfl, if_pos h0], h.len, .inl rfl, fun _ => ⟨h.s, h.pe, h.len, h.m9, h.m14, k9, k14⟩⟩
    by_cases h1 : how = 1
    · refine ⟨{ P with i := wi (wo P.i n) n, ca := wo P.ca n, pe := wo P.pe n }, 0, by unfold handle; rw [hf, if_pos rfl, if_neg h0, if_pos h1], h.len, .inl rfl, fun _ => ⟨h.s, ?_, h.len, h.m9, h.m14, k9, k14⟩⟩
      show wo P.pe n = 0
      rw [h.pe, wo_nought (by omega) n1]
    by_cases h2 : how = 2
    · refine ⟨{ P with i := wo P.i n, ca := wi (wo P.ca n) n }, 0, by unfold handle; rw [hf, if_pos rfl, if_neg h0, if_neg h1, if_pos h2], h.len, .inl rfl, fun _ => ⟨h.s, h.pe, h.len, h.m9, h.m14, ?_, ?_⟩⟩
      · show bt (wi (wo P.ca n) n) 9 = false
        rw [bt_wi _ (by omega) n1 (by omega) (by omega), k9, b9]; rfl
      · show bt (wi (wo P.ca n) n) 14 = false
        rw [bt_wi _ (by omega) n1 (by omega) (by omega), k14, b14]; rfl
    · exact ⟨noP, 122, by unfold handle; rw [hf, if_pos rfl, if_neg h0, if_neg h1, if_neg h2], rfl, .inr rfl, fun e => absurd e (by decide)⟩
theorem mask_soft (m : Int) : bt (maskOf m) 9 = false ∧ bt (maskOf m) 14 = false := by
  unfold maskOf
  rw [bt_off _ _ (by omega) (by omega), bt_off _ _ (by omega) (by omega), bt_hard (by omega) (by omega), bt_hard (by omega) (by omega)]
  constructor <;> simp
theorem hard_mask {P : Ps} (h : Hard P) (m : Int) : ∃ Q o e, mask P m = (Q, o, e) ∧ Q.f.length = 8 ∧ (e = 0 ∨ e = 122) ∧ (e = 0 → Hard Q) := by
  unfold mask
  split
  · exact ⟨_, _, 0, rfl, h.len, .inl rfl, fun _ => ⟨h.s, h.pe, h.len, (mask_soft m).1, (mask_soft m).2, h.c9, h.c14⟩⟩
  · exact ⟨noP, 0, 122, rfl, rfl, .inr rfl, fun e => absurd e (by decide)⟩
theorem bt_one {k : Int} (k0 : 0 ≤ k) (hk : k ≤ 15) : bt 512 k = (k == 9) ∧ bt 16384 k = (k == 14) := by
  rcases in15 k0 hk with rfl | rfl | rfl | rfl | rfl | rfl | rfl | rfl | rfl | rfl | rfl | rfl | rfl | rfl | rfl | rfl <;> decide +kernel
/-- What waits is let in but for the mask. -/
theorem bt_rdy (P : Ps) {k : Int} (k0 : 1 ≤ k) (hk : k ≤ 15) : bt (rdy P) k = (bt P.pe k && !bt P.m k) := by
  unfold rdy
  rw [bt_and _ _ (by omega) hk, bt_off _ _ (by omega) hk, bt_all k0 hk, Bool.and_true]
theorem hard_kill {P : Ps} (hs : P.s = 1 ∨ P.s = 3) (hpe : P.pe = 0) (hl : P.f.length = 8) (m9 : bt P.m 9 = false) (c9 : bt P.ca 9 = false) :
    ∃ K R, raise P 9 = (K, true) ∧ deliver K = (R, [], 9) ∧ K.f.length = 8 ∧ R.f.length = 8 := by
  have ht : told P = true := by unfold told; rcases hs with h | h <;> rw [h] <;> rfl
  have hb : bt (bits .andNot .i64 P.i 16896) 9 = false := by rw [bt_soft _ (by omega) (by omega)]; simp
  have e9 : wi 0 9 = 512 := by decide +kernel
  refine ⟨{ P with pe := 512, s := 1 }, { P with pe := wo 512 9, s := 1 }, ?_, ?_, hl, hl⟩
  · rw [raise_rz rfl ht hb]
    unfold rz
    simp only [if_true, if_false, Bool.false_eq_true, show ¬ (9 : Int) = 14 from by decide, show ¬ (9 : Int) = 15 from by decide, hpe, e9]
  · have h9 : bt (rdy { P with pe := 512, s := 1 }) 9 = true := by
      rw [bt_rdy _ (by omega) (by omega)]
      show (bt 512 9 && !bt P.m 9) = true
      rw [m9, (bt_one (by omega) (by omega)).1]
      rfl
    have hr : ∃ l, rdl { P with pe := 512, s := 1 } = 9 :: l := by
      unfold rdl order
      rw [List.filter_cons_of_pos h9]
      exact ⟨_, rfl⟩
    obtain ⟨l, hl2⟩ := hr
    have hf : fate P.ca 9 = 4 := by unfold fate; rw [c9]; rfl
    unfold deliver
    rw [if_pos rfl, hl2]
    unfold dl
    simp only [hf]
    rfl
theorem hard_stop {P : Ps} (h : Hard P) : ∃ A, raise P 14 = (A, true) ∧ deliver A = ({ P with pe := 0, s := 3 }, [], 0) ∧ A.f.length = 8 := by
  have ht : told P = true := by unfold told; rw [h.s]; rfl
  have hb : bt (bits .andNot .i64 P.i 16896) 14 = false := by rw [bt_soft _ (by omega) (by omega)]; simp
  have e14 : wo (wi 0 14) 15 = 16384 := by decide +kernel
  have e0 : wo 16384 14 = 0 := by decide +kernel
  refine ⟨{ P with pe := 16384 }, ?_, ?_, h.len⟩
  · rw [raise_rz rfl ht hb]
    unfold rz
    simp only [if_true, if_false, Bool.false_eq_true, h.pe, e14]
  · have hr : rdl { P with pe := 16384 } = [14] := by
      have e : order.filter (fun k => bt (rdy { P with pe := 16384 }) k) = order.filter (fun k => k == 14) := by
        refine List.filter_congr fun k hk => ?_
        obtain ⟨k1, k2⟩ := order_in hk
        rw [bt_rdy _ k1 k2]
        show (bt 16384 k && !bt P.m k) = (k == 14)
        rw [(bt_one (by omega) k2).2]
        by_cases e : k = 14
        · subst e; rw [h.m14]; rfl
        · have : (k == 14) = false := by simpa using e
          rw [this]; rfl
      unfold rdl
      rw [e]
      rfl
    have hf : fate P.ca 14 = 3 := by unfold fate; rw [h.c14]; rfl
    unfold deliver
    rw [if_pos h.s, hr]
    unfold dl
    simp only [hf, e0]
    rfl
theorem hard_go {P : Ps} (hs : P.s = 3) (hl : P.f.length = 8) : ∃ C, raise P 15 = (C, true) ∧ C.s = 1 ∧ C.f.length = 8 := by
  have ht : told P = true := by unfold told; rw [hs]; rfl
  have e := raise_rz (p := P) (n := 15) rfl ht (b := bt (bits .andNot .i64 P.i 16896) 15) rfl
  refine ⟨_, e, ?_, ?_⟩
  · unfold rz
    simp only [if_true, if_false, show ¬ (15 : Int) = 14 from by decide]
  · have := raise_len hl 15
    rwa [e] at this
theorem hard_next {P : Ps} (hs : P.s = 3) : next P = (0, 0) := by
  unfold next
  rw [if_neg (by omega)]
theorem bt_off9 (x : Int) : bt (Mk.off x) 9 = false ∧ bt (Mk.off x) 14 = false := by
  unfold Mk.off
  rw [bt_off _ _ (by omega) (by omega), bt_off _ _ (by omega) (by omega), bt_hard (by omega) (by omega), bt_hard (by omega) (by omega)]
  constructor <;> simp
theorem made_hard (l : List Int) : Hard { ofL (Mk.made l) with s := 1, pe := 0 } := by
  have h1 := bt_off9 (Mk.nxt l 1)
  have h2 := bt_off9 (Mk.nxt l 4)
  have hl := made_flen l
  have hm : (ofL (Mk.made l)).m = Mk.off (Mk.nxt l 1) := by unfold Mk.made; split <;> rfl
  have hc : (ofL (Mk.made l)).ca = bits .andNot .i64 (Mk.off (Mk.nxt l 4)) (Mk.off (bits .and .i64 (Mk.nxt l 2) (Mk.nxt l 3))) := by unfold Mk.made; split <;> rfl
  generalize ofL (Mk.made l) = P at *
  refine ⟨rfl, rfl, hl, ?_, ?_, ?_, ?_⟩
  · show bt P.m 9 = false
    rw [hm]; exact h1.1
  · show bt P.m 14 = false
    rw [hm]; exact h1.2
  · show bt P.ca 9 = false
    rw [hc, bt_off _ _ (by omega) (by omega), h2.1]; rfl
  · show bt P.ca 14 = false
    rw [hc, bt_off _ _ (by omega) (by omega), h2.2]; rfl
end Go.Proofs.YtaeiigniakjbpaaDoor
