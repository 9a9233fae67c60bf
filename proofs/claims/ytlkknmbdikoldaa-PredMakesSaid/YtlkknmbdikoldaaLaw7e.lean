/- The walk of the statement PredMakes (layer 7). -/
import Derived.Test.YtlkknmbdikoldaaLaw7a
import Derived.Test.YtlkknmbdikoldaaPrd6
namespace Go.Proofs.Ytlkknmbdikoldaa
open Go.RowKit
set_option linter.unusedVariables false
set_option linter.unusedSimpArgs false
theorem bits_zero (m : Int) : bits .and .i64 0 m = 0 := by
  show IntKind.i64.wrap ((BitVec.ofInt 64 0 &&& BitVec.ofInt 64 m).toNat : Nat) = 0
  have : (BitVec.ofInt 64 0 &&& BitVec.ofInt 64 m) = 0#64 := by
    rw [show BitVec.ofInt 64 0 = 0#64 from rfl, BitVec.zero_and]
  rw [this]
  rfl
theorem ev_any (view : List UInt8) (now a m n : Int) (r : List Prim) :
    ∃ k, ev view now ([⟨1, a, 0⟩, ⟨3, m, 0⟩, ⟨7, 0, 0⟩, ⟨5, 1, 0⟩, ⟨6, 0, 0⟩] ++ r) 0 n = if bits .and .i64 (byteAt view a) m = 0 then ((ev view now r 0 1).1, (ev view now r 0 1).2 + k) else (true, k) := by
  by_cases h : bits .and .i64 (byteAt view a) m = 0
  · refine ⟨4, ?_⟩
    rw [if_pos h]
    simp [ev, Prim.next, h]
  · refine ⟨5, ?_⟩
    rw [if_neg h]
    simp [ev, Prim.next, h]
theorem ev_after (view : List UInt8) (now t n : Int) : ∃ k, ev view now [⟨2, 0, 0⟩, ⟨4, t, 0⟩, ⟨5, 1, 0⟩, ⟨6, 0, 0⟩] 0 n = (decide (t ≤ now), k) := by
  by_cases h : now < t
  · exact ⟨3, by rw [decide_eq_false (by omega)]; simp [ev, Prim.next, h]⟩
  · exact ⟨4, by rw [decide_eq_true (by omega)]; simp [ev, Prim.next, h]⟩
theorem check_any {a m : Int} : check (anyL a m) = 0 := by
  unfold anyL
  split
  · rename_i h
    refine check_yes (by simp) ?_
    simp only [sounds, Bool.and_true, Bool.and_eq_true]
    exact ⟨(sound_iff (by simp)).2 (by omega), (sound_iff (by simp)).2 (by omega), by decide, by decide, by decide⟩
  · rfl
theorem check_after {t : Int} : check (afterL t) = 0 := by
  unfold afterL
  split
  · rename_i h
    refine check_yes (by simp) ?_
    simp only [sounds, Bool.and_true, Bool.and_eq_true]
    exact ⟨(sound_iff (by simp)).2 (by omega), (sound_iff (by simp)).2 (by omega), by decide, by decide⟩
  · rfl
theorem len_any (a m : Int) : (anyL a m).length ≤ 5 := by unfold anyL; split <;> simp
theorem len_after (t : Int) : (afterL t).length ≤ 4 := by unfold afterL; split <;> simp
/-- What PredMakes wants of a byte, and of a time. -/
def someB (view : List UInt8) (a m : Int) : Bool := decide (0 ≤ a ∧ a ≤ 65535 ∧ 0 ≤ m ∧ m ≤ 65535 ∧ bits .and .i64 (byteAt view a) m ≠ 0)
def lateB (now t : Int) : Bool := decide (0 ≤ t ∧ t ≤ 65535 ∧ t ≤ now)
theorem ev_anyL (view : List UInt8) (now a m : Int) (r : List Prim) : ∃ k n, ev view now (anyL a m ++ r) 0 0 = if someB view a m then (true, k) else ((ev view now r 0 n).1, (ev view now r 0 n).2 + k) := by
  unfold anyL someB
  by_cases h : 0 ≤ a ∧ a ≤ 65535 ∧ 0 ≤ m ∧ m ≤ 65535
  · rw [if_pos h]
    obtain ⟨k, hk⟩ := ev_any view now a m 0 r
    refine ⟨k, 1, ?_⟩
    rw [hk]
    by_cases h2 : bits .and .i64 (byteAt view a) m = 0
    · rw [if_pos h2, decide_eq_false (fun h3 => h3.2.2.2.2 h2)]
      rfl
    · rw [if_neg h2, decide_eq_true ⟨h.1, h.2.1, h.2.2.1, h.2.2.2, h2⟩]
      rfl
  · refine ⟨0, 0, ?_⟩
    rw [if_neg h, decide_eq_false (fun h3 => h ⟨h3.1, h3.2.1, h3.2.2.1, h3.2.2.2.1⟩)]
    rfl
theorem ev_afterL (view : List UInt8) (now t n : Int) : ∃ k, ev view now (afterL t) 0 n = (lateB now t, k) := by
  unfold afterL lateB
  by_cases h : 0 ≤ t ∧ t ≤ 65535
  · rw [if_pos h]
    obtain ⟨k, hk⟩ := ev_after view now t n
    exact ⟨k, by rw [hk]; simp [h]⟩
  · rw [if_neg h, decide_eq_false (fun h3 => h ⟨h3.1, h3.2.1⟩)]
    exact ⟨0, rfl⟩
theorem eval_any (view : List UInt8) (now a m : Int) : ∃ k, eval view now (anyL a m) = (someB view a m, k) := by
  unfold eval
  rw [if_pos check_any]
  obtain ⟨k, n, hk⟩ := ev_anyL view now a m []
  rw [List.append_nil] at hk
  rw [hk]
  cases someB view a m
  · exact ⟨_, rfl⟩
  · exact ⟨_, rfl⟩
theorem eval_after (view : List UInt8) (now t : Int) : ∃ k, eval view now (afterL t) = (lateB now t, k) := by
  unfold eval
  rw [if_pos check_after]
  exact ev_afterL view now t 0
theorem both_made (a m t : Int) : both (anyL a m) (afterL t) = true := by
  have := len_any a m
  have := len_after t
  exact decide_eq_true ⟨check_any, check_after, by omega⟩
theorem eval_both (view : List UInt8) (now a m t : Int) : ∃ k, eval view now (eitherL (anyL a m) (afterL t)) = (someB view a m || lateB now t, k) := by
  have h1 := len_any a m
  have h2 := len_after t
  unfold eitherL eval
  rw [both_made, if_pos rfl, check_append check_any check_after, if_pos (show (anyL a m).length + (afterL t).length ≤ 32 by omega), if_pos rfl]
  obtain ⟨k, n, hk⟩ := ev_anyL view now a m (afterL t)
  rw [hk]
  cases someB view a m
  · obtain ⟨k2, hk2⟩ := ev_afterL view now t n
    rw [hk2]
    exact ⟨_, rfl⟩
  · exact ⟨_, rfl⟩
set_option maxHeartbeats 8000000 in
theorem PredMakes_core (w : World) (a m t : Int) (A3 : Option Addr) (n3 c3 : Nat) (x3 : List UInt8) (hm : x3.length = n3) (hR : Reads w A3 n3 (bytes x3)) (now : Int) :
    Calls Try.prog 6 #[.int .i64 a, .int .i64 m, .int .i64 t, .slice A3 n3 c3, .int .i64 now] w fun e w' => e = .returned (.bool true) ∧ Below w.heap.size w w' := by
  have HR := Lib.hid hR
  clear hR
  by_cases h300 : 300 < n3
  · go_enter Try.func6, Try.ntmps6
    go_wp2_with fail
    refine (awake_true _).mono ?_; rintro e we ⟨rfl, k5⟩
    go_wp2_with fail
    go_ret
    exact ⟨rfl, k5.fin⟩
  obtain ⟨ka, hka⟩ := eval_any x3 now a m
  obtain ⟨kt, hkt⟩ := eval_after x3 now t
  obtain ⟨kb, hkb⟩ := eval_both x3 now a m t
  have hbo := both_made a m t
  have hla := len_any a m
  have hlt := len_after t
  have hle : (eitherL (anyL a m) (afterL t)).length = (anyL a m).length + (afterL t).length := by unfold eitherL; rw [hbo, if_pos rfl, List.length_append]
  obtain ⟨so, hso⟩ : ∃ so, someB x3 a m = so := ⟨_, rfl⟩
  obtain ⟨la, hlate⟩ : ∃ la, lateB now t = la := ⟨_, rfl⟩
  rw [hso] at hka hkb
  rw [hlate] at hkt hkb
  have hs1 : so = false → ¬ (0 ≤ a ∧ a ≤ 65535 ∧ 0 ≤ m ∧ m ≤ 65535 ∧ bits .and .i64 (byteAt x3 a) m ≠ 0) := fun h => of_decide_eq_false (hso.trans h)
  have hs2 : so = true → (0 ≤ a ∧ a ≤ 65535 ∧ 0 ≤ m ∧ m ≤ 65535 ∧ bits .and .i64 (byteAt x3 a) m ≠ 0) := fun h => of_decide_eq_true (hso.trans h)
  have HS := Lib.hid (And.intro hs1 hs2)
  have ht1 : la = false → ¬ (0 ≤ t ∧ t ≤ 65535 ∧ t ≤ now) := fun h => of_decide_eq_false (hlate.trans h)
  have ht2 : la = true → (0 ≤ t ∧ t ≤ 65535 ∧ t ≤ now) := fun h => of_decide_eq_true (hlate.trans h)
  have HT := Lib.hid (And.intro ht1 ht2)
  have HE := Lib.hid (And.intro hbo (And.intro hka (And.intro hkt (And.intro hkb hle))))
  clear hs1 hs2 ht1 ht2 hso hlate hbo hka hkt hkb hle
  go_enter Try.func6, Try.ntmps6
  go_wp2_with fail
  refine (any_is _ a m).mono ?_; rintro e w1 ⟨B1, c1, rfl, hp1, k1⟩
  go_wp2_with fail
  refine (after_is _ t).mono ?_; rintro e w2 ⟨B2, c2, rfl, hp2, k2⟩
  have k12 := k1.nobt k2
  have hp1 := hp1.nob k2
  clear k1 k2
  go_wp2_with fail
  refine (dany_is _ a m).mono ?_; rintro e w3 ⟨B3, c3, rfl, hp3, k3⟩
  have k13 := k12.nobt k3
  have hp1 := hp1.nob k3
  have hp2 := hp2.nob k3
  clear k12 k3
  go_wp2_with fail
  refine (same_is hp1 hp3 (by omega)).mono ?_; rintro e w4 ⟨rfl, k4⟩
  have k14 := k13.nobt k4
  have hp1 := hp1.nob k4
  have hp2 := hp2.nob k4
  clear k13 k4 hp3
  go_wp2_with fail
  refine (dafter_is _ t).mono ?_; rintro e w5 ⟨B5, c5, rfl, hp5, k5⟩
  have k15 := k14.nobt k5
  have hp1 := hp1.nob k5
  have hp2 := hp2.nob k5
  clear k14 k5
  go_wp2_with fail
  refine (same_is hp2 hp5 (by omega)).mono ?_; rintro e w6 ⟨rfl, k6⟩
  have k16 := k15.nobt k6
  have hp1 := hp1.nob k6
  have hp2 := hp2.nob k6
  clear k15 k6 hp5
  have HP1 := Lib.hid hp1
  have HP2 := Lib.hid hp2
  clear hp1 hp2
  go_wp2_with fail
  refine (eval_is hm (HR.out.nob k16) now HP1.out so ka HE.out.2.1).mono ?_; rintro e w7 ⟨rfl, k7⟩
  have k17 := k16.nobt k7
  have HP1 := Lib.hid (HP1.out.nob k7)
  have HP2 := Lib.hid (HP2.out.nob k7)
  clear k16 k7
  go_wp2_with fail
  refine (eval_is hm (HR.out.nob k17) now HP2.out la kt HE.out.2.2.1).mono ?_; rintro e w8 ⟨rfl, k8⟩
  have k18 := k17.nobt k8
  have HP1 := Lib.hid (HP1.out.nob k8)
  have HP2 := Lib.hid (HP2.out.nob k8)
  clear k17 k8
  go_upto_region 8 with fail
  go_cut [17] from 59 to 88 (fun s17 wx => s17 = .bool so ∧ wx = w8)
  case first =>
    have hr8 := HR.out.nob k18
    by_cases ha : 0 ≤ a
    · by_cases hn : a < n3
      · obtain ⟨a', rfl⟩ := Int.eq_ofNat_of_zero_le ha
        obtain ⟨b, off, rfl, hc⟩ := hr8.lit (by omega)
        have hcell := hc a' _ (bytes_getD (by omega))
        have e : byteAt x3 (a' : Int) = (((x3.getD a' 0).toNat : Nat) : Int) := by simp [byteAt]
        have hs := HS.out
        rw [e] at hs
        have hw1 := wrap_byte (x3.getD a' 0)
        have hw2 := u8_wrap (x3.getD a' 0)
        generalize x3.getD a' 0 = y at *
        have h65 : (a' : Int) ≤ 65535 := by omega
        by_cases hm0 : 0 ≤ m
        · by_cases hm1 : m ≤ 65535
          · by_cases hb : bits .and .i64 ((y.toNat : Nat) : Int) m = 0
            · obtain rfl : so = false := by
                cases so
                · rfl
                · exact absurd hb (hs.2 rfl).2.2.2.2
              clear hr8 hc e hs
              go_wp2_with fail
              go_meet
              exact ⟨rfl, rfl⟩
            · obtain rfl : so = true := by
                cases so
                · exact absurd ⟨ha, h65, hm0, hm1, hb⟩ (hs.1 rfl)
                · rfl
              have hb2 := notnil _ hb
              clear hr8 hc e hs
              go_wp2_with fail
              go_meet
              exact ⟨by simp [hb], rfl⟩
          · obtain rfl : so = false := by
              cases so
              · rfl
              · exact absurd (hs.2 rfl).2.2.2.1 hm1
            clear hr8 hc e hs
            go_wp2_with fail
            go_meet
            exact ⟨by simp [hm1], rfl⟩
        · obtain rfl : so = false := by
            cases so
            · rfl
            · exact absurd (hs.2 rfl).2.2.1 hm0
          clear hr8 hc e hs
          go_wp2_with fail
          go_meet
          exact ⟨by simp [hm0], rfl⟩
      · obtain rfl : so = false := by
          cases so
          · rfl
          · have e : byteAt x3 a = 0 := by
              simp [byteAt, List.getD_eq_getElem?_getD, List.getElem?_eq_none (show x3.length ≤ a.toNat by omega)]
            have := (HS.out.2 rfl).2.2.2.2
            rw [e] at this
            exact absurd (bits_zero m) this
        clear hr8
        go_wp2_with fail
        go_meet
        exact ⟨by simp [hn], rfl⟩
    · obtain rfl : so = false := by
        cases so
        · rfl
        · exact absurd (HS.out.2 rfl).1 ha
      clear hr8
      go_wp2_with fail
      go_meet
      exact ⟨by simp [ha], rfl⟩
  case rest =>
  obtain ⟨rfl, hw⟩ := hcut
  have hw := hw.symm
  subst hw
  go_upto_region 9 with fail
  go_cut [18] from 89 to 99 (fun s18 wx => s18 = .bool la ∧ wx = w8)
  case first =>
    by_cases h0 : 0 ≤ t
    · by_cases h1 : t ≤ 65535
      · by_cases h2 : t ≤ now
        · obtain rfl : la = true := by
            cases la
            · exact absurd ⟨h0, h1, h2⟩ (HT.out.1 rfl)
            · rfl
          go_wp2_with fail
          go_meet
          exact ⟨by simp [h2], rfl⟩
        · obtain rfl : la = false := by
            cases la
            · rfl
            · exact absurd (HT.out.2 rfl).2.2 h2
          go_wp2_with fail
          go_meet
          exact ⟨by simp [h2], rfl⟩
      · obtain rfl : la = false := by
          cases la
          · rfl
          · exact absurd (HT.out.2 rfl).2.1 h1
        go_wp2_with fail
        go_meet
        exact ⟨by simp [h1], rfl⟩
    · obtain rfl : la = false := by
        cases la
        · rfl
        · exact absurd (HT.out.2 rfl).1 h0
      go_wp2_with fail
      go_meet
      exact ⟨by simp [h0], rfl⟩
  case rest =>
  obtain ⟨rfl, hw⟩ := hcut
  have hw := hw.symm
  subst hw
  go_wp2_with fail
  refine (either_is HP1.out HP2.out _ rfl true HE.out.1).mono ?_; rintro e w9 ⟨E, cap, rfl, hp9, k9⟩
  rw [HE.out.2.2.2.2] at *
  have k19 := k18.nobt k9
  have HP9 := Lib.hid hp9
  clear k18 k9 hp9
  go_wp2_with fail
  refine (eval_is hm (HR.out.nob k19) now HP9.out (so || la) kb HE.out.2.2.2.1).mono ?_; rintro e w10 ⟨rfl, k10⟩
  have k110 := k19.nobt k10
  clear k19 k10
  generalize (anyL a m).length = na at *
  generalize (afterL t).length = nt at *
  cases so <;> cases la
  all_goals
    go_wp2_with fail
    refine (awake_true _).mono ?_; rintro e w11 ⟨rfl, k11⟩
    go_wp2_with fail
    go_ret
    exact ⟨rfl, (k110.nobt k11).fin⟩
theorem PredMakes_walk (w : World) (a0 : Int) (w0 : (Lit.int .i64 a0).wf = true) (a1 : Int) (w1 : (Lit.int .i64 a1).wf = true) (a2 : Int) (w2 : (Lit.int .i64 a2).wf = true) (A3 : Option Addr) (n3 c3 : Nat) (x3 : Ty.den (.sl 1 .byte)) (w3 : Holds w (.sl 1 .byte) x3 [.slice A3 n3 c3]) (a4 : Int) (w4 : (Lit.int .i64 a4).wf = true) :
    Calls Try.prog 6 #[.int .i64 a0, .int .i64 a1, .int .i64 a2, .slice A3 n3 c3, .int .i64 a4] w fun e w' => e = .returned (.bool true) ∧ Below w.heap.size w w' := by
  obtain ⟨hm, hR, _, _⟩ := holds_bytes w3
  exact PredMakes_core w a0 a1 a2 A3 n3 c3 x3 hm hR a4
end Go.Proofs.Ytlkknmbdikoldaa
