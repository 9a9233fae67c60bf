/- The walk of BellNone. -/
import Derived.Test.YtbieffenicojpaaLaw9a
namespace Go.Proofs.Ytbieffenicojpaa
open Go.RowKit
set_option linter.unusedVariables false
set_option linter.unusedSimpArgs false
/-- What is kept behind r rounds in which 7 is rung. -/
def sev (L : List Int) (r : Nat) : List Int := L ++ List.replicate r 7
theorem sev_len (L : List Int) (r : Nat) : (sev L r).length = L.length + r := by simp [sev]
theorem sev_get {L : List Int} {r k : Nat} (h : k < L.length) : (sev L r).getD k 0 = L.getD k 0 := by
  rw [sev, List.getD_eq_getElem?_getD, List.getElem?_append_left h, ← List.getD_eq_getElem?_getD]
theorem sev_ring {L : List Int} {r k c : Nat} (h : k ≤ L.length + r) (hc : L.length + r - k < c) : rung c ((sev L r).drop k) 7 = (sev L (r + 1)).drop k := by
  unfold rung
  rw [if_pos (by rw [List.length_drop, sev_len]; exact hc)]
  rw [show sev L (r + 1) = sev L r ++ [7] from by simp [sev, List.replicate_succ', List.append_assoc], List.drop_append_of_le_length (by rw [sev_len]; exact h)]
theorem rung_next {l : List Int} {i s : Nat} (h : i < l.length) (hs : i < s) : rung s (l.take i) (l.getD i 0) = l.take (i + 1) := by
  have := rung_take l (i := i) (s := s) h
  rwa [show min i s = i from by omega, show min (i + 1) s = i + 1 from by omega] at this
/-- Either of none and a Bell that has its k-th number and those behind it. -/
theorem B0.eith0 {w0 w : World} {p c cap k : Nat} {L : List Int} (h : B0 w0 w p c cap (L.drop k)) (hk : k < L.length) :
    Calls Try.prog 12 #[.pointer none, .pointer (some ⟨p, 0, none⟩)] w fun e w' => e = .returned (.tuple #[.int .i64 (L.getD k 0), .int .i64 1, .bool true]) ∧ B0 w0 w' p c cap (L.drop (k + 1)) := by
  have hne : (L.drop k).isEmpty = false := by have := drop_more L k; rw [decide_eq_true hk] at this; simpa using this
  refine (either_is (IsB.nil w) h.bell.isB (fun x h => by cases h)).mono ?_; rintro e w1 ⟨rfl, -, ⟨p1, hp, h1⟩, k1, -⟩
  cases hp
  refine ⟨?_, ?_⟩
  · rw [eith, if_neg (by simp), if_pos hne, drop_head]
  · rw [eithB, if_neg (by simp), List.tail_drop] at h1
    exact h.at_ h1 (k1.mono (fun x _ m => by rcases m with m | m <;> cases m; rfl))
theorem B0.eith1 {w0 w : World} {p c cap k : Nat} {L : List Int} (h : B0 w0 w p c cap (L.drop k)) (hk : k < L.length) :
    Calls Try.prog 12 #[.pointer (some ⟨p, 0, none⟩), .pointer none] w fun e w' => e = .returned (.tuple #[.int .i64 (L.getD k 0), .int .i64 0, .bool true]) ∧ B0 w0 w' p c cap (L.drop (k + 1)) := by
  have hne : (L.drop k).isEmpty = false := by have := drop_more L k; rw [decide_eq_true hk] at this; simpa using this
  refine (either_is h.bell.isB (IsB.nil w) (fun x h => by simp)).mono ?_; rintro e w1 ⟨rfl, ⟨p1, hp, h1⟩, -, k1, -⟩
  cases hp
  refine ⟨?_, ?_⟩
  · rw [eith, if_pos hne, drop_head]
  · rw [List.tail_drop] at h1
    exact h.at_ h1 (k1.mono (fun x _ m => by rcases m with m | m <;> cases m; rfl))
set_option maxRecDepth 100000 in
set_option maxHeartbeats 4000000 in
theorem BellNone_core (w : World) (A0 : Option Addr) (n0 c0 : Nat) (x0 : List Int) (w0 : Holds w (.sl 8 (.int .i64)) x0 [.slice A0 n0 c0]) (a1 : Bool) (N : Nat)
    (hN : (if (40 : Int) < (n0 : Int) then (40 : Int) else (n0 : Int)) = (N : Int)) (e1 : N = min n0 40) :
    Calls Try.prog 5 #[.slice A0 n0 c0, .bool a1] w fun e w' => e = .returned (.bool true) ∧ Below w.heap.size w w' := by
  have W0 := Lib.hid w0
  have hl1 := holds_ints_len w0
  have E := Lib.hid (And.intro e1 hl1)
  clear w0 e1 hl1
  go_enter Try.func5, Try.ntmps5
  go_wp2_with fail
  refine (B0.new (Keep.refl (From w.heap.size) w) 64 64 (by decide)).mono ?_; rintro e w2 ⟨p, rfl, h2, -⟩
  generalize w.heap.size = c at h2
  go_wp2_with fail
  go_loopw [7] (fun s7 wx => ∃ i : Nat, i ≤ N ∧ s7 = .int .i64 i ∧ B0 w wx p c 64 (x0.take i)) (fun s7 _ => N - (intOf s7).toNat)
  case atStart => exact ⟨0, Nat.zero_le _, rfl, by simpa using h2⟩
  case round =>
    obtain ⟨i, hi, rfl, H⟩ := hrel
    clear h2
    by_cases hlt : i < N
    · obtain ⟨eN, hl⟩ := E.out
      obtain ⟨b, off, rfl, hx⟩ := holds_int W0.out (k := i) (by omega)
      have hxr := H.keep.cell_from hx
      have hR := H.ring (x0.getD i 0)
      rw [rung_next (by omega) (by omega)] at hR
      generalize x0.getD i 0 = x at *
      clear hx H eN hl
      go_wp2_with fail
      refine hR.mono ?_; rintro e w3 ⟨rfl, h3, -⟩
      clear hR hxr
      go_wp2_with fail
      go_roundw
      case rel => exact ⟨i + 1, by omega, by go_num, h3⟩
      case measure => simp [intOf]; omega
    · obtain rfl : i = N := by omega
      have hlen : (x0.take i).length = i := by have := E.out; rw [List.length_take]; omega
      have hget : ∀ k, k < i → (x0.take i).getD k 0 = x0.getD k 0 := fun k hk => by rw [List.getD_eq_getElem?_getD, List.getElem?_take, if_pos hk, ← List.getD_eq_getElem?_getD]
      have hN40 : i ≤ 40 := by have := E.out; omega
      have G := Lib.hid (And.intro hlen hget)
      clear hlen hget hlt hi
      cases a1 with
      | false =>
        go_wp2_with fail
        go_loopw [8] (fun s8 wx => ∃ j : Nat, j ≤ i ∧ s8 = .int .i64 j ∧ B0 w wx p c 64 ((x0.take i).drop j)) (fun s8 _ => i - (intOf s8).toNat)
        case atStart => exact ⟨0, Nat.zero_le _, rfl, H⟩
        case round =>
          obtain ⟨j, hj, rfl, K⟩ := hrel
          clear H
          by_cases hlt2 : j < i
          · have hT := K.eith0 (by rw [G.out.1]; exact hlt2)
            rw [G.out.2 j hlt2] at hT
            obtain ⟨b, off, rfl, hx⟩ := holds_int W0.out (k := j) (by have := E.out; omega)
            generalize x0.getD j 0 = x at *
            have hx0 := Lib.hid hx
            clear hx
            go_wp2_with fail
            refine hT.mono ?_; rintro e w4 ⟨rfl, K4⟩
            have hx4 := K4.keep.cell_from hx0.out
            clear hT K
            go_wp2_with fail
            go_roundw
            case rel => exact ⟨j + 1, by omega, by go_num, K4⟩
            case measure => simp [intOf]; omega
          · obtain rfl : j = i := by omega
            go_wp2_with fail
            refine (awake_is wr).mono ?_; rintro e w7 ⟨rfl, k7⟩
            go_wp2_with fail
            go_ret
            exact ⟨rfl, (K.nob k7).keep.done⟩
      | true =>
        go_wp2_with fail
        go_loopw [8] (fun s8 wx => ∃ r : Nat, 2 * r ≤ i + 1 ∧ s8 = .int .i64 (2 * r : Nat) ∧ B0 w wx p c 64 ((sev (x0.take i) r).drop (2 * r))) (fun s8 _ => i + 1 - (intOf s8).toNat)
        case atStart => exact ⟨0, Nat.zero_le _, rfl, by simpa [sev] using H⟩
        case round =>
          obtain ⟨r, hr, rfl, K⟩ := hrel
          clear H
          generalize hj : 2 * r = j at *
          by_cases hlt2 : j < i
          · have hT := K.eith0 (by rw [sev_len, G.out.1]; omega)
            rw [sev_get (by rw [G.out.1]; exact hlt2), G.out.2 j hlt2] at hT
            obtain ⟨b, off, rfl, hx⟩ := holds_int W0.out (k := j) (by have := E.out; omega)
            generalize x0.getD j 0 = x at *
            clear hx
            go_wp2_with fail
            refine hT.mono ?_; rintro e w4 ⟨rfl, K4⟩
            clear hT K
            have hR := K4.ring 7
            rw [sev_ring (by rw [G.out.1]; omega) (by rw [G.out.1]; omega)] at hR
            go_wp2_with fail
            refine hR.mono ?_; rintro e w5 ⟨rfl, K5, -⟩
            clear hR K4
            have hT := K5.eith1 (by rw [sev_len, G.out.1]; omega)
            by_cases hlt3 : j + 1 < i
            · rw [sev_get (by rw [G.out.1]; exact hlt3), G.out.2 _ hlt3] at hT
              obtain ⟨b', off', he, hx⟩ := holds_int W0.out (k := j + 1) (by have := E.out; omega)
              cases he
              generalize x0.getD (j + 1) 0 = y at *
              have hx0 := Lib.hid hx
              clear hx
              go_wp2_with fail
              refine hT.mono ?_; rintro e w6 ⟨rfl, K6⟩
              have hx4 := K6.keep.cell_from hx0.out
              clear hT K5
              go_wp2_with fail
              go_roundw
              case rel => exact ⟨r + 1, by omega, by rw [show 2 * (r + 1) = j + 2 from by omega]; go_num, by rw [show 2 * (r + 1) = j + 1 + 1 from by omega]; exact K6⟩
              case measure => simp [intOf]; omega
            · generalize (sev (x0.take i) (r + 1)).getD (j + 1) 0 = y at *
              go_wp2_with fail
              refine hT.mono ?_; rintro e w6 ⟨rfl, K6⟩
              clear hT K5
              go_wp2_with fail
              go_roundw
              case rel => exact ⟨r + 1, by omega, by rw [show 2 * (r + 1) = j + 2 from by omega]; go_num, by rw [show 2 * (r + 1) = j + 1 + 1 from by omega]; exact K6⟩
              case measure => simp [intOf]; omega
          · go_wp2_with fail
            refine (awake_is wr).mono ?_; rintro e w7 ⟨rfl, k7⟩
            go_wp2_with fail
            go_ret
            exact ⟨rfl, (K.nob k7).keep.done⟩
theorem BellNone_walk (w : World) (A0 : Option Addr) (n0 c0 : Nat) (x0 : Ty.den (.sl 8 (.int .i64))) (w0 : Holds w (.sl 8 (.int .i64)) x0 [.slice A0 n0 c0]) (a1 : Bool) :
    Calls Try.prog 5 #[.slice A0 n0 c0, .bool a1] w fun e w' => e = .returned (.bool true) ∧ Below w.heap.size w w' :=
  BellNone_core w A0 n0 c0 x0 w0 a1 (min n0 40) (by split <;> omega) rfl
end Go.Proofs.Ytbieffenicojpaa
