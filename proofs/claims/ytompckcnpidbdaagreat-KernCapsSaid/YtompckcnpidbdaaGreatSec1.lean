/- Contracts of package sect (layer 6): what each call answers, and what becomes of the section. -/
import Derived.Test.YtompckcnpidbdaaGreatSec0
namespace Go.Proofs.YtompckcnpidbdaaGreat.Se
open Go.RowKit
set_option linter.unusedVariables false
set_option linter.unusedSimpArgs false
theorem infointS : (Tryz.prog.info? 3).map (fun i => (i.zero, i.size, i.bytes)) = some (some (.int .i64 0), 1, 8) := by kernel_rfl
section
variable {w : World} {p : Nat} {A : Option Addr} {cap : Nat} {s : Sec}
theorem IsSec.c0 (h : IsSec w p A cap s) : w.cell? ⟨p, 0, none⟩ = some (.int .i64 s.lease) := h.obj.cell 0
theorem IsSec.c1 (h : IsSec w p A cap s) : w.cell? ⟨p, 1, none⟩ = some (.int .i64 s.now) := h.obj.cell 1
theorem IsSec.c2 (h : IsSec w p A cap s) : w.cell? ⟨p, 2, none⟩ = some (.int .i64 s.stamps) := h.obj.cell 2
theorem IsSec.c3 (h : IsSec w p A cap s) : w.cell? ⟨p, 3, none⟩ = some (.int .i64 s.who) := h.obj.cell 3
theorem IsSec.c4 (h : IsSec w p A cap s) : w.cell? ⟨p, 4, none⟩ = some (.int .i64 s.stamp) := h.obj.cell 4
theorem IsSec.c5 (h : IsSec w p A cap s) : w.cell? ⟨p, 5, none⟩ = some (.int .i64 s.since) := h.obj.cell 5
theorem IsSec.c6 (h : IsSec w p A cap s) : w.cell? ⟨p, 6, none⟩ = some (.slice A s.q.length cap) := h.obj.cell 6
theorem IsSec.c7 (h : IsSec w p A cap s) : w.cell? ⟨p, 7, none⟩ = some (.int .i64 s.first) := h.obj.cell 7
theorem isHeld_is (h : IsSec w p A cap s) (v : Bool) (hv : s.held = v) : Calls Tryz.prog 41 #[.pointer (some ⟨p, 0, none⟩)] w fun e w' => e = .returned (.bool v) ∧ w = w' := by
  have c4 := h.c4
  subst hv
  go_enter Tryz.func41, Tryz.ntmps41
  go_wp2
  go_ret
  exact ⟨rfl, rfl⟩
theorem isHolder_is (h : IsSec w p A cap s) (who : Int) (v : Bool) (hv : s.isH who = v) : Calls Tryz.prog 42 #[.pointer (some ⟨p, 0, none⟩), .int .i64 who] w fun e w' => e = .returned (.bool v) ∧ w = w' := by
  have c3 := h.c3
  by_cases h0 : 0 < s.stamp
  · have hh : s.held = true := by simpa [Sec.held] using h0
    have e : s.isH who = decide (s.who = who) := by simp [Sec.isH, h0]
    rw [e] at hv
    subst hv
    go_enter Tryz.func42, Tryz.ntmps42
    go_wp2_with fail
    refine (isHeld_is h true hh).mono ?_; rintro e w' ⟨rfl, rfl⟩
    go_wp2
    go_ret
    exact ⟨rfl, rfl⟩
  · have hh : s.held = false := by simpa [Sec.held] using h0
    have e : s.isH who = false := by simp [Sec.isH, h0]
    rw [e] at hv
    subst hv
    go_enter Tryz.func42, Tryz.ntmps42
    go_wp2_with fail
    refine (isHeld_is h false hh).mono ?_; rintro e w' ⟨rfl, rfl⟩
    go_wp2
    go_ret
    exact ⟨rfl, rfl⟩
theorem holds_is (h : IsSec w p A cap s) (who n : Int) (v : Bool) (hv : s.holds who n = v) : Calls Tryz.prog 13 #[.pointer (some ⟨p, 0, none⟩), .int .i64 who, .int .i64 n] w fun e w' => e = .returned (.bool v) ∧ w = w' := by
  have c4 := h.c4
  cases hh : s.isH who with
  | true =>
    have e : s.holds who n = decide (s.stamp = n) := by simp [Sec.holds, hh]
    rw [e] at hv
    subst hv
    go_enter Tryz.func13, Tryz.ntmps13
    go_wp2_with fail
    refine (isHolder_is h who true hh).mono ?_; rintro e w' ⟨rfl, rfl⟩
    go_wp2
    go_ret
    exact ⟨rfl, rfl⟩
  | false =>
    have e : s.holds who n = false := by simp [Sec.holds, hh]
    rw [e] at hv
    subst hv
    go_enter Tryz.func13, Tryz.ntmps13
    go_wp2_with fail
    refine (isHolder_is h who false hh).mono ?_; rintro e w' ⟨rfl, rfl⟩
    go_wp2
    go_ret
    exact ⟨rfl, rfl⟩
theorem u64_sub (n t : Int) (h : 0 ≤ n - t) (h2 : n - t < 18446744073709551616) : IntKind.u64.wrap (IntKind.u64.wrap n - IntKind.u64.wrap t) = n - t := by
  simp only [IntKind.wrap, IntKind.bits, IntKind.signed]
  simp
  omega
theorem isOver_is (h : IsSec w p A cap s) (O : s.Ok) (t : Int) (h1 : -9223372036854775808 ≤ t) (h2 : t ≤ s.now) (v : Bool) (hv : s.over t = v) :
    Calls Tryz.prog 98 #[.pointer (some ⟨p, 0, none⟩), .int .i64 t] w fun e w' => e = .returned (.bool v) ∧ ∃ m, w' = w.drewN m := by
  have c0 := h.c0
  have c1 := h.c1
  have l1 := O.l1
  have l2 := O.l2
  have n2 := O.n2
  subst hv
  unfold Sec.over
  generalize s.lease = l at *
  generalize s.now = n at *
  go_enter Tryz.func98, Tryz.ntmps98
  go_wp2_with fail
  go_quiet (fail)
  go_wp2
  go_ret
  refine ⟨?_, _, rfl⟩
  rw [u64_sub n t (by omega) (by omega)]
  rfl
theorem IsSec.f (h : IsSec w p A cap s) (i : Nat) : w.frozen? ⟨p, i, none⟩ = false := h.obj.frozen i
theorem IsSec.turn {w' : World} {s' : Sec} (h : IsSec w p A cap s) (k : Keep (· = p) w w') (hb : Blk w' p 104 [.int .i64 s'.lease, .int .i64 s'.now, .int .i64 s'.stamps, .int .i64 s'.who, .int .i64 s'.stamp, .int .i64 s'.since, .slice A s'.q.length cap, .int .i64 s'.first]) (hq : s'.q = s.q) : IsSec w' p A cap s' :=
  ⟨hb, by rw [hq]; exact h.row.keep k (fun x hx e => h.ne x hx e)⟩
theorem release_is (h : IsSec w p A cap s) : Calls Tryz.prog 91 #[.pointer (some ⟨p, 0, none⟩)] w fun e w' => e = .returned (.tuple #[]) ∧ IsSec w' p A cap s.rel ∧ Keep (· = p) w w' := by
  have c0 := h.c0
  have c1 := h.c1
  have c2 := h.c2
  have c3 := h.c3
  have c4 := h.c4
  have c5 := h.c5
  have c6 := h.c6
  have c7 := h.c7
  have f3 := h.f 3
  have f4 := h.f 4
  have f5 := h.f 5
  have f7 := h.f 7
  go_enter Tryz.func91, Tryz.ntmps91
  go_wp2
  go_end0
  have kk : Keep (· = p) w ((((w.setCell ⟨p, 3, none⟩ (.int .i64 0)).setCell ⟨p, 4, none⟩ (.int .i64 0)).setCell ⟨p, 5, none⟩ (.int .i64 0)).setCell ⟨p, 7, none⟩ (.int .i64 s.now)) :=
    ((((Keep.refl (· = p) w).setCell ⟨p, 3, none⟩ _ (fun _ => rfl)).setCell ⟨p, 4, none⟩ _ (fun _ => rfl)).setCell ⟨p, 5, none⟩ _ (fun _ => rfl)).setCell ⟨p, 7, none⟩ _ (fun _ => rfl)
  exact ⟨rfl, h.turn kk ((((h.obj.setCell 3 _).setCell 4 _).setCell 5 _).setCell 7 _) rfl, kk⟩
theorem idx_bef {x : Int} {l : List Int} {k : Nat} (h : k < l.idxOf x) : (x == l.getD k 0) = false := by
  induction l generalizing k with
  | nil => simp at h
  | cons y l ih =>
    rw [List.idxOf_cons] at h
    by_cases e : y = x
    · simp [e] at h
    · have e2 : (y == x) = false := by simpa using e
      rw [e2] at h
      cases k with
      | zero => simp; exact fun e' => e e'.symm
      | succ k =>
        simp at h
        simpa using ih (k := k) (by omega)
theorem splice_len {α : Type} (L : List α) (off : Nat) (cs : List α) (h : off + cs.length ≤ L.length) : (splice L off cs).length = L.length := by
  unfold splice
  simp
  omega
theorem index_is {n c : Nat} {xs : List Int} {B : Option Addr} (hr : Reads w B n (ints xs)) (hn : n ≤ 1000000) (x v : Int) (hv : (if x ∈ xs then ((xs.idxOf x : Nat) : Int) else -1) = v) :
    Calls Tryz.prog 80 #[.slice B n c, .int .i64 x] w fun e w' => e = .returned (.int .i64 v) ∧ w = w' := by
  have hl : xs.length = n := by have := hr.1; rwa [ints_len] at this
  rcases Nat.eq_zero_or_pos n with rfl | h0
  · obtain rfl : xs = [] := List.eq_nil_of_length_eq_zero hl
    simp at hv
    subst hv
    go_enter Tryz.func80, Tryz.ntmps80
    go_wp2
    go_loop [8] (fun s => s = .int .i64 0) (fun _ => 0)
    case atStart => rfl
    case round =>
      subst hrel
      go_wp2
      go_ret
      exact ⟨rfl, rfl⟩
  · obtain ⟨b, off, rfl, hc⟩ := hr.lit h0
    have hcell : ∀ j, j < n → w.cell? ⟨b, off + j, none⟩ = some (.int .i64 (xs.getD j 0)) := fun j hj => hc j _ (by rw [ints_get, List.getD_eq_getElem?_getD, List.getElem?_eq_getElem (by omega)]; rfl)
    have hbef : ∀ j, j < xs.idxOf x → (x == xs.getD j 0) = false := fun j hj => idx_bef hj
    have hle : xs.idxOf x ≤ n := by rw [← hl]; exact List.idxOf_le_length
    have hat : xs.idxOf x < n → (x == xs.getD (xs.idxOf x) 0) = true := fun hlt => by
      rw [List.getD_eq_getElem?_getD, List.getElem?_eq_getElem (by omega)]
      simp
    have hv2 : v = if xs.idxOf x < n then ((xs.idxOf x : Nat) : Int) else -1 := by
      rw [← hv]
      by_cases hm : x ∈ xs
      · rw [if_pos hm, if_pos (by rw [← hl]; exact List.idxOf_lt_length_of_mem hm)]
      · rw [if_neg hm, if_neg (by rw [← hl]; exact fun h => hm (by
          have := List.getElem_idxOf h
          rw [← this]
          exact List.getElem_mem _))]
    generalize xs.idxOf x = k at *
    have HV := Lib.hid hv2
    have HC := Lib.hid hcell
    have HB := Lib.hid hbef
    have HA := Lib.hid hat
    clear hv2 hv hcell hbef hat hc hr
    go_enter Tryz.func80, Tryz.ntmps80
    go_wp2
    go_loop [8] (fun s => ∃ j : Nat, j ≤ k ∧ s = .int .i64 j) (fun s => k - (intOf s).toNat)
    case atStart => exact ⟨0, Nat.zero_le _, rfl⟩
    case round =>
      obtain ⟨j, hj, rfl⟩ := hrel
      by_cases h : j < k
      · have hj2 : j < n := by omega
        have hc := HC.out j hj2
        have hb := HB.out j h
        generalize xs.getD j 0 = y at hc hb
        go_wp2
        go_round
        case rel => exact ⟨j + 1, by omega, by go_num⟩
        case measure => simp [intOf]; omega
      · obtain rfl : j = k := by omega
        by_cases hlt : j < n
        · have hc := HC.out j hlt
          have hb := HA.out hlt
          generalize xs.getD j 0 = y at hc hb
          have e := HV.out
          rw [if_pos hlt] at e
          subst e
          go_wp2
          go_ret
          exact ⟨rfl, rfl⟩
        · have e := HV.out
          rw [if_neg hlt] at e
          subst e
          go_wp2
          go_ret
          exact ⟨rfl, rfl⟩
theorem contains_is {n c : Nat} {xs : List Int} {B : Option Addr} (hr : Reads w B n (ints xs)) (hn : n ≤ 1000000) (x : Int) (v : Bool) (hv : decide (x ∈ xs) = v) :
    Calls Tryz.prog 57 #[.slice B n c, .int .i64 x] w fun e w' => e = .returned (.bool v) ∧ w = w' := by
  subst hv
  by_cases hm : x ∈ xs
  · rw [decide_eq_true hm]
    go_enter Tryz.func57, Tryz.ntmps57
    go_wp2_with fail
    refine (index_is hr hn x _ (if_pos hm)).mono ?_; rintro e w' ⟨rfl, rfl⟩
    go_wp2
    go_ret
    exact ⟨rfl, rfl⟩
  · rw [decide_eq_false hm]
    go_enter Tryz.func57, Tryz.ntmps57
    go_wp2_with fail
    refine (index_is hr hn x _ (if_neg hm)).mono ?_; rintro e w' ⟨rfl, rfl⟩
    go_wp2
    go_ret
    exact ⟨rfl, rfl⟩
def setAll (cs : List Value) : Nat → List Value → List Value
  | _, [] => cs
  | o, v :: r => setAll (cs.set o v) (o + 1) r
theorem _root_.Go.Proofs.YtompckcnpidbdaaGreat.Blk.setCells {g : Nat} {t : TypeId} : ∀ (vs : List Value) (o : Nat) (w : World) (cs : List Value), Blk w g t cs → Blk (w.setCells g o vs) g t (setAll cs o vs)
  | [], _, _, _, h => h
  | v :: r, o, w, cs, h => Blk.setCells r (o + 1) _ _ (h.setCell o v)
theorem _root_.Go.Proofs.YtompckcnpidbdaaGreat.Keep.setCells {M : Nat → Prop} {w0 : World} {g : Nat} : ∀ (vs : List Value) (o : Nat) (w : World), Keep M w0 w → (g < w0.heap.size → M g) → Keep M w0 (w.setCells g o vs)
  | [], _, _, h, _ => h
  | v :: r, o, w, h, hm => Keep.setCells r (o + 1) _ (h.setCell _ v hm) hm
theorem setAll_splice : ∀ (vs : List Value) (o : Nat) (cs : List Value), o + vs.length ≤ cs.length → setAll cs o vs = splice cs o vs
  | [], o, cs, _ => by simp [setAll, splice]
  | v :: r, o, cs, h => by
    rw [setAll, setAll_splice r (o + 1) (cs.set o v) (by simp at h ⊢; omega)]
    apply List.ext_getElem?
    intro i
    simp at h
    rw [splice_get _ _ _ (by simp; omega), splice_get _ _ _ (by simp; omega), List.getElem?_set]
    by_cases h1 : o + 1 ≤ i ∧ i < o + 1 + r.length
    · rw [if_pos h1, if_pos (by simp; omega), show i - o = (i - (o + 1)) + 1 from by omega, List.getElem?_cons_succ]
    · rw [if_neg h1]
      by_cases h2 : o = i
      · subst h2
        rw [if_pos rfl, if_pos (by omega), if_pos (by simp)]
        simp
      · rw [if_neg h2, if_neg (by simp; omega)]
set_option maxRecDepth 100000 in
set_option maxHeartbeats 4000000 in
theorem delete_is {g n cap i : Nat} {xs : List Int} (hv : Vec w 3 1 (some ⟨g, 0, none⟩) n cap (ints xs)) (hi : i < n) (j : Int) (hj : ((i + 1 : Nat) : Int) = j) :
    Calls Tryz.prog 111 #[.slice (some ⟨g, 0, none⟩) n cap, .int .i64 i, .int .i64 j] w fun e w' => e = .returned (.slice (some ⟨g, 0, none⟩) (n - 1) cap) ∧ Vec w' 3 1 (some ⟨g, 0, none⟩) (n - 1) cap (ints (xs.eraseIdx i)) ∧ Keep (· = g) w w' := by
  subst hj
  obtain ⟨i0, hi0, hz⟩ := Option.map_eq_some_iff.1 infointS
  simp only [Prod.mk.injEq] at hz
  have hlen : xs.length = n := by have := hv.len; simpa using this
  obtain ⟨g', cur, e, hb, hnc, hcl, ht⟩ := hv.at_ (by omega)
  simp only [Option.some.injEq, Addr.mk.injEq, and_true] at e
  subst e
  rw [Nat.mul_one] at ht hcl
  have hm : cap ≤ maxLen := by
    rcases hv.2 with ⟨he, _⟩ | ⟨g', cap', cur', he, _, _, _, h2, _⟩
    · simp at he
    · simp only [Value.slice.injEq, true_and] at he
      rw [he.2]; exact h2
  unfold maxLen at hm
  obtain ⟨news, hnews⟩ : ∃ news, news = (ints xs).drop (i + 1) := ⟨_, rfl⟩
  have hnl : news.length = n - (i + 1) := by rw [hnews]; simp [hlen]
  obtain ⟨B, hB, hsrc⟩ : ∃ B : Addr, (if cap = i + 1 then some (⟨g, 0, none⟩ : Addr) else some ⟨g, i + 1, none⟩) = some B ∧ (∀ t u, news[t]? = some u → w.drew.cell? (B.add t) = some u) := by
    by_cases hc : cap = i + 1
    · refine ⟨⟨g, 0, none⟩, by simp [hc], fun t u hu => ?_⟩
      rw [List.eq_nil_of_length_eq_zero (show news.length = 0 by omega)] at hu
      simp at hu
    · refine ⟨⟨g, i + 1, none⟩, by simp [hc], fun t u hu => ?_⟩
      rw [add_lit, (hb.drew).cell]
      have htl := (List.getElem?_eq_some_iff.1 hu).1
      rw [hnews, ← ht, List.getElem?_drop, List.getElem?_take, if_pos (by omega)] at hu
      exact hu
  have h1 : ∀ u ∈ news, u.oneCell' = true := fun u hu => ints_one xs u (by rw [hnews] at hu; exact List.mem_of_mem_drop hu)
  have hspare : ∀ t, t < news.length → (w.drew.cell? ⟨g, 0 + i * 1 + t, none⟩).isSome = true ∧ w.drew.frozen? ⟨g, 0 + i * 1 + t, none⟩ = false := fun t ht => by
    refine ⟨?_, hb.drew.frozen _⟩
    rw [hb.drew.cell, List.getElem?_eq_getElem (by omega)]
    rfl
  obtain ⟨W1, hW1⟩ : ∃ W1, W1 = w.drew.setCells g (0 + i * 1) news := ⟨_, rfl⟩
  have hb1 : Blk W1 g 3 (splice cur i news) := by
    rw [hW1, ← setAll_splice news i cur (by omega), show 0 + i * 1 = i from by omega]
    exact hb.drew.setCells news i
  have k1 : Keep (· = g) w W1 := by
    rw [hW1]
    exact ((Keep.refl _ w).drew).setCells news _ _ (fun _ => rfl)
  have hsl : (splice cur i news).length = cap := by rw [splice_len _ _ _ (by omega)]; exact hcl
  have hcl2 := fun ty => run_clear_row (P := Tryz.prog) W1 27 3 ty (.int .i64 0) 8 Tryz.underlying27 infointS rfl rfl g (i + (n - (i + 1))) (n - (i + (n - (i + 1)))) (cap - (i + (n - (i + 1)))) 3 (splice cur i news) hb1 (by omega)
  have hfin : Vec (W1.setRow g (splice (splice cur i news) (i + (n - (i + 1))) (List.replicate (n - (i + (n - (i + 1)))) (.int .i64 0))).toArray) 3 1 (some ⟨g, 0, none⟩) (n - 1) cap (ints (xs.eraseIdx i)) := by
    refine ⟨by simp [List.length_eraseIdx, hlen, hi], .inr ⟨g, cap, _, rfl, Nat.zero_le _, hb1.setRow _, by omega, by unfold maxLen; omega, ?_, ?_⟩⟩
    · simp only [List.size_toArray, Nat.mul_one]
      rw [splice_len _ _ _ (by simp; omega)]
      exact hsl
    · simp only [Nat.mul_one]
      have e1 := splice_before (splice cur i news) (i + (n - (i + 1))) (List.replicate (n - (i + (n - (i + 1)))) (Value.int .i64 0)) (by simp; omega) 0 (n - 1) (by omega)
      rw [List.drop_zero, List.drop_zero] at e1
      rw [e1]
      unfold splice
      have l1 : (cur.take i).length = i := by simp; omega
      rw [← List.append_assoc, List.take_append_of_le_length (by simp; omega), List.take_of_length_le (by simp; omega), List.eraseIdx_eq_take_drop_succ, ints_append, hnews]
      congr 1
      · rw [show cur.take i = (cur.take n).take i from by rw [List.take_take]; congr 1; omega, ht]
        simp [ints]
      · simp [ints]
  have k2 : Keep (· = g) w (W1.setRow g (splice (splice cur i news) (i + (n - (i + 1))) (List.replicate (n - (i + (n - (i + 1)))) (.int .i64 0))).toArray) := k1.setRow _ _ (fun _ => rfl)
  have HF := Lib.hid (And.intro hfin k2)
  have HW := Lib.hid hW1
  have hic : i ≤ cap := by omega
  have hjc : i + 1 ≤ cap := by omega
  have a1 : (0 : Int) ≤ (i : Int) + 1 := by omega
  have a2 : (i : Int) + 1 ≤ (n : Int) := by omega
  have HN := Lib.hid hnl
  have HS := Lib.hid hsrc
  have H1 := Lib.hid h1
  have HP := Lib.hid hspare
  clear hfin k2 hW1 k1 hb1 hsl hnl hsrc h1 hspare hnews ht hcl hb hv hlen
  go_enter Tryz.func111, Tryz.ntmps111
  go_wp2_with fail
  go_region_law (refine step_append_room rfl (.tmp 22) (.tmp 25) 27 rfl 3 i0 1 Tryz.underlying27 hi0 hz.2.1 g 0 i cap (by simp [Act.eval, Act.put]) B (n - (i + 1)) (cap - (i + 1)) news (by simp [Act.eval, Act.put]) (by rw [Nat.mul_one]; exact HN.out) HS.out H1.out (by omega) HP.out ?_; rw [← HW.out])
  go_wp2
  go_ret
  exact ⟨by rw [show n - 1 = i + (n - (i + 1)) from by omega]; rfl, HF.out.1, HF.out.2⟩
end
end Go.Proofs.YtompckcnpidbdaaGreat.Se
