/- Contracts of package kern: share: a region of a Share, and its Caps. -/
import Derived.Test.YtompckcnpidbdaaGreatKrn5
import Derived.Test.YtompckcnpidbdaaGreatKrn2
import Derived.Test.YtompckcnpidbdaaGreatReg1
namespace Go.Proofs.YtompckcnpidbdaaGreat
open Go.RowKit
set_option linter.unusedVariables false
set_option linter.unusedSimpArgs false
/-- A row of places: so many Caps, and behind them all is free. -/
def rowQ (l : List Cp) : List Q := l.map (fun c => ⟨1, true, c⟩) ++ List.replicate (32 - l.length) ⟨1, false, zcap⟩
def tOf (cs : Nat → List Cp) : St := fun e => rowQ (cs e)
theorem rowQ_in {l : List Cp} {i : Nat} {c : Cp} (h : l[i]? = some c) : (rowQ l)[i]? = some ⟨1, true, c⟩ := by
  unfold rowQ
  have := get_lt h
  rw [List.getElem?_append_left (by simpa using this), List.getElem?_map, h]
  rfl
theorem rowQ_out {l : List Cp} {i : Nat} (h : l.length ≤ i) (h2 : i < 32) : (rowQ l)[i]? = some ⟨1, false, zcap⟩ := by
  unfold rowQ
  rw [List.getElem?_append_right (by simpa using h), List.getElem?_replicate, if_pos (by simp; omega)]
theorem rowQ_len {l : List Cp} (h : l.length ≤ 32) : (rowQ l).length = 32 := by simp [rowQ]; omega
theorem rowQ_add {l : List Cp} (h : l.length < 32) (c : Cp) : (rowQ l).set l.length ⟨1, true, c⟩ = rowQ (l ++ [c]) := by
  obtain ⟨d, hd⟩ : ∃ d, 32 - l.length = d + 1 := ⟨31 - l.length, by omega⟩
  unfold rowQ
  rw [List.length_append, List.length_singleton, show 32 - (l.length + 1) = d by omega, hd, List.replicate_succ, List.set_append_right _ _ (by simp)]
  simp
/-- One more Cap for e. -/
def more (cs : Nat → List Cp) (e : Nat) (c : Cp) : Nat → List Cp := fun j => if j = e then cs e ++ [c] else cs j
theorem added_row {cs : Nat → List Cp} {n e : Nat} {c : Cp} {nm er : Int} {T' : St} (h : Added (tOf cs) n e c nm er T') (hl : (cs e).length < 32) : nm = ((cs e).length : Int) + 256 ∧ er = 0 ∧ T' = tOf (more cs e c) := by
  have hfree : (⟨1, false, zcap⟩ : Q).pl.free = true := by decide
  cases h with
  | full hb =>
    have := hb _ _ (rowQ_out (l := cs e) (Nat.le_refl _) hl)
    rw [hfree] at this
    cases this
  | put i q hq hf hb =>
    have hi : i = (cs e).length := by
      rcases Nat.lt_trichotomy i (cs e).length with h1 | h1 | h1
      · have h2 := rowQ_in (l := cs e) (List.getElem?_eq_getElem h1)
        have h3 : (tOf cs e)[i]? = (rowQ (cs e))[i]? := rfl
        rw [h3, h2] at hq
        cases hq
        cases hf
      · exact h1
      · have := hb _ _ h1 (rowQ_out (l := cs e) (Nat.le_refl _) hl)
        rw [hfree] at this
        cases this
    subst hi
    have h3 : (tOf cs e)[(cs e).length]? = (rowQ (cs e))[(cs e).length]? := rfl
    rw [h3, rowQ_out (Nat.le_refl _) hl] at hq
    cases hq
    refine ⟨by simp, rfl, ?_⟩
    funext j
    unfold up tOf more
    by_cases e1 : j = e
    · subst e1
      rw [if_pos rfl, if_pos rfl, rowQ_add hl]
    · rw [if_neg e1, if_neg e1]
theorem row_has {cs : Nat → List Cp} {n : Nat} (h32 : ∀ e, e < n → (cs e).length ≤ 32) (ρ : Rf) (c : Cp) : Has (tOf cs) n ρ c ↔ ∃ (e i : Nat), e < n ∧ ρ = ((e : Int), (i : Int) + 256) ∧ (cs e)[i]? = some c := by
  constructor
  · rintro ⟨e, i, q, h1, h2, h3, h4, h5⟩
    have h3' : (rowQ (cs e))[i]? = some q := h3
    rcases Nat.lt_or_ge i (cs e).length with h6 | h6
    · rw [rowQ_in (List.getElem?_eq_getElem h6)] at h3'
      cases h3'
      exact ⟨e, i, h2, by simpa using h1, by rw [List.getElem?_eq_getElem h6]; exact congrArg some h5⟩
    · have hi := get_lt h3'
      rw [rowQ_len (h32 e h2)] at hi
      rw [rowQ_out h6 hi] at h3'
      cases h3'
      cases h4
  · rintro ⟨e, i, h1, h2, h3⟩
    exact ⟨e, i, ⟨1, true, c⟩, by simpa using h2, h1, rowQ_in h3, rfl, rfl⟩
section
variable {w w' : World} {K : Kn}
/-- The spans were turned. -/
theorem IsKn.spans (h : IsKn w K) {A' : Option Addr} {cap' : Nat} {L' : List Rf} (hr : Reg w' K.q K.m K.mr K.s K.B K.envs.length K.p K.r A' cap' K.xs K.T L') (k : Keep (fun b => b = K.q ∨ Own K.A b) w w') : IsKn w' { K with A := A', cap := cap', L := L' } := by
  have hM : ∀ b, (b = K.q ∨ Own K.A b) → (∃ cs, Blk w b 126 cs) ∨ ∃ cs, Blk w b 149 cs := fun b m => m.elim (fun e => .inl (e ▸ ⟨_, h.reg.obj⟩)) (fun m => .inr (h.reg.row.blk m))
  have ob : ∀ {x : Nat} {u : TypeId} {cs : List Value}, Blk w x u cs → u ≠ 126 → u ≠ 149 → ¬ (fun b => b = K.q ∨ Own K.A b) x := fun hb h1 h2 m => by
    rcases hM _ m with ⟨c, hc⟩ | ⟨c, hc⟩
    · exact hb.ne_ hc h1 rfl
    · exact hb.ne_ hc h2 rfl
  have ov : ∀ {e sz n cap : Nat} {A : Option Addr} {xs : List Value}, Vec w e sz A n cap xs → e ≠ 126 → e ≠ 149 → ∀ g, Own A g → ¬ (fun b => b = K.q ∨ Own K.A b) g := fun hv h1 h2 g hg => by
    obtain ⟨c, hc⟩ := hv.blk hg
    exact ob hc h1 h2
  exact ⟨h.obj.keep k (ob h.obj (by decide) (by decide)), h.env.keep k (ov h.env (by decide) (by decide)), h.row.keep k (ov h.row (by decide) (by decide)), fun G hg => ⟨(h.sec G hg).1.keep k (ob (h.sec G hg).1.obj (by decide) (by decide)) (ov (h.sec G hg).1.row (by decide) (by decide)), (h.sec G hg).2.1, (h.sec G hg).2.2.keep k (ov (h.sec G hg).2.2 (by decide) (by decide))⟩,
    h.quo.keep k (ob h.quo.obj (by decide) (by decide)) (ov h.quo.row (by decide) (by decide)) (fun i hi => ob (h.quo.tab i hi) (by decide) (by decide)), hr, h.few, h.lit, h.dp, h.dq, h.de, h.dm⟩
/-- What share may turn. -/
def TurnS (K : Kn) : Nat → Prop := fun b => Rows_ K.envs.length K.r b ∨ b = K.q ∨ Own K.A b
/-- What the environments have when k of them have been asked. -/
def gave (cs : Nat → List Cp) (envs tos : List Int) (c : Cp) (k : Nat) : Nat → List Cp := fun e => if e < k ∧ envs.getD e 0 ∈ tos then cs e ++ [c] else cs e
theorem gave_zero (cs : Nat → List Cp) (envs tos : List Int) (c : Cp) : gave cs envs tos c 0 = cs := by
  funext e
  unfold gave
  rw [if_neg (by omega)]
theorem gave_yes {cs : Nat → List Cp} {envs tos : List Int} {c : Cp} {k : Nat} (h : envs.getD k 0 ∈ tos) : more (gave cs envs tos c k) k c = gave cs envs tos c (k + 1) := by
  funext e
  unfold more gave
  by_cases e1 : e = k
  · subst e1
    rw [if_pos rfl, if_neg (by omega), if_pos ⟨by omega, h⟩]
  · rw [if_neg e1]
    by_cases e2 : e < k ∧ envs.getD e 0 ∈ tos
    · rw [if_pos e2, if_pos ⟨by omega, e2.2⟩]
    · rw [if_neg e2, if_neg (fun h => e2 ⟨by omega, h.2⟩)]
theorem gave_no {cs : Nat → List Cp} {envs tos : List Int} {c : Cp} {k : Nat} (h : envs.getD k 0 ∉ tos) : gave cs envs tos c k = gave cs envs tos c (k + 1) := by
  funext e
  unfold gave
  by_cases e1 : e = k
  · subst e1
    rw [if_neg (by omega), if_neg (fun x => h x.2)]
  · by_cases e2 : e < k ∧ envs.getD e 0 ∈ tos
    · rw [if_pos e2, if_pos ⟨by omega, e2.2⟩]
    · rw [if_neg e2, if_neg (fun h => e2 ⟨by omega, h.2⟩)]
theorem IsKn.offS (h : IsKn w K) {g : Nat} {t : TypeId} {cs : List Value} (hb : Blk w g t cs) (h1 : t ≠ 144) (h2 : t ≠ 126) (h3 : t ≠ 149) (k : Keep (TurnS K) w w') : Blk w' g t cs := hb.keep k (fun m => by
  rcases m with ⟨i, hi, rfl⟩ | rfl | m
  · exact hb.ne_ (h.reg.sp.tab i hi).row h1 rfl
  · exact hb.ne_ h.reg.obj h2 rfl
  · obtain ⟨c, hc⟩ := h.reg.row.blk m
    exact hb.ne_ hc h3 rfl)
set_option maxRecDepth 100000 in
set_option maxHeartbeats 8000000 in
theorem kshare_is (h : IsKn w K) (cs : Nat → List Cp) (hT : K.T = tOf cs) (hcs : ∀ e, e < K.envs.length → (cs e).length ≤ K.L.length) (hL : K.L.length < 16) (s : Sh) (ht : Reads w s.A s.tos.length (ints s.tos)) (ht2 : s.tos.length ≤ 1000) (ah fr : Nat) (h1 : 0 ≤ s.frame) (h2 : s.frame ≤ fr) (h3 : 0 ≤ s.lo) (h4 : 0 ≤ s.n) (h6 : fr ≤ 64) (h7 : ah ≤ 256) (a : Int) (ha : ((ah : Int) + s.frame) * 64 + s.lo = a) (h5 : a + s.n ≤ K.xs.length) (hxs : K.xs.length ≤ 16384) (c : Cp) (hc : (⟨K.L.length, 3, 0, s.n, (0, 0)⟩ : Cp) = c) (hsep : ∀ W, Keep (TurnS K) w W → Reads W s.A s.tos.length (ints s.tos)) :
    Calls Tryz.prog 29 #[.pointer (some ⟨K.k, 0, none⟩), s.val, .agg #[.int .i64 ah, .int .i64 fr]] w fun e w' => e = .returned (.int .i64 0) ∧ ∃ A' cap', IsKn w' { K with A := A', cap := cap', L := K.L ++ [(a, s.n)], T := tOf (gave cs K.envs s.tos c K.envs.length) } ∧ Keep (TurnS K) w w' ∧ (∀ g, Own A' g → Own K.A g ∨ w.heap.size ≤ g) := by
  have k1 := ((Keep.refl Nob w).alloc (.cells #[.int .i64 s.ses, .int .i64 s.frame, .int .i64 s.lo, .int .i64 s.n, .slice s.A s.tos.length s.c] 53)).alloc (.cells #[.int .i64 ah, .int .i64 fr] 72)
  have b1 : Blk ((w.alloc (.cells #[.int .i64 s.ses, .int .i64 s.frame, .int .i64 s.lo, .int .i64 s.n, .slice s.A s.tos.length s.c] 53)).alloc (.cells #[.int .i64 ah, .int .i64 fr] 72)) w.heap.size 53 [.int .i64 s.ses, .int .i64 s.frame, .int .i64 s.lo, .int .i64 s.n, .slice s.A s.tos.length s.c] := (Blk.new w 53 _).alloc _
  have b2 : Blk ((w.alloc (.cells #[.int .i64 s.ses, .int .i64 s.frame, .int .i64 s.lo, .int .i64 s.n, .slice s.A s.tos.length s.c] 53)).alloc (.cells #[.int .i64 ah, .int .i64 fr] 72)) (w.heap.size + 1) 72 [.int .i64 ah, .int .i64 fr] := by
    have := Blk.new (w.alloc (.cells #[.int .i64 s.ses, .int .i64 s.frame, .int .i64 s.lo, .int .i64 s.n, .slice s.A s.tos.length s.c] 53)) 72 [.int .i64 ah, .int .i64 fr]
    simpa using this
  have hk1 := h.nob k1
  have ht1 := ht.nob k1
  have EV : s.val = (Value.agg #[.int .i64 s.ses, .int .i64 s.frame, .int .i64 s.lo, .int .i64 s.n, .slice s.A s.tos.length s.c]) := rfl
  rw [EV]
  clear EV
  have KK := Lib.hid (And.intro k1 (And.intro b1 (And.intro b2 (And.intro hk1 ht1))))
  clear k1 b1 b2 hk1 ht1
  go_enter Tryz.func29, Tryz.ntmps29
  go_wp2_with fail
  obtain ⟨k1, b1, b2, hk1, ht1⟩ := KK.out
  clear KK
  generalize hw1 : ((w.alloc (.cells #[.int .i64 s.ses, .int .i64 s.frame, .int .i64 s.lo, .int .i64 s.n, .slice s.A s.tos.length s.c] 53)).alloc (.cells #[.int .i64 ah, .int .i64 fr] 72)) = w1 at *
  have c5 := hk1.c5
  have c1 := hk1.c1
  have kd := Keep.nobdrew w1
  have hg := radd_yes (hk1.nob kd).reg (lo := a) (k := s.n) ⟨by omega, h4, h5⟩ (by omega)
  have sf : ∀ (K' : Kn) (W : World), IsKn W K' → K'.k = K.k → K'.q = K.q → Blk W w.heap.size 53 [.int .i64 s.ses, .int .i64 s.frame, .int .i64 s.lo, .int .i64 s.n, .slice s.A s.tos.length s.c] → Blk W (w.heap.size + 1) 72 [.int .i64 ah, .int .i64 fr] → W.cell? ⟨K.k, 5, none⟩ = some (.pointer (some ⟨K.q, 0, none⟩)) ∧ W.cell? ⟨w.heap.size + 1, 0, none⟩ = some (.int .i64 ah) ∧ W.cell? ⟨w.heap.size, 1, none⟩ = some (.int .i64 s.frame) ∧ W.cell? ⟨w.heap.size, 2, none⟩ = some (.int .i64 s.lo) ∧ W.cell? ⟨w.heap.size, 3, none⟩ = some (.int .i64 s.n) := by
    intro K' W hW e1 e2 u1 u2
    have c5 := hW.c5
    rw [e1, e2] at c5
    exact ⟨c5, u2.cell 0, u1.cell 1, u1.cell 2, u1.cell 3⟩
  have s0 := sf K _ (hk1.nob kd) rfl rfl (b1.nob kd) (b2.nob kd)
  have F : ∀ A' cap' W, Reg W K.q K.m K.mr K.s K.B K.envs.length K.p K.r A' cap' K.xs K.T (K.L ++ [(a, s.n)]) → Keep (fun b => b = K.q ∨ Own K.A b) w1.drew W → IsKn W { K with A := A', cap := cap', L := K.L ++ [(a, s.n)] } ∧ Blk W w.heap.size 53 [.int .i64 s.ses, .int .i64 s.frame, .int .i64 s.lo, .int .i64 s.n, .slice s.A s.tos.length s.c] ∧ Blk W (w.heap.size + 1) 72 [.int .i64 ah, .int .i64 fr] := by
    intro A' cap' W hR hk
    have hd := hk1.nob kd
    have off : ∀ {x : Nat} {u : TypeId} {cs : List Value}, Blk w1 x u cs → u ≠ 126 → u ≠ 149 → Blk W x u cs := fun hb e1 e2 => (hb.nob kd).keep hk (fun m => by
      rcases m with rfl | m
      · exact (hb.nob kd).ne_ hd.reg.obj e1 rfl
      · obtain ⟨c, hc⟩ := hd.reg.row.blk m
        exact (hb.nob kd).ne_ hc e2 rfl)
    exact ⟨hd.spans hR hk, off b1 (by decide) (by decide), off b2 (by decide) (by decide)⟩
  have sA : ∀ A' cap' W, Reg W K.q K.m K.mr K.s K.B K.envs.length K.p K.r A' cap' K.xs K.T (K.L ++ [(a, s.n)]) → Keep (fun b => b = K.q ∨ Own K.A b) w1.drew W → W.cell? ⟨K.k, 5, none⟩ = some (.pointer (some ⟨K.q, 0, none⟩)) ∧ W.cell? ⟨w.heap.size + 1, 0, none⟩ = some (.int .i64 ah) ∧ W.cell? ⟨w.heap.size, 1, none⟩ = some (.int .i64 s.frame) ∧ W.cell? ⟨w.heap.size, 2, none⟩ = some (.int .i64 s.lo) ∧ W.cell? ⟨w.heap.size, 3, none⟩ = some (.int .i64 s.n) := fun A' cap' W hR hk =>
    sf _ W (F A' cap' W hR hk).1 rfl rfl (F A' cap' W hR hk).2.1 (F A' cap' W hR hk).2.2
  have HF := Lib.hid F
  have hwr : IntKind.i64.wrap (IntKind.i64.wrap (IntKind.i64.wrap ((ah : Int) + s.frame) * 64) + s.lo) = a := by
    have w1 : IntKind.i64.wrap ((ah : Int) + s.frame) = ah + s.frame := by simp [IntKind.wrap, IntKind.bits, IntKind.signed]; omega
    have w2 : IntKind.i64.wrap (((ah : Int) + s.frame) * 64) = (ah + s.frame) * 64 := by simp [IntKind.wrap, IntKind.bits, IntKind.signed]; omega
    have w3 : IntKind.i64.wrap (((ah : Int) + s.frame) * 64 + s.lo) = (ah + s.frame) * 64 + s.lo := by simp [IntKind.wrap, IntKind.bits, IntKind.signed]; omega
    rw [w1, w2, w3, ha]
  have HW := Lib.hid hwr
  have HA := Lib.hid (And.intro ha h5)
  have HCC := Lib.hid hc
  clear hc
  have HT := Lib.hid hT
  have HC := Lib.hid hcs
  have HK := Lib.hid (And.intro k1 (And.intro ht1 h))
  have HT0 := Lib.hid (And.intro ht hsep)
  clear hsep
  clear hwr ha h5 F hT hcs k1 ht1 h hk1 b1 b2 sf hw1 ht c1 c5
  go_region_held3 (fun w' => w'.cell? ⟨K.k, 5, none⟩ = some (.pointer (some ⟨K.q, 0, none⟩)) ∧ w'.cell? ⟨w.heap.size + 1, 0, none⟩ = some (.int .i64 ah) ∧ w'.cell? ⟨w.heap.size, 1, none⟩ = some (.int .i64 s.frame) ∧ w'.cell? ⟨w.heap.size, 2, none⟩ = some (.int .i64 s.lo) ∧ w'.cell? ⟨w.heap.size, 3, none⟩ = some (.int .i64 s.n))
    (first | exact s0 | exact sA _ _ _ hR2 hk2)
    (first | (go_at_call 56; rw [HW.out]; refine hg.mono ?_; rintro e w2 ⟨A', cap', rfl, hR2, hk2, ho2⟩))
  obtain ⟨hK2, u1, u2⟩ := HF.out _ _ _ hR2 hk2
  have kW : Keep (TurnS K) w w2 := ((HK.out.1.trans kd (fun _ _ f => f)).mono (fun _ _ f => f.elim)).trans hk2 (fun b hb m => .inr m)
  have hoW : ∀ g, Own A' g → Own K.A g ∨ w.heap.size ≤ g := fun g hg => (ho2 g hg).imp id (fun e => by have := HK.out.1.size; have : w1.heap.size ≤ g := e; omega)
  have HG := Lib.hid (And.intro hoW (And.intro h2 (And.intro h6 h7)))
  clear hR2 hk2 ho2 hg s0 sA HF hoW h2 h6 h7 kd
  have c1 := hK2.c1
  have n40 := hK2.reg.inv.n40
  have z4 : w2.cell? ⟨w.heap.size, 4, none⟩ = some (.slice s.A s.tos.length s.c) := u1.cell 4
  dsimp only at c1 n40
  obtain ⟨E, hE⟩ : ∃ E, K.envs.length = E := ⟨_, rfl⟩
  have HE := Lib.hid hE
  rw [hE] at c1 n40
  clear hE
  have start : IsKn w2 { K with A := A', cap := cap', L := K.L ++ [(a, s.n)], T := tOf (gave cs K.envs s.tos c 0) } := by
    rw [gave_zero, ← HT.out]
    exact hK2
  have kT : Keep (TurnS K) w2 w2 := Keep.refl _ _
  clear hK2
  by_cases hE0 : E = 0
  · subst hE0
    go_wp2_with fail
    go_loopw [40] (fun s40 wx => ∃ k : Nat, k ≤ 0 ∧ s40 = .int .i64 k ∧ IsKn wx { K with A := A', cap := cap', L := K.L ++ [(a, s.n)], T := tOf (gave cs K.envs s.tos c k) } ∧ Blk wx w.heap.size 53 [.int .i64 s.ses, .int .i64 s.frame, .int .i64 s.lo, .int .i64 s.n, .slice s.A s.tos.length s.c] ∧ Keep (TurnS K) w wx) (fun s40 _ => 0 - (intOf s40).toNat)
    case atStart => exact ⟨0, Nat.zero_le _, rfl, start, u1, kW⟩
    case round =>
      obtain ⟨k, hk, rfl, hX, hu, hKK⟩ := hrel
      clear start u1 u2 kW kT z4
      obtain rfl : k = 0 := by omega
      have fin := hX
      rw [← HE.out] at fin
      go_wp2
      go_ret
      exact ⟨rfl, A', cap', fin, hKK, HG.out.1⟩
  obtain ⟨ge, hge, -⟩ := start.env_at (i := 0) (by dsimp only; rw [HE.out]; omega)
  dsimp only at hge
  have HGE := Lib.hid hge
  rw [hge] at c1
  clear hge
  go_wp2_with fail
  go_loopw [40] (fun s40 wx => ∃ k : Nat, k ≤ E ∧ s40 = .int .i64 k ∧ IsKn wx { K with A := A', cap := cap', L := K.L ++ [(a, s.n)], T := tOf (gave cs K.envs s.tos c k) } ∧ Blk wx w.heap.size 53 [.int .i64 s.ses, .int .i64 s.frame, .int .i64 s.lo, .int .i64 s.n, .slice s.A s.tos.length s.c] ∧ Keep (TurnS K) w wx) (fun s40 _ => E - (intOf s40).toNat)
  case atStart => exact ⟨0, Nat.zero_le _, rfl, start, u1, kW⟩
  case round =>
    obtain ⟨k, hk, rfl, hX, hu, hKK⟩ := hrel
    clear start u1 u2 kW kT z4
    by_cases hlt : k < E
    · obtain ⟨ge2, hge2, hce⟩ := hX.env_at (i := k) (by dsimp only; rw [HE.out]; exact hlt)
      dsimp only at hge2 hce
      rw [HGE.out] at hge2
      have he2 : ge2 = ge := by simpa using hge2.symm
      subst he2
      clear hge2
      obtain ⟨ss, hss⟩ : ∃ ss, K.envs.getD k 0 = ss := ⟨_, rfl⟩
      rw [hss] at hce
      have HSS := Lib.hid hss
      have hrd := HT0.out.2 _ hKK
      have hkE : k < K.envs.length := by rw [HE.out]; exact hlt
      have HKE := Lib.hid hkE
      clear hss hkE
      have z4 : wr.cell? ⟨w.heap.size, 4, none⟩ = some (.slice s.A s.tos.length s.c) := hu.cell 4
      by_cases hm : ss ∈ s.tos
      · have hcl : (gave cs K.envs s.tos c k k).length < 32 := by
          have h1 : gave cs K.envs s.tos c k k = cs k := by unfold gave; rw [if_neg (by omega)]
          rw [h1]
          have := HC.out k HKE.out
          omega
        have kd := Keep.nobdrew wr
        have hXd := hX.nob kd
        have hp := put_yes (c := ⟨K.L.length, 3, 0, s.n, (0, 0)⟩) hXd.reg.sp (e := k) HKE.out ⟨by omega, by dsimp only; have := HKE.out; omega, by dsimp only; decide, by dsimp only; decide, by dsimp only; decide, by dsimp only; omega, by dsimp only; have := HA.out; omega⟩
        simp only [cval] at hp
        have sP : ∀ W, Keep (· = K.r k) wr.drew W → W.cell? ⟨K.k, 4, none⟩ = some (.pointer (some ⟨K.s, 0, none⟩)) ∧ W.cell? ⟨w.heap.size, 3, none⟩ = some (.int .i64 s.n) := fun W kk => by
          have row := (hXd.reg.sp.tab k HKE.out).row
          dsimp only at row
          have o1 := hXd.obj.keep kk (hXd.obj.ne_ row (by decide))
          have o2 := (hu.nob kd).keep kk ((hu.nob kd).ne_ row (by decide))
          exact ⟨o1.cell 4, o2.cell 3⟩
        have sU : ∀ W, Keep (· = K.r k) wr.drew W → Blk W w.heap.size 53 [.int .i64 s.ses, .int .i64 s.frame, .int .i64 s.lo, .int .i64 s.n, .slice s.A s.tos.length s.c] := fun W kk => by
          have row := (hXd.reg.sp.tab k HKE.out).row
          dsimp only at row
          exact (hu.nob kd).keep kk ((hu.nob kd).ne_ row (by decide))
        have s0 := sP wr.drew (Keep.refl _ _)
        have HX := Lib.hid (And.intro hX (And.intro hXd hKK))
        have SU := Lib.hid sU
        clear hX hXd hKK hu sU
        go_wp2_with fail
        refine (Se.contains_is hrd (by omega) ss true (by simpa using hm)).mono ?_; rintro e w3 ⟨rfl, rfl⟩
        go_wp2_with fail
        go_region_held3 (fun w' => w'.cell? ⟨K.k, 4, none⟩ = some (.pointer (some ⟨K.s, 0, none⟩)) ∧ w'.cell? ⟨w.heap.size, 3, none⟩ = some (.int .i64 s.n))
          (first | exact s0 | exact sP _ hk3)
          (first | (go_at_call 58; refine hp.mono ?_; rintro e w3 ⟨nm, er, T', rfl, hAdd, hS3, hk3⟩))
        obtain ⟨rfl, rfl, rfl⟩ := added_row hAdd hcl
        have hin := hAdd.inv HX.out.2.1.reg.inv HKE.out ⟨by dsimp only; decide, by dsimp only; decide, by dsimp only; decide, h4, by dsimp only; have := HA.out; omega⟩ (.inl rfl)
        have hto := HX.out.2.1.space hS3 hin (hk3.rows HKE.out)
        rw [HCC.out, gave_yes (by rw [HSS.out]; exact hm)] at hto
        have hKn := (HX.out.2.2.trans ((Keep.nobdrew wr).mono (M' := TurnS K) (fun _ _ f => f.elim)) (fun _ _ m => m)).trans hk3 (fun b _ m => .inl ⟨k, HKE.out, m⟩)
        have FI := Lib.hid (And.intro hto.is (And.intro (SU.out _ hk3) hKn))
        clear hto hKn hin hS3 hk3 hAdd s0 sP hp
        go_wp2_with fail
        go_roundw
        case rel => exact ⟨k + 1, by omega, by go_num, FI.out.1, FI.out.2.1, FI.out.2.2⟩
        case measure => simp [intOf]; omega
      · have hno := gave_no (cs := cs) (envs := K.envs) (tos := s.tos) (c := c) (k := k) (by rw [HSS.out]; exact hm)
        rw [hno] at hX
        have FI := Lib.hid (And.intro hX (And.intro hu hKK))
        clear hX hu hKK hno
        go_wp2_with fail
        refine (Se.contains_is hrd (by omega) ss false (by simpa using hm)).mono ?_; rintro e w3 ⟨rfl, rfl⟩
        go_wp2_with fail
        go_roundw
        case rel => exact ⟨k + 1, by omega, by go_num, FI.out.1, FI.out.2.1, FI.out.2.2⟩
        case measure => simp [intOf]; omega
    · obtain rfl : k = E := by omega
      have fin := hX
      rw [← HE.out] at fin
      go_wp2
      go_ret
      exact ⟨rfl, A', cap', fin, hKK, HG.out.1⟩
end
end Go.Proofs.YtompckcnpidbdaaGreat
