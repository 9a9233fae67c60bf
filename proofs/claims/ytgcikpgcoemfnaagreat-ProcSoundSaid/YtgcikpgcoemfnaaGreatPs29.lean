import Derived.Test.YtgcikpgcoemfnaaGreatPs21
import Derived.Test.YtgcikpgcoemfnaaGreatPs28
import Derived.Test.YtgcikpgcoemfnaaGreatPs27
import Derived.Test.YtgcikpgcoemfnaaGreatPs25
set_option maxRecDepth 100000
set_option maxHeartbeats 8000000
set_option linter.unusedVariables false
set_option linter.unusedSimpArgs false
namespace Go.Proofs.YtgcikpgcoemfnaaGreat
open Go.RowKit
def el (l : List Cp) : List Q := l.map (fun c => ⟨1, true, c⟩) ++ List.replicate (32 - l.length) ⟨1, false, cX⟩
def tOf (cs : Nat → List Cp) : St := fun e => el (cs e)
theorem iz {l : List Cp} {i : Nat} {c : Cp} (h : l[i]? = some c) : (el l)[i]? = some ⟨1, true, c⟩ := by
 unfold el
 have := aP h
 rw [List.getElem?_append_left (by simpa using this), List.getElem?_map, h]
 rfl
theorem fH {l : List Cp} {i : Nat} (h : l.length ≤ i) (h2 : i < 32) : (el l)[i]? = some ⟨1, false, cX⟩ := by
 unfold el
 rw [List.getElem?_append_right (by simpa using h), List.getElem?_replicate, if_pos (by simp; omega)]
theorem kh {l : List Cp} (h : l.length ≤ 32) : (el l).length = 32 := by simp [el]; omega
theorem rowQ_add {l : List Cp} (h : l.length < 32) (c : Cp) : (el l).set l.length ⟨1, true, c⟩ = el (l ++ [c]) := by
 obtain ⟨d, hd⟩ : ∃ d, 32 - l.length = d + 1 := ⟨31 - l.length, by omega⟩
 unfold el
 rw [List.length_append, List.length_singleton, show 32 - (l.length + 1) = d by omega, hd, List.replicate_succ, List.set_append_right _ _ (by simp)]
 simp
def more (cs : Nat → List Cp) (e : Nat) (c : Cp) : Nat → List Cp := fun j => if j = e then cs e ++ [c] else cs j
theorem added_row {cs : Nat → List Cp} {n e : Nat} {c : Cp} {nm er : Int} {T' : St} (h : iE (tOf cs) n e c nm er T') (hl : (cs e).length < 32) : nm = ((cs e).length : Int) + 256 ∧ er = 0 ∧ T' = tOf (more cs e c) := by
 have hfree : (⟨1, false, cX⟩ : Q).pl.free = true := by decide
 cases h with
 | full hb =>
  have := hb _ _ (fH (l := cs e) (Nat.le_refl _) hl)
  rw [hfree] at this
  cases this
 | put i q hq hf hb =>
  have hi : i = (cs e).length := by
   rcases Nat.lt_trichotomy i (cs e).length with h1 | h1 | h1
   ·have h2 := iz (l := cs e) (List.getElem?_eq_getElem h1)
    have h3 : (tOf cs e)[i]? = (el (cs e))[i]? := rfl
    rw [h3, h2] at hq
    cases hq
    cases hf
   ·exact h1
   ·have := hb _ _ h1 (fH (l := cs e) (Nat.le_refl _) hl)
    rw [hfree] at this
    cases this
  subst hi
  have h3 : (tOf cs e)[(cs e).length]? = (el (cs e))[(cs e).length]? := rfl
  rw [h3, fH (Nat.le_refl _) hl] at hq
  cases hq
  refine ⟨by simp, rfl, ?_⟩
  funext j
  unfold up tOf more
  by_cases e1 : j = e
  ·subst e1
   rw [if_pos rfl, if_pos rfl, rowQ_add hl]
  ·rw [if_neg e1, if_neg e1]
theorem row_has {cs : Nat → List Cp} {n : Nat} (h32 : ∀ e, e < n → (cs e).length ≤ 32) (ρ : Rf) (c : Cp) : Has (tOf cs) n ρ c ↔ ∃ (e i : Nat), e < n ∧ ρ = ((e : Int), (i : Int) + 256) ∧ (cs e)[i]? = some c := by
 constructor
 ·rintro ⟨e, i, q, h1, h2, h3, h4, h5⟩
  have h3' : (el (cs e))[i]? = some q := h3
  rcases Nat.lt_or_ge i (cs e).length with h6 | h6
  ·rw [iz (List.getElem?_eq_getElem h6)] at h3'
   cases h3'
   exact ⟨e, i, h2, by simpa using h1, by rw [List.getElem?_eq_getElem h6]; exact congrArg some h5⟩
  ·have hi := aP h3'
   rw [kh (h32 e h2)] at hi
   rw [fH h6 hi] at h3'
   cases h3'
   cases h4
 ·rintro ⟨e, i, h1, h2, h3⟩
  exact ⟨e, i, ⟨1, true, c⟩, by simpa using h2, h1, iz h3, rfl, rfl⟩
section
variable {w w' : World} {K : Kn}
theorem aK.spans (h : aK w K) {A' : Option Addr} {cap' : Nat} {L' : List Rf} (hr : Reg w' K.q K.m K.mr K.s K.B K.envs.length K.p K.r A' cap' K.xs K.T L') (k : Keep (fun b => b = K.q ∨ Own K.A b) w w') : aK w' { K with A := A', cap := cap', L := L' } := by
 have hM : ∀ b, (b = K.q ∨ Own K.A b) → (∃ cs, Blk w b 125 cs) ∨ ∃ cs, Blk w b 121 cs := fun b m => m.elim (fun e => .inl (e ▸ ⟨_, h.reg.obj⟩)) (fun m => .inr (h.reg.row.blk m))
 have ob : ∀ {x : Nat} {u : TypeId} {cs : List Value}, Blk w x u cs → u ≠ 125 → u ≠ 121 → ¬ (fun b => b = K.q ∨ Own K.A b) x := fun hb h1 h2 m => by
  rcases hM _ m with ⟨c, hc⟩ | ⟨c, hc⟩
  ·exact hb.ne_ hc h1 rfl
  ·exact hb.ne_ hc h2 rfl
 have ov : ∀ {e sz n cap : Nat} {A : Option Addr} {xs : List Value}, Vec w e sz A n cap xs → e ≠ 125 → e ≠ 121 → ∀ g, Own A g → ¬ (fun b => b = K.q ∨ Own K.A b) g := fun hv h1 h2 g hg => by
  obtain ⟨c, hc⟩ := hv.blk hg
  exact ob hc h1 h2
 exact ⟨h.obj.keep k (ob h.obj (by decide) (by decide)), h.env.keep k (ov h.env (by decide) (by decide)), h.row.keep k (ov h.row (by decide) (by decide)), fun G hg => ⟨(h.sec G hg).1.keep k (ob (h.sec G hg).1.obj (by decide) (by decide)) (ov (h.sec G hg).1.row (by decide) (by decide)), (h.sec G hg).2.1, (h.sec G hg).2.2.keep k (ov (h.sec G hg).2.2 (by decide) (by decide))⟩,
  h.quo.keep k (ob h.quo.obj (by decide) (by decide)) (ov h.quo.row (by decide) (by decide)) (fun i hi => ob (h.quo.tab i hi) (by decide) (by decide)), hr, h.few, h.lit, h.dp, h.dq, h.de, h.dm⟩
def gW (K : Kn) : Nat → Prop := fun b => gZ K.envs.length K.r b ∨ b = K.q ∨ Own K.A b
def dH (cs : Nat → List Cp) (envs tos : List Int) (c : Cp) (k : Nat) : Nat → List Cp := fun e => if e < k ∧ envs.getD e 0 ∈ tos then cs e ++ [c] else cs e
theorem gave_zero (cs : Nat → List Cp) (envs tos : List Int) (c : Cp) : dH cs envs tos c 0 = cs := by
 funext e
 unfold dH
 rw [if_neg (by omega)]
theorem gave_yes {cs : Nat → List Cp} {envs tos : List Int} {c : Cp} {k : Nat} (h : envs.getD k 0 ∈ tos) : more (dH cs envs tos c k) k c = dH cs envs tos c (k + 1) := by
 funext e
 unfold more dH
 by_cases e1 : e = k
 ·subst e1
  rw [if_pos rfl, if_neg (by omega), if_pos ⟨by omega, h⟩]
 ·rw [if_neg e1]
  by_cases e2 : e < k ∧ envs.getD e 0 ∈ tos
  ·rw [if_pos e2, if_pos ⟨by omega, e2.2⟩]
  ·rw [if_neg e2, if_neg (fun h => e2 ⟨by omega, h.2⟩)]
theorem gave_no {cs : Nat → List Cp} {envs tos : List Int} {c : Cp} {k : Nat} (h : envs.getD k 0 ∉ tos) : dH cs envs tos c k = dH cs envs tos c (k + 1) := by
 funext e
 unfold dH
 by_cases e1 : e = k
 ·subst e1
  rw [if_neg (by omega), if_neg (fun x => h x.2)]
 ·by_cases e2 : e < k ∧ envs.getD e 0 ∈ tos
  ·rw [if_pos e2, if_pos ⟨by omega, e2.2⟩]
  ·rw [if_neg e2, if_neg (fun h => e2 ⟨by omega, h.2⟩)]
theorem aK.offS (h : aK w K) {g : Nat} {t : TypeId} {cs : List Value} (hb : Blk w g t cs) (h1 : t ≠ 372) (h2 : t ≠ 125) (h3 : t ≠ 121) (k : Keep (gW K) w w') : Blk w' g t cs := hb.keep k (fun m => by
 rcases m with ⟨i, hi, rfl⟩ | rfl | m
 ·exact hb.ne_ (h.reg.sp.tab i hi).row h1 rfl
 ·exact hb.ne_ h.reg.obj h2 rfl
 ·obtain ⟨c, hc⟩ := h.reg.row.blk m
  exact hb.ne_ hc h3 rfl)
theorem kshare_is (h : aK w K) (cs : Nat → List Cp) (hT : K.T = tOf cs) (hcs : ∀ e, e < K.envs.length → (cs e).length ≤ K.L.length) (hL : K.L.length < 16) (s : Sh) (ht : ae w s.A s.tos.length (ab s.tos)) (ht2 : s.tos.length ≤ 1000) (ah fr : Nat) (h1 : 0 ≤ s.frame) (h2 : s.frame ≤ fr) (h3 : 0 ≤ s.lo) (h4 : 0 ≤ s.n) (h6 : fr ≤ 64) (h7 : ah ≤ 256) (a : Int) (ha : ((ah : Int) + s.frame) * 64 + s.lo = a) (h5 : a + s.n ≤ K.xs.length) (hxs : K.xs.length ≤ 16384) (c : Cp) (hc : (⟨K.L.length, 3, 0, s.n, (0, 0)⟩ : Cp) = c) (hsep : ∀ W, Keep (gW K) w W → ae W s.A s.tos.length (ab s.tos)) :
  Calls Tryz.prog 160 #[.pointer (some ⟨K.k, 0, none⟩), s.val, .agg #[.int .i64 ah, .int .i64 fr]] w fun e w' => e = .returned (.int .i64 0) ∧ ∃ A' cap', aK w' { K with A := A', cap := cap', L := K.L ++ [(a, s.n)], T := tOf (dH cs K.envs s.tos c K.envs.length) } ∧ Keep (gW K) w w' ∧ (∀ g, Own A' g → Own K.A g ∨ w.heap.size ≤ g) := by
 have k1 := ((Keep.refl Nob w).alloc (.cells #[.int .i64 s.ses, .int .i64 s.frame, .int .i64 s.lo, .int .i64 s.n, .slice s.A s.tos.length s.c] 230)).alloc (.cells #[.int .i64 ah, .int .i64 fr] 236)
 have b1 : Blk ((w.alloc (.cells #[.int .i64 s.ses, .int .i64 s.frame, .int .i64 s.lo, .int .i64 s.n, .slice s.A s.tos.length s.c] 230)).alloc (.cells #[.int .i64 ah, .int .i64 fr] 236)) w.heap.size 230 [.int .i64 s.ses, .int .i64 s.frame, .int .i64 s.lo, .int .i64 s.n, .slice s.A s.tos.length s.c] := (Blk.new w 230 _).alloc _
 have b2 : Blk ((w.alloc (.cells #[.int .i64 s.ses, .int .i64 s.frame, .int .i64 s.lo, .int .i64 s.n, .slice s.A s.tos.length s.c] 230)).alloc (.cells #[.int .i64 ah, .int .i64 fr] 236)) (w.heap.size + 1) 236 [.int .i64 ah, .int .i64 fr] := by
  have := Blk.new (w.alloc (.cells #[.int .i64 s.ses, .int .i64 s.frame, .int .i64 s.lo, .int .i64 s.n, .slice s.A s.tos.length s.c] 230)) 236 [.int .i64 ah, .int .i64 fr]
  simpa using this
 have hk1 := h.nob k1
 have ht1 := ht.nob k1
 have EV : s.val = (Value.agg #[.int .i64 s.ses, .int .i64 s.frame, .int .i64 s.lo, .int .i64 s.n, .slice s.A s.tos.length s.c]) := rfl
 rw [EV]
 clear EV
 have KK := aa (And.intro k1 (And.intro b1 (And.intro b2 (And.intro hk1 ht1))))
 clear k1 b1 b2 hk1 ht1
 go_enter Tryz.func160, Tryz.ntmps160
 go_wp2_with fail
 obtain ⟨k1, b1, b2, hk1, ht1⟩ := KK.out
 clear KK
 generalize hw1 : ((w.alloc (.cells #[.int .i64 s.ses, .int .i64 s.frame, .int .i64 s.lo, .int .i64 s.n, .slice s.A s.tos.length s.c] 230)).alloc (.cells #[.int .i64 ah, .int .i64 fr] 236)) = w1 at *
 have c5 := hk1.c5
 have c1 := hk1.c1
 have kd := Keep.nobdrew w1
 have hg := radd_yes (hk1.nob kd).reg (lo := a) (k := s.n) ⟨by omega, h4, h5⟩ (by omega)
 have sf : ∀ (K' : Kn) (W : World), aK W K' → K'.k = K.k → K'.q = K.q → Blk W w.heap.size 230 [.int .i64 s.ses, .int .i64 s.frame, .int .i64 s.lo, .int .i64 s.n, .slice s.A s.tos.length s.c] → Blk W (w.heap.size + 1) 236 [.int .i64 ah, .int .i64 fr] → W.cell? ⟨K.k, 5, none⟩ = some (.pointer (some ⟨K.q, 0, none⟩)) ∧ W.cell? ⟨w.heap.size + 1, 0, none⟩ = some (.int .i64 ah) ∧ W.cell? ⟨w.heap.size, 1, none⟩ = some (.int .i64 s.frame) ∧ W.cell? ⟨w.heap.size, 2, none⟩ = some (.int .i64 s.lo) ∧ W.cell? ⟨w.heap.size, 3, none⟩ = some (.int .i64 s.n) := by
  intro K' W hW e1 e2 u1 u2
  have c5 := hW.c5
  rw [e1, e2] at c5
  exact ⟨c5, u2.cell 0, u1.cell 1, u1.cell 2, u1.cell 3⟩
 have s0 := sf K _ (hk1.nob kd) rfl rfl (b1.nob kd) (b2.nob kd)
 have F : ∀ A' cap' W, Reg W K.q K.m K.mr K.s K.B K.envs.length K.p K.r A' cap' K.xs K.T (K.L ++ [(a, s.n)]) → Keep (fun b => b = K.q ∨ Own K.A b) w1.drew W → aK W { K with A := A', cap := cap', L := K.L ++ [(a, s.n)] } ∧ Blk W w.heap.size 230 [.int .i64 s.ses, .int .i64 s.frame, .int .i64 s.lo, .int .i64 s.n, .slice s.A s.tos.length s.c] ∧ Blk W (w.heap.size + 1) 236 [.int .i64 ah, .int .i64 fr] := by
  intro A' cap' W hR hk
  have hd := hk1.nob kd
  have off : ∀ {x : Nat} {u : TypeId} {cs : List Value}, Blk w1 x u cs → u ≠ 125 → u ≠ 121 → Blk W x u cs := fun hb e1 e2 => (hb.nob kd).keep hk (fun m => by
   rcases m with rfl | m
   ·exact (hb.nob kd).ne_ hd.reg.obj e1 rfl
   ·obtain ⟨c, hc⟩ := hd.reg.row.blk m
    exact (hb.nob kd).ne_ hc e2 rfl)
  exact ⟨hd.spans hR hk, off b1 (by decide) (by decide), off b2 (by decide) (by decide)⟩
 have sA : ∀ A' cap' W, Reg W K.q K.m K.mr K.s K.B K.envs.length K.p K.r A' cap' K.xs K.T (K.L ++ [(a, s.n)]) → Keep (fun b => b = K.q ∨ Own K.A b) w1.drew W → W.cell? ⟨K.k, 5, none⟩ = some (.pointer (some ⟨K.q, 0, none⟩)) ∧ W.cell? ⟨w.heap.size + 1, 0, none⟩ = some (.int .i64 ah) ∧ W.cell? ⟨w.heap.size, 1, none⟩ = some (.int .i64 s.frame) ∧ W.cell? ⟨w.heap.size, 2, none⟩ = some (.int .i64 s.lo) ∧ W.cell? ⟨w.heap.size, 3, none⟩ = some (.int .i64 s.n) := fun A' cap' W hR hk =>
  sf _ W (F A' cap' W hR hk).1 rfl rfl (F A' cap' W hR hk).2.1 (F A' cap' W hR hk).2.2
 have HF := aa F
 have hwr : IntKind.i64.wrap (IntKind.i64.wrap (IntKind.i64.wrap ((ah : Int) + s.frame) * 64) + s.lo) = a := by
  have w1 : IntKind.i64.wrap ((ah : Int) + s.frame) = ah + s.frame := by simp [IntKind.wrap, IntKind.bits, IntKind.signed]; omega
  have w2 : IntKind.i64.wrap (((ah : Int) + s.frame) * 64) = (ah + s.frame) * 64 := by simp [IntKind.wrap, IntKind.bits, IntKind.signed]; omega
  have w3 : IntKind.i64.wrap (((ah : Int) + s.frame) * 64 + s.lo) = (ah + s.frame) * 64 + s.lo := by simp [IntKind.wrap, IntKind.bits, IntKind.signed]; omega
  rw [w1, w2, w3, ha]
 have HW := aa hwr
 have HA := aa (And.intro ha h5)
 have HCC := aa hc
 clear hc
 have HT := aa hT
 have HC := aa hcs
 have HK := aa (And.intro k1 (And.intro ht1 h))
 have HT0 := aa (And.intro ht hsep)
 clear hsep
 clear hwr ha h5 F hT hcs k1 ht1 h hk1 b1 b2 sf hw1 ht c1 c5
 go_region_held3 (fun w' => w'.cell? ⟨K.k, 5, none⟩ = some (.pointer (some ⟨K.q, 0, none⟩)) ∧ w'.cell? ⟨w.heap.size + 1, 0, none⟩ = some (.int .i64 ah) ∧ w'.cell? ⟨w.heap.size, 1, none⟩ = some (.int .i64 s.frame) ∧ w'.cell? ⟨w.heap.size, 2, none⟩ = some (.int .i64 s.lo) ∧ w'.cell? ⟨w.heap.size, 3, none⟩ = some (.int .i64 s.n))
  (first | exact s0 | exact sA _ _ _ hR2 hk2)
  (first | (go_at_call 263; rw [HW.out]; refine hg.mono ?_; rintro e w2 ⟨A', cap', rfl, hR2, hk2, ho2⟩))
 obtain ⟨hK2, u1, u2⟩ := HF.out _ _ _ hR2 hk2
 have kW : Keep (gW K) w w2 := ((HK.out.1.trans kd (fun _ _ f => f)).mono (fun _ _ f => f.elim)).trans hk2 (fun b hb m => .inr m)
 have hoW : ∀ g, Own A' g → Own K.A g ∨ w.heap.size ≤ g := fun g hg => (ho2 g hg).imp id (fun e => by have := HK.out.1.size; have : w1.heap.size ≤ g := e; omega)
 have HG := aa (And.intro hoW (And.intro h2 (And.intro h6 h7)))
 clear hR2 hk2 ho2 hg s0 sA HF hoW h2 h6 h7 kd
 have c1 := hK2.c1
 have n40 := hK2.reg.inv.n40
 have z4 : w2.cell? ⟨w.heap.size, 4, none⟩ = some (.slice s.A s.tos.length s.c) := u1.cell 4
 dsimp only at c1 n40
 obtain ⟨E, hE⟩ : ∃ E, K.envs.length = E := ⟨_, rfl⟩
 have HE := aa hE
 rw [hE] at c1 n40
 clear hE
 have start : aK w2 { K with A := A', cap := cap', L := K.L ++ [(a, s.n)], T := tOf (dH cs K.envs s.tos c 0) } := by
  rw [gave_zero, ← HT.out]
  exact hK2
 have kT : Keep (gW K) w2 w2 := Keep.refl _ _
 clear hK2
 by_cases hE0 : E = 0
 ·subst hE0
  go_wp2_with fail
  go_loopw [40] (fun s40 wx => ∃ k : Nat, k ≤ 0 ∧ s40 = .int .i64 k ∧ aK wx { K with A := A', cap := cap', L := K.L ++ [(a, s.n)], T := tOf (dH cs K.envs s.tos c k) } ∧ Blk wx w.heap.size 230 [.int .i64 s.ses, .int .i64 s.frame, .int .i64 s.lo, .int .i64 s.n, .slice s.A s.tos.length s.c] ∧ Keep (gW K) w wx) (fun s40 _ => 0 - (intOf s40).toNat)
  case atStart => exact ⟨0, Nat.zero_le _, rfl, start, u1, kW⟩
  case round =>
   obtain ⟨k, hk, rfl, hX, hu, hKK⟩ := hrel
   clear start u1 u2 kW kT z4
   obtain rfl : k = 0 := by omega
   have fin := hX
   rw [← HE.out] at fin
   go_wp2
   go_ret
   exact ⟨rfl, A', cap', fin, hKK, HG.out.1⟩
 obtain ⟨ge, hge, -⟩ := start.env_at (i := 0) (by dsimp only; rw [HE.out]; omega)
 dsimp only at hge
 have HGE := aa hge
 rw [hge] at c1
 clear hge
 go_wp2_with fail
 go_loopw [40] (fun s40 wx => ∃ k : Nat, k ≤ E ∧ s40 = .int .i64 k ∧ aK wx { K with A := A', cap := cap', L := K.L ++ [(a, s.n)], T := tOf (dH cs K.envs s.tos c k) } ∧ Blk wx w.heap.size 230 [.int .i64 s.ses, .int .i64 s.frame, .int .i64 s.lo, .int .i64 s.n, .slice s.A s.tos.length s.c] ∧ Keep (gW K) w wx) (fun s40 _ => E - (intOf s40).toNat)
 case atStart => exact ⟨0, Nat.zero_le _, rfl, start, u1, kW⟩
 case round =>
  obtain ⟨k, hk, rfl, hX, hu, hKK⟩ := hrel
  clear start u1 u2 kW kT z4
  by_cases hlt : k < E
  ·obtain ⟨ge2, hge2, hce⟩ := hX.env_at (i := k) (by dsimp only; rw [HE.out]; exact hlt)
   dsimp only at hge2 hce
   rw [HGE.out] at hge2
   have he2 : ge2 = ge := by simpa using hge2.symm
   subst he2
   clear hge2
   obtain ⟨ss, hss⟩ : ∃ ss, K.envs.getD k 0 = ss := ⟨_, rfl⟩
   rw [hss] at hce
   have HSS := aa hss
   have hrd := HT0.out.2 _ hKK
   have hkE : k < K.envs.length := by rw [HE.out]; exact hlt
   have HKE := aa hkE
   clear hss hkE
   have z4 : wr.cell? ⟨w.heap.size, 4, none⟩ = some (.slice s.A s.tos.length s.c) := hu.cell 4
   by_cases hm : ss ∈ s.tos
   ·have hcl : (dH cs K.envs s.tos c k k).length < 32 := by
     have h1 : dH cs K.envs s.tos c k k = cs k := by unfold dH; rw [if_neg (by omega)]
     rw [h1]
     have := HC.out k HKE.out
     omega
    have kd := Keep.nobdrew wr
    have hXd := hX.nob kd
    have hp := put_yes (c := ⟨K.L.length, 3, 0, s.n, (0, 0)⟩) hXd.reg.sp (e := k) HKE.out ⟨by omega, by dsimp only; have := HKE.out; omega, by dsimp only; decide, by dsimp only; decide, by dsimp only; decide, by dsimp only; omega, by dsimp only; have := HA.out; omega⟩
    simp only [dG] at hp
    have sP : ∀ W, Keep (· = K.r k) wr.drew W → W.cell? ⟨K.k, 4, none⟩ = some (.pointer (some ⟨K.s, 0, none⟩)) ∧ W.cell? ⟨w.heap.size, 3, none⟩ = some (.int .i64 s.n) := fun W kk => by
     have row := (hXd.reg.sp.tab k HKE.out).row
     dsimp only at row
     have o1 := hXd.obj.keep kk (hXd.obj.ne_ row (by decide))
     have o2 := (hu.nob kd).keep kk ((hu.nob kd).ne_ row (by decide))
     exact ⟨o1.cell 4, o2.cell 3⟩
    have sU : ∀ W, Keep (· = K.r k) wr.drew W → Blk W w.heap.size 230 [.int .i64 s.ses, .int .i64 s.frame, .int .i64 s.lo, .int .i64 s.n, .slice s.A s.tos.length s.c] := fun W kk => by
     have row := (hXd.reg.sp.tab k HKE.out).row
     dsimp only at row
     exact (hu.nob kd).keep kk ((hu.nob kd).ne_ row (by decide))
    have s0 := sP wr.drew (Keep.refl _ _)
    have HX := aa (And.intro hX (And.intro hXd hKK))
    have SU := aa sU
    clear hX hXd hKK hu sU
    go_wp2_with fail
    refine (Se.contains_is hrd (by omega) ss true (by simpa using hm)).mono ?_; rintro e w3 ⟨rfl, rfl⟩
    go_wp2_with fail
    go_region_held3 (fun w' => w'.cell? ⟨K.k, 4, none⟩ = some (.pointer (some ⟨K.s, 0, none⟩)) ∧ w'.cell? ⟨w.heap.size, 3, none⟩ = some (.int .i64 s.n))
     (first | exact s0 | exact sP _ hk3)
     (first | (go_at_call 265; refine hp.mono ?_; rintro e w3 ⟨nm, er, T', rfl, hAdd, hS3, hk3⟩))
    obtain ⟨rfl, rfl, rfl⟩ := added_row hAdd hcl
    have hin := hAdd.inv HX.out.2.1.reg.inv HKE.out ⟨by dsimp only; decide, by dsimp only; decide, by dsimp only; decide, h4, by dsimp only; have := HA.out; omega⟩ (.inl rfl)
    have hto := HX.out.2.1.space hS3 hin (hk3.rows HKE.out)
    rw [HCC.out, gave_yes (by rw [HSS.out]; exact hm)] at hto
    have hKn := (HX.out.2.2.trans ((Keep.nobdrew wr).mono (M' := gW K) (fun _ _ f => f.elim)) (fun _ _ m => m)).trans hk3 (fun b _ m => .inl ⟨k, HKE.out, m⟩)
    have FI := aa (And.intro hto.is (And.intro (SU.out _ hk3) hKn))
    clear hto hKn hin hS3 hk3 hAdd s0 sP hp
    go_wp2_with fail
    go_roundw
    case rel => exact ⟨k + 1, by omega, by go_num, FI.out.1, FI.out.2.1, FI.out.2.2⟩
    case measure => simp [intOf]; omega
   ·have hno := gave_no (cs := cs) (envs := K.envs) (tos := s.tos) (c := c) (k := k) (by rw [HSS.out]; exact hm)
    rw [hno] at hX
    have FI := aa (And.intro hX (And.intro hu hKK))
    clear hX hu hKK hno
    go_wp2_with fail
    refine (Se.contains_is hrd (by omega) ss false (by simpa using hm)).mono ?_; rintro e w3 ⟨rfl, rfl⟩
    go_wp2_with fail
    go_roundw
    case rel => exact ⟨k + 1, by omega, by go_num, FI.out.1, FI.out.2.1, FI.out.2.2⟩
    case measure => simp [intOf]; omega
  ·obtain rfl : k = E := by omega
   have fin := hX
   rw [← HE.out] at fin
   go_wp2
   go_ret
   exact ⟨rfl, A', cap', fin, hKK, HG.out.1⟩
end
end Go.Proofs.YtgcikpgcoemfnaaGreat
namespace Go.Proofs.YtgcikpgcoemfnaaGreat
open Go.RowKit
structure Kf (w w' : World) (K : Kn) : Prop where
 is : aK w' K
 mine : ∀ x, Mine K x → w.heap.size ≤ x
 ag : ∀ x, Own K.Ag x → w.heap.size ≤ x
 q : w.heap.size ≤ K.q
 a : ∀ x, Own K.A x → w.heap.size ≤ x
 keep : Keep Nob w w'
theorem jC : dU = tOf (fun _ => []) := by
 funext e
 simp [dU, tOf, el]
theorem kern_made {w : World} {k : Nat} {envs : List Int} {Ae : Option Addr} {ce pq : Nat} {Aq : Option Addr} {cq : Nat} {gq : Nat → Nat} {ns : List Nat} {bq : Nat → List Bool} {q m mr s B : Nat} {p r : Nat → Nat} {xs : List UInt8}
  (ho : Blk w k 112 [.int .i64 0, .slice Ae envs.length ce, .slice none 0 0, .pointer (some ⟨pq, 0, none⟩), .pointer (some ⟨s, 0, none⟩), .pointer (some ⟨q, 0, none⟩)]) (he : Vec w 3 1 Ae envs.length ce (ab envs)) (hq : Qu.Quo w pq Aq cq gq ns bq) (hr : Reg w q m mr s B envs.length p r none 0 xs dU []) :
  aK w ⟨k, 0, envs, Ae, ce, [], none, 0, pq, Aq, cq, gq, ns, bq, q, m, mr, s, B, p, r, none, 0, xs, dU, []⟩ :=
 ⟨ho, he, Vec.nil _ _ _, fun G hG => (by cases hG), hq, hr, (by simp), fun G hG => (by cases hG), fun i j G H hG => (by simp at hG), fun i j G H hG => (by simp at hG), fun G hG => (by cases hG), fun G hG => (by cases hG)⟩
theorem infogate : (Tryz.prog.info? 245).map (fun i => (i.zero, i.size, i.bytes)) = some (some (.agg #[.pointer none, .slice none 0 0]), 2, 32) := by kernel_rfl
theorem Kf.nob {w w1 w2 : World} {K : Kn} (h : Kf w w1 K) (k : Keep Nob w1 w2) : Kf w w2 K := ⟨h.is.nob k, h.mine, h.ag, h.q, h.a, h.keep.trans k (fun _ _ f => f)⟩
theorem one2 (a b : Value) (h1 : a.oneCell' = true) (h2 : b.oneCell' = true) : ∀ u ∈ [a, b], u.oneCell' = true := by simp [h1, h2]
theorem gcells_add (gs : List Gt) (G : Gt) : jj (gs ++ [G]) = jj gs ++ G.cells := by simp [jj]
theorem Kf.gate {w W W2 : World} {K : Kn} (h : Kf w W K) {p : Nat} {s : Se.Sec} {A' A2 : Option Addr} {c' c2 : Nat} {xs : List Int} (hs : Se.IsSec W p none 0 s) (Os : s.Ok) (hm : Vec W 3 1 A' xs.length c' (ab xs)) (hp : w.heap.size ≤ p) (hA : ∀ x, Own A' x → w.heap.size ≤ x)
  (new : ∀ G ∈ K.gates, G.p ≠ p) (dm : ∀ G ∈ K.gates, ∀ x, Own G.A x → ¬ Own A' x) (hl : K.gates.length < 8) (hx : xs.length ≤ 1000)
  (hv : Vec W2 245 2 A2 (K.gates.length + 1) c2 (jj K.gates ++ [.pointer (some ⟨p, 0, none⟩), .slice A' xs.length c'])) (hk : Keep (Own K.Ag) W W2) (ho : ∀ x, Own A2 x → Own K.Ag x ∨ w.heap.size ≤ x) :
  Kf w (W2.setCell ⟨K.k, 2, none⟩ (.slice A2 (K.gates.length + 1) c2)) { K with gates := K.gates ++ [⟨p, none, 0, s, A', c', xs⟩], Ag := A2, cg := c2 } := by
 have hM : ∀ b, Own K.Ag b → ∃ cs, Blk W b 245 cs := fun b hb => h.is.row.blk hb
 have o1 := h.is.obj.keep hk (eO hM h.is.obj (by decide))
 have hM2 : ∀ b, b = K.k → ∃ cs, Blk W2 b 112 cs := fun b e => e ▸ ⟨_, o1⟩
 have k2 : Keep (fun b => b = K.k) W2 (W2.setCell ⟨K.k, 2, none⟩ (.slice A2 (K.gates.length + 1) c2)) := (Keep.refl _ _).setCell _ _ (fun _ => rfl)
 have B : ∀ {x : Nat} {u : TypeId} {cs : List Value}, Blk W x u cs → u ≠ 245 → u ≠ 112 → Blk (W2.setCell ⟨K.k, 2, none⟩ (.slice A2 (K.gates.length + 1) c2)) x u cs := fun hb h1 h2 => by
  have b2 := hb.keep hk (eO hM hb h1)
  exact b2.keep k2 (eO (M := fun b => b = K.k) hM2 b2 h2)
 have V : ∀ {e sz n cap : Nat} {A : Option Addr} {xs : List Value}, Vec W e sz A n cap xs → e ≠ 245 → e ≠ 112 → Vec (W2.setCell ⟨K.k, 2, none⟩ (.slice A2 (K.gates.length + 1) c2)) e sz A n cap xs := fun hv h1 h2 => by
  have b2 := hv.keep hk (offV hM hv h1)
  exact b2.keep k2 (offV (M := fun b => b = K.k) hM2 b2 h2)
 have S : ∀ {p : Nat} {A : Option Addr} {cap : Nat} {s : Se.Sec}, Se.IsSec W p A cap s → Se.IsSec (W2.setCell ⟨K.k, 2, none⟩ (.slice A2 (K.gates.length + 1) c2)) p A cap s := fun hs => ⟨B hs.obj (by decide) (by decide), V hs.row (by decide) (by decide)⟩
 have kk : Keep (fun b => b = K.k ∨ Own K.Ag b) W (W2.setCell ⟨K.k, 2, none⟩ (.slice A2 (K.gates.length + 1) c2)) := (hk.mono (fun _ _ m => .inr m)).trans k2 (fun _ _ m => .inl m)
 have ob : ∀ {x : Nat} {u : TypeId} {cs : List Value}, Blk W x u cs → u ≠ 245 → u ≠ 112 → ¬ (fun b => b = K.k ∨ Own K.Ag b) x := fun hb h1 h2 m => by
  rcases m with m | m
  ·exact hb.ne_ h.is.obj h2 m
  ·exact eO hM hb h1 m
 have ov : ∀ {e sz n cap : Nat} {A : Option Addr} {xs : List Value}, Vec W e sz A n cap xs → e ≠ 245 → e ≠ 112 → ∀ g, Own A g → ¬ (fun b => b = K.k ∨ Own K.Ag b) g := fun hv h1 h2 g hg => by
  obtain ⟨c, hc⟩ := hv.blk hg
  exact ob hc h1 h2
 have none_own : ∀ x, ¬ Own none x := fun x ⟨a, ha, _⟩ => by cases ha
 refine ⟨⟨?_, V h.is.env (by decide) (by decide), ?_, fun G hG => ?_, h.is.quo.keep kk (ob h.is.quo.obj (by decide) (by decide)) (ov h.is.quo.row (by decide) (by decide)) (fun i hi => ob (h.is.quo.tab i hi) (by decide) (by decide)),
  h.is.reg.keep kk (ob h.is.reg.obj (by decide) (by decide)) (ob h.is.reg.mem.obj (by decide) (by decide)) (ob h.is.reg.mem.row (by decide) (by decide)) (ob h.is.reg.sp.obj (by decide) (by decide)) (ob h.is.reg.sp.row (by decide) (by decide)) (fun i hi => ⟨ob (h.is.reg.sp.tab i hi).obj (by decide) (by decide), ob (h.is.reg.sp.tab i hi).row (by decide) (by decide)⟩) (ov h.is.reg.row (by decide) (by decide)),
  (by dsimp only; rw [List.length_append]; simp; omega), fun G hG => ?_, fun i j G H hG hH e => ?_, fun i j G H hG hH hn x hx hy => ?_, fun G hG x hx hy => ?_, fun G hG H hH x hx hy => ?_⟩, fun x hx => ?_, fun x hx => (ho x hx).elim (h.ag x) id, h.q, h.a, ?_⟩
 ·have := o1.setCell 2 (.slice A2 (K.gates.length + 1) c2)
  simpa using this
 ·dsimp only
  rw [List.length_append, gcells_add]
  exact hv.keep k2 (offV (M := fun b => b = K.k) hM2 hv (by decide))
 ·rcases List.mem_append.1 hG with hG | hG
  ·exact ⟨S (h.is.sec G hG).1, (h.is.sec G hG).2.1, V (h.is.sec G hG).2.2 (by decide) (by decide)⟩
  ·obtain rfl := List.mem_singleton.1 hG
   exact ⟨S hs, Os, V hm (by decide) (by decide)⟩
 ·rcases List.mem_append.1 hG with hG | hG
  ·exact h.is.lit G hG
  ·obtain rfl := List.mem_singleton.1 hG
   exact hx
 ·dsimp only at hG hH
  rw [List.getElem?_append] at hG hH
  split at hG <;> split at hH
  ·exact h.is.dp i j G H hG hH e
  ·have hH' := List.mem_of_getElem? hH
   obtain rfl := List.mem_singleton.1 hH'
   exact absurd e (new G (List.mem_of_getElem? hG))
  ·have hG' := List.mem_of_getElem? hG
   obtain rfl := List.mem_singleton.1 hG'
   exact absurd e.symm (new H (List.mem_of_getElem? hH))
  ·have h1 := aP hG
   have h2 := aP hH
   simp at h1 h2
   omega
 ·dsimp only at hG hH
  rw [List.getElem?_append] at hG hH
  split at hG <;> split at hH
  ·exact h.is.dq i j G H hG hH hn x hx hy
  ·have hH' := List.mem_of_getElem? hH
   obtain rfl := List.mem_singleton.1 hH'
   exact none_own x hy
  ·have hG' := List.mem_of_getElem? hG
   obtain rfl := List.mem_singleton.1 hG'
   exact none_own x hx
  ·have hG' := List.mem_of_getElem? hG
   obtain rfl := List.mem_singleton.1 hG'
   exact none_own x hx
 ·rcases List.mem_append.1 hG with hG | hG
  ·exact h.is.de G hG x hx hy
  ·obtain rfl := List.mem_singleton.1 hG
   exact none_own x hx
 ·rcases List.mem_append.1 hG with hG | hG
  ·rcases List.mem_append.1 hH with hH | hH
   ·exact h.is.dm G hG H hH x hx hy
   ·obtain rfl := List.mem_singleton.1 hH
    exact dm G hG x hx hy
  ·obtain rfl := List.mem_singleton.1 hG
   exact none_own x hx
 ·rcases hx with (hx | ⟨G, hG, hx⟩ | hx) | hx | ⟨G, hG, hx⟩
  ·exact h.mine x (.inl (.inl hx))
  ·rcases List.mem_append.1 hG with hG | hG
   ·exact h.mine x (.inl (.inr (.inl ⟨G, hG, hx⟩)))
   ·obtain rfl := List.mem_singleton.1 hG
    rcases hx with rfl | hx
    ·exact hp
    ·exact (none_own x hx).elim
  ·exact h.mine x (.inl (.inr (.inr hx)))
  ·exact h.mine x (.inr (.inl hx))
  ·rcases List.mem_append.1 hG with hG | hG
   ·exact h.mine x (.inr (.inr ⟨G, hG, hx⟩))
   ·obtain rfl := List.mem_singleton.1 hG
    exact hA x hx
 ·refine h.keep.trans kk (fun b hb m => ?_)
  rcases m with rfl | m
  ·have := h.mine _ (.inl (.inl rfl)); omega
  ·have := h.ag b m; omega
def au (ns : List Nat) (s : Sh) : Rf := (((Qu.first ns s.ses.toNat : Nat) + s.frame) * 64 + s.lo, s.n)
def bw (envs : List Int) (sh : List Sh) : Nat → Nat → List Cp
 | 0 => fun _ => []
 | j + 1 => match sh[j]? with
  | some s => dH (bw envs sh j) envs s.tos ⟨j, 3, 0, s.n, (0, 0)⟩ envs.length
  | none => bw envs sh j
theorem fF {envs : List Int} {sh : List Sh} {j : Nat} {s : Sh} (h : sh[j]? = some s) : bw envs sh (j + 1) = dH (bw envs sh j) envs s.tos ⟨j, 3, 0, s.n, (0, 0)⟩ envs.length := by
 rw [bw, h]
theorem iK (envs : List Int) (sh : List Sh) : ∀ (j e : Nat), (bw envs sh j e).length ≤ j
 | 0, e => by simp [bw]
 | j + 1, e => by
  have ih := iK envs sh j e
  cases h : sh[j]? with
  | none => simp only [bw, h]; omega
  | some s =>
   rw [fF h]
   unfold dH
   split
   ·rw [List.length_append]; simp; omega
   ·omega
theorem first_mono {ns : List Nat} {i j : Nat} (h : i ≤ j) (hj : j ≤ ns.length) : Qu.first ns i ≤ Qu.first ns j := by
  induction j with
  | zero => have : i = 0 := by omega
            subst this; exact Nat.le_refl _
  | succ j ih =>
    by_cases e : i = j + 1
    · subst e; exact Nat.le_refl _
    · have := ih (by omega) (by omega)
      rw [Qu.dj (by omega)]
      omega
theorem span_in {ns : List Nat} {s : Sh} (h : ShOk ns s) : 0 ≤ (au ns s).1 ∧ (au ns s).1 + (au ns s).2 ≤ 64 * (Qu.first ns ns.length : Nat) := by
 obtain ⟨a1, a2, a3, a4, a5, a6, a7, _⟩ := h
 obtain ⟨i, hi⟩ := Int.eq_ofNat_of_zero_le a1
 unfold au
 rw [hi, Int.toNat_natCast] at a4 a7 ⊢
 have hin : i < ns.length := by omega
 have h1 := first_mono (ns := ns) (i := i + 1) (j := ns.length) (by omega) (Nat.le_refl _)
 rw [Qu.dj hin] at h1
 dsimp only
 omega
structure Boots (b : Bt) (ns : List Nat) (K : Kn) : Prop where
 now : K.now = 0
 envs : K.envs = b.envs
 nse : K.ns = ns
 bq : K.bq = fun i => List.replicate (ns.getD i 0) false
 xs : K.xs = br (Qu.first ns ns.length)
 L : K.L = b.shared.map (au ns)
 T : K.T = tOf (bw b.envs b.shared b.shared.length)
 gates : K.gates.map (fun G => (G.s, G.may)) = b.sects.map (fun s => (Se.Sec.new b.lease, s.xs))
theorem Kf.share {w W W2 : World} {K : Kn} (h : Kf w W K) {A' : Option Addr} {cap' : Nat} {L' : List Rf} {T' : St} (hi : aK W2 { K with A := A', cap := cap', L := L', T := T' }) (k : Keep (gW K) W W2) (ho : ∀ g, Own A' g → Own K.A g ∨ w.heap.size ≤ g) : Kf w W2 { K with A := A', cap := cap', L := L', T := T' } :=
 ⟨hi, fun x hx => h.mine x hx, h.ag, h.q, fun x hx => (ho x hx).elim (h.a x) id, h.keep.trans k (fun b hb m => by
  rcases m with m | m | m
  ·have := h.mine b (.inl (.inr (.inr (.inr (.inr m))))); omega
  ·have := h.q; omega
  ·have := h.a b m; omega)⟩
theorem Kf.turnS {w W : World} {K : Kn} (h : Kf w W K) : ∀ b, gW K b → w.heap.size ≤ b := fun b m => by
 rcases m with m | m | m
 ·exact h.mine b (.inl (.inr (.inr (.inr (.inr m)))))
 ·have := h.q; omega
 ·exact h.a b m
theorem knew_is {w : World} {b : Bt} {ns : List Nat} (h : IsBt w b) (ok : BtOk b ns) :
  Calls Tryz.prog 75 #[b.val] w fun e w' => ∃ K, e = .returned (.tuple #[.pointer (some ⟨K.k, 0, none⟩), .int .i64 0]) ∧ Kf w w' K ∧ Boots b ns K := by
 have hnl := ok.len
 have h4 := ok.f4
 have h1 := ok.f1
 have k1 := (Keep.refl Nob w).alloc (.cells #[.slice b.Af b.frames.length b.cf, .slice b.Ae b.envs.length b.ce, .slice b.As b.sects.length b.cs, .int .i64 b.lease, .slice b.Ah b.shared.length b.ch] 144)
 have b1 : Blk (w.alloc (.cells #[.slice b.Af b.frames.length b.cf, .slice b.Ae b.envs.length b.ce, .slice b.As b.sects.length b.cs, .int .i64 b.lease, .slice b.Ah b.shared.length b.ch] 144)) w.heap.size 144 [.slice b.Af b.frames.length b.cf, .slice b.Ae b.envs.length b.ce, .slice b.As b.sects.length b.cs, .int .i64 b.lease, .slice b.Ah b.shared.length b.ch] := Blk.new w 144 _
 have HH := aa (And.intro h ok)
 have KB := aa (And.intro k1 b1)
 have HN := aa hnl
 clear h ok hnl k1 b1
 unfold Bt.val
 go_enter Tryz.func75, Tryz.ntmps75
 go_wp2_with fail
 refine (counted_is _ _ _ _ _ _ _ _ _ _ _ _ _ b.lease h1 h4 HH.out.2.e40 HH.out.2.s8 HH.out.2.h16 HH.out.2.l1 HH.out.2.l2).mono ?_; rintro e w1 ⟨rfl, k1⟩
 have kA := KB.out.1.trans k1 (fun _ _ f => f)
 have bA := KB.out.2.nob k1
 clear k1 KB
 have c0 := bA.cell 0
 simp only [List.getElem?_cons_zero] at c0
 go_wp2_with fail
 refine (rooms_is (HH.out.1.nob kA).fr HH.out.1.cf h4 ns HH.out.2.nse).mono ?_; rintro e w2 ⟨rr, rfl, hrr, hrl, k2⟩
 have kB := kA.trans k2 (fun _ _ f => f)
 have bB := bA.nob k2
 clear bA kA k2 c0
 have e0 := bB.cell 0
 have e1 := bB.cell 1
 have e2 := bB.cell 2
 have e3 := bB.cell 3
 have e4 := bB.cell 4
 simp only [List.getElem?_cons_zero, List.getElem?_cons_succ] at e0 e1 e2 e3 e4
 have hth := there_is (HH.out.1.nob kB) HH.out.2 rr hrr
 unfold Bt.val at hth
 go_wp2_with fail
 refine hth.mono ?_; rintro e w3 ⟨rfl, k3⟩
 clear hth e0 e1 e2 e3 e4
 have kC := kB.trans k3 (fun _ _ f => f)
 have bC := bB.nob k3
 have hr3 := hrr.nob k3
 clear bB kB k3 hrr
 obtain ⟨n0, hn0⟩ : ∃ n, b.frames.length = n := ⟨_, rfl⟩
 have HN0 := aa hn0
 have h64 : ∀ x ∈ ns, x ≤ 64 := by rw [← HH.out.2.nse]; exact sizes64
 have H64 := aa h64
 rw [hn0] at h4 h1
 have hns : ns.length = n0 := by rw [HN.out, hn0]
 have HNS := aa hns
 clear hn0 h64 hns
 simp only [HN0.out]
 go_wp2_with fail
 go_loopw [5, 26] (fun s5 s26 wx => ∃ k : Nat, k ≤ n0 ∧ s5 = .int .i64 (Qu.first ns k : Nat) ∧ s26 = .int .i64 k ∧ Keep Nob w3 wx) (fun _ t _ => n0 - (intOf t).toNat)
 case atStart => exact ⟨0, Nat.zero_le _, rfl, rfl, Keep.refl _ _⟩
 case round =>
  obtain ⟨k, hk, rfl, rfl, hK⟩ := hrel
  by_cases hlt : k < n0
  ·have hkn : k < ns.length := by rw [HNS.out]; exact hlt
   have hg := dY hkn
   have z0 := ((hr3.nob hK).cell (k * 2)).trans hg.1
   have z1 := ((hr3.nob hK).cell (k * 2 + 1)).trans hg.2
   have hfl := Qu.bV H64.out k (by omega)
   have hfn := Qu.dj hkn
   have hf64 : ns.getD k 0 ≤ 64 := by
    rw [List.getD_eq_getElem?_getD, List.getElem?_eq_getElem hkn]
    exact H64.out _ (List.getElem_mem hkn)
   have HFN := aa hfn
   have hKn := hK.alloc (.cells #[.int .i64 (Qu.first ns k), .int .i64 (ns.getD k 0)] 236)
   clear hfn hg
   generalize ns.getD k 0 = f at *
   go_wp2
   go_roundw
   case rel => exact ⟨k + 1, by omega, by rw [HFN.out]; go_num, by go_num, hKn⟩
   case measure => simp [intOf]; omega
  ·obtain rfl : k = n0 := by omega
   have kW := kC.trans hK (fun _ _ f => f)
   have bW := bC.nob hK
   have rW := hr3.nob hK
   have hfl := Qu.bV H64.out k (by rw [HNS.out]; exact Nat.le_refl _)
   clear hK bC hr3 kC
   obtain ⟨all, hall⟩ : ∃ a, Qu.first ns k = a := ⟨_, rfl⟩
   rw [hall] at hfl ⊢
   have HALL := aa hall
   have e40 := HH.out.2.e40
   clear hall hk hlt
   obtain ⟨E, hE⟩ : ∃ E, b.envs.length = E := ⟨_, rfl⟩
   have HE := aa hE
   have eE : E ≤ 40 := by rw [← hE]; exact e40
   have kd := (Keep.refl Nob wr).drew
   have sf : ∀ W, Keep Nob wr W → W.cell? ⟨w.heap.size, 1, none⟩ = some (.slice b.Ae b.envs.length b.ce) ∧ W.cell? ⟨w.heap.size, 0, none⟩ = some (.slice b.Af b.frames.length b.cf) := fun W kk => ⟨(bW.nob kk).cell 1, (bW.nob kk).cell 0⟩
   have hcl : ∀ W, Keep Nob wr W → Calls Tryz.prog 154 #[.slice b.Ae b.envs.length b.ce] W fun e w' => ∃ A' c', e = .returned (.slice A' b.envs.length c') ∧ Vec w' 3 1 A' b.envs.length c' (ab b.envs) ∧ (∀ k, Own A' k → W.heap.size ≤ k) ∧ Keep Nob W w' := fun W kk => Se.clone_is ((HH.out.1.nob kW).nob kk).en (by omega)
   have hqn : ∀ W, Keep Nob wr W → Calls Tryz.prog 155 #[.slice b.Af b.frames.length b.cf] W (Qu.NewQ ns W) := fun W kk => Qu.new_is ((HH.out.1.nob kW).nob kk).fr HH.out.1.cf ns HH.out.2.nse
   have hcn : ∀ W, Calls Tryz.prog 156 #[.int .i64 E] W (NewSp E W) := fun W => new_sp E E (by omega) W
   rw [HN0.out] at sf hqn
   rw [hE] at sf hcl
   clear hE
   have s0 := sf _ kd
   go_wp2_with fail
   go_region_held3 (fun w' => w'.cell? ⟨w.heap.size, 1, none⟩ = some (.slice b.Ae E b.ce) ∧ w'.cell? ⟨w.heap.size, 0, none⟩ = some (.slice b.Af k b.cf))
    (first | exact s0 | exact sf _ kd1 | exact sf _ kd2 | exact sf _ kd3 | exact sf _ (kd3.alloc _))
    (first
     | (go_at_call 154; refine (hcl _ kd).mono ?_; rintro e wa ⟨A1, cA, rfl, hvE, hoE, kE⟩; have kd1 := kd.trans kE (fun _ _ f => f))
     | (go_at_call 155; refine (hqn _ kd1).mono ?_; rintro e wb ⟨pq, Aq, cq, gq, rfl, hQ, hgq, kQ⟩; have kd2 := kd1.trans kQ (fun _ _ f => f))
     | (go_at_call 156; refine (hcn _).mono ?_; rintro e wc ⟨sp, B, p, r, rfl, hS, hsp, hr, kS⟩; have kd3 := kd2.trans kS (fun _ _ f => f)))
   have bk := Blk.new wc 112 [.int .i64 0, .slice A1 E cA, .slice none 0 0, .pointer (some ⟨pq, 0, none⟩), .pointer (some ⟨sp, 0, none⟩), .pointer none]
   have ka := (Keep.refl Nob wc).alloc (.cells #[.int .i64 0, .slice A1 E cA, .slice none 0 0, .pointer (some ⟨pq, 0, none⟩), .pointer (some ⟨sp, 0, none⟩), .pointer none] 112)
   have F1 := aa (And.intro (hvE.nob ((kQ.trans kS (fun _ _ f => f)).trans ka (fun _ _ f => f))) (And.intro ((hQ.nob kS).nob ka) (hS.nob ka)))
   have F2 := aa (And.intro (kd3.trans ka (fun _ _ f => f)) (And.intro hoE (And.intro hgq (And.intro hsp hr))))
   have F3 := aa (And.intro kd1.size (And.intro kd2.size kd3.size))
   clear hvE hQ hS hoE hgq hsp hr kE kQ kS kd1 kd2 kd3 sf hcl hqn hcn s0 ka
   have hkk : wr.heap.size ≤ wc.heap.size := F3.out.2.2
   generalize hX : (wc.alloc (.cells #[.int .i64 0, .slice A1 E cA, .slice none 0 0, .pointer (some ⟨pq, 0, none⟩), .pointer (some ⟨sp, 0, none⟩), .pointer none] 112)) = wx at *
   have hkx : wc.heap.size < wx.heap.size := by rw [← hX]; simp
   clear hX
   generalize wc.heap.size = kk at *
   have kd := (Keep.refl Nob wx).drew
   have s0 : wx.drew.cell? ⟨kk, 4, none⟩ = some (.pointer (some ⟨sp, 0, none⟩)) := (bk.nob kd).cell 4
   have hmn : ∀ W, Calls Tryz.prog 158 #[.int .i64 all] W (fJ all W) := fun W => new_is all all (by omega) W
   go_wp2_with fail
   go_region_held3 (fun w' => w'.cell? ⟨kk, 4, none⟩ = some (.pointer (some ⟨sp, 0, none⟩)))
    (first | exact s0 | exact (bk.nob kd1).cell 4 | exact bk2.cell 4 | exact (bk2.setCell 5 _).cell 4)
    (first
     | (go_at_call 158; refine (hmn _).mono ?_; rintro e wa ⟨m, mr, rfl, hM, hm1, hm2, kM⟩; have kd1 := kd.trans kM (fun _ _ f => f))
     | (go_at_call 157; refine (rnew_is hM (F1.out.2.2.nob kd1) (init_inv eE)).mono ?_; rintro e wb ⟨q, rfl, hR, hq, kR⟩; have kd2 := kd1.trans kR (fun _ _ f => f); have bk2 := bk.nob kd2; have z5 := bk2.cell 5; have f5 := bk2.frozen 5; simp only [List.getElem?_cons_zero, List.getElem?_cons_succ] at z5))
   have bk3 := bk2.setCell 5 (.pointer (some ⟨q, 0, none⟩))
   simp only [List.set_cons_succ, List.set_cons_zero] at bk3
   have k5 : Keep (fun b => b = kk) wb (wb.setCell ⟨kk, 5, none⟩ (.pointer (some ⟨q, 0, none⟩))) := (Keep.refl _ _).setCell _ _ (fun _ => rfl)
   have hvE := F1.out.1.nob kd2
   have hQ := F1.out.2.1.nob kd2
   have ob : ∀ {x : Nat} {u : TypeId} {cs : List Value}, Blk wb x u cs → u ≠ 112 → ¬ (fun b => b = kk) x := fun hb hu => eO (M := fun b => b = kk) (fun b e => e ▸ ⟨_, bk2⟩) hb hu
   have ov : ∀ {e sz n cap : Nat} {A : Option Addr} {xs : List Value}, Vec wb e sz A n cap xs → e ≠ 112 → ∀ g, Own A g → ¬ (fun b => b = kk) g := fun hv hu => offV (M := fun b => b = kk) (fun b e => e ▸ ⟨_, bk2⟩) hv hu
   have hE := HE.out
   subst hE
   have hI := kern_made bk3 (hvE.keep k5 (ov hvE (by decide))) (hQ.keep k5 (ob hQ.obj (by decide)) (ov hQ.row (by decide)) (fun i hi => ob (hQ.tab i hi) (by decide))) (hR.keep k5 (ob hR.obj (by decide)) (ob hR.mem.obj (by decide)) (ob hR.mem.row (by decide)) (ob hR.sp.obj (by decide)) (ob hR.sp.row (by decide)) (fun i hi => ⟨ob (hR.sp.tab i hi).obj (by decide), ob (hR.sp.tab i hi).row (by decide)⟩) (ov hR.row (by decide)))
   have hwr := kW.size
   have kN : Keep Nob w (wb.setCell ⟨kk, 5, none⟩ (.pointer (some ⟨q, 0, none⟩))) := (((kW.trans F2.out.1 (fun _ _ f => f)).trans kd2 (fun _ _ f => f))).trans k5 (fun b hb e => by omega)
   have hF : Kf w (wb.setCell ⟨kk, 5, none⟩ (.pointer (some ⟨q, 0, none⟩))) ⟨kk, 0, b.envs, A1, cA, [], none, 0, pq, Aq, cq, gq, ns, fun i => List.replicate (ns.getD i 0) false, q, m, mr, sp, B, p, r, none, 0, br all, dU, []⟩ := by
    have hx0 : wr.drew.heap.size = wr.heap.size := rfl
    have hxx : wx.drew.heap.size = wx.heap.size := rfl
    obtain ⟨x1, x2, x3⟩ := F3.out
    obtain ⟨-, y1, y2, y3, y4⟩ := F2.out
    have h9 := kd1.size
    refine ⟨hI, ?_, fun x ⟨a, ha, _⟩ => (by cases ha), (by dsimp only; omega), fun x ⟨a, ha, _⟩ => (by cases ha), kN⟩
    rintro x ((rfl | ⟨G, hG, _⟩ | ⟨i, hi, rfl⟩ | rfl | ⟨i, hi, rfl⟩) | hb | ⟨G, hG, _⟩)
    ·omega
    ·cases hG
    ·dsimp only at hi ⊢
     have := y2 i hi; omega
    ·omega
    ·dsimp only at hi ⊢
     have := y4 i hi; omega
    ·have := y1 x hb; omega
    ·cases hG
   have bB : Blk (wb.setCell ⟨kk, 5, none⟩ (.pointer (some ⟨q, 0, none⟩))) w.heap.size 144 [.slice b.Af b.frames.length b.cf, .slice b.Ae b.envs.length b.ce, .slice b.As b.sects.length b.cs, .int .i64 b.lease, .slice b.Ah b.shared.length b.ch] := by
    have := (bW.nob F2.out.1).nob kd2
    exact this.keep k5 (ob this (by decide))
   have rB : Blk (wb.setCell ⟨kk, 5, none⟩ (.pointer (some ⟨q, 0, none⟩))) rr 236 (aI ns) := by
    have := (rW.nob F2.out.1).nob kd2
    exact this.keep k5 (ob this (by decide))
   clear rW bW F2 kd2 k5 hvE hQ ob ov bk2 hR hI kN F1 F3 bk kd kR kd1 kM hM s0 hmn bk3 z5 f5
   generalize hK0 : (⟨kk, 0, b.envs, A1, cA, [], none, 0, pq, Aq, cq, gq, ns, fun i => List.replicate (ns.getD i 0) false, q, m, mr, sp, B, p, r, none, 0, br all, dU, []⟩ : Kn) = K0 at hF
   have ek : K0.k = kk := by rw [← hK0]
   have HKF := aa (show K0.now = 0 ∧ K0.envs = b.envs ∧ K0.ns = ns ∧ K0.bq = (fun i => List.replicate (ns.getD i 0) false) ∧ K0.xs = br all ∧ K0.L = [] ∧ K0.T = dU from by rw [← hK0]; exact ⟨rfl, rfl, rfl, rfl, rfl, rfl, rfl⟩)
   have eg : K0.gates = [] := by rw [← hK0]
   generalize (wb.setCell ⟨kk, 5, none⟩ (.pointer (some ⟨q, 0, none⟩))) = w5 at *
   have hF0 : Kf w w5 { K0 with gates := [], Ag := none, cg := 0 } := by rw [← hK0] at hF ⊢; exact hF
   obtain ⟨nS, hnS⟩ : ∃ n, b.sects.length = n := ⟨_, rfl⟩
   obtain ⟨nH, hnH⟩ : ∃ n, b.shared.length = n := ⟨_, rfl⟩
   have s8 := HH.out.2.s8
   have h16 := HH.out.2.h16
   rw [hnS] at bB s8
   rw [hnH] at bB h16
   have HNSx := aa hnS
   have HNHx := aa hnH
   clear hnS hnH hF eg hK0
   subst ek
   by_cases hz : nS = 0
   ·subst hz
    have e2 := bB.cell 2
    simp only [List.getElem?_cons_zero, List.getElem?_cons_succ] at e2
    go_wp2_with fail
    clear e2
    go_loopw [60] (fun s60 wx => ∃ (j : Nat) (gs : List Gt) (Ag : Option Addr) (cg : Nat), j ≤ 0 ∧ s60 = .int .i64 j ∧ gs.length = j ∧ gs.map (fun G => (G.s, G.may)) = (b.sects.take j).map (fun s => (Se.Sec.new b.lease, s.xs)) ∧ Kf w wx { K0 with gates := gs, Ag := Ag, cg := cg } ∧ Blk wx w.heap.size 144 [.slice b.Af b.frames.length b.cf, .slice b.Ae b.envs.length b.ce, .slice b.As 0 b.cs, .int .i64 b.lease, .slice b.Ah nH b.ch] ∧ Blk wx rr 236 (aI ns)) (fun t _ => 0 - (intOf t).toNat)
    case atStart => exact ⟨0, [], none, 0, Nat.zero_le _, rfl, rfl, rfl, hF0, bB, rB⟩
    case round =>
     obtain ⟨j, gs, Ag, cg, hj, rfl, hgl, hgm, hF, hBb, hRb⟩ := hrel
     clear hF0 bB rB
     have hj0 : ¬ ((j : Int) < 0) := by omega
     have hgs : gs.map (fun G => (G.s, G.may)) = b.sects.map (fun s => (Se.Sec.new b.lease, s.xs)) := by
      rw [hgm, List.take_of_length_le (by rw [HNSx.out]; omega)]
     have HGS := aa hgs
     clear hgm hgs hgl
     have hst : ∃ A' cap', Kf w wr { K0 with gates := gs, Ag := Ag, cg := cg, A := A', cap := cap', L := (b.shared.take 0).map (au ns), T := tOf (bw b.envs b.shared 0) } := by
      refine ⟨K0.A, K0.cap, ?_⟩
      have e1 : (b.shared.take 0).map (au ns) = K0.L := by rw [HKF.out.2.2.2.2.2.1]; rfl
      have e2 : tOf (bw b.envs b.shared 0) = K0.T := by rw [HKF.out.2.2.2.2.2.2]; exact jC.symm
      rw [e1, e2]
      exact hF
     obtain ⟨A0, cap0, hF0⟩ := hst
     by_cases hz2 : nH = 0
     ·subst hz2
      have e4 := hBb.cell 4
      simp only [List.getElem?_cons_zero, List.getElem?_cons_succ] at e4
      go_wp2_with fail
      clear e4
      go_loopw [83] (fun s83 wx => ∃ (j : Nat) (A' : Option Addr) (cap' : Nat), j ≤ 0 ∧ s83 = .int .i64 j ∧ Kf w wx { K0 with gates := gs, Ag := Ag, cg := cg, A := A', cap := cap', L := (b.shared.take j).map (au ns), T := tOf (bw b.envs b.shared j) } ∧ Blk wx rr 236 (aI ns)) (fun t _ => 0 - (intOf t).toNat)
      case atStart => exact ⟨0, A0, cap0, Nat.zero_le _, rfl, hF0, hRb⟩
      case round =>
       obtain ⟨j, A', cap', hj, rfl, hF, hRb⟩ := hrel
       clear hF0
       obtain rfl : j = 0 := by omega
       have hb : Boots b ns { K0 with gates := gs, Ag := Ag, cg := cg, A := A', cap := cap', L := (b.shared.take 0).map (au ns), T := tOf (bw b.envs b.shared 0) } := by
        have ej : 0 = b.shared.length := HNHx.out.symm
        refine ⟨HKF.out.1, HKF.out.2.1, HKF.out.2.2.1, HKF.out.2.2.2.1, HKF.out.2.2.2.2.1.trans (by rw [← HALL.out, HNS.out]), by dsimp only; rw [ej, List.take_of_length_le (Nat.le_refl _)], by dsimp only; rw [ej], HGS.out⟩
       go_wp2
       go_ret2
       refine ⟨_, ?_, hF, hb⟩; rfl
     ·obtain ⟨gH, oH, hAH, -⟩ := (HH.out.1.sh).lit (by rw [HNHx.out]; omega)
      have hcs : ∀ wx, Keep Nob w wx → ∀ (j : Nat) (x : Sh), b.shared[j]? = some x → wx.cell? ⟨gH, oH + j * 5, none⟩ = some (.int .i64 x.ses) ∧ wx.cell? ⟨gH, oH + j * 5 + 1, none⟩ = some (.int .i64 x.frame) ∧ wx.cell? ⟨gH, oH + j * 5 + 2, none⟩ = some (.int .i64 x.lo) ∧ wx.cell? ⟨gH, oH + j * 5 + 3, none⟩ = some (.int .i64 x.n) ∧ wx.cell? ⟨gH, oH + j * 5 + 4, none⟩ = some (.slice x.A x.tos.length x.c) := fun wx kk j x hx => by
       obtain ⟨g2, o2, h2, h3⟩ := (HH.out.1.nob kk).sh.lit (by have := aP hx; omega)
       rw [hAH] at h2
       cases h2
       have g0 := h3 _ _ (az hx (j := 0) (by decide))
       have g1 := h3 _ _ (az hx (j := 1) (by decide))
       have g2 := h3 _ _ (az hx (j := 2) (by decide))
       have g3 := h3 _ _ (az hx (j := 3) (by decide))
       have g4 := h3 _ _ (az hx (j := 4) (by decide))
       rw [← Nat.add_assoc] at g1 g2 g3 g4
       rw [Nat.add_zero] at g0
       exact ⟨g0, g1, g2, g3, g4⟩
      have HCS := aa hcs
      clear hcs
      rw [hAH] at hBb
      have HAH := aa hAH
      clear hAH
      have e4 := hBb.cell 4
      simp only [List.getElem?_cons_zero, List.getElem?_cons_succ] at e4
      go_wp2_with fail
      clear e4
      go_loopw [83] (fun s83 wx => ∃ (j : Nat) (A' : Option Addr) (cap' : Nat), j ≤ nH ∧ s83 = .int .i64 j ∧ Kf w wx { K0 with gates := gs, Ag := Ag, cg := cg, A := A', cap := cap', L := (b.shared.take j).map (au ns), T := tOf (bw b.envs b.shared j) } ∧ Blk wx rr 236 (aI ns)) (fun t _ => nH - (intOf t).toNat)
      case atStart => exact ⟨0, A0, cap0, Nat.zero_le _, rfl, hF0, hRb⟩
      case round =>
       obtain ⟨j, A', cap', hj, rfl, hF, hRb⟩ := hrel
       clear hF0
       by_cases hlt : j < nH
       ·have hjl : j < b.shared.length := by rw [HNHx.out]; exact hlt
        obtain ⟨x, hx⟩ : ∃ x, b.shared[j]? = some x := ⟨_, List.getElem?_eq_getElem hjl⟩
        have hxm := List.mem_of_getElem? hx
        obtain ⟨g0, g1, g2, g3, g4⟩ := HCS.out wr hF.keep j x hx
        have hok := HH.out.2.sh x hxm
        have hsp := span_in hok
        have hok2 := hok
        obtain ⟨a1, a2, a3, a4, a5, a6, a7, a8, a9⟩ := hok
        obtain ⟨i, hi⟩ := Int.eq_ofNat_of_zero_le a1
        rw [hi, Int.toNat_natCast] at a4 a7
        have hin : i < ns.length := by omega
        have hi4 : i < 4 := by have := HNS.out; omega
        have hff := Qu.bV H64.out i (by omega)
        have hf64 : ns.getD i 0 ≤ 64 := by
         rw [List.getD_eq_getElem?_getD, List.getElem?_eq_getElem hin]
         exact H64.out _ (List.getElem_mem hin)
        obtain ⟨f, hf⟩ : ∃ f, ns.getD i 0 = f := ⟨_, rfl⟩
        obtain ⟨ah, hah⟩ : ∃ ah, Qu.first ns i = ah := ⟨_, rfl⟩
        rw [hf] at a4 a7 hf64
        rw [hah] at hff
        have hrc := dY hin
        rw [hf, hah] at hrc
        have hv : x.val = .agg #[.int .i64 i, .int .i64 x.frame, .int .i64 x.lo, .int .i64 x.n, .slice x.A x.tos.length x.c] := by unfold Sh.val; rw [hi]
        rw [hi] at g0
        have kA := (Keep.refl Nob wr).alloc (.cells #[.int .i64 i, .int .i64 x.frame, .int .i64 x.lo, .int .i64 x.n, .slice x.A x.tos.length x.c] 230)
        have bS := Blk.new wr 230 [.int .i64 i, .int .i64 x.frame, .int .i64 x.lo, .int .i64 x.n, .slice x.A x.tos.length x.c]
        have hFa := hF.nob kA
        have hRa := hRb.nob kA
        have kd := Keep.nobdrew (wr.alloc (.cells #[.int .i64 i, .int .i64 x.frame, .int .i64 x.lo, .int .i64 x.n, .slice x.A x.tos.length x.c] 230))
        have hLn : ((b.shared.take j).map (au ns)).length = j := by rw [List.length_map, List.length_take]; omega
        have hnx : K0.xs.length = 64 * Qu.first ns ns.length := by rw [HKF.out.2.2.2.2.1, fI, ← HALL.out, HNS.out]
        have hnf := Qu.bV H64.out ns.length (Nat.le_refl _)
        have hne : K0.envs = b.envs := HKF.out.2.1
        have hN4 := HNS.out
        have hcall := kshare_is (hFa.nob kd).is (bw b.envs b.shared j) rfl (fun e _ => by dsimp only; rw [hLn]; exact iK _ _ _ _) (by dsimp only; rw [hLn]; omega) x ((HH.out.1.nob (hFa.nob kd).keep).tos x hxm) a9 ah f a3 a4 a5 a6 hf64 (by omega) (au ns x).1 (by unfold au; rw [hi, Int.toNat_natCast, hah]) (by have := hsp.2; dsimp only; rw [hnx]; exact_mod_cast this) (by dsimp only; rw [hnx]; omega) ⟨j, 3, 0, x.n, (0, 0)⟩ (by dsimp only; rw [hLn]) (fun W kk => ((HH.out.1.nob ((hFa.nob kd).keep.trans kk (fun b hb m => by have := (hFa.nob kd).turnS b m; omega))).tos x hxm))
        rw [hv] at hcall
        have S0 : ∀ W, Blk W wr.heap.size 230 [.int .i64 i, .int .i64 x.frame, .int .i64 x.lo, .int .i64 x.n, .slice x.A x.tos.length x.c] → Blk W rr 236 (aI ns) → W.cell? ⟨wr.heap.size, 0, none⟩ = some (.int .i64 i) ∧ W.cell? ⟨wr.heap.size, 1, none⟩ = some (.int .i64 x.frame) ∧ W.cell? ⟨wr.heap.size, 2, none⟩ = some (.int .i64 x.lo) ∧ W.cell? ⟨wr.heap.size, 3, none⟩ = some (.int .i64 x.n) ∧ W.cell? ⟨wr.heap.size, 4, none⟩ = some (.slice x.A x.tos.length x.c) ∧ W.cell? ⟨rr, i * 2, none⟩ = some (.int .i64 ah) ∧ W.cell? ⟨rr, i * 2 + 1, none⟩ = some (.int .i64 f) := fun W h1 h2 =>
         ⟨h1.cell 0, h1.cell 1, h1.cell 2, h1.cell 3, h1.cell 4, (h2.cell _).trans hrc.1, (h2.cell _).trans hrc.2⟩
        have s0 := S0 _ (bS.nob kd) (hRa.nob kd)
        have SS := aa S0
        have HFA := aa (And.intro (hFa.nob kd) (And.intro (bS.nob kd) (And.intro (hRa.nob kd) (And.intro hF.keep.size hx))))
        have HNE := aa (And.intro hne hLn)
        have hik : (i : Int) < k := by omega
        clear S0 hF hRb hFa hRa bS kA kd hv hrc hah hf hi hok2 hsp hne hLn a1 a2 a7 hnx hx hxm
        go_wp2_with fail
        go_region_held3 (fun w' => w'.cell? ⟨wr.heap.size, 0, none⟩ = some (.int .i64 i) ∧ w'.cell? ⟨wr.heap.size, 1, none⟩ = some (.int .i64 x.frame) ∧ w'.cell? ⟨wr.heap.size, 2, none⟩ = some (.int .i64 x.lo) ∧ w'.cell? ⟨wr.heap.size, 3, none⟩ = some (.int .i64 x.n) ∧ w'.cell? ⟨wr.heap.size, 4, none⟩ = some (.slice x.A x.tos.length x.c) ∧ w'.cell? ⟨rr, i * 2, none⟩ = some (.int .i64 ah) ∧ w'.cell? ⟨rr, i * 2 + 1, none⟩ = some (.int .i64 f))
         (first | exact s0 | exact SS.out _ (HFA.out.1.is.offS HFA.out.2.1 (by decide) (by decide) (by decide) hkS) (HFA.out.1.is.offS HFA.out.2.2.1 (by decide) (by decide) (by decide) hkS))
         (first | (go_at_call 160; refine hcall.mono ?_; rintro e w2 ⟨rfl, A'', cap'', hI2, hkS, hoS⟩))
        have hRn := HFA.out.1.is.offS HFA.out.2.2.1 (by decide) (by decide) (by decide) hkS
        have hFn := HFA.out.1.share hI2 hkS (fun g hg => (hoS g hg).imp id (fun h => by have := HFA.out.1.keep.size; omega))
        have e1 : (b.shared.take j).map (au ns) ++ [((au ns x).1, x.n)] = (b.shared.take (j + 1)).map (au ns) := by
         rw [List.take_add_one, HFA.out.2.2.2.2, List.map_append]
         rfl
        dsimp only at hFn
        have eT : dH (bw b.envs b.shared j) K0.envs x.tos ⟨j, 3, 0, x.n, (0, 0)⟩ K0.envs.length = bw b.envs b.shared (j + 1) := by rw [HNE.out.1]; exact (fF HFA.out.2.2.2.2).symm
        rw [e1, eT] at hFn
        have FI := aa (And.intro hFn hRn)
        clear hFn hRn hI2 hkS hoS e1 hcall s0
        go_wp2_with fail
        go_roundw
        case rel => exact ⟨j + 1, A'', cap'', by omega, by go_num, FI.out.1, FI.out.2⟩
        case measure => simp [intOf]; omega
       ·obtain rfl : j = nH := by omega
        have hb : Boots b ns { K0 with gates := gs, Ag := Ag, cg := cg, A := A', cap := cap', L := (b.shared.take j).map (au ns), T := tOf (bw b.envs b.shared j) } := by
         have ej : j = b.shared.length := HNHx.out.symm
         refine ⟨HKF.out.1, HKF.out.2.1, HKF.out.2.2.1, HKF.out.2.2.2.1, HKF.out.2.2.2.2.1.trans (by rw [← HALL.out, HNS.out]), by dsimp only; rw [ej, List.take_of_length_le (Nat.le_refl _)], by dsimp only; rw [ej], HGS.out⟩
        go_wp2
        go_ret2
        refine ⟨_, ?_, hF, hb⟩; rfl
   ·obtain ⟨gS, oS, hAS, -⟩ := (HH.out.1.se).lit (by rw [HNSx.out]; omega)
    have hcl : ∀ wx, Keep Nob w wx → ∀ (j : Nat) x, b.sects[j]? = some x → wx.cell? ⟨gS, oS + j, none⟩ = some x.cell := fun wx kk j x hx => by
     obtain ⟨g2, o2, h2, h3⟩ := (HH.out.1.nob kk).se.lit (by have := aP hx; omega)
     rw [hAS] at h2
     cases h2
     exact h3 j x.cell (by simp [hx])
    have HCL := aa hcl
    clear hcl
    rw [hAS] at bB
    have HAS := aa hAS
    clear hAS
    have e2 := bB.cell 2
    simp only [List.getElem?_cons_zero, List.getElem?_cons_succ] at e2
    go_wp2_with fail
    clear e2
    go_loopw [60] (fun s60 wx => ∃ (j : Nat) (gs : List Gt) (Ag : Option Addr) (cg : Nat), j ≤ nS ∧ s60 = .int .i64 j ∧ gs.length = j ∧ gs.map (fun G => (G.s, G.may)) = (b.sects.take j).map (fun s => (Se.Sec.new b.lease, s.xs)) ∧ Kf w wx { K0 with gates := gs, Ag := Ag, cg := cg } ∧ Blk wx w.heap.size 144 [.slice b.Af b.frames.length b.cf, .slice b.Ae b.envs.length b.ce, .slice (some ⟨gS, oS, none⟩) nS b.cs, .int .i64 b.lease, .slice b.Ah nH b.ch] ∧ Blk wx rr 236 (aI ns)) (fun t _ => nS - (intOf t).toNat)
    case atStart => exact ⟨0, [], none, 0, Nat.zero_le _, rfl, rfl, rfl, hF0, bB, rB⟩
    case round =>
     obtain ⟨j, gs, Ag, cg, hj, rfl, hgl, hgm, hF, hBb, hRb⟩ := hrel
     clear hF0 bB rB
     by_cases hlt : j < nS
     ·have hjl : j < b.sects.length := by rw [HNSx.out]; exact hlt
      obtain ⟨x, hx⟩ : ∃ x, b.sects[j]? = some x := ⟨_, List.getElem?_eq_getElem hjl⟩
      have hxm := List.mem_of_getElem? hx
      have hcx := HCL.out wr hF.keep j x hx
      unfold Sl.cell at hcx
      have hrx := (HH.out.1.nob hF.keep).sl x hxm
      have hx1000 := (HH.out.2.se x hxm).2
      obtain ⟨xl, hxl⟩ : ∃ n, x.xs.length = n := ⟨_, rfl⟩
      have HXL := aa hxl
      have kd := Keep.nobdrew wr
      have c2 := hF.is.c2
      dsimp only at c2
      rw [hgl] at c2
      have e3 := hBb.cell 3
      simp only [List.getElem?_cons_zero, List.getElem?_cons_succ] at e3
      have sf : ∀ W, Keep Nob wr W → W.cell? ⟨K0.k, 2, none⟩ = some (.slice Ag j cg) ∧ W.cell? ⟨w.heap.size, 3, none⟩ = some (.int .i64 b.lease) := fun W kk => by
       have c2 := (hF.nob kk).is.c2
       dsimp only at c2
       rw [hgl] at c2
       have e3 := (hBb.nob kk).cell 3
       simp only [List.getElem?_cons_zero, List.getElem?_cons_succ] at e3
       exact ⟨c2, e3⟩
      have hsn : ∀ W, Calls Tryz.prog 159 #[.int .i64 b.lease] W fun e w' => ∃ p, e = .returned (.pointer (some ⟨p, 0, none⟩)) ∧ Se.IsSec w' p none 0 (Se.Sec.new b.lease) ∧ W.heap.size ≤ p ∧ Keep Nob W w' := fun W => Se.new_sec b.lease
      have hcl : ∀ W, Keep Nob wr W → Calls Tryz.prog 154 #[.slice x.A xl x.c] W fun e w' => ∃ A' c', e = .returned (.slice A' xl c') ∧ Vec w' 3 1 A' xl c' (ab x.xs) ∧ (∀ k, Own A' k → W.heap.size ≤ k) ∧ Keep Nob W w' := fun W kk => by
       have := hrx.nob kk
       rw [hxl] at this
       exact Se.clone_is this (by omega)
      rw [hxl] at hcx
      have HF := aa (And.intro hF (And.intro hBb (And.intro hgl hgm)))
      have HRb := aa hRb
      clear hRb
      have q0 := (sf _ kd).1
      have q1 := (sf _ kd).2
      have SF := aa sf
      have HX := aa hx
      clear hF hBb hgm hrx hx hxm sf c2 e3 hxl
      go_wp2_with fail
      go_region_law (first
       | (go_simp; go_at_call 159; refine (hsn _).mono ?_; rintro e wa ⟨p, rfl, hS, hp, kS⟩; have ka := kd.trans kS (fun _ _ f => f); have q2 := (SF.out _ ka).1; have q3 := (SF.out _ ka).2)
       | (go_simp; go_at_call 154; refine (hcl _ ka).mono ?_; rintro e wb ⟨A', c', rfl, hm, hoA, kM⟩; have kb := ka.trans kM (fun _ _ f => f); have kx := kb.alloc (.cells #[.pointer (some ⟨p, 0, none⟩), .slice A' xl c'] 245); have q4 := (SF.out _ kb).1; have q5 := (SF.out _ kb).2; have q6 := (SF.out _ kx).1; have q7 := (SF.out _ kx).2; have hv1 := (HF.out.1.is.nob kx).row; dsimp only at hv1; rw [HF.out.2.2.1] at hv1; have hr1 := aj (n := 2) (Blk.new wb 245 [.pointer (some ⟨p, 0, none⟩), .slice A' xl c']) rfl)
       | (refine Qu.fo (by rfl) _ _ 108 (by rfl) 245 2 32 (.agg #[.pointer none, .slice none 0 0]) Tryz.underlying108 infogate (by rfl) (by decide) Ag j cg (jj gs) (by rfl) hv1 (some ⟨wb.heap.size, 0, none⟩) 1 1 [.pointer (some ⟨p, 0, none⟩), .slice A' xl c'] (by rfl) 2 (by rfl) hr1 (one2 _ _ rfl rfl) (by unfold maxLen; omega) (by omega) ?_; intro A2 c2 w2 hv2 hk2 ho2; have o2 := (HF.out.1.is.obj.nob kx).keep hk2 (eO (fun b hb => (HF.out.1.is.nob kx).row.blk hb) (HF.out.1.is.obj.nob kx) (by decide)); have z1 := o2.cell 2; have f1 := o2.frozen 2; simp only [List.getElem?_cons_zero, List.getElem?_cons_succ] at z1))
      all_goals
       have hsz : w.heap.size ≤ wr.heap.size := HF.out.1.keep.size
       have hwd : wr.drew.heap.size = wr.heap.size := rfl
       have hwa := kS.size
       have F := (HF.out.1.nob kx).gate (p := p) (s := Se.Sec.new b.lease) (A' := A') (c' := c') (xs := x.xs) (A2 := A2) (c2 := c2) ((hS.nob kM).nob ((Keep.refl Nob wb).alloc _)) (Se.Sec.Ok.new _) (by rw [HXL.out]; exact hm.nob ((Keep.refl Nob wb).alloc _)) (by omega) (fun y hy => by have := hoA y hy; omega)
        (fun G hG e => by have := (HF.out.1.is.sec G hG).1.obj.lt; omega) (fun G hG y hy hy2 => by have := (HF.out.1.is.sec G hG).1.row.lt y hy; have := hoA y hy2; omega) (by dsimp only; rw [HF.out.2.2.1]; omega) hx1000 (by dsimp only; rw [HF.out.2.2.1, HXL.out]; exact hv2) hk2 (fun y hy => (ho2 y hy).imp id (fun e => by have := kx.size; omega))
       dsimp only at F
       rw [HF.out.2.2.1] at F
       have hboot : Blk (w2.setCell ⟨K0.k, 2, none⟩ (.slice A2 (j + 1) c2)) w.heap.size 144 [.slice b.Af b.frames.length b.cf, .slice b.Ae b.envs.length b.ce, .slice (some ⟨gS, oS, none⟩) nS b.cs, .int .i64 b.lease, .slice b.Ah nH b.ch] := by
        have b1 := (HF.out.2.1.nob kx).keep hk2 (eO (fun b hb => (HF.out.1.is.nob kx).row.blk hb) (HF.out.2.1.nob kx) (by decide))
        exact b1.far (b1.ne_ o2 (by decide)) _
       have hmap : (gs ++ [(⟨p, none, 0, Se.Sec.new b.lease, A', c', x.xs⟩ : Gt)]).map (fun G => (G.s, G.may)) = (b.sects.take (j + 1)).map (fun s => (Se.Sec.new b.lease, s.xs)) := by
        rw [List.map_append, HF.out.2.2.2, List.take_add_one, HX.out]
        simp
       have hlen : (gs ++ [(⟨p, none, 0, Se.Sec.new b.lease, A', c', x.xs⟩ : Gt)]).length = j + 1 := by rw [List.length_append, HF.out.2.2.1]; rfl
       have hroom : Blk (w2.setCell ⟨K0.k, 2, none⟩ (.slice A2 (j + 1) c2)) rr 236 (aI ns) := by
        have b1 := (HRb.out.nob kx).keep hk2 (eO (fun b hb => (HF.out.1.is.nob kx).row.blk hb) (HRb.out.nob kx) (by decide))
        exact b1.far (b1.ne_ o2 (by decide)) _
       have HRM := aa hroom
       clear hroom
       have FI := aa (And.intro F (And.intro hboot (And.intro hmap hlen)))
       clear F hboot hmap hlen hv2 hk2 ho2 o2 hv1 hr1 hm hoA kM kb ka kx hS hp kS q0 q1 q2 q3 q4 q5 q6 q7 hsn hcl kd HF SF
       go_wp2_with fail
       go_roundw
       case rel => exact ⟨j + 1, _, A2, c2, by omega, by go_num, FI.out.2.2.2, FI.out.2.2.1, FI.out.1, FI.out.2.1, HRM.out⟩
       case measure => simp [intOf]; omega
     ·obtain rfl : j = nS := by omega
      have hgs : gs.map (fun G => (G.s, G.may)) = b.sects.map (fun s => (Se.Sec.new b.lease, s.xs)) := by
       rw [hgm, List.take_of_length_le (by rw [HNSx.out]; omega)]
      have HGS := aa hgs
      clear hgm hgs hgl
      have hst : ∃ A' cap', Kf w wr { K0 with gates := gs, Ag := Ag, cg := cg, A := A', cap := cap', L := (b.shared.take 0).map (au ns), T := tOf (bw b.envs b.shared 0) } := by
       refine ⟨K0.A, K0.cap, ?_⟩
       have e1 : (b.shared.take 0).map (au ns) = K0.L := by rw [HKF.out.2.2.2.2.2.1]; rfl
       have e2 : tOf (bw b.envs b.shared 0) = K0.T := by rw [HKF.out.2.2.2.2.2.2]; exact jC.symm
       rw [e1, e2]
       exact hF
      obtain ⟨A0, cap0, hF0⟩ := hst
      by_cases hz2 : nH = 0
      ·subst hz2
       have e4 := hBb.cell 4
       simp only [List.getElem?_cons_zero, List.getElem?_cons_succ] at e4
       go_wp2_with fail
       clear e4
       go_loopw [83] (fun s83 wx => ∃ (j : Nat) (A' : Option Addr) (cap' : Nat), j ≤ 0 ∧ s83 = .int .i64 j ∧ Kf w wx { K0 with gates := gs, Ag := Ag, cg := cg, A := A', cap := cap', L := (b.shared.take j).map (au ns), T := tOf (bw b.envs b.shared j) } ∧ Blk wx rr 236 (aI ns)) (fun t _ => 0 - (intOf t).toNat)
       case atStart => exact ⟨0, A0, cap0, Nat.zero_le _, rfl, hF0, hRb⟩
       case round =>
        obtain ⟨j, A', cap', hj, rfl, hF, hRb⟩ := hrel
        clear hF0
        obtain rfl : j = 0 := by omega
        have hb : Boots b ns { K0 with gates := gs, Ag := Ag, cg := cg, A := A', cap := cap', L := (b.shared.take 0).map (au ns), T := tOf (bw b.envs b.shared 0) } := by
         have ej : 0 = b.shared.length := HNHx.out.symm
         refine ⟨HKF.out.1, HKF.out.2.1, HKF.out.2.2.1, HKF.out.2.2.2.1, HKF.out.2.2.2.2.1.trans (by rw [← HALL.out, HNS.out]), by dsimp only; rw [ej, List.take_of_length_le (Nat.le_refl _)], by dsimp only; rw [ej], HGS.out⟩
        go_wp2
        go_ret2
        refine ⟨_, ?_, hF, hb⟩; rfl
      ·obtain ⟨gH, oH, hAH, -⟩ := (HH.out.1.sh).lit (by rw [HNHx.out]; omega)
       have hcs : ∀ wx, Keep Nob w wx → ∀ (j : Nat) (x : Sh), b.shared[j]? = some x → wx.cell? ⟨gH, oH + j * 5, none⟩ = some (.int .i64 x.ses) ∧ wx.cell? ⟨gH, oH + j * 5 + 1, none⟩ = some (.int .i64 x.frame) ∧ wx.cell? ⟨gH, oH + j * 5 + 2, none⟩ = some (.int .i64 x.lo) ∧ wx.cell? ⟨gH, oH + j * 5 + 3, none⟩ = some (.int .i64 x.n) ∧ wx.cell? ⟨gH, oH + j * 5 + 4, none⟩ = some (.slice x.A x.tos.length x.c) := fun wx kk j x hx => by
        obtain ⟨g2, o2, h2, h3⟩ := (HH.out.1.nob kk).sh.lit (by have := aP hx; omega)
        rw [hAH] at h2
        cases h2
        have g0 := h3 _ _ (az hx (j := 0) (by decide))
        have g1 := h3 _ _ (az hx (j := 1) (by decide))
        have g2 := h3 _ _ (az hx (j := 2) (by decide))
        have g3 := h3 _ _ (az hx (j := 3) (by decide))
        have g4 := h3 _ _ (az hx (j := 4) (by decide))
        rw [← Nat.add_assoc] at g1 g2 g3 g4
        rw [Nat.add_zero] at g0
        exact ⟨g0, g1, g2, g3, g4⟩
       have HCS := aa hcs
       clear hcs
       rw [hAH] at hBb
       have HAH := aa hAH
       clear hAH
       have e4 := hBb.cell 4
       simp only [List.getElem?_cons_zero, List.getElem?_cons_succ] at e4
       go_wp2_with fail
       clear e4
       go_loopw [83] (fun s83 wx => ∃ (j : Nat) (A' : Option Addr) (cap' : Nat), j ≤ nH ∧ s83 = .int .i64 j ∧ Kf w wx { K0 with gates := gs, Ag := Ag, cg := cg, A := A', cap := cap', L := (b.shared.take j).map (au ns), T := tOf (bw b.envs b.shared j) } ∧ Blk wx rr 236 (aI ns)) (fun t _ => nH - (intOf t).toNat)
       case atStart => exact ⟨0, A0, cap0, Nat.zero_le _, rfl, hF0, hRb⟩
       case round =>
        obtain ⟨j, A', cap', hj, rfl, hF, hRb⟩ := hrel
        clear hF0
        by_cases hlt : j < nH
        ·have hjl : j < b.shared.length := by rw [HNHx.out]; exact hlt
         obtain ⟨x, hx⟩ : ∃ x, b.shared[j]? = some x := ⟨_, List.getElem?_eq_getElem hjl⟩
         have hxm := List.mem_of_getElem? hx
         obtain ⟨g0, g1, g2, g3, g4⟩ := HCS.out wr hF.keep j x hx
         have hok := HH.out.2.sh x hxm
         have hsp := span_in hok
         have hok2 := hok
         obtain ⟨a1, a2, a3, a4, a5, a6, a7, a8, a9⟩ := hok
         obtain ⟨i, hi⟩ := Int.eq_ofNat_of_zero_le a1
         rw [hi, Int.toNat_natCast] at a4 a7
         have hin : i < ns.length := by omega
         have hi4 : i < 4 := by have := HNS.out; omega
         have hff := Qu.bV H64.out i (by omega)
         have hf64 : ns.getD i 0 ≤ 64 := by
          rw [List.getD_eq_getElem?_getD, List.getElem?_eq_getElem hin]
          exact H64.out _ (List.getElem_mem hin)
         obtain ⟨f, hf⟩ : ∃ f, ns.getD i 0 = f := ⟨_, rfl⟩
         obtain ⟨ah, hah⟩ : ∃ ah, Qu.first ns i = ah := ⟨_, rfl⟩
         rw [hf] at a4 a7 hf64
         rw [hah] at hff
         have hrc := dY hin
         rw [hf, hah] at hrc
         have hv : x.val = .agg #[.int .i64 i, .int .i64 x.frame, .int .i64 x.lo, .int .i64 x.n, .slice x.A x.tos.length x.c] := by unfold Sh.val; rw [hi]
         rw [hi] at g0
         have kA := (Keep.refl Nob wr).alloc (.cells #[.int .i64 i, .int .i64 x.frame, .int .i64 x.lo, .int .i64 x.n, .slice x.A x.tos.length x.c] 230)
         have bS := Blk.new wr 230 [.int .i64 i, .int .i64 x.frame, .int .i64 x.lo, .int .i64 x.n, .slice x.A x.tos.length x.c]
         have hFa := hF.nob kA
         have hRa := hRb.nob kA
         have kd := Keep.nobdrew (wr.alloc (.cells #[.int .i64 i, .int .i64 x.frame, .int .i64 x.lo, .int .i64 x.n, .slice x.A x.tos.length x.c] 230))
         have hLn : ((b.shared.take j).map (au ns)).length = j := by rw [List.length_map, List.length_take]; omega
         have hnx : K0.xs.length = 64 * Qu.first ns ns.length := by rw [HKF.out.2.2.2.2.1, fI, ← HALL.out, HNS.out]
         have hnf := Qu.bV H64.out ns.length (Nat.le_refl _)
         have hne : K0.envs = b.envs := HKF.out.2.1
         have hN4 := HNS.out
         have hcall := kshare_is (hFa.nob kd).is (bw b.envs b.shared j) rfl (fun e _ => by dsimp only; rw [hLn]; exact iK _ _ _ _) (by dsimp only; rw [hLn]; omega) x ((HH.out.1.nob (hFa.nob kd).keep).tos x hxm) a9 ah f a3 a4 a5 a6 hf64 (by omega) (au ns x).1 (by unfold au; rw [hi, Int.toNat_natCast, hah]) (by have := hsp.2; dsimp only; rw [hnx]; exact_mod_cast this) (by dsimp only; rw [hnx]; omega) ⟨j, 3, 0, x.n, (0, 0)⟩ (by dsimp only; rw [hLn]) (fun W kk => ((HH.out.1.nob ((hFa.nob kd).keep.trans kk (fun b hb m => by have := (hFa.nob kd).turnS b m; omega))).tos x hxm))
         rw [hv] at hcall
         have S0 : ∀ W, Blk W wr.heap.size 230 [.int .i64 i, .int .i64 x.frame, .int .i64 x.lo, .int .i64 x.n, .slice x.A x.tos.length x.c] → Blk W rr 236 (aI ns) → W.cell? ⟨wr.heap.size, 0, none⟩ = some (.int .i64 i) ∧ W.cell? ⟨wr.heap.size, 1, none⟩ = some (.int .i64 x.frame) ∧ W.cell? ⟨wr.heap.size, 2, none⟩ = some (.int .i64 x.lo) ∧ W.cell? ⟨wr.heap.size, 3, none⟩ = some (.int .i64 x.n) ∧ W.cell? ⟨wr.heap.size, 4, none⟩ = some (.slice x.A x.tos.length x.c) ∧ W.cell? ⟨rr, i * 2, none⟩ = some (.int .i64 ah) ∧ W.cell? ⟨rr, i * 2 + 1, none⟩ = some (.int .i64 f) := fun W h1 h2 =>
          ⟨h1.cell 0, h1.cell 1, h1.cell 2, h1.cell 3, h1.cell 4, (h2.cell _).trans hrc.1, (h2.cell _).trans hrc.2⟩
         have s0 := S0 _ (bS.nob kd) (hRa.nob kd)
         have SS := aa S0
         have HFA := aa (And.intro (hFa.nob kd) (And.intro (bS.nob kd) (And.intro (hRa.nob kd) (And.intro hF.keep.size hx))))
         have HNE := aa (And.intro hne hLn)
         have hik : (i : Int) < k := by omega
         clear S0 hF hRb hFa hRa bS kA kd hv hrc hah hf hi hok2 hsp hne hLn a1 a2 a7 hnx hx hxm
         go_wp2_with fail
         go_region_held3 (fun w' => w'.cell? ⟨wr.heap.size, 0, none⟩ = some (.int .i64 i) ∧ w'.cell? ⟨wr.heap.size, 1, none⟩ = some (.int .i64 x.frame) ∧ w'.cell? ⟨wr.heap.size, 2, none⟩ = some (.int .i64 x.lo) ∧ w'.cell? ⟨wr.heap.size, 3, none⟩ = some (.int .i64 x.n) ∧ w'.cell? ⟨wr.heap.size, 4, none⟩ = some (.slice x.A x.tos.length x.c) ∧ w'.cell? ⟨rr, i * 2, none⟩ = some (.int .i64 ah) ∧ w'.cell? ⟨rr, i * 2 + 1, none⟩ = some (.int .i64 f))
          (first | exact s0 | exact SS.out _ (HFA.out.1.is.offS HFA.out.2.1 (by decide) (by decide) (by decide) hkS) (HFA.out.1.is.offS HFA.out.2.2.1 (by decide) (by decide) (by decide) hkS))
          (first | (go_at_call 160; refine hcall.mono ?_; rintro e w2 ⟨rfl, A'', cap'', hI2, hkS, hoS⟩))
         have hRn := HFA.out.1.is.offS HFA.out.2.2.1 (by decide) (by decide) (by decide) hkS
         have hFn := HFA.out.1.share hI2 hkS (fun g hg => (hoS g hg).imp id (fun h => by have := HFA.out.1.keep.size; omega))
         have e1 : (b.shared.take j).map (au ns) ++ [((au ns x).1, x.n)] = (b.shared.take (j + 1)).map (au ns) := by
          rw [List.take_add_one, HFA.out.2.2.2.2, List.map_append]
          rfl
         dsimp only at hFn
         have eT : dH (bw b.envs b.shared j) K0.envs x.tos ⟨j, 3, 0, x.n, (0, 0)⟩ K0.envs.length = bw b.envs b.shared (j + 1) := by rw [HNE.out.1]; exact (fF HFA.out.2.2.2.2).symm
         rw [e1, eT] at hFn
         have FI := aa (And.intro hFn hRn)
         clear hFn hRn hI2 hkS hoS e1 hcall s0
         go_wp2_with fail
         go_roundw
         case rel => exact ⟨j + 1, A'', cap'', by omega, by go_num, FI.out.1, FI.out.2⟩
         case measure => simp [intOf]; omega
        ·obtain rfl : j = nH := by omega
         have hb : Boots b ns { K0 with gates := gs, Ag := Ag, cg := cg, A := A', cap := cap', L := (b.shared.take j).map (au ns), T := tOf (bw b.envs b.shared j) } := by
          have ej : j = b.shared.length := HNHx.out.symm
          refine ⟨HKF.out.1, HKF.out.2.1, HKF.out.2.2.1, HKF.out.2.2.2.1, HKF.out.2.2.2.2.1.trans (by rw [← HALL.out, HNS.out]), by dsimp only; rw [ej, List.take_of_length_le (Nat.le_refl _)], by dsimp only; rw [ej], HGS.out⟩
         go_wp2
         go_ret2
         refine ⟨_, ?_, hF, hb⟩; rfl
end Go.Proofs.YtgcikpgcoemfnaaGreat
namespace Go.Proofs.YtgcikpgcoemfnaaGreat
open Go.RowKit
section
variable {w w' : World} {K : Kn}
theorem stay_xs (K : Kn) (ys : List UInt8) : Stay (fun K' => K' = { K with xs := ys }) K := fun K' h => by subst h; exact ⟨rfl, rfl, rfl, rfl⟩
theorem stay_same (K : Kn) : Stay (fun K' => K' = K) K := fun K' h => by subst h; exact ⟨rfl, rfl, rfl, rfl⟩
theorem k_read (h : aK w K) (i : Nat) (hi : i < K.envs.length) (cap at_ to_ on : Int) (A : Option Addr) (m c : Nat) (k a : Nat) (hv : bo K.T K.envs.length K.L i cap 1 at_ k a 0) (ys : List UInt8) (hy : (K.xs.drop a).take k = ys) (n : Int) (hn : n = k) :
  Calls Tryz.prog 30 #[.pointer (some ⟨K.k, 0, none⟩), .int .i64 i, fq 1 cap at_ n to_ on A m c] w fun e w' => ∃ A' c', e = .returned (.agg #[.int .i64 0, .int .i64 0, .slice A' k c']) ∧ ae w' A' k (bytes ys) ∧ (∀ ad, A' = some ad → w.heap.size ≤ ad.block) ∧ To w K K w' := by
 subst hn
 refine do_read h i hi cap at_ k to_ on A m c 0 k ys (fun W kk => ?_)
 refine (read_yes (h.nob kk).reg hv).mono ?_
 have hr := hv.range h.reg
 have hl : ((K.xs.drop a).take k).length = k := by simp; omega
 rintro e w2 ⟨g, rfl, hb, hg, k2⟩
 rw [hy] at hb hl ⊢
 rw [hl]
 exact ⟨_, _, rfl, aj hb (by simp [hl]), fun ad e => (by cases e; exact hg), k2⟩
theorem k_read_no (h : aK w K) (i : Nat) (hi : i < K.envs.length) (cap at_ n to_ on : Int) (A : Option Addr) (m c : Nat) {v : Int} (er : Int) (hv : bo K.T K.envs.length K.L i cap 1 at_ n v er) (he : er ≠ 0) :
  Calls Tryz.prog 30 #[.pointer (some ⟨K.k, 0, none⟩), .int .i64 i, fq 1 cap at_ n to_ on A m c] w fun e w' => ∃ A' c', e = .returned (.agg #[.int .i64 er, .int .i64 0, .slice A' 0 c']) ∧ To w K K w' := by
 refine (do_read h i hi cap at_ n to_ on A m c er 0 [] (fun W kk => (read_no (h.nob kk).reg hv he).mono ?_)).mono ?_
 ·rintro e w2 ⟨rfl, k2⟩
  exact ⟨none, 0, rfl, ae.nil_ _ _, fun ad e => (by cases e), k2⟩
 ·rintro e w2 ⟨A', c', rfl, _, _, t⟩
  exact ⟨A', c', rfl, t⟩
theorem k_write (h : aK w K) (i : Nat) (hi : i < K.envs.length) (cap at_ n to_ on : Int) (A : Option Addr) (m c : Nat) (a : Nat) (bs : List UInt8) (hv : bo K.T K.envs.length K.L i cap 2 at_ m a 0) (hb : ae w A m (bytes bs)) (ys : List UInt8) (hy : splice K.xs a bs = ys) :
  Calls Tryz.prog 30 #[.pointer (some ⟨K.k, 0, none⟩), .int .i64 i, fq 2 cap at_ n to_ on A m c] w fun e w' => e = .returned (.agg #[.int .i64 0, .int .i64 0, .slice none 0 0]) ∧ To w K { K with xs := ys } w' := by
 refine (do_write h i hi cap at_ n to_ on A m c _ (stay_xs K ys) 0 (fun ss hs W kk => (gV (h.nob kk).reg hv (hb.nob kk)).mono ?_)).mono ?_
 ·rintro e w2 ⟨rfl, hR, k2⟩
  rw [hy] at hR
  exact ⟨rfl, _, rfl, (h.nob kk).bytes hR k2⟩
 ·rintro e w2 ⟨rfl, K', rfl, t⟩
  exact ⟨rfl, t⟩
theorem k_write_no (h : aK w K) (i : Nat) (hi : i < K.envs.length) (cap at_ n to_ on : Int) (A : Option Addr) (m c : Nat) {v : Int} (er : Int) (hv : bo K.T K.envs.length K.L i cap 2 at_ m v er) (he : er ≠ 0) :
  Calls Tryz.prog 30 #[.pointer (some ⟨K.k, 0, none⟩), .int .i64 i, fq 2 cap at_ n to_ on A m c] w fun e w' => e = .returned (.agg #[.int .i64 er, .int .i64 0, .slice none 0 0]) ∧ To w K K w' := by
 refine (do_write h i hi cap at_ n to_ on A m c _ (stay_same K) er (fun ss hs W kk => (write_no (h.nob kk).reg hv he).mono ?_)).mono ?_
 ·rintro e w2 ⟨rfl, k2⟩
  exact ⟨rfl, _, rfl, To.still (h.nob kk) k2⟩
 ·rintro e w2 ⟨rfl, K', rfl, t⟩
  exact ⟨rfl, t⟩
end
end Go.Proofs.YtgcikpgcoemfnaaGreat
namespace Go.Proofs.YtgcikpgcoemfnaaGreat.Co
open Go.RowKit
structure Link (K : Kn) (C : Cm) (src : Src) : Prop where
 env : C.env < K.envs.length
 yes : ∀ j b (at_ n : Nat), j ≤ C.brs.length → src j at_ n = some b → ∀ right : Int, (right = 1 ∨ right = 2) → at_ + n ≤ (if j = 0 then 492 else 40) → bo K.T K.envs.length K.L C.env (C.nm j) right at_ n ((b + at_ : Nat) : Int) 0
 no : ∀ j (at_ n : Nat), j ≤ C.brs.length → src j at_ n = none → ∀ right : Int, ∃ v er, er ≠ 0 ∧ bo K.T K.envs.length K.L C.env (C.nm j) right at_ n v er
structure Kc (w : World) (K : Kn) (C : Cm) (src : Src) : Prop where
 k : aK w K
 c : IsCm w K.k C
 l : Link K C src
 ap : 0 < C.brs.length → ∀ ad, C.A = some ad → ¬ Mine K ad.block
section
variable {w w' : World} {K K' : Kn} {C : Cm} {src : Src}
theorem Kc.p_ne (h : Kc w K C src) : ¬ Mine K C.p := h.k.mine_ne h.c.obj (by decide)
theorem Kc.b_ne (h : Kc w K C src) : ¬ Mine K C.b := fun m => by
 obtain ⟨t, cs, hb, _⟩ := h.k.ty _ m
 obtain ⟨l, hl, _⟩ := h.c.map
 exact hl.ne_blk hb rfl
theorem Kc.a_lt (h : Kc w K C src) : 0 < C.brs.length → ∀ ad, C.A = some ad → ad.block < w.heap.size := fun h0 ad e => by
 obtain ⟨ad', e', hc⟩ := h.c.brs.2 h0
 rw [e] at e'
 cases e'
 have := hc 0 _ (by rw [bg, List.getElem?_eq_getElem h0]; rfl)
 have := block_lt_of_cell this
 rwa [iG] at this
theorem Kc.nob (h : Kc w K C src) (k : Keep Nob w w') : Kc w' K C src := ⟨h.k.nob k, h.c.nob k, h.l, h.ap⟩
theorem Kc.to (h : Kc w K C src) (t : To w K K' w') (hk : K'.k = K.k) (hl : Link K' C src) : Kc w' K' C src := by
 refine ⟨t.is, ?_, hl, fun h0 ad e m => ?_⟩
 ·rw [hk]
  exact h.c.keep t.keep (fun m => h.p_ne (.inl m)) (fun h0 ad e m => h.ap h0 ad e (.inl m)) (fun m => h.b_ne (.inl m))
 ·rcases t.mine _ m with m | m
  ·exact h.ap h0 ad e m
  ·have := h.a_lt h0 ad e; omega
theorem Link.xs {ys : List UInt8} (h : Link K C src) : Link { K with xs := ys } C src := ⟨h.env, h.yes, h.no⟩
theorem Link.bad {l : List Rf} (h : Link K C src) : Link K { C with bad := l } src := ⟨h.env, h.yes, h.no⟩
theorem Kc.bytes {ys : List UInt8} (h : Kc w K C src) (t : To w K { K with xs := ys } w') : Kc w' { K with xs := ys } C src := h.to t rfl h.l.xs
theorem Kc.still (h : Kc w K C src) (t : To w K K w') : Kc w' K C src := h.to t rfl h.l
theorem field2 (a b c : Value) (W : World) : (Instr.field 85 (.agg #[a, b, c]) 2).run Tryz.prog W = .ok c W := by
 kernel_rfl
theorem field0 (a b c : Value) (W : World) : (Instr.field 85 (.agg #[a, b, c]) 0).run Tryz.prog W = .ok a W := by
 kernel_rfl
theorem do_load (h : Kc w K C src) (j at_ n : Nat) (hj : j ≤ C.brs.length) (hin : at_ + n ≤ if j = 0 then 492 else 40) (bs : List UInt8) (hbs : got K.xs src (j, at_, n) = bs) :
  Calls Tryz.prog 30 #[.pointer (some ⟨K.k, 0, none⟩), .int .i64 C.env, fq 1 (C.nm j) at_ n 0 0 none 0 0] w fun e w' => ∃ A' c' er, e = .returned (.agg #[.int .i64 er, .int .i64 0, .slice A' bs.length c']) ∧ ae w' A' bs.length (bytes bs) ∧ To w K K w' := by
 cases hs : src j at_ n with
 | some b =>
  have hr := h.l.yes j b at_ n hj hs 1 (.inl rfl) hin
  have hrr := hr.range h.k.reg
  have hg : (K.xs.drop (b + at_)).take n = bs := by
   unfold got at hbs
   dsimp only at hbs
   rw [hs] at hbs
   exact hbs
  have hl : bs.length = n := by rw [← hg]; simp; omega
  refine (k_read h.k C.env h.l.env (C.nm j) at_ 0 0 none 0 0 n (b + at_) hr bs hg n rfl).mono ?_
  rintro e w1 ⟨A', c', rfl, h1, _, t⟩
  rw [hl]
  exact ⟨A', c', 0, rfl, h1, t⟩
 | none =>
  obtain ⟨v, er, he, hr⟩ := h.l.no j at_ n hj hs 1
  obtain rfl : bs = [] := by
   rw [← hbs]
   unfold got
   dsimp only
   rw [hs]
  refine (k_read_no h.k C.env h.l.env (C.nm j) at_ n 0 0 none 0 0 er hr he).mono ?_
  rintro e w1 ⟨A', c', rfl, t⟩
  exact ⟨A', c', er, rfl, ae.nil_ _ _, t⟩
theorem jT (h : Kc w K C src) (j at_ n : Nat) (hj : j ≤ C.brs.length) (hin : at_ + n ≤ if j = 0 then 492 else 40) (nm : Int) (hnm : C.nm j = nm) (bs : List UInt8) (hbs : got K.xs src (j, at_, n) = bs) :
  Calls Tryz.prog 107 #[.pointer (some ⟨C.p, 0, none⟩), .agg #[.int .i64 nm, .int .i64 at_, .int .i64 n]] w fun e w' => ∃ A' c', e = .returned (.slice A' bs.length c') ∧ ae w' A' bs.length (bytes bs) ∧ To w K K w' := by
 subst hnm
 have k1 := (Keep.refl Nob w).alloc (.cells #[.int .i64 (C.nm j), .int .i64 at_, .int .i64 n] 193)
 have b1 := Blk.new w 193 [.int .i64 (C.nm j), .int .i64 at_, .int .i64 n]
 have h1 := h.nob k1
 have hq : w.heap.size < (w.alloc (.cells #[.int .i64 (C.nm j), .int .i64 at_, .int .i64 n] 193)).heap.size := b1.lt
 have sf : ∀ W, Kc W K C src → Blk W w.heap.size 193 [.int .i64 (C.nm j), .int .i64 at_, .int .i64 n] → W.cell? ⟨C.p, 0, none⟩ = some (.pointer (some ⟨K.k, 0, none⟩)) ∧ W.cell? ⟨C.p, 1, none⟩ = some (.int .i64 C.env) ∧ W.cell? ⟨w.heap.size, 0, none⟩ = some (.int .i64 (C.nm j)) ∧ W.cell? ⟨w.heap.size, 1, none⟩ = some (.int .i64 at_) ∧ W.cell? ⟨w.heap.size, 2, none⟩ = some (.int .i64 n) := fun W hW hb =>
  ⟨hW.c.obj.cell 0, hW.c.obj.cell 1, hb.cell 0, hb.cell 1, hb.cell 2⟩
 have hcl := do_load (h1.nob (Keep.nobdrew _)) j at_ n hj hin bs hbs
 unfold fq at hcl
 have s0 := sf _ (h1.nob (Keep.nobdrew _)) (b1.nob (Keep.nobdrew _))
 have hf2 := field2
 have SF := aa sf
 have H := aa (And.intro h1 (And.intro b1 k1))
 clear h1 b1 hbs sf
 generalize C.nm j = nm at *
 go_enter Tryz.func107, Tryz.ntmps107
 go_wp2_with fail
 generalize w.alloc (.cells #[.int .i64 nm, .int .i64 at_, .int .i64 n] 193) = W at *
 generalize w.heap.size = q at *
 go_region_held3 (fun w' => w'.cell? ⟨C.p, 0, none⟩ = some (.pointer (some ⟨K.k, 0, none⟩)) ∧ w'.cell? ⟨C.p, 1, none⟩ = some (.int .i64 C.env) ∧ w'.cell? ⟨q, 0, none⟩ = some (.int .i64 nm) ∧ w'.cell? ⟨q, 1, none⟩ = some (.int .i64 at_) ∧ w'.cell? ⟨q, 2, none⟩ = some (.int .i64 n))
  (first | exact s0 | exact s1)
  (first | (go_at_call 30; with_reducible_and_instances apply Calls.mono hcl; rintro e w1 ⟨A', c', er, rfl, hR, t⟩; have s1 := SF.out _ ((H.out.1.nob (Keep.nobdrew _)).still t) ((H.out.1.nob (Keep.nobdrew _)).k.offT (H.out.2.1.nob (Keep.nobdrew _)) (by decide) t.keep)))
 go_wp2
 go_ret
 exact ⟨_, _, rfl, hR, (t.pre (Keep.nobdrew _)).pre H.out.2.2⟩
theorem lD (h : Kc w K C src) (j at_ : Nat) (bs : List UInt8) (hj : j ≤ C.brs.length) (hin : at_ + bs.length ≤ if j = 0 then 492 else 40) (A : Option Addr) (c : Nat) (hb : ae w A bs.length (bytes bs)) (v : Bool) (ys : List UInt8)
  (hv : (match src j at_ bs.length with | some b => (true, splice K.xs (b + at_) bs) | none => (false, K.xs)) = (v, ys)) (n : Int) :
  Calls Tryz.prog 30 #[.pointer (some ⟨K.k, 0, none⟩), .int .i64 C.env, fq 2 (C.nm j) at_ n 0 0 A bs.length c] w fun e w' => ∃ er : Int, e = .returned (.agg #[.int .i64 er, .int .i64 0, .slice none 0 0]) ∧ (er == 0) = v ∧ To w K { K with xs := ys } w' := by
 cases hs : src j at_ bs.length with
 | some b =>
  rw [hs] at hv
  simp only [Prod.mk.injEq] at hv
  obtain ⟨rfl, hy⟩ := hv
  refine (k_write h.k C.env h.l.env (C.nm j) at_ n 0 0 A bs.length c (b + at_) bs (h.l.yes j b at_ bs.length hj hs 2 (.inr rfl) hin) hb ys hy).mono ?_
  rintro e w1 ⟨rfl, t⟩
  exact ⟨0, rfl, rfl, t⟩
 | none =>
  rw [hs] at hv
  simp only [Prod.mk.injEq] at hv
  obtain ⟨rfl, rfl⟩ := hv
  obtain ⟨x, er, he, hr⟩ := h.l.no j at_ bs.length hj hs 2
  refine (k_write_no h.k C.env h.l.env (C.nm j) at_ n 0 0 A bs.length c er hr he).mono ?_
  rintro e w1 ⟨rfl, t⟩
  exact ⟨er, rfl, by simpa using he, t⟩
theorem fy (h : Kc w K C src) (r : Rf) (ho : dK r) (A : Option Addr) (c m : Nat) (bs : List UInt8) (hm : bs.length = m) (hlen : ∀ x, aw C.brs.length r = some x → bs.length = x.2.2) (hb : ae w A m (bytes bs)) (v : Bool) (ys : List UInt8) (hv : db K.xs src C.brs.length C.bad r bs = (v, ys)) :
  Calls Tryz.prog 105 #[.pointer (some ⟨C.p, 0, none⟩), .agg #[.int .i64 r.1, .int .i64 r.2], .slice A m c] w fun e w' => e = .returned (.bool v) ∧ To w K { K with xs := ys } w' := by
 subst hm
 have no : rch C r = ((0, 0, 0), false) → v = false → ys = K.xs → Calls Tryz.prog 105 #[.pointer (some ⟨C.p, 0, none⟩), .agg #[.int .i64 r.1, .int .i64 r.2], .slice A bs.length c] w fun e w' => e = .returned (.bool v) ∧ To w K { K with xs := ys } w' := by
  rintro hr rfl rfl
  have k1 := (Keep.refl Nob w).alloc (.cells #[.int .i64 r.1, .int .i64 r.2] 57)
  have hcall := cM (h.nob k1).c r ho 0 0 0 false hr
  have hK := h.k
  clear h hv hb hlen ho hr
  generalize r.1 = r1 at *
  generalize r.2 = r2 at *
  go_enter Tryz.func105, Tryz.ntmps105
  go_wp2_with fail
  refine hcall.mono ?_; rintro e w1 ⟨rfl, k2⟩
  go_wp2_with fail
  go_quiet (fail)
  go_wp2
  go_ret
  exact ⟨rfl, To.still hK (((k1.trans k2 (fun _ _ f => f)).alloc _).drewN _)⟩
 by_cases hbad : r ∈ C.bad
 ·rw [kZ hbad] at hv
  simp only [Prod.mk.injEq] at hv
  exact no (by unfold rch; rw [if_pos hbad]) hv.1.symm hv.2.symm
 ·cases hw : aw C.brs.length r with
  | none =>
   rw [jN hbad hw] at hv
   simp only [Prod.mk.injEq] at hv
   exact no (by unfold rch; rw [if_neg hbad, hw]) hv.1.symm hv.2.symm
  | some x =>
   obtain ⟨j, at_, n⟩ := x
   have hin := iv hw
   have hbl : bs.length = n := hlen _ hw
   have hp : (match src j at_ bs.length with | some b => (true, splice K.xs (b + at_) bs) | none => (false, K.xs)) = (v, ys) := by
    rw [← hv]
    unfold db
    rw [if_neg hbad, hw]
    dsimp only
    rw [hbl]
    cases src j at_ n <;> rfl
   have hr : rch C r = ((C.nm j, (at_ : Int), (n : Int)), true) := by unfold rch; rw [if_neg hbad, hw]
   clear no hlen
   have k1 := (Keep.refl Nob w).alloc (.cells #[.int .i64 r.1, .int .i64 r.2] 57)
   have hcall := cM (h.nob k1).c r ho _ _ _ true hr
   have hcl := fun W (kk : Keep Nob w W) => lD (h.nob kk) j at_ bs hin.1 (by rw [hbl]; exact hin.2.1) A c (hb.nob kk) v ys hp 0
   unfold fq at hcl
   have HH := aa h
   clear hr hw hv ho hp hb h hbad hin hbl
   generalize r.1 = r1 at *
   generalize r.2 = r2 at *
   generalize C.nm j = nm at *
   go_enter Tryz.func105, Tryz.ntmps105
   go_wp2_with fail
   refine hcall.mono ?_; rintro e w1 ⟨rfl, k2⟩
   go_wp2_with fail
   have k3 := (k1.trans k2 (fun _ _ f => f)).alloc (.cells #[.int .i64 nm, .int .i64 at_, .int .i64 n] 193)
   have b3 := Blk.new w1 193 [.int .i64 nm, .int .i64 at_, .int .i64 n]
   generalize hW : w1.alloc (.cells #[.int .i64 nm, .int .i64 at_, .int .i64 n] 193) = W at *
   clear hW hcall k1 k2
   generalize w1.heap.size = q at *
   have sf : ∀ W K', Kc W K' C src → K'.k = K.k → Blk W q 193 [.int .i64 nm, .int .i64 at_, .int .i64 n] → W.cell? ⟨C.p, 0, none⟩ = some (.pointer (some ⟨K.k, 0, none⟩)) ∧ W.cell? ⟨C.p, 1, none⟩ = some (.int .i64 C.env) ∧ W.cell? ⟨q, 0, none⟩ = some (.int .i64 nm) ∧ W.cell? ⟨q, 1, none⟩ = some (.int .i64 at_) := fun W K' hW e hb =>
    ⟨by rw [← e]; exact hW.c.obj.cell 0, hW.c.obj.cell 1, hb.cell 0, hb.cell 1⟩
   have kd := k3.drew
   have bd : Blk W.drew q 193 [.int .i64 nm, .int .i64 at_, .int .i64 n] := b3
   have s0 := sf _ _ (HH.out.nob kd) rfl bd
   have hcl := hcl _ kd
   have SF := aa sf
   have BD := aa bd
   have hf0 := field0
   clear sf bd b3
   go_region_held3 (fun w' => w'.cell? ⟨C.p, 0, none⟩ = some (.pointer (some ⟨K.k, 0, none⟩)) ∧ w'.cell? ⟨C.p, 1, none⟩ = some (.int .i64 C.env) ∧ w'.cell? ⟨q, 0, none⟩ = some (.int .i64 nm) ∧ w'.cell? ⟨q, 1, none⟩ = some (.int .i64 at_))
    (first | exact s0 | exact s1)
    (first | (go_at_call 30; with_reducible_and_instances apply Calls.mono hcl; rintro e w2 ⟨er, rfl, her, t⟩; have s1 := SF.out _ _ ((HH.out.nob kd).bytes t) rfl ((HH.out.nob kd).k.offT BD.out (by decide) t.keep)))
   go_wp2
   go_ret
   exact ⟨rfl, t.pre kd⟩
end
end Go.Proofs.YtgcikpgcoemfnaaGreat.Co
namespace Go.Proofs.YtgcikpgcoemfnaaGreat.Co
open Go.RowKit Go.MapKept
theorem keepM {M : Nat → Prop} {w w' : World} {K : Kn} (h : aK w K) (k : Keep M w w') (hM : ∀ b, M b → ∀ t cs, ¬ Blk w b t cs) : aK w' K := by
 have ob : ∀ {x : Nat} {u : TypeId} {cs : List Value}, Blk w x u cs → ¬ M x := fun hb m => hM _ m _ _ hb
 have ov : ∀ {e sz n cap : Nat} {A : Option Addr} {xs : List Value}, Vec w e sz A n cap xs → ∀ g, Own A g → ¬ M g := fun hv g hg => by obtain ⟨c, hc⟩ := hv.blk hg; exact ob hc
 exact ⟨h.obj.keep k (ob h.obj), h.env.keep k (ov h.env), h.row.keep k (ov h.row), fun G hG => ⟨(h.sec G hG).1.keep k (ob (h.sec G hG).1.obj) (ov (h.sec G hG).1.row), (h.sec G hG).2.1, (h.sec G hG).2.2.keep k (ov (h.sec G hG).2.2)⟩,
  h.quo.keep k (ob h.quo.obj) (ov h.quo.row) (fun i hi => ob (h.quo.tab i hi)),
  h.reg.keep k (ob h.reg.obj) (ob h.reg.mem.obj) (ob h.reg.mem.row) (ob h.reg.sp.obj) (ob h.reg.sp.row) (fun i hi => ⟨ob (h.reg.sp.tab i hi).obj, ob (h.reg.sp.tab i hi).row⟩) (ov h.reg.row), h.few, h.lit, h.dp, h.dq, h.de, h.dm⟩
theorem no_cell {P : Program} {k : TypeId} {w : World} {b : Nat} {m : List (Value × Value)} (h : MapIs P k w b m) (off : Nat) {v : Value} (hc : w.cell? ⟨b, off, none⟩ = some v) : False := by
 obtain ⟨es, clock, hb, _⟩ := h
 simp [World.cell?, hb] at hc
structure Ct (w : World) (K K' : Kn) (C C' : Cm) (src : Src) (w' : World) : Prop where
 is : Kc w' K' C' src
 keep : Keep (fun b => Turn K b ∨ b = C.b) w w'
 mine : ∀ b, Mine K' b → Mine K b ∨ w.heap.size ≤ b
section
variable {w w' w1 : World} {K K' : Kn} {C C' : Cm} {src : Src}
theorem Ct.still (h : Kc w K C src) (k : Keep Nob w w') : Ct w K K C C src w' := ⟨h.nob k, k.mono (fun _ _ f => f.elim), fun _ m => .inl m⟩
theorem Ct.of_to {ys : List UInt8} (h : Kc w K C src) (t : To w K { K with xs := ys } w') : Ct w K { K with xs := ys } C C src w' :=
 ⟨h.bytes t, t.keep.mono (fun _ _ m => .inl m), t.mine⟩
theorem Ct.of_to' (h : Kc w K C src) (t : To w K K w') : Ct w K K C C src w' := ⟨h.still t, t.keep.mono (fun _ _ m => .inl m), t.mine⟩
theorem Ct.pre (k : Keep Nob w w1) (t : Ct w1 K K' C C' src w') : Ct w K K' C C' src w' :=
 ⟨t.is, (k.mono (fun _ _ f => f.elim)).trans t.keep (fun _ _ m => m), fun b hb => (t.mine b hb).imp id (fun h => by have := k.size; omega)⟩
theorem Ct.nob (t : Ct w K K' C C' src w1) (k : Keep Nob w1 w') : Ct w K K' C C' src w' := ⟨t.is.nob k, t.keep.trans k (fun _ _ f => f.elim), t.mine⟩
theorem Kc.far (h : Kc w K C src) {g : Nat} {t : TypeId} {cs : List Value} (hb : Blk w g t cs) (ht : ¬ MyT t) (hf : ¬ Fix t) (hp : C.p ≠ g) (ha : 0 < C.brs.length → ∀ ad, C.A = some ad → ad.block ≠ g) (k : Keep (· = g) w w') : Kc w' K C src := by
 obtain ⟨l, hl, _⟩ := h.c.map
 exact ⟨h.k.far hb ht hf k, h.c.keep k hp ha (hl.ne_blk hb), h.l, h.ap⟩
theorem Ct.post (t : Ct w K K' C C' src w1) {g : Nat} {ty : TypeId} {cs : List Value} (hb : Blk w1 g ty cs) (ht : ¬ MyT ty) (hf : ¬ Fix ty) (hg : w.heap.size ≤ g) (hp : C'.p < w.heap.size) (ha : 0 < C'.brs.length → ∀ ad, C'.A = some ad → ad.block < w.heap.size) (k : Keep (· = g) w1 w') : Ct w K K' C C' src w' :=
 ⟨t.is.far hb ht hf (by omega) (fun h0 ad e => by have := ha h0 ad e; omega) k, t.keep.trans k (fun b hlt e => by omega), t.mine⟩
theorem Ct.trans {K2 : Kn} {C2 : Cm} (t : Ct w K K' C C' src w1) (t2 : Ct w1 K' K2 C' C2 src w') (hT : ∀ b, Turn K' b → Mine K' b) (hb : C'.b = C.b) (hTK : ∀ b, Turn K' b → b < w.heap.size → Turn K b) : Ct w K K2 C C2 src w' :=
 ⟨t2.is, t.keep.trans t2.keep (fun b hlt m => by
  rcases m with m | m
  ·exact .inl (hTK b m hlt)
  ·exact .inr (m.trans hb)), fun b m => by
  rcases t2.mine b m with m | m
  ·exact t.mine b m
  ·exact .inr (by have := t.keep.size; omega)⟩
theorem Ct.off (h : Kc w K C src) (t : Ct w K K' C C' src w') {g : Nat} {ty : TypeId} {cs : List Value} (hb : Blk w g ty cs) (ht : ¬ MyT ty) : Blk w' g ty cs := by
 obtain ⟨l, hl, _⟩ := h.c.map
 exact hb.keep t.keep (fun m => by
  rcases m with m | m
  ·exact h.k.mine_ne hb ht (.inl m)
  ·exact hl.ne_blk hb m.symm)
theorem Kc.spoil (h : Kc w K C src) {r : Rf} (ho : dK r) (hn : r ∉ C.bad) (hw : aw C.brs.length r ≠ none) :
  ∃ w', (Instr.mapUpdate 127 (.map (some C.b)) (eA r) (.agg #[])).run Tryz.prog w = .ok () w' ∧ Ct w K K C { C with bad := ins r C.bad } src w' ∧ w'.heap.size = w.heap.size ∧ Keep (· = C.b) w w' := by
 obtain ⟨l, hl, hp⟩ := h.c.map
 obtain ⟨kl, hkey⟩ := ho.key
 have hnl : r ∉ l := fun m => hn (hp.mem_iff.1 m)
 obtain ⟨w', hrun, hm, hk, hs⟩ := hl.add recLaw Tryz.underlying127 hkey (.agg #[]) (entries_no hnl)
 have e : entries l ++ [(eA r, .agg #[])] = entries (l ++ [r]) := by simp [entries]
 rw [e] at hm
 have hne : ∀ {g : Nat} {t : TypeId} {cs : List Value}, Blk w g t cs → g ≠ C.b := fun hb e => hl.ne_blk hb e.symm
 refine ⟨w', hrun, ⟨⟨?_, ⟨?_, ?_, ⟨l ++ [r], hm, ?_⟩, kL h.c.srt hn, h.c.few, fun x hx => (ins_mem.1 hx).elim (fun e => by subst e; exact ⟨ho, hw⟩) (h.c.val x)⟩, h.l.bad, h.ap⟩, hk.mono (fun _ _ e => .inr e), fun _ m => .inl m⟩, hs, hk⟩
 ·exact keepM (M := fun x => x = C.b) h.k hk (fun b e t cs hb => hne hb e)
 ·exact h.c.obj.keep hk (hne h.c.obj)
 ·refine keep0_ h.c.brs hk (fun h0 ad e e2 => ?_)
  obtain ⟨b, off, hA, hc⟩ := h.c.brs.lit h0
  rw [e] at hA
  cases hA
  have e2 : b = C.b := e2
  subst e2
  exact no_cell hl _ (hc 0 _ (by rw [bg, List.getElem?_eq_getElem h0]; rfl))
 ·exact (List.perm_append_comm.trans (List.Perm.cons r hp)).trans (iH r C.bad).symm
end
end Go.Proofs.YtgcikpgcoemfnaaGreat.Co
namespace Go.Proofs.YtgcikpgcoemfnaaGreat.Co
open Go.RowKit Go.MapKept
theorem ld {w : World} {K : Kn} {C : Cm} {src : Src} (h : Kc w K C src) (r : Rf) (ho : dK r) (v : List Int) (d : Int) (bad' : List Rf) (hv : aC Cd.dcd Cd.noP K.xs src C.brs.length C.bad r = ((v, d), bad')) :
  Calls Tryz.prog 44 #[.pointer (some ⟨C.p, 0, none⟩), .agg #[.int .i64 r.1, .int .i64 r.2], .func (.func 45) #[] #[]] w fun e w' => e = .returned (.tuple #[.agg (ab v).toArray, .int .i64 d]) ∧ Ct w K K C { C with bad := bad' } src w' := by
 have hz : v.length = 16 := by
  have e : v = (aC Cd.dcd Cd.noP K.xs src C.brs.length C.bad r).1.1 := by rw [hv]
  rw [e]
  by_cases hbad : r ∈ C.bad
  ·rw [bh hbad]; rfl
  ·cases hw : aw C.brs.length r with
   | none => rw [aY hbad hw]; rfl
   | some x => rw [aF hbad hw rfl]; exact Cd.di _
 have k1 := (Keep.refl Nob w).alloc (.cells #[.int .i64 r.1, .int .i64 r.2] 57)
 have HH := aa h
 have HO := aa ho
 have HV := aa hv
 clear h ho hv
 obtain ⟨x, hx⟩ : ∃ x, rch C r = x := ⟨_, rfl⟩
 obtain ⟨⟨a, b, m⟩, ok⟩ := x
 have hreach := fun W (kk : Keep Nob w W) => cM (HH.out.nob kk).c r HO.out a b m ok hx
 have HX := aa hx
 clear hx
 generalize hr1 : r.1 = r1 at *
 generalize hr2 : r.2 = r2 at *
 go_enter Tryz.func44, Tryz.ntmps44
 have bR := Blk.new w 57 [.int .i64 r1, .int .i64 r2]
 go_wp2_with (refine ar.wpList_al rfl rfl ?_; intro w1 hb1 hk1 hs1; have bR1 := bR.nob hk1; have c0 := bR1.cell 0; have c1 := bR1.cell 1; simp only [List.getElem?_cons_zero, List.getElem?_cons_succ] at c0 c1)
 have kA := k1.trans hk1 (fun _ _ f => f)
 have hq0 : w.heap.size + 1 = (w.alloc (.cells #[.int .i64 r1, .int .i64 r2] 57)).heap.size := by simp
 rw [← hq0] at hb1
 clear hs1 k1 bR hk1 hq0 c0 c1
 refine (hreach _ kA).mono ?_; rintro e w2 ⟨rfl, k2⟩
 have kB := kA.trans k2 (fun _ _ f => f)
 have hb2 := hb1.nob k2
 have bR2 := bR1.nob k2
 clear hreach kA k2 hb1 bR1
 generalize hq : w.heap.size = q at *
 have HQ := aa hq
 clear hq
 cases ok with
 | false =>
  have hp : ((v, d), bad') = ((Cd.noP, 2), C.bad) := by
   rw [← HV.out]
   have hx := HX.out
   unfold rch at hx
   by_cases hbad : r ∈ C.bad
   ·exact bh hbad
   ·rw [if_neg hbad] at hx
    cases hw : aw C.brs.length r with
    | none => exact aY hbad hw
    | some x => rw [hw] at hx; simp at hx
  simp only [Prod.mk.injEq] at hp
  obtain ⟨⟨rfl, rfl⟩, rfl⟩ := hp
  go_wp2_with (first
   | (refine ar.wpList_al rfl rfl ?_; intro w3 hb3 hk3 hs3; have hb2 := (hb2.alloc (.cells #[.int .i64 a, .int .i64 b, .int .i64 m] 193)).nob hk3; have hk := (kB.alloc (.cells #[.int .i64 a, .int .i64 b, .int .i64 m] 193)).trans hk3 (fun _ _ f => f))
   | (refine ar.wpList_ld rfl rfl rfl (ai rfl) hb3 ?_)
   | (refine ar.wpList_st rfl rfl rfl rfl (ai rfl) (ai rfl) hb2 ?_; intro w4 hb4 hk4 hs4))
  refine bodyPost_ret (v := .tuple #[.agg (ab Cd.noP).toArray, .int .i64 2]) (ar.results_pair rfl _ (ai rfl) rfl hb4 _ rfl) rfl ?_
  exact ⟨rfl, Ct.still HH.out (hk.trans hk4 (fun b hb e => by have e : b = q + 1 := e; have := HQ.out; omega))⟩
 | true =>
  have hx := HX.out
  have hnb : r ∉ C.bad := fun hbad => by unfold rch at hx; rw [if_pos hbad] at hx; simp at hx
  obtain ⟨x, hw⟩ : ∃ x, aw C.brs.length r = some x := by
   cases hw : aw C.brs.length r with
   | none => unfold rch at hx; rw [if_neg hnb, hw] at hx; simp at hx
   | some x => exact ⟨x, rfl⟩
  have hp : ((v, d), bad') = ((Cd.dcd (got K.xs src x)), if (Cd.dcd (got K.xs src x)).2 = 2 then ins r C.bad else C.bad) := by
   rw [← HV.out]
   exact aF hnb hw rfl
  have hin := iv hw
  unfold rch at hx
  rw [if_neg hnb, hw] at hx
  simp only [Prod.mk.injEq, and_true] at hx
  obtain ⟨ha, hb, hm⟩ := hx
  have hload := fun W (kk : Keep Nob w W) => jT (HH.out.nob kk) x.1 x.2.1 x.2.2 hin.1 hin.2.1 a ha _ rfl
  rw [hb, hm] at hload
  obtain ⟨bs, hbs⟩ : ∃ bs, got K.xs src x = bs := ⟨_, rfl⟩
  rw [show (x.1, x.2.1, x.2.2) = x from rfl, hbs] at hload
  rw [hbs] at hp
  have hp1 : Cd.dcd bs = (v, d) := by
   have := congrArg Prod.fst hp
   exact this.symm
  have hp2 : bad' = if d = 2 then ins r C.bad else C.bad := by
   have := congrArg Prod.snd hp
   rw [hp1] at this
   exact this
  have HNB := aa (And.intro hnb (show aw C.brs.length r ≠ none from by rw [hw]; simp))
  have hbl : bs.length ≤ 40 := by
   rw [← hbs]
   unfold got
   split
   ·exact Nat.le_trans (List.length_take_le _ _) hin.2.2.1
   ·simp
  have HBL := aa hbl
  clear hp hnb hw hin hbs ha hb hm HV HX hbl
  have k3 := kB.alloc (.cells #[.int .i64 a, .int .i64 b, .int .i64 m] 193)
  have hT := hb2.alloc (.cells #[.int .i64 a, .int .i64 b, .int .i64 m] 193)
  have hR := bR2.alloc (.cells #[.int .i64 a, .int .i64 b, .int .i64 m] 193)
  go_wp2_with fail
  refine (hload _ k3).mono ?_; rintro e w3 ⟨A', c', rfl, hrd, t⟩
  have hK3 := HH.out.nob k3
  have hT3 := hK3.k.offT hT (by decide) t.keep
  have hR3 := hK3.k.offT hR (by decide) t.keep
  have hct := Ct.pre k3 (Ct.of_to' hK3 t)
  clear hload hT hR hb2 bR2 k3 t hK3 kB
  go_wp2_with fail
  refine (Cd.fM A' bs.length c' bs w3 hrd (by have := HBL.out; omega) v d hp1).mono ?_; rintro e w4 ⟨rfl, k4⟩
  have hct4 := hct.nob k4
  have hT4 := hT3.nob k4
  have hR4 := hR3.nob k4
  clear hct hT3 hR3 k4 hrd
  have hlt4 := hT4.lt
  unfold Cd.pv
  have hpl := HH.out.c.lt.1
  have hal := HH.out.a_lt
  have hge : w.heap.size ≤ w4.heap.size := hct4.keep.size
  have HG := aa (And.intro hpl (And.intro hal hge))
  clear hpl hal hge
  by_cases hd2 : d = 2
  ·subst hd2
   rw [if_pos rfl] at hp2
   subst hp2
   go_wp2_with (first
    | (refine ar.wpList_al rfl rfl ?_; intro w5 hb5 hk5 hs5; clear hs5)
    | (refine ar.wpList_st rfl rfl rfl rfl (ai hz) (ai rfl) hb5 ?_; intro w6 hb6 hk6 hs6; clear hs6))
   have hct6 := (hct4.nob hk5).post hb5 (by decide) (by decide) HG.out.2.2 HG.out.1 HG.out.2.1 hk6
   have hT6 := (hT4.nob hk5).keep hk6 (fun e => by omega)
   have hR6 := (hR4.nob hk5).keep hk6 (fun e => by omega)
   obtain ⟨w7, hrun, hct7, hsz, hkb⟩ := (hct6.is.nob (Keep.nobdrew _)).spoil HO.out HNB.out.1 HNB.out.2
   unfold eA at hrun
   rw [hr1, hr2] at hrun
   have c4 : w6.cell? ⟨C.p, 4, none⟩ = some (.map (some C.b)) := hct6.is.c.obj.cell 4
   have c0 := hR6.cell 0
   have c1 := hR6.cell 1
   simp only [List.getElem?_cons_zero, List.getElem?_cons_succ] at c0 c1
   go_region
   have hct7' := Ct.pre (Keep.nobdrew w6) hct7
   have hT7 := Ct.off hct6.is hct7' hT6 (by decide)
   have hb7 := Ct.off hct6.is hct7' hb6 (by decide)
   have hct8 := Ct.trans hct6 hct7' (fun _ m => .inl m) rfl (fun _ m _ => m)
   clear hrun hct7 hsz hkb c4 c0 c1 hct7' hR6
   go_wp2_with (first
    | (refine ar.wpList_ld rfl rfl rfl (ai hz) hb7 ?_)
    | (refine ar.wpList_st rfl rfl rfl rfl (ai hz) (ai rfl) hT7 ?_; intro w8 hb8 hk8 hs8; clear hs8))
   refine bodyPost_ret (v := .tuple #[.agg (ab v).toArray, .int .i64 2]) (ar.results_pair rfl _ (ai hz) rfl hb8 _ rfl) rfl ?_
   exact ⟨rfl, hct8.post hT7 (by decide) (by decide) (by have := HQ.out; omega) HG.out.1 HG.out.2.1 hk8⟩
  ·have hd2' : (d == 2) = false := by simpa using hd2
   rw [if_neg hd2] at hp2
   subst hp2
   go_wp2_with (first
    | (refine ar.wpList_al rfl rfl ?_; intro w5 hb5 hk5 hs5; clear hs5)
    | (refine ar.wpList_st rfl rfl rfl rfl (ai hz) (ai rfl) hb5 ?_; intro w6 hb6 hk6 hs6; clear hs6; have hT6 := (hT4.nob hk5).keep hk6 (fun e => by omega))
    | (refine ar.wpList_ld rfl rfl rfl (ai hz) hb6 ?_)
    | (refine ar.wpList_st rfl rfl rfl rfl (ai hz) (ai rfl) hT6 ?_; intro w7 hb7 hk7 hs7; clear hs7))
   have hct6 := (hct4.nob hk5).post hb5 (by decide) (by decide) HG.out.2.2 HG.out.1 HG.out.2.1 hk6
   refine bodyPost_ret (v := .tuple #[.agg (ab v).toArray, .int .i64 d]) (ar.results_pair rfl _ (ai hz) rfl hb7 _ rfl) rfl ?_
   exact ⟨rfl, hct6.post hT6 (by decide) (by decide) (by have := HQ.out; omega) HG.out.1 HG.out.2.1 hk7⟩
end Go.Proofs.YtgcikpgcoemfnaaGreat.Co
