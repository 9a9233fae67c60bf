/- Contracts of package kern: New of a Boot that is good. -/
import Derived.Test.YtompckcnpidbdaaGreatKrn6
import Derived.Deep.RegionLaw
namespace Go.Proofs.YtompckcnpidbdaaGreat
open Go.RowKit
set_option linter.unusedVariables false
set_option linter.unusedSimpArgs false
/-- A kernel that a call of New is making, since the world w. -/
structure Kf (w w' : World) (K : Kn) : Prop where
  is : IsKn w' K
  mine : ∀ x, Mine K x → w.heap.size ≤ x
  ag : ∀ x, Own K.Ag x → w.heap.size ≤ x
  q : w.heap.size ≤ K.q
  a : ∀ x, Own K.A x → w.heap.size ≤ x
  keep : Keep Nob w w'
theorem init_rows : init = tOf (fun _ => []) := by
  funext e
  simp [init, tOf, rowQ]
/-- The kernel that New has behind its regions' making: no Sect, no region. -/
theorem kern_made {w : World} {k : Nat} {envs : List Int} {Ae : Option Addr} {ce pq : Nat} {Aq : Option Addr} {cq : Nat} {gq : Nat → Nat} {ns : List Nat} {bq : Nat → List Bool} {q m mr s B : Nat} {p r : Nat → Nat} {xs : List UInt8}
    (ho : Blk w k 80 [.int .i64 0, .slice Ae envs.length ce, .slice none 0 0, .pointer (some ⟨pq, 0, none⟩), .pointer (some ⟨s, 0, none⟩), .pointer (some ⟨q, 0, none⟩)]) (he : Vec w 3 1 Ae envs.length ce (ints envs)) (hq : Qu.Quo w pq Aq cq gq ns bq) (hr : Reg w q m mr s B envs.length p r none 0 xs init []) :
    IsKn w ⟨k, 0, envs, Ae, ce, [], none, 0, pq, Aq, cq, gq, ns, bq, q, m, mr, s, B, p, r, none, 0, xs, init, []⟩ :=
  ⟨ho, he, Vec.nil _ _ _, fun G hG => (by cases hG), hq, hr, (by simp), fun G hG => (by cases hG), fun i j G H hG => (by simp at hG), fun i j G H hG => (by simp at hG), fun G hG => (by cases hG), fun G hG => (by cases hG)⟩
theorem infogate : (Tryz.prog.info? 85).map (fun i => (i.zero, i.size, i.bytes)) = some (some (.agg #[.pointer none, .slice none 0 0]), 2, 32) := by kernel_rfl
theorem Kf.nob {w w1 w2 : World} {K : Kn} (h : Kf w w1 K) (k : Keep Nob w1 w2) : Kf w w2 K := ⟨h.is.nob k, h.mine, h.ag, h.q, h.a, h.keep.trans k (fun _ _ f => f)⟩
theorem one2 (a b : Value) (h1 : a.oneCell' = true) (h2 : b.oneCell' = true) : ∀ u ∈ [a, b], u.oneCell' = true := by simp [h1, h2]
theorem gcells_add (gs : List Gt) (G : Gt) : gcells (gs ++ [G]) = gcells gs ++ G.cells := by simp [gcells]
/-- One more Sect is there. -/
theorem Kf.gate {w W W2 : World} {K : Kn} (h : Kf w W K) {p : Nat} {s : Se.Sec} {A' A2 : Option Addr} {c' c2 : Nat} {xs : List Int} (hs : Se.IsSec W p none 0 s) (Os : s.Ok) (hm : Vec W 3 1 A' xs.length c' (ints xs)) (hp : w.heap.size ≤ p) (hA : ∀ x, Own A' x → w.heap.size ≤ x)
    (new : ∀ G ∈ K.gates, G.p ≠ p) (dm : ∀ G ∈ K.gates, ∀ x, Own G.A x → ¬ Own A' x) (hl : K.gates.length < 8) (hx : xs.length ≤ 1000)
    (hv : Vec W2 85 2 A2 (K.gates.length + 1) c2 (gcells K.gates ++ [.pointer (some ⟨p, 0, none⟩), .slice A' xs.length c'])) (hk : Keep (Own K.Ag) W W2) (ho : ∀ x, Own A2 x → Own K.Ag x ∨ w.heap.size ≤ x) :
    Kf w (W2.setCell ⟨K.k, 2, none⟩ (.slice A2 (K.gates.length + 1) c2)) { K with gates := K.gates ++ [⟨p, none, 0, s, A', c', xs⟩], Ag := A2, cg := c2 } := by
  have hM : ∀ b, Own K.Ag b → ∃ cs, Blk W b 85 cs := fun b hb => h.is.row.blk hb
  have o1 := h.is.obj.keep hk (offB hM h.is.obj (by decide))
  have hM2 : ∀ b, b = K.k → ∃ cs, Blk W2 b 80 cs := fun b e => e ▸ ⟨_, o1⟩
  have k2 : Keep (fun b => b = K.k) W2 (W2.setCell ⟨K.k, 2, none⟩ (.slice A2 (K.gates.length + 1) c2)) := (Keep.refl _ _).setCell _ _ (fun _ => rfl)
  have B : ∀ {x : Nat} {u : TypeId} {cs : List Value}, Blk W x u cs → u ≠ 85 → u ≠ 80 → Blk (W2.setCell ⟨K.k, 2, none⟩ (.slice A2 (K.gates.length + 1) c2)) x u cs := fun hb h1 h2 => by
    have b2 := hb.keep hk (offB hM hb h1)
    exact b2.keep k2 (offB (M := fun b => b = K.k) hM2 b2 h2)
  have V : ∀ {e sz n cap : Nat} {A : Option Addr} {xs : List Value}, Vec W e sz A n cap xs → e ≠ 85 → e ≠ 80 → Vec (W2.setCell ⟨K.k, 2, none⟩ (.slice A2 (K.gates.length + 1) c2)) e sz A n cap xs := fun hv h1 h2 => by
    have b2 := hv.keep hk (offV hM hv h1)
    exact b2.keep k2 (offV (M := fun b => b = K.k) hM2 b2 h2)
  have S : ∀ {p : Nat} {A : Option Addr} {cap : Nat} {s : Se.Sec}, Se.IsSec W p A cap s → Se.IsSec (W2.setCell ⟨K.k, 2, none⟩ (.slice A2 (K.gates.length + 1) c2)) p A cap s := fun hs => ⟨B hs.obj (by decide) (by decide), V hs.row (by decide) (by decide)⟩
  have kk : Keep (fun b => b = K.k ∨ Own K.Ag b) W (W2.setCell ⟨K.k, 2, none⟩ (.slice A2 (K.gates.length + 1) c2)) := (hk.mono (fun _ _ m => .inr m)).trans k2 (fun _ _ m => .inl m)
  have ob : ∀ {x : Nat} {u : TypeId} {cs : List Value}, Blk W x u cs → u ≠ 85 → u ≠ 80 → ¬ (fun b => b = K.k ∨ Own K.Ag b) x := fun hb h1 h2 m => by
    rcases m with m | m
    · exact hb.ne_ h.is.obj h2 m
    · exact offB hM hb h1 m
  have ov : ∀ {e sz n cap : Nat} {A : Option Addr} {xs : List Value}, Vec W e sz A n cap xs → e ≠ 85 → e ≠ 80 → ∀ g, Own A g → ¬ (fun b => b = K.k ∨ Own K.Ag b) g := fun hv h1 h2 g hg => by
    obtain ⟨c, hc⟩ := hv.blk hg
    exact ob hc h1 h2
  have none_own : ∀ x, ¬ Own none x := fun x ⟨a, ha, _⟩ => by cases ha
  refine ⟨⟨?_, V h.is.env (by decide) (by decide), ?_, fun G hG => ?_, h.is.quo.keep kk (ob h.is.quo.obj (by decide) (by decide)) (ov h.is.quo.row (by decide) (by decide)) (fun i hi => ob (h.is.quo.tab i hi) (by decide) (by decide)),
    h.is.reg.keep kk (ob h.is.reg.obj (by decide) (by decide)) (ob h.is.reg.mem.obj (by decide) (by decide)) (ob h.is.reg.mem.row (by decide) (by decide)) (ob h.is.reg.sp.obj (by decide) (by decide)) (ob h.is.reg.sp.row (by decide) (by decide)) (fun i hi => ⟨ob (h.is.reg.sp.tab i hi).obj (by decide) (by decide), ob (h.is.reg.sp.tab i hi).row (by decide) (by decide)⟩) (ov h.is.reg.row (by decide) (by decide)),
    (by dsimp only; rw [List.length_append]; simp; omega), fun G hG => ?_, fun i j G H hG hH e => ?_, fun i j G H hG hH hn x hx hy => ?_, fun G hG x hx hy => ?_, fun G hG H hH x hx hy => ?_⟩, fun x hx => ?_, fun x hx => (ho x hx).elim (h.ag x) id, h.q, h.a, ?_⟩
  · have := o1.setCell 2 (.slice A2 (K.gates.length + 1) c2)
    simpa using this
  · dsimp only
    rw [List.length_append, gcells_add]
    exact hv.keep k2 (offV (M := fun b => b = K.k) hM2 hv (by decide))
  · rcases List.mem_append.1 hG with hG | hG
    · exact ⟨S (h.is.sec G hG).1, (h.is.sec G hG).2.1, V (h.is.sec G hG).2.2 (by decide) (by decide)⟩
    · obtain rfl := List.mem_singleton.1 hG
      exact ⟨S hs, Os, V hm (by decide) (by decide)⟩
  · rcases List.mem_append.1 hG with hG | hG
    · exact h.is.lit G hG
    · obtain rfl := List.mem_singleton.1 hG
      exact hx
  · dsimp only at hG hH
    rw [List.getElem?_append] at hG hH
    split at hG <;> split at hH
    · exact h.is.dp i j G H hG hH e
    · have hH' := List.mem_of_getElem? hH
      obtain rfl := List.mem_singleton.1 hH'
      exact absurd e (new G (List.mem_of_getElem? hG))
    · have hG' := List.mem_of_getElem? hG
      obtain rfl := List.mem_singleton.1 hG'
      exact absurd e.symm (new H (List.mem_of_getElem? hH))
    · have h1 := get_lt hG
      have h2 := get_lt hH
      simp at h1 h2
      omega
  · dsimp only at hG hH
    rw [List.getElem?_append] at hG hH
    split at hG <;> split at hH
    · exact h.is.dq i j G H hG hH hn x hx hy
    · have hH' := List.mem_of_getElem? hH
      obtain rfl := List.mem_singleton.1 hH'
      exact none_own x hy
    · have hG' := List.mem_of_getElem? hG
      obtain rfl := List.mem_singleton.1 hG'
      exact none_own x hx
    · have hG' := List.mem_of_getElem? hG
      obtain rfl := List.mem_singleton.1 hG'
      exact none_own x hx
  · rcases List.mem_append.1 hG with hG | hG
    · exact h.is.de G hG x hx hy
    · obtain rfl := List.mem_singleton.1 hG
      exact none_own x hx
  · rcases List.mem_append.1 hG with hG | hG
    · rcases List.mem_append.1 hH with hH | hH
      · exact h.is.dm G hG H hH x hx hy
      · obtain rfl := List.mem_singleton.1 hH
        exact dm G hG x hx hy
    · obtain rfl := List.mem_singleton.1 hG
      exact none_own x hx
  · rcases hx with (hx | ⟨G, hG, hx⟩ | hx) | hx | ⟨G, hG, hx⟩
    · exact h.mine x (.inl (.inl hx))
    · rcases List.mem_append.1 hG with hG | hG
      · exact h.mine x (.inl (.inr (.inl ⟨G, hG, hx⟩)))
      · obtain rfl := List.mem_singleton.1 hG
        rcases hx with rfl | hx
        · exact hp
        · exact (none_own x hx).elim
    · exact h.mine x (.inl (.inr (.inr hx)))
    · exact h.mine x (.inr (.inl hx))
    · rcases List.mem_append.1 hG with hG | hG
      · exact h.mine x (.inr (.inr ⟨G, hG, hx⟩))
      · obtain rfl := List.mem_singleton.1 hG
        exact hA x hx
  · refine h.keep.trans kk (fun b hb m => ?_)
    rcases m with rfl | m
    · have := h.mine _ (.inl (.inl rfl)); omega
    · have := h.ag b m; omega
theorem Mine.same {K : Kn} {A : Option Addr} {cap : Nat} {L : List Rf} {T : St} {x : Nat} (h : Mine { K with A := A, cap := cap, L := L, T := T } x) : Mine K x := h
/-- The range of a Share's bytes. -/
def spanOf (ns : List Nat) (s : Sh) : Rf := (((Qu.first ns s.ses.toNat : Nat) + s.frame) * 64 + s.lo, s.n)
/-- What the environments have behind j Shares. -/
def csAt (envs : List Int) (sh : List Sh) : Nat → Nat → List Cp
  | 0 => fun _ => []
  | j + 1 => match sh[j]? with
    | some s => gave (csAt envs sh j) envs s.tos ⟨j, 3, 0, s.n, (0, 0)⟩ envs.length
    | none => csAt envs sh j
theorem csAt_next {envs : List Int} {sh : List Sh} {j : Nat} {s : Sh} (h : sh[j]? = some s) : csAt envs sh (j + 1) = gave (csAt envs sh j) envs s.tos ⟨j, 3, 0, s.n, (0, 0)⟩ envs.length := by
  rw [csAt, h]
theorem csAt_len (envs : List Int) (sh : List Sh) : ∀ (j e : Nat), (csAt envs sh j e).length ≤ j
  | 0, e => by simp [csAt]
  | j + 1, e => by
    have ih := csAt_len envs sh j e
    cases h : sh[j]? with
    | none => simp only [csAt, h]; omega
    | some s =>
      rw [csAt_next h]
      unfold gave
      split
      · rw [List.length_append]; simp; omega
      · omega
theorem first_mono {ns : List Nat} {i j : Nat} (h : i ≤ j) (hj : j ≤ ns.length) : Qu.first ns i ≤ Qu.first ns j := by
  induction j with
  | zero => have : i = 0 := by omega
            subst this; exact Nat.le_refl _
  | succ j ih =>
    by_cases e : i = j + 1
    · subst e; exact Nat.le_refl _
    · have := ih (by omega) (by omega)
      rw [Qu.first_succ (by omega)]
      omega
theorem span_in {ns : List Nat} {s : Sh} (h : ShOk ns s) : 0 ≤ (spanOf ns s).1 ∧ (spanOf ns s).1 + (spanOf ns s).2 ≤ 64 * (Qu.first ns ns.length : Nat) := by
  obtain ⟨a1, a2, a3, a4, a5, a6, a7, _⟩ := h
  obtain ⟨i, hi⟩ := Int.eq_ofNat_of_zero_le a1
  unfold spanOf
  rw [hi, Int.toNat_natCast] at a4 a7 ⊢
  have hin : i < ns.length := by omega
  have h1 := first_mono (ns := ns) (i := i + 1) (j := ns.length) (by omega) (Nat.le_refl _)
  rw [Qu.first_succ hin] at h1
  dsimp only
  omega
/-- What New has made of a Boot. -/
structure Boots (b : Bt) (ns : List Nat) (K : Kn) : Prop where
  now : K.now = 0
  envs : K.envs = b.envs
  nse : K.ns = ns
  bq : K.bq = fun i => List.replicate (ns.getD i 0) false
  xs : K.xs = zeros (Qu.first ns ns.length)
  L : K.L = b.shared.map (spanOf ns)
  T : K.T = tOf (csAt b.envs b.shared b.shared.length)
  gates : K.gates.map (fun G => (G.s, G.may)) = b.sects.map (fun s => (Se.Sec.new b.lease, s.xs))
theorem Kf.share {w W W2 : World} {K : Kn} (h : Kf w W K) {A' : Option Addr} {cap' : Nat} {L' : List Rf} {T' : St} (hi : IsKn W2 { K with A := A', cap := cap', L := L', T := T' }) (k : Keep (TurnS K) W W2) (ho : ∀ g, Own A' g → Own K.A g ∨ w.heap.size ≤ g) : Kf w W2 { K with A := A', cap := cap', L := L', T := T' } :=
  ⟨hi, fun x hx => h.mine x hx, h.ag, h.q, fun x hx => (ho x hx).elim (h.a x) id, h.keep.trans k (fun b hb m => by
    rcases m with m | m | m
    · have := h.mine b (.inl (.inr (.inr (.inr (.inr m))))); omega
    · have := h.q; omega
    · have := h.a b m; omega)⟩
theorem Kf.turnS {w W : World} {K : Kn} (h : Kf w W K) : ∀ b, TurnS K b → w.heap.size ≤ b := fun b m => by
  rcases m with m | m | m
  · exact h.mine b (.inl (.inr (.inr (.inr (.inr m)))))
  · have := h.q; omega
  · exact h.a b m
set_option maxRecDepth 100000 in
set_option maxHeartbeats 8000000 in
theorem knew_is {w : World} {b : Bt} {ns : List Nat} (h : IsBt w b) (ok : BtOk b ns) :
    Calls Tryz.prog 8 #[b.val] w fun e w' => ∃ K, e = .returned (.tuple #[.pointer (some ⟨K.k, 0, none⟩), .int .i64 0]) ∧ Kf w w' K ∧ Boots b ns K := by
  have hnl := ok.len
  have h4 := ok.f4
  have h1 := ok.f1
  have k1 := (Keep.refl Nob w).alloc (.cells #[.slice b.Af b.frames.length b.cf, .slice b.Ae b.envs.length b.ce, .slice b.As b.sects.length b.cs, .int .i64 b.lease, .slice b.Ah b.shared.length b.ch] 31)
  have b1 : Blk (w.alloc (.cells #[.slice b.Af b.frames.length b.cf, .slice b.Ae b.envs.length b.ce, .slice b.As b.sects.length b.cs, .int .i64 b.lease, .slice b.Ah b.shared.length b.ch] 31)) w.heap.size 31 [.slice b.Af b.frames.length b.cf, .slice b.Ae b.envs.length b.ce, .slice b.As b.sects.length b.cs, .int .i64 b.lease, .slice b.Ah b.shared.length b.ch] := Blk.new w 31 _
  have HH := Lib.hid (And.intro h ok)
  have KB := Lib.hid (And.intro k1 b1)
  have HN := Lib.hid hnl
  clear h ok hnl k1 b1
  unfold Bt.val
  go_enter Tryz.func8, Tryz.ntmps8
  go_wp2_with fail
  refine (counted_is _ _ _ _ _ _ _ _ _ _ _ _ _ b.lease h1 h4 HH.out.2.e40 HH.out.2.s8 HH.out.2.h16 HH.out.2.l1 HH.out.2.l2).mono ?_; rintro e w1 ⟨rfl, k1⟩
  have kA := KB.out.1.trans k1 (fun _ _ f => f)
  have bA := KB.out.2.nob k1
  clear k1 KB
  have c0 := bA.cell 0
  simp only [List.getElem?_cons_zero] at c0
  go_wp2_with fail
  refine (rooms_is (HH.out.1.nob kA).fr HH.out.1.cf h4 ns HH.out.2.nse).mono ?_; rintro e w2 ⟨rr, rfl, hrr, hrl, k2⟩
  have kB := kA.trans k2 (fun _ _ f => f)
  have bB := bA.nob k2
  clear bA kA k2 c0
  have e0 := bB.cell 0
  have e1 := bB.cell 1
  have e2 := bB.cell 2
  have e3 := bB.cell 3
  have e4 := bB.cell 4
  simp only [List.getElem?_cons_zero, List.getElem?_cons_succ] at e0 e1 e2 e3 e4
  have hth := there_is (HH.out.1.nob kB) HH.out.2 rr hrr
  unfold Bt.val at hth
  go_wp2_with fail
  refine hth.mono ?_; rintro e w3 ⟨rfl, k3⟩
  clear hth e0 e1 e2 e3 e4
  have kC := kB.trans k3 (fun _ _ f => f)
  have bC := bB.nob k3
  have hr3 := hrr.nob k3
  clear bB kB k3 hrr
  obtain ⟨n0, hn0⟩ : ∃ n, b.frames.length = n := ⟨_, rfl⟩
  have HN0 := Lib.hid hn0
  have h64 : ∀ x ∈ ns, x ≤ 64 := by rw [← HH.out.2.nse]; exact sizes64
  have H64 := Lib.hid h64
  rw [hn0] at h4 h1
  have hns : ns.length = n0 := by rw [HN.out, hn0]
  have HNS := Lib.hid hns
  clear hn0 h64 hns
  simp only [HN0.out]
  go_wp2_with fail
  go_loopw [5, 26] (fun s5 s26 wx => ∃ k : Nat, k ≤ n0 ∧ s5 = .int .i64 (Qu.first ns k : Nat) ∧ s26 = .int .i64 k ∧ Keep Nob w3 wx) (fun _ t _ => n0 - (intOf t).toNat)
  case atStart => exact ⟨0, Nat.zero_le _, rfl, rfl, Keep.refl _ _⟩
  case round =>
    obtain ⟨k, hk, rfl, rfl, hK⟩ := hrel
    by_cases hlt : k < n0
    · have hkn : k < ns.length := by rw [HNS.out]; exact hlt
      have hg := roomCells_get hkn
      have z0 := ((hr3.nob hK).cell (k * 2)).trans hg.1
      have z1 := ((hr3.nob hK).cell (k * 2 + 1)).trans hg.2
      have hfl := Qu.first_le H64.out k (by omega)
      have hfn := Qu.first_succ hkn
      have hf64 : ns.getD k 0 ≤ 64 := by
        rw [List.getD_eq_getElem?_getD, List.getElem?_eq_getElem hkn]
        exact H64.out _ (List.getElem_mem hkn)
      have HFN := Lib.hid hfn
      have hKn := hK.alloc (.cells #[.int .i64 (Qu.first ns k), .int .i64 (ns.getD k 0)] 72)
      clear hfn hg
      generalize ns.getD k 0 = f at *
      go_wp2
      go_roundw
      case rel => exact ⟨k + 1, by omega, by rw [HFN.out]; go_num, by go_num, hKn⟩
      case measure => simp [intOf]; omega
    · obtain rfl : k = n0 := by omega
      have kW := kC.trans hK (fun _ _ f => f)
      have bW := bC.nob hK
      have rW := hr3.nob hK
      have hfl := Qu.first_le H64.out k (by rw [HNS.out]; exact Nat.le_refl _)
      clear hK bC hr3 kC
      obtain ⟨all, hall⟩ : ∃ a, Qu.first ns k = a := ⟨_, rfl⟩
      rw [hall] at hfl ⊢
      have HALL := Lib.hid hall
      have e40 := HH.out.2.e40
      clear hall hk hlt
      obtain ⟨E, hE⟩ : ∃ E, b.envs.length = E := ⟨_, rfl⟩
      have HE := Lib.hid hE
      have eE : E ≤ 40 := by rw [← hE]; exact e40
      have kd := (Keep.refl Nob wr).drew
      have sf : ∀ W, Keep Nob wr W → W.cell? ⟨w.heap.size, 1, none⟩ = some (.slice b.Ae b.envs.length b.ce) ∧ W.cell? ⟨w.heap.size, 0, none⟩ = some (.slice b.Af b.frames.length b.cf) := fun W kk => ⟨(bW.nob kk).cell 1, (bW.nob kk).cell 0⟩
      have hcl : ∀ W, Keep Nob wr W → Calls Tryz.prog 23 #[.slice b.Ae b.envs.length b.ce] W fun e w' => ∃ A' c', e = .returned (.slice A' b.envs.length c') ∧ Vec w' 3 1 A' b.envs.length c' (ints b.envs) ∧ (∀ k, Own A' k → W.heap.size ≤ k) ∧ Keep Nob W w' := fun W kk => Se.clone_is ((HH.out.1.nob kW).nob kk).en (by omega)
      have hqn : ∀ W, Keep Nob wr W → Calls Tryz.prog 24 #[.slice b.Af b.frames.length b.cf] W (Qu.NewQ ns W) := fun W kk => Qu.new_is ((HH.out.1.nob kW).nob kk).fr HH.out.1.cf ns HH.out.2.nse
      have hcn : ∀ W, Calls Tryz.prog 25 #[.int .i64 E] W (NewSp E W) := fun W => new_sp E E (by omega) W
      rw [HN0.out] at sf hqn
      rw [hE] at sf hcl
      clear hE
      have s0 := sf _ kd
      go_wp2_with fail
      go_region_held3 (fun w' => w'.cell? ⟨w.heap.size, 1, none⟩ = some (.slice b.Ae E b.ce) ∧ w'.cell? ⟨w.heap.size, 0, none⟩ = some (.slice b.Af k b.cf))
        (first | exact s0 | exact sf _ kd1 | exact sf _ kd2 | exact sf _ kd3 | exact sf _ (kd3.alloc _))
        (first
          | (go_at_call 23; refine (hcl _ kd).mono ?_; rintro e wa ⟨A1, cA, rfl, hvE, hoE, kE⟩; have kd1 := kd.trans kE (fun _ _ f => f))
          | (go_at_call 24; refine (hqn _ kd1).mono ?_; rintro e wb ⟨pq, Aq, cq, gq, rfl, hQ, hgq, kQ⟩; have kd2 := kd1.trans kQ (fun _ _ f => f))
          | (go_at_call 25; refine (hcn _).mono ?_; rintro e wc ⟨sp, B, p, r, rfl, hS, hsp, hr, kS⟩; have kd3 := kd2.trans kS (fun _ _ f => f)))
      have bk := Blk.new wc 80 [.int .i64 0, .slice A1 E cA, .slice none 0 0, .pointer (some ⟨pq, 0, none⟩), .pointer (some ⟨sp, 0, none⟩), .pointer none]
      have ka := (Keep.refl Nob wc).alloc (.cells #[.int .i64 0, .slice A1 E cA, .slice none 0 0, .pointer (some ⟨pq, 0, none⟩), .pointer (some ⟨sp, 0, none⟩), .pointer none] 80)
      have F1 := Lib.hid (And.intro (hvE.nob ((kQ.trans kS (fun _ _ f => f)).trans ka (fun _ _ f => f))) (And.intro ((hQ.nob kS).nob ka) (hS.nob ka)))
      have F2 := Lib.hid (And.intro (kd3.trans ka (fun _ _ f => f)) (And.intro hoE (And.intro hgq (And.intro hsp hr))))
      have F3 := Lib.hid (And.intro kd1.size (And.intro kd2.size kd3.size))
      clear hvE hQ hS hoE hgq hsp hr kE kQ kS kd1 kd2 kd3 sf hcl hqn hcn s0 ka
      have hkk : wr.heap.size ≤ wc.heap.size := F3.out.2.2
      generalize hX : (wc.alloc (.cells #[.int .i64 0, .slice A1 E cA, .slice none 0 0, .pointer (some ⟨pq, 0, none⟩), .pointer (some ⟨sp, 0, none⟩), .pointer none] 80)) = wx at *
      have hkx : wc.heap.size < wx.heap.size := by rw [← hX]; simp
      clear hX
      generalize wc.heap.size = kk at *
      have kd := (Keep.refl Nob wx).drew
      have s0 : wx.drew.cell? ⟨kk, 4, none⟩ = some (.pointer (some ⟨sp, 0, none⟩)) := (bk.nob kd).cell 4
      have hmn : ∀ W, Calls Tryz.prog 27 #[.int .i64 all] W (Made all W) := fun W => new_is all all (by omega) W
      go_wp2_with fail
      go_region_held3 (fun w' => w'.cell? ⟨kk, 4, none⟩ = some (.pointer (some ⟨sp, 0, none⟩)))
        (first | exact s0 | exact (bk.nob kd1).cell 4 | exact bk2.cell 4 | exact (bk2.setCell 5 _).cell 4)
        (first
          | (go_at_call 27; refine (hmn _).mono ?_; rintro e wa ⟨m, mr, rfl, hM, hm1, hm2, kM⟩; have kd1 := kd.trans kM (fun _ _ f => f))
          | (go_at_call 26; refine (rnew_is hM (F1.out.2.2.nob kd1) (init_inv eE)).mono ?_; rintro e wb ⟨q, rfl, hR, hq, kR⟩; have kd2 := kd1.trans kR (fun _ _ f => f); have bk2 := bk.nob kd2; have z5 := bk2.cell 5; have f5 := bk2.frozen 5; simp only [List.getElem?_cons_zero, List.getElem?_cons_succ] at z5))
      have bk3 := bk2.setCell 5 (.pointer (some ⟨q, 0, none⟩))
      simp only [List.set_cons_succ, List.set_cons_zero] at bk3
      have k5 : Keep (fun b => b = kk) wb (wb.setCell ⟨kk, 5, none⟩ (.pointer (some ⟨q, 0, none⟩))) := (Keep.refl _ _).setCell _ _ (fun _ => rfl)
      have hvE := F1.out.1.nob kd2
      have hQ := F1.out.2.1.nob kd2
      have ob : ∀ {x : Nat} {u : TypeId} {cs : List Value}, Blk wb x u cs → u ≠ 80 → ¬ (fun b => b = kk) x := fun hb hu => offB (M := fun b => b = kk) (fun b e => e ▸ ⟨_, bk2⟩) hb hu
      have ov : ∀ {e sz n cap : Nat} {A : Option Addr} {xs : List Value}, Vec wb e sz A n cap xs → e ≠ 80 → ∀ g, Own A g → ¬ (fun b => b = kk) g := fun hv hu => offV (M := fun b => b = kk) (fun b e => e ▸ ⟨_, bk2⟩) hv hu
      have hE := HE.out
      subst hE
      have hI := kern_made bk3 (hvE.keep k5 (ov hvE (by decide))) (hQ.keep k5 (ob hQ.obj (by decide)) (ov hQ.row (by decide)) (fun i hi => ob (hQ.tab i hi) (by decide))) (hR.keep k5 (ob hR.obj (by decide)) (ob hR.mem.obj (by decide)) (ob hR.mem.row (by decide)) (ob hR.sp.obj (by decide)) (ob hR.sp.row (by decide)) (fun i hi => ⟨ob (hR.sp.tab i hi).obj (by decide), ob (hR.sp.tab i hi).row (by decide)⟩) (ov hR.row (by decide)))
      have hwr := kW.size
      have kN : Keep Nob w (wb.setCell ⟨kk, 5, none⟩ (.pointer (some ⟨q, 0, none⟩))) := (((kW.trans F2.out.1 (fun _ _ f => f)).trans kd2 (fun _ _ f => f))).trans k5 (fun b hb e => by omega)
      have hF : Kf w (wb.setCell ⟨kk, 5, none⟩ (.pointer (some ⟨q, 0, none⟩))) ⟨kk, 0, b.envs, A1, cA, [], none, 0, pq, Aq, cq, gq, ns, fun i => List.replicate (ns.getD i 0) false, q, m, mr, sp, B, p, r, none, 0, zeros all, init, []⟩ := by
        have hx0 : wr.drew.heap.size = wr.heap.size := rfl
        have hxx : wx.drew.heap.size = wx.heap.size := rfl
        obtain ⟨x1, x2, x3⟩ := F3.out
        obtain ⟨-, y1, y2, y3, y4⟩ := F2.out
        have h9 := kd1.size
        refine ⟨hI, ?_, fun x ⟨a, ha, _⟩ => (by cases ha), (by dsimp only; omega), fun x ⟨a, ha, _⟩ => (by cases ha), kN⟩
        rintro x ((rfl | ⟨G, hG, _⟩ | ⟨i, hi, rfl⟩ | rfl | ⟨i, hi, rfl⟩) | hb | ⟨G, hG, _⟩)
        · omega
        · cases hG
        · dsimp only at hi ⊢
          have := y2 i hi; omega
        · omega
        · dsimp only at hi ⊢
          have := y4 i hi; omega
        · have := y1 x hb; omega
        · cases hG
      have bB : Blk (wb.setCell ⟨kk, 5, none⟩ (.pointer (some ⟨q, 0, none⟩))) w.heap.size 31 [.slice b.Af b.frames.length b.cf, .slice b.Ae b.envs.length b.ce, .slice b.As b.sects.length b.cs, .int .i64 b.lease, .slice b.Ah b.shared.length b.ch] := by
        have := (bW.nob F2.out.1).nob kd2
        exact this.keep k5 (ob this (by decide))
      have rB : Blk (wb.setCell ⟨kk, 5, none⟩ (.pointer (some ⟨q, 0, none⟩))) rr 72 (roomCells ns) := by
        have := (rW.nob F2.out.1).nob kd2
        exact this.keep k5 (ob this (by decide))
      clear rW bW F2 kd2 k5 hvE hQ ob ov bk2 hR hI kN F1 F3 bk kd kR kd1 kM hM s0 hmn bk3 z5 f5
      generalize hK0 : (⟨kk, 0, b.envs, A1, cA, [], none, 0, pq, Aq, cq, gq, ns, fun i => List.replicate (ns.getD i 0) false, q, m, mr, sp, B, p, r, none, 0, zeros all, init, []⟩ : Kn) = K0 at hF
      have ek : K0.k = kk := by rw [← hK0]
      have HKF := Lib.hid (show K0.now = 0 ∧ K0.envs = b.envs ∧ K0.ns = ns ∧ K0.bq = (fun i => List.replicate (ns.getD i 0) false) ∧ K0.xs = zeros all ∧ K0.L = [] ∧ K0.T = init from by rw [← hK0]; exact ⟨rfl, rfl, rfl, rfl, rfl, rfl, rfl⟩)
      have eg : K0.gates = [] := by rw [← hK0]
      generalize (wb.setCell ⟨kk, 5, none⟩ (.pointer (some ⟨q, 0, none⟩))) = w5 at *
      have hF0 : Kf w w5 { K0 with gates := [], Ag := none, cg := 0 } := by rw [← hK0] at hF ⊢; exact hF
      obtain ⟨nS, hnS⟩ : ∃ n, b.sects.length = n := ⟨_, rfl⟩
      obtain ⟨nH, hnH⟩ : ∃ n, b.shared.length = n := ⟨_, rfl⟩
      have s8 := HH.out.2.s8
      have h16 := HH.out.2.h16
      rw [hnS] at bB s8
      rw [hnH] at bB h16
      have HNSx := Lib.hid hnS
      have HNHx := Lib.hid hnH
      clear hnS hnH hF eg hK0
      subst ek
      by_cases hz : nS = 0
      · subst hz
        have e2 := bB.cell 2
        simp only [List.getElem?_cons_zero, List.getElem?_cons_succ] at e2
        go_wp2_with fail
        clear e2
        go_loopw [60] (fun s60 wx => ∃ (j : Nat) (gs : List Gt) (Ag : Option Addr) (cg : Nat), j ≤ 0 ∧ s60 = .int .i64 j ∧ gs.length = j ∧ gs.map (fun G => (G.s, G.may)) = (b.sects.take j).map (fun s => (Se.Sec.new b.lease, s.xs)) ∧ Kf w wx { K0 with gates := gs, Ag := Ag, cg := cg } ∧ Blk wx w.heap.size 31 [.slice b.Af b.frames.length b.cf, .slice b.Ae b.envs.length b.ce, .slice b.As 0 b.cs, .int .i64 b.lease, .slice b.Ah nH b.ch] ∧ Blk wx rr 72 (roomCells ns)) (fun t _ => 0 - (intOf t).toNat)
        case atStart => exact ⟨0, [], none, 0, Nat.zero_le _, rfl, rfl, rfl, hF0, bB, rB⟩
        case round =>
          obtain ⟨j, gs, Ag, cg, hj, rfl, hgl, hgm, hF, hBb, hRb⟩ := hrel
          clear hF0 bB rB
          have hj0 : ¬ ((j : Int) < 0) := by omega
          have hgs : gs.map (fun G => (G.s, G.may)) = b.sects.map (fun s => (Se.Sec.new b.lease, s.xs)) := by
            rw [hgm, List.take_of_length_le (by rw [HNSx.out]; omega)]
          have HGS := Lib.hid hgs
          clear hgm hgs hgl
          have hst : ∃ A' cap', Kf w wr { K0 with gates := gs, Ag := Ag, cg := cg, A := A', cap := cap', L := (b.shared.take 0).map (spanOf ns), T := tOf (csAt b.envs b.shared 0) } := by
            refine ⟨K0.A, K0.cap, ?_⟩
            have e1 : (b.shared.take 0).map (spanOf ns) = K0.L := by rw [HKF.out.2.2.2.2.2.1]; rfl
            have e2 : tOf (csAt b.envs b.shared 0) = K0.T := by rw [HKF.out.2.2.2.2.2.2]; exact init_rows.symm
            rw [e1, e2]
            exact hF
          obtain ⟨A0, cap0, hF0⟩ := hst
          by_cases hz2 : nH = 0
          · subst hz2
            have e4 := hBb.cell 4
            simp only [List.getElem?_cons_zero, List.getElem?_cons_succ] at e4
            go_wp2_with fail
            clear e4
            go_loopw [83] (fun s83 wx => ∃ (j : Nat) (A' : Option Addr) (cap' : Nat), j ≤ 0 ∧ s83 = .int .i64 j ∧ Kf w wx { K0 with gates := gs, Ag := Ag, cg := cg, A := A', cap := cap', L := (b.shared.take j).map (spanOf ns), T := tOf (csAt b.envs b.shared j) } ∧ Blk wx rr 72 (roomCells ns)) (fun t _ => 0 - (intOf t).toNat)
            case atStart => exact ⟨0, A0, cap0, Nat.zero_le _, rfl, hF0, hRb⟩
            case round =>
              obtain ⟨j, A', cap', hj, rfl, hF, hRb⟩ := hrel
              clear hF0
              obtain rfl : j = 0 := by omega
              have hb : Boots b ns { K0 with gates := gs, Ag := Ag, cg := cg, A := A', cap := cap', L := (b.shared.take 0).map (spanOf ns), T := tOf (csAt b.envs b.shared 0) } := by
                have ej : 0 = b.shared.length := HNHx.out.symm
                refine ⟨HKF.out.1, HKF.out.2.1, HKF.out.2.2.1, HKF.out.2.2.2.1, HKF.out.2.2.2.2.1.trans (by rw [← HALL.out, HNS.out]), by dsimp only; rw [ej, List.take_of_length_le (Nat.le_refl _)], by dsimp only; rw [ej], HGS.out⟩
              go_wp2
              go_ret2
              refine ⟨_, ?_, hF, hb⟩; rfl
          · obtain ⟨gH, oH, hAH, -⟩ := (HH.out.1.sh).lit (by rw [HNHx.out]; omega)
            have hcs : ∀ wx, Keep Nob w wx → ∀ (j : Nat) (x : Sh), b.shared[j]? = some x → wx.cell? ⟨gH, oH + j * 5, none⟩ = some (.int .i64 x.ses) ∧ wx.cell? ⟨gH, oH + j * 5 + 1, none⟩ = some (.int .i64 x.frame) ∧ wx.cell? ⟨gH, oH + j * 5 + 2, none⟩ = some (.int .i64 x.lo) ∧ wx.cell? ⟨gH, oH + j * 5 + 3, none⟩ = some (.int .i64 x.n) ∧ wx.cell? ⟨gH, oH + j * 5 + 4, none⟩ = some (.slice x.A x.tos.length x.c) := fun wx kk j x hx => by
              obtain ⟨g2, o2, h2, h3⟩ := (HH.out.1.nob kk).sh.lit (by have := get_lt hx; omega)
              rw [hAH] at h2
              cases h2
              have g0 := h3 _ _ (shares_get hx (j := 0) (by decide))
              have g1 := h3 _ _ (shares_get hx (j := 1) (by decide))
              have g2 := h3 _ _ (shares_get hx (j := 2) (by decide))
              have g3 := h3 _ _ (shares_get hx (j := 3) (by decide))
              have g4 := h3 _ _ (shares_get hx (j := 4) (by decide))
              rw [← Nat.add_assoc] at g1 g2 g3 g4
              rw [Nat.add_zero] at g0
              exact ⟨g0, g1, g2, g3, g4⟩
            have HCS := Lib.hid hcs
            clear hcs
            rw [hAH] at hBb
            have HAH := Lib.hid hAH
            clear hAH
            have e4 := hBb.cell 4
            simp only [List.getElem?_cons_zero, List.getElem?_cons_succ] at e4
            go_wp2_with fail
            clear e4
            go_loopw [83] (fun s83 wx => ∃ (j : Nat) (A' : Option Addr) (cap' : Nat), j ≤ nH ∧ s83 = .int .i64 j ∧ Kf w wx { K0 with gates := gs, Ag := Ag, cg := cg, A := A', cap := cap', L := (b.shared.take j).map (spanOf ns), T := tOf (csAt b.envs b.shared j) } ∧ Blk wx rr 72 (roomCells ns)) (fun t _ => nH - (intOf t).toNat)
            case atStart => exact ⟨0, A0, cap0, Nat.zero_le _, rfl, hF0, hRb⟩
            case round =>
              obtain ⟨j, A', cap', hj, rfl, hF, hRb⟩ := hrel
              clear hF0
              by_cases hlt : j < nH
              · have hjl : j < b.shared.length := by rw [HNHx.out]; exact hlt
                obtain ⟨x, hx⟩ : ∃ x, b.shared[j]? = some x := ⟨_, List.getElem?_eq_getElem hjl⟩
                have hxm := List.mem_of_getElem? hx
                obtain ⟨g0, g1, g2, g3, g4⟩ := HCS.out wr hF.keep j x hx
                have hok := HH.out.2.sh x hxm
                have hsp := span_in hok
                have hok2 := hok
                obtain ⟨a1, a2, a3, a4, a5, a6, a7, a8, a9⟩ := hok
                obtain ⟨i, hi⟩ := Int.eq_ofNat_of_zero_le a1
                rw [hi, Int.toNat_natCast] at a4 a7
                have hin : i < ns.length := by omega
                have hi4 : i < 4 := by have := HNS.out; omega
                have hff := Qu.first_le H64.out i (by omega)
                have hf64 : ns.getD i 0 ≤ 64 := by
                  rw [List.getD_eq_getElem?_getD, List.getElem?_eq_getElem hin]
                  exact H64.out _ (List.getElem_mem hin)
                obtain ⟨f, hf⟩ : ∃ f, ns.getD i 0 = f := ⟨_, rfl⟩
                obtain ⟨ah, hah⟩ : ∃ ah, Qu.first ns i = ah := ⟨_, rfl⟩
                rw [hf] at a4 a7 hf64
                rw [hah] at hff
                have hrc := roomCells_get hin
                rw [hf, hah] at hrc
                have hv : x.val = .agg #[.int .i64 i, .int .i64 x.frame, .int .i64 x.lo, .int .i64 x.n, .slice x.A x.tos.length x.c] := by unfold Sh.val; rw [hi]
                rw [hi] at g0
                have kA := (Keep.refl Nob wr).alloc (.cells #[.int .i64 i, .int .i64 x.frame, .int .i64 x.lo, .int .i64 x.n, .slice x.A x.tos.length x.c] 53)
                have bS := Blk.new wr 53 [.int .i64 i, .int .i64 x.frame, .int .i64 x.lo, .int .i64 x.n, .slice x.A x.tos.length x.c]
                have hFa := hF.nob kA
                have hRa := hRb.nob kA
                have kd := Keep.nobdrew (wr.alloc (.cells #[.int .i64 i, .int .i64 x.frame, .int .i64 x.lo, .int .i64 x.n, .slice x.A x.tos.length x.c] 53))
                have hLn : ((b.shared.take j).map (spanOf ns)).length = j := by rw [List.length_map, List.length_take]; omega
                have hnx : K0.xs.length = 64 * Qu.first ns ns.length := by rw [HKF.out.2.2.2.2.1, zeros_len, ← HALL.out, HNS.out]
                have hnf := Qu.first_le H64.out ns.length (Nat.le_refl _)
                have hne : K0.envs = b.envs := HKF.out.2.1
                have hN4 := HNS.out
                have hcall := kshare_is (hFa.nob kd).is (csAt b.envs b.shared j) rfl (fun e _ => by dsimp only; rw [hLn]; exact csAt_len _ _ _ _) (by dsimp only; rw [hLn]; omega) x ((HH.out.1.nob (hFa.nob kd).keep).tos x hxm) a9 ah f a3 a4 a5 a6 hf64 (by omega) (spanOf ns x).1 (by unfold spanOf; rw [hi, Int.toNat_natCast, hah]) (by have := hsp.2; dsimp only; rw [hnx]; exact_mod_cast this) (by dsimp only; rw [hnx]; omega) ⟨j, 3, 0, x.n, (0, 0)⟩ (by dsimp only; rw [hLn]) (fun W kk => ((HH.out.1.nob ((hFa.nob kd).keep.trans kk (fun b hb m => by have := (hFa.nob kd).turnS b m; omega))).tos x hxm))
                rw [hv] at hcall
                have S0 : ∀ W, Blk W wr.heap.size 53 [.int .i64 i, .int .i64 x.frame, .int .i64 x.lo, .int .i64 x.n, .slice x.A x.tos.length x.c] → Blk W rr 72 (roomCells ns) → W.cell? ⟨wr.heap.size, 0, none⟩ = some (.int .i64 i) ∧ W.cell? ⟨wr.heap.size, 1, none⟩ = some (.int .i64 x.frame) ∧ W.cell? ⟨wr.heap.size, 2, none⟩ = some (.int .i64 x.lo) ∧ W.cell? ⟨wr.heap.size, 3, none⟩ = some (.int .i64 x.n) ∧ W.cell? ⟨wr.heap.size, 4, none⟩ = some (.slice x.A x.tos.length x.c) ∧ W.cell? ⟨rr, i * 2, none⟩ = some (.int .i64 ah) ∧ W.cell? ⟨rr, i * 2 + 1, none⟩ = some (.int .i64 f) := fun W h1 h2 =>
                  ⟨h1.cell 0, h1.cell 1, h1.cell 2, h1.cell 3, h1.cell 4, (h2.cell _).trans hrc.1, (h2.cell _).trans hrc.2⟩
                have s0 := S0 _ (bS.nob kd) (hRa.nob kd)
                have SS := Lib.hid S0
                have HFA := Lib.hid (And.intro (hFa.nob kd) (And.intro (bS.nob kd) (And.intro (hRa.nob kd) (And.intro hF.keep.size hx))))
                have HNE := Lib.hid (And.intro hne hLn)
                have hik : (i : Int) < k := by omega
                clear S0 hF hRb hFa hRa bS kA kd hv hrc hah hf hi hok2 hsp hne hLn a1 a2 a7 hnx hx hxm
                go_wp2_with fail
                go_region_held3 (fun w' => w'.cell? ⟨wr.heap.size, 0, none⟩ = some (.int .i64 i) ∧ w'.cell? ⟨wr.heap.size, 1, none⟩ = some (.int .i64 x.frame) ∧ w'.cell? ⟨wr.heap.size, 2, none⟩ = some (.int .i64 x.lo) ∧ w'.cell? ⟨wr.heap.size, 3, none⟩ = some (.int .i64 x.n) ∧ w'.cell? ⟨wr.heap.size, 4, none⟩ = some (.slice x.A x.tos.length x.c) ∧ w'.cell? ⟨rr, i * 2, none⟩ = some (.int .i64 ah) ∧ w'.cell? ⟨rr, i * 2 + 1, none⟩ = some (.int .i64 f))
                  (first | exact s0 | exact SS.out _ (HFA.out.1.is.offS HFA.out.2.1 (by decide) (by decide) (by decide) hkS) (HFA.out.1.is.offS HFA.out.2.2.1 (by decide) (by decide) (by decide) hkS))
                  (first | (go_at_call 29; refine hcall.mono ?_; rintro e w2 ⟨rfl, A'', cap'', hI2, hkS, hoS⟩))
                have hRn := HFA.out.1.is.offS HFA.out.2.2.1 (by decide) (by decide) (by decide) hkS
                have hFn := HFA.out.1.share hI2 hkS (fun g hg => (hoS g hg).imp id (fun h => by have := HFA.out.1.keep.size; omega))
                have e1 : (b.shared.take j).map (spanOf ns) ++ [((spanOf ns x).1, x.n)] = (b.shared.take (j + 1)).map (spanOf ns) := by
                  rw [List.take_add_one, HFA.out.2.2.2.2, List.map_append]
                  rfl
                dsimp only at hFn
                have eT : gave (csAt b.envs b.shared j) K0.envs x.tos ⟨j, 3, 0, x.n, (0, 0)⟩ K0.envs.length = csAt b.envs b.shared (j + 1) := by rw [HNE.out.1]; exact (csAt_next HFA.out.2.2.2.2).symm
                rw [e1, eT] at hFn
                have FI := Lib.hid (And.intro hFn hRn)
                clear hFn hRn hI2 hkS hoS e1 hcall s0
                go_wp2_with fail
                go_roundw
                case rel => exact ⟨j + 1, A'', cap'', by omega, by go_num, FI.out.1, FI.out.2⟩
                case measure => simp [intOf]; omega
              · obtain rfl : j = nH := by omega
                have hb : Boots b ns { K0 with gates := gs, Ag := Ag, cg := cg, A := A', cap := cap', L := (b.shared.take j).map (spanOf ns), T := tOf (csAt b.envs b.shared j) } := by
                  have ej : j = b.shared.length := HNHx.out.symm
                  refine ⟨HKF.out.1, HKF.out.2.1, HKF.out.2.2.1, HKF.out.2.2.2.1, HKF.out.2.2.2.2.1.trans (by rw [← HALL.out, HNS.out]), by dsimp only; rw [ej, List.take_of_length_le (Nat.le_refl _)], by dsimp only; rw [ej], HGS.out⟩
                go_wp2
                go_ret2
                refine ⟨_, ?_, hF, hb⟩; rfl
      · obtain ⟨gS, oS, hAS, -⟩ := (HH.out.1.se).lit (by rw [HNSx.out]; omega)
        have hcl : ∀ wx, Keep Nob w wx → ∀ (j : Nat) x, b.sects[j]? = some x → wx.cell? ⟨gS, oS + j, none⟩ = some x.cell := fun wx kk j x hx => by
          obtain ⟨g2, o2, h2, h3⟩ := (HH.out.1.nob kk).se.lit (by have := get_lt hx; omega)
          rw [hAS] at h2
          cases h2
          exact h3 j x.cell (by simp [hx])
        have HCL := Lib.hid hcl
        clear hcl
        rw [hAS] at bB
        have HAS := Lib.hid hAS
        clear hAS
        have e2 := bB.cell 2
        simp only [List.getElem?_cons_zero, List.getElem?_cons_succ] at e2
        go_wp2_with fail
        clear e2
        go_loopw [60] (fun s60 wx => ∃ (j : Nat) (gs : List Gt) (Ag : Option Addr) (cg : Nat), j ≤ nS ∧ s60 = .int .i64 j ∧ gs.length = j ∧ gs.map (fun G => (G.s, G.may)) = (b.sects.take j).map (fun s => (Se.Sec.new b.lease, s.xs)) ∧ Kf w wx { K0 with gates := gs, Ag := Ag, cg := cg } ∧ Blk wx w.heap.size 31 [.slice b.Af b.frames.length b.cf, .slice b.Ae b.envs.length b.ce, .slice (some ⟨gS, oS, none⟩) nS b.cs, .int .i64 b.lease, .slice b.Ah nH b.ch] ∧ Blk wx rr 72 (roomCells ns)) (fun t _ => nS - (intOf t).toNat)
        case atStart => exact ⟨0, [], none, 0, Nat.zero_le _, rfl, rfl, rfl, hF0, bB, rB⟩
        case round =>
          obtain ⟨j, gs, Ag, cg, hj, rfl, hgl, hgm, hF, hBb, hRb⟩ := hrel
          clear hF0 bB rB
          by_cases hlt : j < nS
          · have hjl : j < b.sects.length := by rw [HNSx.out]; exact hlt
            obtain ⟨x, hx⟩ : ∃ x, b.sects[j]? = some x := ⟨_, List.getElem?_eq_getElem hjl⟩
            have hxm := List.mem_of_getElem? hx
            have hcx := HCL.out wr hF.keep j x hx
            unfold Sl.cell at hcx
            have hrx := (HH.out.1.nob hF.keep).sl x hxm
            have hx1000 := (HH.out.2.se x hxm).2
            obtain ⟨xl, hxl⟩ : ∃ n, x.xs.length = n := ⟨_, rfl⟩
            have HXL := Lib.hid hxl
            have kd := Keep.nobdrew wr
            have c2 := hF.is.c2
            dsimp only at c2
            rw [hgl] at c2
            have e3 := hBb.cell 3
            simp only [List.getElem?_cons_zero, List.getElem?_cons_succ] at e3
            have sf : ∀ W, Keep Nob wr W → W.cell? ⟨K0.k, 2, none⟩ = some (.slice Ag j cg) ∧ W.cell? ⟨w.heap.size, 3, none⟩ = some (.int .i64 b.lease) := fun W kk => by
              have c2 := (hF.nob kk).is.c2
              dsimp only at c2
              rw [hgl] at c2
              have e3 := (hBb.nob kk).cell 3
              simp only [List.getElem?_cons_zero, List.getElem?_cons_succ] at e3
              exact ⟨c2, e3⟩
            have hsn : ∀ W, Calls Tryz.prog 28 #[.int .i64 b.lease] W fun e w' => ∃ p, e = .returned (.pointer (some ⟨p, 0, none⟩)) ∧ Se.IsSec w' p none 0 (Se.Sec.new b.lease) ∧ W.heap.size ≤ p ∧ Keep Nob W w' := fun W => Se.new_sec b.lease
            have hcl : ∀ W, Keep Nob wr W → Calls Tryz.prog 23 #[.slice x.A xl x.c] W fun e w' => ∃ A' c', e = .returned (.slice A' xl c') ∧ Vec w' 3 1 A' xl c' (ints x.xs) ∧ (∀ k, Own A' k → W.heap.size ≤ k) ∧ Keep Nob W w' := fun W kk => by
              have := hrx.nob kk
              rw [hxl] at this
              exact Se.clone_is this (by omega)
            rw [hxl] at hcx
            have HF := Lib.hid (And.intro hF (And.intro hBb (And.intro hgl hgm)))
            have HRb := Lib.hid hRb
            clear hRb
            have q0 := (sf _ kd).1
            have q1 := (sf _ kd).2
            have SF := Lib.hid sf
            have HX := Lib.hid hx
            clear hF hBb hgm hrx hx hxm sf c2 e3 hxl
            go_wp2_with fail
            go_region_law (first
              | (go_simp; go_at_call 28; refine (hsn _).mono ?_; rintro e wa ⟨p, rfl, hS, hp, kS⟩; have ka := kd.trans kS (fun _ _ f => f); have q2 := (SF.out _ ka).1; have q3 := (SF.out _ ka).2)
              | (go_simp; go_at_call 23; refine (hcl _ ka).mono ?_; rintro e wb ⟨A', c', rfl, hm, hoA, kM⟩; have kb := ka.trans kM (fun _ _ f => f); have kx := kb.alloc (.cells #[.pointer (some ⟨p, 0, none⟩), .slice A' xl c'] 85); have q4 := (SF.out _ kb).1; have q5 := (SF.out _ kb).2; have q6 := (SF.out _ kx).1; have q7 := (SF.out _ kx).2; have hv1 := (HF.out.1.is.nob kx).row; dsimp only at hv1; rw [HF.out.2.2.1] at hv1; have hr1 := reads_all (n := 2) (Blk.new wb 85 [.pointer (some ⟨p, 0, none⟩), .slice A' xl c']) rfl)
              | (refine Qu.step_ap (by rfl) _ _ 77 (by rfl) 85 2 32 (.agg #[.pointer none, .slice none 0 0]) Tryz.underlying77 infogate (by rfl) (by decide) Ag j cg (gcells gs) (by rfl) hv1 (some ⟨wb.heap.size, 0, none⟩) 1 1 [.pointer (some ⟨p, 0, none⟩), .slice A' xl c'] (by rfl) 2 (by rfl) hr1 (one2 _ _ rfl rfl) (by unfold maxLen; omega) (by omega) ?_; intro A2 c2 w2 hv2 hk2 ho2; have o2 := (HF.out.1.is.obj.nob kx).keep hk2 (offB (fun b hb => (HF.out.1.is.nob kx).row.blk hb) (HF.out.1.is.obj.nob kx) (by decide)); have z1 := o2.cell 2; have f1 := o2.frozen 2; simp only [List.getElem?_cons_zero, List.getElem?_cons_succ] at z1))
            all_goals
              have hsz : w.heap.size ≤ wr.heap.size := HF.out.1.keep.size
              have hwd : wr.drew.heap.size = wr.heap.size := rfl
              have hwa := kS.size
              have F := (HF.out.1.nob kx).gate (p := p) (s := Se.Sec.new b.lease) (A' := A') (c' := c') (xs := x.xs) (A2 := A2) (c2 := c2) ((hS.nob kM).nob ((Keep.refl Nob wb).alloc _)) (Se.Sec.Ok.new _) (by rw [HXL.out]; exact hm.nob ((Keep.refl Nob wb).alloc _)) (by omega) (fun y hy => by have := hoA y hy; omega)
                (fun G hG e => by have := (HF.out.1.is.sec G hG).1.obj.lt; omega) (fun G hG y hy hy2 => by have := (HF.out.1.is.sec G hG).1.row.lt y hy; have := hoA y hy2; omega) (by dsimp only; rw [HF.out.2.2.1]; omega) hx1000 (by dsimp only; rw [HF.out.2.2.1, HXL.out]; exact hv2) hk2 (fun y hy => (ho2 y hy).imp id (fun e => by have := kx.size; omega))
              dsimp only at F
              rw [HF.out.2.2.1] at F
              have hboot : Blk (w2.setCell ⟨K0.k, 2, none⟩ (.slice A2 (j + 1) c2)) w.heap.size 31 [.slice b.Af b.frames.length b.cf, .slice b.Ae b.envs.length b.ce, .slice (some ⟨gS, oS, none⟩) nS b.cs, .int .i64 b.lease, .slice b.Ah nH b.ch] := by
                have b1 := (HF.out.2.1.nob kx).keep hk2 (offB (fun b hb => (HF.out.1.is.nob kx).row.blk hb) (HF.out.2.1.nob kx) (by decide))
                exact b1.far (b1.ne_ o2 (by decide)) _
              have hmap : (gs ++ [(⟨p, none, 0, Se.Sec.new b.lease, A', c', x.xs⟩ : Gt)]).map (fun G => (G.s, G.may)) = (b.sects.take (j + 1)).map (fun s => (Se.Sec.new b.lease, s.xs)) := by
                rw [List.map_append, HF.out.2.2.2, List.take_add_one, HX.out]
                simp
              have hlen : (gs ++ [(⟨p, none, 0, Se.Sec.new b.lease, A', c', x.xs⟩ : Gt)]).length = j + 1 := by rw [List.length_append, HF.out.2.2.1]; rfl
              have hroom : Blk (w2.setCell ⟨K0.k, 2, none⟩ (.slice A2 (j + 1) c2)) rr 72 (roomCells ns) := by
                have b1 := (HRb.out.nob kx).keep hk2 (offB (fun b hb => (HF.out.1.is.nob kx).row.blk hb) (HRb.out.nob kx) (by decide))
                exact b1.far (b1.ne_ o2 (by decide)) _
              have HRM := Lib.hid hroom
              clear hroom
              have FI := Lib.hid (And.intro F (And.intro hboot (And.intro hmap hlen)))
              clear F hboot hmap hlen hv2 hk2 ho2 o2 hv1 hr1 hm hoA kM kb ka kx hS hp kS q0 q1 q2 q3 q4 q5 q6 q7 hsn hcl kd HF SF
              go_wp2_with fail
              go_roundw
              case rel => exact ⟨j + 1, _, A2, c2, by omega, by go_num, FI.out.2.2.2, FI.out.2.2.1, FI.out.1, FI.out.2.1, HRM.out⟩
              case measure => simp [intOf]; omega
          · obtain rfl : j = nS := by omega
            have hgs : gs.map (fun G => (G.s, G.may)) = b.sects.map (fun s => (Se.Sec.new b.lease, s.xs)) := by
              rw [hgm, List.take_of_length_le (by rw [HNSx.out]; omega)]
            have HGS := Lib.hid hgs
            clear hgm hgs hgl
            have hst : ∃ A' cap', Kf w wr { K0 with gates := gs, Ag := Ag, cg := cg, A := A', cap := cap', L := (b.shared.take 0).map (spanOf ns), T := tOf (csAt b.envs b.shared 0) } := by
              refine ⟨K0.A, K0.cap, ?_⟩
              have e1 : (b.shared.take 0).map (spanOf ns) = K0.L := by rw [HKF.out.2.2.2.2.2.1]; rfl
              have e2 : tOf (csAt b.envs b.shared 0) = K0.T := by rw [HKF.out.2.2.2.2.2.2]; exact init_rows.symm
              rw [e1, e2]
              exact hF
            obtain ⟨A0, cap0, hF0⟩ := hst
            by_cases hz2 : nH = 0
            · subst hz2
              have e4 := hBb.cell 4
              simp only [List.getElem?_cons_zero, List.getElem?_cons_succ] at e4
              go_wp2_with fail
              clear e4
              go_loopw [83] (fun s83 wx => ∃ (j : Nat) (A' : Option Addr) (cap' : Nat), j ≤ 0 ∧ s83 = .int .i64 j ∧ Kf w wx { K0 with gates := gs, Ag := Ag, cg := cg, A := A', cap := cap', L := (b.shared.take j).map (spanOf ns), T := tOf (csAt b.envs b.shared j) } ∧ Blk wx rr 72 (roomCells ns)) (fun t _ => 0 - (intOf t).toNat)
              case atStart => exact ⟨0, A0, cap0, Nat.zero_le _, rfl, hF0, hRb⟩
              case round =>
                obtain ⟨j, A', cap', hj, rfl, hF, hRb⟩ := hrel
                clear hF0
                obtain rfl : j = 0 := by omega
                have hb : Boots b ns { K0 with gates := gs, Ag := Ag, cg := cg, A := A', cap := cap', L := (b.shared.take 0).map (spanOf ns), T := tOf (csAt b.envs b.shared 0) } := by
                  have ej : 0 = b.shared.length := HNHx.out.symm
                  refine ⟨HKF.out.1, HKF.out.2.1, HKF.out.2.2.1, HKF.out.2.2.2.1, HKF.out.2.2.2.2.1.trans (by rw [← HALL.out, HNS.out]), by dsimp only; rw [ej, List.take_of_length_le (Nat.le_refl _)], by dsimp only; rw [ej], HGS.out⟩
                go_wp2
                go_ret2
                refine ⟨_, ?_, hF, hb⟩; rfl
            · obtain ⟨gH, oH, hAH, -⟩ := (HH.out.1.sh).lit (by rw [HNHx.out]; omega)
              have hcs : ∀ wx, Keep Nob w wx → ∀ (j : Nat) (x : Sh), b.shared[j]? = some x → wx.cell? ⟨gH, oH + j * 5, none⟩ = some (.int .i64 x.ses) ∧ wx.cell? ⟨gH, oH + j * 5 + 1, none⟩ = some (.int .i64 x.frame) ∧ wx.cell? ⟨gH, oH + j * 5 + 2, none⟩ = some (.int .i64 x.lo) ∧ wx.cell? ⟨gH, oH + j * 5 + 3, none⟩ = some (.int .i64 x.n) ∧ wx.cell? ⟨gH, oH + j * 5 + 4, none⟩ = some (.slice x.A x.tos.length x.c) := fun wx kk j x hx => by
                obtain ⟨g2, o2, h2, h3⟩ := (HH.out.1.nob kk).sh.lit (by have := get_lt hx; omega)
                rw [hAH] at h2
                cases h2
                have g0 := h3 _ _ (shares_get hx (j := 0) (by decide))
                have g1 := h3 _ _ (shares_get hx (j := 1) (by decide))
                have g2 := h3 _ _ (shares_get hx (j := 2) (by decide))
                have g3 := h3 _ _ (shares_get hx (j := 3) (by decide))
                have g4 := h3 _ _ (shares_get hx (j := 4) (by decide))
                rw [← Nat.add_assoc] at g1 g2 g3 g4
                rw [Nat.add_zero] at g0
                exact ⟨g0, g1, g2, g3, g4⟩
              have HCS := Lib.hid hcs
              clear hcs
              rw [hAH] at hBb
              have HAH := Lib.hid hAH
              clear hAH
              have e4 := hBb.cell 4
              simp only [List.getElem?_cons_zero, List.getElem?_cons_succ] at e4
              go_wp2_with fail
              clear e4
              go_loopw [83] (fun s83 wx => ∃ (j : Nat) (A' : Option Addr) (cap' : Nat), j ≤ nH ∧ s83 = .int .i64 j ∧ Kf w wx { K0 with gates := gs, Ag := Ag, cg := cg, A := A', cap := cap', L := (b.shared.take j).map (spanOf ns), T := tOf (csAt b.envs b.shared j) } ∧ Blk wx rr 72 (roomCells ns)) (fun t _ => nH - (intOf t).toNat)
              case atStart => exact ⟨0, A0, cap0, Nat.zero_le _, rfl, hF0, hRb⟩
              case round =>
                obtain ⟨j, A', cap', hj, rfl, hF, hRb⟩ := hrel
                clear hF0
                by_cases hlt : j < nH
                · have hjl : j < b.shared.length := by rw [HNHx.out]; exact hlt
                  obtain ⟨x, hx⟩ : ∃ x, b.shared[j]? = some x := ⟨_, List.getElem?_eq_getElem hjl⟩
                  have hxm := List.mem_of_getElem? hx
                  obtain ⟨g0, g1, g2, g3, g4⟩ := HCS.out wr hF.keep j x hx
                  have hok := HH.out.2.sh x hxm
                  have hsp := span_in hok
                  have hok2 := hok
                  obtain ⟨a1, a2, a3, a4, a5, a6, a7, a8, a9⟩ := hok
                  obtain ⟨i, hi⟩ := Int.eq_ofNat_of_zero_le a1
                  rw [hi, Int.toNat_natCast] at a4 a7
                  have hin : i < ns.length := by omega
                  have hi4 : i < 4 := by have := HNS.out; omega
                  have hff := Qu.first_le H64.out i (by omega)
                  have hf64 : ns.getD i 0 ≤ 64 := by
                    rw [List.getD_eq_getElem?_getD, List.getElem?_eq_getElem hin]
                    exact H64.out _ (List.getElem_mem hin)
                  obtain ⟨f, hf⟩ : ∃ f, ns.getD i 0 = f := ⟨_, rfl⟩
                  obtain ⟨ah, hah⟩ : ∃ ah, Qu.first ns i = ah := ⟨_, rfl⟩
                  rw [hf] at a4 a7 hf64
                  rw [hah] at hff
                  have hrc := roomCells_get hin
                  rw [hf, hah] at hrc
                  have hv : x.val = .agg #[.int .i64 i, .int .i64 x.frame, .int .i64 x.lo, .int .i64 x.n, .slice x.A x.tos.length x.c] := by unfold Sh.val; rw [hi]
                  rw [hi] at g0
                  have kA := (Keep.refl Nob wr).alloc (.cells #[.int .i64 i, .int .i64 x.frame, .int .i64 x.lo, .int .i64 x.n, .slice x.A x.tos.length x.c] 53)
                  have bS := Blk.new wr 53 [.int .i64 i, .int .i64 x.frame, .int .i64 x.lo, .int .i64 x.n, .slice x.A x.tos.length x.c]
                  have hFa := hF.nob kA
                  have hRa := hRb.nob kA
                  have kd := Keep.nobdrew (wr.alloc (.cells #[.int .i64 i, .int .i64 x.frame, .int .i64 x.lo, .int .i64 x.n, .slice x.A x.tos.length x.c] 53))
                  have hLn : ((b.shared.take j).map (spanOf ns)).length = j := by rw [List.length_map, List.length_take]; omega
                  have hnx : K0.xs.length = 64 * Qu.first ns ns.length := by rw [HKF.out.2.2.2.2.1, zeros_len, ← HALL.out, HNS.out]
                  have hnf := Qu.first_le H64.out ns.length (Nat.le_refl _)
                  have hne : K0.envs = b.envs := HKF.out.2.1
                  have hN4 := HNS.out
                  have hcall := kshare_is (hFa.nob kd).is (csAt b.envs b.shared j) rfl (fun e _ => by dsimp only; rw [hLn]; exact csAt_len _ _ _ _) (by dsimp only; rw [hLn]; omega) x ((HH.out.1.nob (hFa.nob kd).keep).tos x hxm) a9 ah f a3 a4 a5 a6 hf64 (by omega) (spanOf ns x).1 (by unfold spanOf; rw [hi, Int.toNat_natCast, hah]) (by have := hsp.2; dsimp only; rw [hnx]; exact_mod_cast this) (by dsimp only; rw [hnx]; omega) ⟨j, 3, 0, x.n, (0, 0)⟩ (by dsimp only; rw [hLn]) (fun W kk => ((HH.out.1.nob ((hFa.nob kd).keep.trans kk (fun b hb m => by have := (hFa.nob kd).turnS b m; omega))).tos x hxm))
                  rw [hv] at hcall
                  have S0 : ∀ W, Blk W wr.heap.size 53 [.int .i64 i, .int .i64 x.frame, .int .i64 x.lo, .int .i64 x.n, .slice x.A x.tos.length x.c] → Blk W rr 72 (roomCells ns) → W.cell? ⟨wr.heap.size, 0, none⟩ = some (.int .i64 i) ∧ W.cell? ⟨wr.heap.size, 1, none⟩ = some (.int .i64 x.frame) ∧ W.cell? ⟨wr.heap.size, 2, none⟩ = some (.int .i64 x.lo) ∧ W.cell? ⟨wr.heap.size, 3, none⟩ = some (.int .i64 x.n) ∧ W.cell? ⟨wr.heap.size, 4, none⟩ = some (.slice x.A x.tos.length x.c) ∧ W.cell? ⟨rr, i * 2, none⟩ = some (.int .i64 ah) ∧ W.cell? ⟨rr, i * 2 + 1, none⟩ = some (.int .i64 f) := fun W h1 h2 =>
                    ⟨h1.cell 0, h1.cell 1, h1.cell 2, h1.cell 3, h1.cell 4, (h2.cell _).trans hrc.1, (h2.cell _).trans hrc.2⟩
                  have s0 := S0 _ (bS.nob kd) (hRa.nob kd)
                  have SS := Lib.hid S0
                  have HFA := Lib.hid (And.intro (hFa.nob kd) (And.intro (bS.nob kd) (And.intro (hRa.nob kd) (And.intro hF.keep.size hx))))
                  have HNE := Lib.hid (And.intro hne hLn)
                  have hik : (i : Int) < k := by omega
                  clear S0 hF hRb hFa hRa bS kA kd hv hrc hah hf hi hok2 hsp hne hLn a1 a2 a7 hnx hx hxm
                  go_wp2_with fail
                  go_region_held3 (fun w' => w'.cell? ⟨wr.heap.size, 0, none⟩ = some (.int .i64 i) ∧ w'.cell? ⟨wr.heap.size, 1, none⟩ = some (.int .i64 x.frame) ∧ w'.cell? ⟨wr.heap.size, 2, none⟩ = some (.int .i64 x.lo) ∧ w'.cell? ⟨wr.heap.size, 3, none⟩ = some (.int .i64 x.n) ∧ w'.cell? ⟨wr.heap.size, 4, none⟩ = some (.slice x.A x.tos.length x.c) ∧ w'.cell? ⟨rr, i * 2, none⟩ = some (.int .i64 ah) ∧ w'.cell? ⟨rr, i * 2 + 1, none⟩ = some (.int .i64 f))
                    (first | exact s0 | exact SS.out _ (HFA.out.1.is.offS HFA.out.2.1 (by decide) (by decide) (by decide) hkS) (HFA.out.1.is.offS HFA.out.2.2.1 (by decide) (by decide) (by decide) hkS))
                    (first | (go_at_call 29; refine hcall.mono ?_; rintro e w2 ⟨rfl, A'', cap'', hI2, hkS, hoS⟩))
                  have hRn := HFA.out.1.is.offS HFA.out.2.2.1 (by decide) (by decide) (by decide) hkS
                  have hFn := HFA.out.1.share hI2 hkS (fun g hg => (hoS g hg).imp id (fun h => by have := HFA.out.1.keep.size; omega))
                  have e1 : (b.shared.take j).map (spanOf ns) ++ [((spanOf ns x).1, x.n)] = (b.shared.take (j + 1)).map (spanOf ns) := by
                    rw [List.take_add_one, HFA.out.2.2.2.2, List.map_append]
                    rfl
                  dsimp only at hFn
                  have eT : gave (csAt b.envs b.shared j) K0.envs x.tos ⟨j, 3, 0, x.n, (0, 0)⟩ K0.envs.length = csAt b.envs b.shared (j + 1) := by rw [HNE.out.1]; exact (csAt_next HFA.out.2.2.2.2).symm
                  rw [e1, eT] at hFn
                  have FI := Lib.hid (And.intro hFn hRn)
                  clear hFn hRn hI2 hkS hoS e1 hcall s0
                  go_wp2_with fail
                  go_roundw
                  case rel => exact ⟨j + 1, A'', cap'', by omega, by go_num, FI.out.1, FI.out.2⟩
                  case measure => simp [intOf]; omega
                · obtain rfl : j = nH := by omega
                  have hb : Boots b ns { K0 with gates := gs, Ag := Ag, cg := cg, A := A', cap := cap', L := (b.shared.take j).map (spanOf ns), T := tOf (csAt b.envs b.shared j) } := by
                    have ej : j = b.shared.length := HNHx.out.symm
                    refine ⟨HKF.out.1, HKF.out.2.1, HKF.out.2.2.1, HKF.out.2.2.2.1, HKF.out.2.2.2.2.1.trans (by rw [← HALL.out, HNS.out]), by dsimp only; rw [ej, List.take_of_length_le (Nat.le_refl _)], by dsimp only; rw [ej], HGS.out⟩
                  go_wp2
                  go_ret2
                  refine ⟨_, ?_, hF, hb⟩; rfl
end Go.Proofs.YtompckcnpidbdaaGreat
