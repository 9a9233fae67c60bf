import Derived.Test.YtgcikpgcoemfnaaGreatPs31
set_option maxRecDepth 100000
set_option maxHeartbeats 8000000
set_option linter.unusedVariables false
set_option linter.unusedSimpArgs false
namespace Go.Proofs.YtgcikpgcoemfnaaGreat.Dk
open Go.RowKit
section
variable {w w' W W' : World} {R : Dr}
theorem AddM.blk {S : Ds} (h : eD W S) {e : Nat} (he : e < S.n) {x : Nat} (hx : AddM S e x) : ∃ t cs, Blk W x t cs ∧ (t = 378 ∨ t = 255) := by
 rcases hx with hx | rfl
 ·obtain ⟨cur, hc⟩ := (h.nm e he).row.blk hx
  exact ⟨_, _, hc, .inl rfl⟩
 ·exact ⟨_, _, h.cp e he, .inr rfl⟩
theorem eC {M : Nat → Prop} {T : List TypeId} (hM : ∀ x, M x → ∃ t cs, Blk W x t cs ∧ t ∈ T) {x : Nat} {u : TypeId} {cs : List Value} (hb : Blk W x u cs) (hu : u ∉ T) : ¬ M x := fun m => by
 obtain ⟨t, c, hc, ht⟩ := hM x m
 exact hb.ne_ hc (fun e => hu (e ▸ ht)) rfl
theorem fa {M : Nat → Prop} {T : List TypeId} (hM : ∀ x, M x → ∃ t cs, Blk W x t cs ∧ t ∈ T) {e sz n c : Nat} {A : Option Addr} {xs : List Value} (hv : Vec W e sz A n c xs) (hu : e ∉ T) : ∀ g, Own A g → ¬ M g := fun g hg => by
 obtain ⟨cur, hc⟩ := hv.blk hg
 exact eC hM hc hu
theorem bL.puts (h : bL W R) {T' : St} (hs : eD W' { R.S with T := T' }) (I : Inv T' R.S.n) {e : Nat} (he : e < R.S.n) (k : Keep (AddM R.S e) W W') : bL W' { R with S := { R.S with T := T' } } := by
 have hM : ∀ x, AddM R.S e x → ∃ t cs, Blk W x t cs ∧ t ∈ [378, 255] := fun x hx => by
  obtain ⟨t, cs, hb, ht⟩ := AddM.blk h.sp he hx
  exact ⟨t, cs, hb, by rcases ht with rfl | rfl <;> simp⟩
 exact ⟨h.obj.keep k (eC hM h.obj (by decide)), h.mem.keep k (eC hM h.mem (by decide)), h.lo.keep k (fa hM h.lo (by decide)), h.nn.keep k (fa hM h.nn (by decide)), hs, I, h.ok, h.len, h.few, h.dis⟩
theorem put_row (h : bL W R) {cs : Nat → List Cp} (hT : R.S.T = tOf cs) (e : Nat) (he : e < R.S.n) (hl : (cs e).length < 32) (c : Cp) (hr : c.rights = 3) (hlo : c.lo = 0) (hn : 0 ≤ c.n ∧ c.n ≤ 65536) (ht : c.root = (0, 0)) :
  Calls Tryz.prog 167 #[.pointer (some ⟨R.S.s, 0, none⟩), .int .i64 e, dG c] W fun e' w' => ∃ v, e' = .returned v ∧ bL w' { R with S := { R.S with T := tOf (more cs e c) } } ∧ Keep (AddM R.S e) W w' := by
 have hx : (R.S.T e)[(cs e).length]? = some ⟨1, false, cX⟩ := by
  rw [hT]
  exact fH (l := cs e) (Nat.le_refl _) hl
 have hb : ∀ (j : Nat) (y : Q), j < (cs e).length → (R.S.T e)[j]? = some y → y = ⟨1, true, y.c⟩ := fun j y hj hy => by
  rw [hT] at hy
  have h1 : (tOf cs e)[j]? = (el (cs e))[j]? := rfl
  rw [h1, iz (List.getElem?_eq_getElem hj)] at hy
  cases hy
  rfl
 have hput := put_is h.sp e he c (by rw [hr]; decide) (by rw [hlo]; decide) hn (cs e).length ⟨1, false, cX⟩ hx (by decide) (fun j y hj hy => by rw [hb j y hj hy]; rfl)
 have hA : iE R.S.T R.S.n e c (((cs e).length : Int) + 256 * ((1 : Nat) : Int)) 0 (up R.S.T e (cs e).length ⟨1, true, c⟩) := iE.put (cs e).length ⟨1, false, cX⟩ hx (by decide) (fun j y hj hy => by rw [hb j y hj hy]; rfl)
 have hI := hA.inv h.inv he ⟨by rw [hr]; decide, by rw [hr]; decide, by rw [hlo]; decide, hn.1, by rw [hlo]; omega⟩ (.inl ht)
 have hrow := (added_row (by rw [hT] at hA; exact hA) hl).2.2
 have ec : (⟨c.obj, c.rights, c.lo, c.n, (0, 0)⟩ : Cp) = c := by
  cases c
  dsimp only at ht
  rw [ht]
 refine hput.mono ?_
 rintro e' w' ⟨rfl, h1, h2⟩
 rw [ec] at h1
 have eT : up R.S.T e (cs e).length ⟨1, true, c⟩ = tOf (more cs e c) := by rw [hT]; exact hrow
 dsimp only at h1
 rw [eT] at h1 hI
 exact ⟨_, rfl, h.puts h1 hI he h2, h2⟩
end
structure Mk (w W : World) (b : Bt) (ns : List Nat) (k pq : Nat) (Aq : Option Addr) (cq : Nat) (gq : Nat → Nat) (bq : Nat → List Bool) (R : Dr) (Ag : Option Addr) (ng cg : Nat) (vs : List Value) : Prop where
 boot : Blk W w.heap.size 144 [.slice b.Af b.frames.length b.cf, .slice b.Ae b.envs.length b.ce, .slice b.As b.sects.length b.cs, .int .i64 b.lease, .slice b.Ah b.shared.length b.ch]
 obj : Blk W k 171 [.slice b.Af b.frames.length b.cf, .slice b.Ae b.envs.length b.ce, .slice b.As b.sects.length b.cs, .int .i64 b.lease, .slice b.Ah b.shared.length b.ch, .pointer (some ⟨pq, 0, none⟩), .pointer (some ⟨R.r, 0, none⟩), .slice Ag ng cg, .int .i64 0]
 quo : Qu.Dq W pq Aq cq gq ns bq
 reg : bL W R
 row : Vec W 184 1 Ag ng cg vs
 mine : ∀ x, R.Mine x → w.heap.size ≤ x
 lk : w.heap.size ≤ k
 lg : ∀ x, Own Ag x → w.heap.size ≤ x
 keep : Keep Nob w W
section
variable {w W W' : World} {b : Bt} {ns : List Nat} {k pq : Nat} {Aq : Option Addr} {cq : Nat} {gq : Nat → Nat} {bq : Nat → List Bool} {R R' : Dr} {Ag : Option Addr} {ng cg : Nat} {vs : List Value} {M : Nat → Prop}
theorem Mk.nob (h : Mk w W b ns k pq Aq cq gq bq R Ag ng cg vs) (kk : Keep Nob W W') : Mk w W' b ns k pq Aq cq gq bq R Ag ng cg vs :=
 ⟨h.boot.nob kk, h.obj.nob kk, h.quo.nob kk, h.reg.nob kk, h.row.nob kk, h.mine, h.lk, h.lg, h.keep.nobt kk⟩
theorem Mk.far (h : Mk w W b ns k pq Aq cq gq bq R Ag ng cg vs) (kk : Keep M W W') (hM : ∀ x, M x → ∃ t cs, Blk W x t cs ∧ t ∈ [179, 3, 378, 255]) (hl : ∀ x, M x → w.heap.size ≤ x) (hR : bL W' R') (hm : ∀ x, R'.Mine x → w.heap.size ≤ x) (he : R'.r = R.r) : Mk w W' b ns k pq Aq cq gq bq R' Ag ng cg vs :=
 ⟨h.boot.keep kk (eC hM h.boot (by decide)), by rw [he]; exact h.obj.keep kk (eC hM h.obj (by decide)), h.quo.keep kk (eC hM h.quo.obj (by decide)) (fa hM h.quo.row (by decide)) (fun i hi => eC hM (h.quo.tab i hi) (by decide)), hR, h.row.keep kk (fa hM h.row (by decide)), hm, h.lk, h.lg, h.keep.trans kk (fun x hx m => by have := hl x m; omega)⟩
theorem Mk.add (h : Mk w W b ns k pq Aq cq gq bq R Ag ng cg vs) {lo n : Int} {Al' : Option Addr} {cl' : Nat} {An' : Option Addr} {cn' : Nat} (ha : Added1 W R lo n Al' cl' An' cn' W') :
  Mk w W' b ns k pq Aq cq gq bq { R with L := R.L ++ [(lo, n)], Al := Al', cl := cl', An := An', cn := cn' } Ag ng cg vs := by
 have hs := h.keep.size
 refine h.far ha.keep (fun x hx => ?_) (fun x hx => ?_) ha.is (fun x hx => ?_) rfl
 ·rcases hx with rfl | hx | hx
  ·exact ⟨_, _, h.reg.obj, by simp⟩
  ·obtain ⟨cur, hc⟩ := h.reg.lo.blk hx
   exact ⟨_, _, hc, by simp⟩
  ·obtain ⟨cur, hc⟩ := h.reg.nn.blk hx
   exact ⟨_, _, hc, by simp⟩
 ·rcases hx with rfl | hx | hx
  ·exact h.mine _ (.inl rfl)
  ·exact h.mine _ (.inr (.inr (.inl hx)))
  ·exact h.mine _ (.inr (.inr (.inr (.inl hx))))
 ·rcases hx with rfl | rfl | hx | hx | hx
  ·exact h.mine _ (.inl rfl)
  ·exact h.mine _ (.inr (.inl rfl))
  ·rcases ha.al x hx with h1 | h1
   ·exact h.mine _ (.inr (.inr (.inl h1)))
   ·omega
  ·rcases ha.an x hx with h1 | h1
   ·exact h.mine _ (.inr (.inr (.inr (.inl h1))))
   ·omega
  ·exact h.mine _ (.inr (.inr (.inr (.inr hx))))
theorem Mk.put (h : Mk w W b ns k pq Aq cq gq bq R Ag ng cg vs) {T' : St} {e : Nat} (he : e < R.S.n) (hR : bL W' { R with S := { R.S with T := T' } }) (kk : Keep (AddM R.S e) W W') : Mk w W' b ns k pq Aq cq gq bq { R with S := { R.S with T := T' } } Ag ng cg vs :=
 h.far kk (fun x hx => by
  obtain ⟨t, cs, hb, ht⟩ := AddM.blk h.reg.sp he hx
  exact ⟨t, cs, hb, by rcases ht with rfl | rfl <;> simp⟩) (fun x hx => h.mine x (.inr (.inr (.inr (.inr (add_mine he x hx)))))) hR (fun x hx => h.mine x hx) rfl
theorem Mk.sect (h : Mk w W b ns k pq Aq cq gq bq R Ag ng cg vs) {W2 : World} {A2 : Option Addr} {c2 : Nat} {v : Value} (hv : Vec W2 184 1 A2 (ng + 1) c2 (vs ++ [v])) (hk : Keep (Own Ag) W W2) (ho : ∀ x, Own A2 x → Own Ag x ∨ W.heap.size ≤ x) :
  Blk W2 k 171 [.slice b.Af b.frames.length b.cf, .slice b.Ae b.envs.length b.ce, .slice b.As b.sects.length b.cs, .int .i64 b.lease, .slice b.Ah b.shared.length b.ch, .pointer (some ⟨pq, 0, none⟩), .pointer (some ⟨R.r, 0, none⟩), .slice Ag ng cg, .int .i64 0] ∧
  Mk w (W2.setCell ⟨k, 7, none⟩ (.slice A2 (ng + 1) c2)) b ns k pq Aq cq gq bq R A2 (ng + 1) c2 (vs ++ [v]) := by
 have hM : ∀ x, Own Ag x → ∃ t cs, Blk W x t cs ∧ t ∈ [184] := fun x hx => by
  obtain ⟨cur, hc⟩ := h.row.blk hx
  exact ⟨_, _, hc, by simp⟩
 have o1 := h.obj.keep hk (eC hM h.obj (by decide))
 have hM2 : ∀ x, x = k → ∃ t cs, Blk W2 x t cs ∧ t ∈ [171] := fun x e => e ▸ ⟨_, _, o1, by simp⟩
 have k2 : Keep (· = k) W2 (W2.setCell ⟨k, 7, none⟩ (.slice A2 (ng + 1) c2)) := (Keep.refl _ _).setCell _ _ (fun _ => rfl)
 have kk : Keep (fun x => x = k ∨ Own Ag x) W (W2.setCell ⟨k, 7, none⟩ (.slice A2 (ng + 1) c2)) := (hk.mono (fun _ _ m => .inr m)).trans k2 (fun _ _ m => .inl m)
 have hMM : ∀ x, (x = k ∨ Own Ag x) → ∃ t cs, Blk W x t cs ∧ t ∈ [171, 184] := fun x hx => by
  rcases hx with rfl | hx
  ·exact ⟨_, _, h.obj, by simp⟩
  ·obtain ⟨cur, hc⟩ := h.row.blk hx
   exact ⟨_, _, hc, by simp⟩
 have hs := h.keep.size
 refine ⟨o1, ⟨h.boot.keep kk (eC hMM h.boot (by decide)), ?_, h.quo.keep kk (eC hMM h.quo.obj (by decide)) (fa hMM h.quo.row (by decide)) (fun i hi => eC hMM (h.quo.tab i hi) (by decide)), h.reg.keep kk (fun x hx => ?_), hv.keep k2 (fa (M := (· = k)) hM2 hv (by decide)), h.mine, h.lk, fun x hx => ?_, h.keep.trans kk (fun x hx m => ?_)⟩⟩
 ·exact o1.setCell 7 (.slice A2 (ng + 1) c2)
 ·rcases hx with rfl | rfl | hx | hx | hx
  ·exact eC hMM h.reg.obj (by decide)
  ·exact eC hMM h.reg.mem (by decide)
  ·exact fa hMM h.reg.lo (by decide) x hx
  ·exact fa hMM h.reg.nn (by decide) x hx
  ·rcases hx with rfl | hx | hx | ⟨i, hi, rfl | hx | rfl⟩
   ·exact eC hMM h.reg.sp.obj (by decide)
   ·exact fa hMM h.reg.sp.nrow (by decide) x hx
   ·exact fa hMM h.reg.sp.cr (by decide) x hx
   ·exact eC hMM (h.reg.sp.nm i hi).obj (by decide)
   ·exact fa hMM (h.reg.sp.nm i hi).row (by decide) x hx
   ·exact eC hMM (h.reg.sp.cp i hi) (by decide)
 ·rcases ho x hx with h1 | h1
  ·exact h.lg x h1
  ·omega
 ·rcases m with rfl | m
  ·have := h.lk; omega
  ·have := h.lg x m; omega
end
end Go.Proofs.YtgcikpgcoemfnaaGreat.Dk
namespace Go.Proofs.YtgcikpgcoemfnaaGreat.Dk
open Go.RowKit
theorem zblk {X : World} {q k : Nat} (e : X.heap.size = q) : Blk (X.alloc (.cells (madeCells #[.int .u8 0] (64 * k)) 5)) q 5 (bytes (br k)) := by
 subst e
 have := Blk.new X 5 (madeCells #[.int .u8 0] (64 * k)).toList
 rw [Array.toArray_toList, toList_madeCells_one] at this
 rw [br, ao]
 exact this
theorem rblk {X : World} {q : Nat} {t : TypeId} {a b c d : Value} (e : X.heap.size = q) : Blk (X.alloc (.cells #[a, b, c, d] t)) q t [a, b, c, d] := by
 subst e
 exact Blk.new X t [a, b, c, d]
theorem Mk.start {w W : World} {b : Bt} {ns : List Nat} {k pq : Nat} {Aq : Option Addr} {cq : Nat} {gq : Nat → Nat} {bq : Nat → List Bool} {rr zb f : Nat} {S : Ds} (hf : f ≤ 256)
  (kk : Keep Nob w W) (boot : Blk W w.heap.size 144 [.slice b.Af b.frames.length b.cf, .slice b.Ae b.envs.length b.ce, .slice b.As b.sects.length b.cs, .int .i64 b.lease, .slice b.Ah b.shared.length b.ch])
  (obj : Blk W k 171 [.slice b.Af b.frames.length b.cf, .slice b.Ae b.envs.length b.ce, .slice b.As b.sects.length b.cs, .int .i64 b.lease, .slice b.Ah b.shared.length b.ch, .pointer (some ⟨pq, 0, none⟩), .pointer none, .slice none 0 0, .int .i64 0])
  (hQ : Qu.Dq W pq Aq cq gq ns bq) (hR : Blk W rr 179 [.slice (some ⟨zb, 0, none⟩) (64 * f) (64 * f), .slice none 0 0, .slice none 0 0, .pointer (some ⟨S.s, 0, none⟩)]) (hZ : Blk W zb 5 (bytes (br f))) (hS : eD W S) (hI : Inv S.T S.n)
  (l1 : w.heap.size ≤ k) (l2 : w.heap.size ≤ rr) (l3 : w.heap.size ≤ zb) (l4 : ∀ x, S.Mine x → w.heap.size ≤ x) :
  Mk w (W.setCell ⟨k, 6, none⟩ (.pointer (some ⟨rr, 0, none⟩))) b ns k pq Aq cq gq bq ⟨rr, zb, br f, none, 0, none, 0, [], S⟩ none 0 0 [] := by
 have k2 : Keep (· = k) W (W.setCell ⟨k, 6, none⟩ (.pointer (some ⟨rr, 0, none⟩))) := (Keep.refl _ _).setCell _ _ (fun _ => rfl)
 have hM : ∀ x, x = k → ∃ t cs, Blk W x t cs ∧ t ∈ [171] := fun x e => e ▸ ⟨_, _, obj, by simp⟩
 have no : ∀ x, ¬ Own none x := fun x ⟨a, ha, _⟩ => by cases ha
 have e1 : (br f).length = 64 * f := fI f
 have hd : bL W ⟨rr, zb, br f, none, 0, none, 0, [], S⟩ := ⟨by dsimp only; rw [e1]; exact hR, hZ, Vec.nil _ _ _, Vec.nil _ _ _, hS, hI, fun x hx => (by cases hx), by dsimp only; omega, by simp, fun x hx => (no x hx).elim⟩
 refine ⟨boot.keep k2 (eC (M := (· = k)) hM boot (by decide)), obj.setCell 6 _, hQ.keep k2 (eC (M := (· = k)) hM hQ.obj (by decide)) (fa (M := (· = k)) hM hQ.row (by decide)) (fun i hi => eC (M := (· = k)) hM (hQ.tab i hi) (by decide)), hd.keep k2 (fun x hx => ?_), Vec.nil _ _ _, fun x hx => ?_, l1, fun x hx => (no x hx).elim, kk.trans k2 (fun x hx m => by have h9 : x = k := m; omega)⟩
 ·rcases hx with rfl | rfl | hx | hx | hx
  ·exact eC (M := (· = k)) hM hR (by decide)
  ·exact eC (M := (· = k)) hM hZ (by decide)
  ·exact (no x hx).elim
  ·exact (no x hx).elim
  ·rcases hx with rfl | hx | hx | ⟨i, hi, rfl | hx | rfl⟩
   ·exact eC (M := (· = k)) hM hS.obj (by decide)
   ·exact fa (M := (· = k)) hM hS.nrow (by decide) x hx
   ·exact fa (M := (· = k)) hM hS.cr (by decide) x hx
   ·exact eC (M := (· = k)) hM (hS.nm i hi).obj (by decide)
   ·exact fa (M := (· = k)) hM (hS.nm i hi).row (by decide) x hx
   ·exact eC (M := (· = k)) hM (hS.cp i hi) (by decide)
 ·rcases hx with rfl | rfl | hx | hx | hx
  ·exact l2
  ·exact l3
  ·exact (no x hx).elim
  ·exact (no x hx).elim
  ·exact l4 x hx
theorem Mk.start2 {w wb ws W : World} {b : Bt} {ns : List Nat} {k pq : Nat} {Aq : Option Addr} {cq : Nat} {gq : Nat → Nat} {bq : Nat → List Bool} {rr zb f : Nat} {S : Ds} (hf : f ≤ 256)
  (kk : Keep Nob w wb) (boot : Blk wb w.heap.size 144 [.slice b.Af b.frames.length b.cf, .slice b.Ae b.envs.length b.ce, .slice b.As b.sects.length b.cs, .int .i64 b.lease, .slice b.Ah b.shared.length b.ch])
  (obj : Blk wb k 171 [.slice b.Af b.frames.length b.cf, .slice b.Ae b.envs.length b.ce, .slice b.As b.sects.length b.cs, .int .i64 b.lease, .slice b.Ah b.shared.length b.ch, .pointer (some ⟨pq, 0, none⟩), .pointer none, .slice none 0 0, .int .i64 0])
  (hQ : Qu.Dq wb pq Aq cq gq ns bq) (k9 : Keep Nob wb W) (hS : eD ws S) (k10 : Keep Nob ws W) (hI : Inv S.T S.n) (hR : Blk W rr 179 [.slice (some ⟨zb, 0, none⟩) (64 * f) (64 * f), .slice none 0 0, .slice none 0 0, .pointer (some ⟨S.s, 0, none⟩)]) (hZ : Blk W zb 5 (bytes (br f)))
  (l1 : w.heap.size ≤ k) (l2 : w.heap.size ≤ rr) (l3 : w.heap.size ≤ zb) (l4 : ∀ x, S.Mine x → w.heap.size ≤ x) :
  Mk w (W.setCell ⟨k, 6, none⟩ (.pointer (some ⟨rr, 0, none⟩))) b ns k pq Aq cq gq bq ⟨rr, zb, br f, none, 0, none, 0, [], S⟩ none 0 0 [] :=
 Mk.start hf (kk.nobt k9) (boot.nob k9) (obj.nob k9) (hQ.nob k9) hR hZ (hS.nob k10) hI l1 l2 l3 l4
theorem inq {w : World} {n m c : Nat} {A : Option Addr} {l : List Int} {x : Int} (hr : ae (w.drewN n) A m (ab l)) (hm : m ≤ 1000) (v : Bool) (hv : decide (x ∈ l) = v) : Calls Tryz.prog 166 #[.slice A m c, .int .i64 x] (w.drewN n) fun e w'' => e = .returned (.bool v) ∧ ∃ z, w'' = w.drewN z :=
 (in_is A m c l x hr hm v hv).mono fun _ _ ⟨he, h2⟩ => ⟨he, n, h2.symm⟩
theorem put_all {w W W' : World} {b : Bt} {ns : List Nat} {k pq : Nat} {Aq : Option Addr} {cq : Nat} {gq : Nat → Nat} {bq : Nat → List Bool} {R : Dr} {Ag : Option Addr} {ng cg : Nat} {vs : List Value} {T' : St} {e g E : Nat} {cs : List Value}
  (h : Mk w W b ns k pq Aq cq gq bq R Ag ng cg vs) (hS : Blk W g 230 cs) (hn : R.S.n = E) (he : e < E) (hR : bL W' { R with S := { R.S with T := T' } }) (kP : Keep (AddM R.S e) W W') :
  Mk w W' b ns k pq Aq cq gq bq { R with S := { R.S with T := T' } } Ag ng cg vs ∧ Blk W' g 230 cs := by
 subst hn
 refine ⟨h.put he hR kP, hS.keep kP (fun m => ?_)⟩
 obtain ⟨t, c, hc, ht⟩ := AddM.blk h.reg.sp he m
 rcases ht with rfl | rfl
 ·exact hS.ne_ hc (by decide) rfl
 ·exact hS.ne_ hc (by decide) rfl
theorem infopS : (Tryz.prog.info? 184).map (fun i => (i.zero, i.size, i.bytes)) = some (some (.pointer none), 1, 8) := by kernel_rfl
section
variable {w : World}
theorem nkern_is {b : Bt} {ns : List Nat} (h : IsBt w b) (ok : BtOk b ns) (h1e : 1 ≤ b.envs.length) (h1s : 1 ≤ b.shared.length) :
  Calls Tryz.prog 76 #[b.val] w fun e w' => ∃ k pq Aq cq gq bq R Ag ng cg vs, e = .returned (.pointer (some ⟨k, 0, none⟩)) ∧ Mk w w' b ns k pq Aq cq gq bq R Ag ng cg vs ∧ R.xs = br (Qu.first ns ns.length) ∧ R.L = b.shared.map (au ns) ∧ R.S.n = b.envs.length ∧ R.S.T = tOf (bw b.envs b.shared b.shared.length) := by
 have hnl := ok.len
 have h4 := ok.f4
 have h1 := ok.f1
 have k1 := (Keep.refl Nob w).alloc (.cells #[.slice b.Af b.frames.length b.cf, .slice b.Ae b.envs.length b.ce, .slice b.As b.sects.length b.cs, .int .i64 b.lease, .slice b.Ah b.shared.length b.ch] 144)
 have b1 : Blk (w.alloc (.cells #[.slice b.Af b.frames.length b.cf, .slice b.Ae b.envs.length b.ce, .slice b.As b.sects.length b.cs, .int .i64 b.lease, .slice b.Ah b.shared.length b.ch] 144)) w.heap.size 144 [.slice b.Af b.frames.length b.cf, .slice b.Ae b.envs.length b.ce, .slice b.As b.sects.length b.cs, .int .i64 b.lease, .slice b.Ah b.shared.length b.ch] := Blk.new w 144 _
 have sf : ∀ W, Keep Nob (w.alloc (.cells #[.slice b.Af b.frames.length b.cf, .slice b.Ae b.envs.length b.ce, .slice b.As b.sects.length b.cs, .int .i64 b.lease, .slice b.Ah b.shared.length b.ch] 144)) W → W.cell? ⟨w.heap.size, 0, none⟩ = some (.slice b.Af b.frames.length b.cf) ∧ W.cell? ⟨w.heap.size, 1, none⟩ = some (.slice b.Ae b.envs.length b.ce) ∧ W.cell? ⟨w.heap.size, 2, none⟩ = some (.slice b.As b.sects.length b.cs) ∧ W.cell? ⟨w.heap.size, 3, none⟩ = some (.int .i64 b.lease) ∧ W.cell? ⟨w.heap.size, 4, none⟩ = some (.slice b.Ah b.shared.length b.ch) := fun W kk =>
  ⟨(b1.nob kk).cell 0, (b1.nob kk).cell 1, (b1.nob kk).cell 2, (b1.nob kk).cell 3, (b1.nob kk).cell 4⟩
 have hqn : ∀ W, Keep Nob (w.alloc (.cells #[.slice b.Af b.frames.length b.cf, .slice b.Ae b.envs.length b.ce, .slice b.As b.sects.length b.cs, .int .i64 b.lease, .slice b.Ah b.shared.length b.ch] 144)) W → Calls Tryz.prog 161 #[.slice b.Af b.frames.length b.cf] W (Qu.NewD ns W) := fun W kk => Qu.dnew_is ((h.nob k1).nob kk).fr ns ok.nse
 have HH := aa (And.intro h ok)
 have KB := aa (And.intro k1 b1)
 have HN := aa hnl
 clear h ok hnl k1 b1
 unfold Bt.val
 go_enter Tryz.func76, Tryz.ntmps76
 go_wp2_with fail
 generalize hw1 : (w.alloc (.cells #[.slice b.Af b.frames.length b.cf, .slice b.Ae b.envs.length b.ce, .slice b.As b.sects.length b.cs, .int .i64 b.lease, .slice b.Ah b.shared.length b.ch] 144)) = w1 at *
 have hs1 : w1.heap.size = w.heap.size + 1 := by rw [← hw1]; simp
 clear hw1
 have kd := Keep.nobdrew w1
 have s0 := sf _ kd
 go_region_held3 (fun w' => w'.cell? ⟨w.heap.size, 0, none⟩ = some (.slice b.Af b.frames.length b.cf) ∧ w'.cell? ⟨w.heap.size, 1, none⟩ = some (.slice b.Ae b.envs.length b.ce) ∧ w'.cell? ⟨w.heap.size, 2, none⟩ = some (.slice b.As b.sects.length b.cs) ∧ w'.cell? ⟨w.heap.size, 3, none⟩ = some (.int .i64 b.lease) ∧ w'.cell? ⟨w.heap.size, 4, none⟩ = some (.slice b.Ah b.shared.length b.ch))
  (first | exact s0 | exact sf _ kd1 | exact sf _ (kd1.alloc _))
  (first | (go_at_call 161; refine (hqn _ kd).mono ?_; rintro e wa ⟨pq, Aq, cq, gq, rfl, hQ, hgq, kQ⟩; have kd1 := kd.trans kQ (fun _ _ f => f)))
 have hB := (KB.out.2.nob kd1).alloc (.cells #[.slice b.Af b.frames.length b.cf, .slice b.Ae b.envs.length b.ce, .slice b.As b.sects.length b.cs, .int .i64 b.lease, .slice b.Ah b.shared.length b.ch, .pointer (some ⟨pq, 0, none⟩), .pointer none, .slice none 0 0, .int .i64 0] 171)
 have hK := Blk.new wa 171 [.slice b.Af b.frames.length b.cf, .slice b.Ae b.envs.length b.ce, .slice b.As b.sects.length b.cs, .int .i64 b.lease, .slice b.Ah b.shared.length b.ch, .pointer (some ⟨pq, 0, none⟩), .pointer none, .slice none 0 0, .int .i64 0]
 have ka := (Keep.refl Nob wa).alloc (.cells #[.slice b.Af b.frames.length b.cf, .slice b.Ae b.envs.length b.ce, .slice b.As b.sects.length b.cs, .int .i64 b.lease, .slice b.Ah b.shared.length b.ch, .pointer (some ⟨pq, 0, none⟩), .pointer none, .slice none 0 0, .int .i64 0] 171)
 have hQb := hQ.nob ka
 have kwb := (KB.out.1.nobt kd1).nobt ka
 have lkk : w.heap.size ≤ wa.heap.size := (KB.out.1.nobt kd1).size
 generalize hwb : (wa.alloc (.cells #[.slice b.Af b.frames.length b.cf, .slice b.Ae b.envs.length b.ce, .slice b.As b.sects.length b.cs, .int .i64 b.lease, .slice b.Ah b.shared.length b.ch, .pointer (some ⟨pq, 0, none⟩), .pointer none, .slice none 0 0, .int .i64 0] 171)) = wb at *
 have lkb : wa.heap.size < wb.heap.size := by rw [← hwb]; simp
 generalize wa.heap.size = kk at *
 have sf2 : ∀ W, Keep Nob wb W → W.cell? ⟨w.heap.size, 0, none⟩ = some (.slice b.Af b.frames.length b.cf) ∧ W.cell? ⟨w.heap.size, 1, none⟩ = some (.slice b.Ae b.envs.length b.ce) ∧ W.cell? ⟨kk, 5, none⟩ = some (.pointer (some ⟨pq, 0, none⟩)) ∧ W.cell? ⟨kk, 6, none⟩ = some (.pointer none) ∧ W.frozen? ⟨kk, 6, none⟩ = false := fun W k9 =>
  ⟨(hB.nob k9).cell 0, (hB.nob k9).cell 1, (hK.nob k9).cell 5, (hK.nob k9).cell 6, (hK.nob k9).frozen 6⟩
 have e40 := HH.out.2.e40
 have h64 : ∀ x ∈ ns, x ≤ 64 := by rw [← HH.out.2.nse]; exact sizes64
 have hfs := Qu.bV h64 b.frames.length (by rw [HN.out]; exact Nat.le_refl _)
 obtain ⟨f, hf⟩ : ∃ f, Qu.first ns b.frames.length = f := ⟨_, rfl⟩
 have hfi : ∀ W, Keep Nob wb W → Calls Tryz.prog 162 #[.pointer (some ⟨pq, 0, none⟩), .int .i64 b.frames.length] W fun e w' => e = .returned (.int .i64 f) ∧ W = w' := fun W k9 => Qu.gv (hQb.nob k9) _ (by rw [HN.out]; exact Nat.le_refl _) _ (by rw [hf])
 rw [hf] at hfs
 have hf2 : f ≤ 256 := by omega
 have hsp : ∀ W, Calls Tryz.prog 163 #[.int .i64 b.envs.length] W (MadeS b.envs.length W) := fun W => iQ b.envs.length e40 W
 have hmk := fun wx => run_make_row' (P := Tryz.prog) 28 5 (.int .u8 0) 1 Tryz.underlying28 Tryz.info5 rfl .i64 .i64 (64 * f) (by omega) (by omega) wx
 have e1 : (((64 * f : Nat)) : Int) = 64 * (f : Int) := by omega
 have hw64 : IntKind.i64.wrap (64 * (f : Int)) = 64 * (f : Int) := by simp [IntKind.wrap, IntKind.bits, IntKind.signed]; omega
 rw [e1, ← hw64] at hmk
 clear hw64
 have kof : ∀ {W wc : World} {P : Nat → Prop}, Keep P W wc → Keep Nob wb W → Keep Nob wb W := fun _ k => k
 have k0 := sf2 _ (Keep.refl Nob wb)
 have k3 := sf2 _ ((Keep.refl Nob wb).alloc (.cells (madeCells #[.int .u8 0] (64 * f)) 5))
 have HF := aa hf
 have HB := aa (And.intro hB (And.intro hK (And.intro hQb (And.intro kwb h64))))
 have HS2 := aa sf2
 clear hB hK hQb kwb h64 ka hQ hwb kd1 kQ hgq s0 kd hqn sf KB hs1 hf e1 hfs sf2
 go_upto_if 16 with fail
 go_cut [] from 16 to 34 (fun wx => ∃ R, Mk w wx b ns kk pq Aq cq gq (fun i => List.replicate (ns.getD i 0) false) R none 0 0 [] ∧ R.xs = br f ∧ R.L = [] ∧ R.S.n = b.envs.length ∧ R.S.T = dU)
 case first =>
  go_wp2_with fail
  go_region_law (first
   | (go_simp; go_at_call 162; refine (hfi _ (by first | (repeat (first | exact Keep.refl _ _ | apply Keep.alloc | apply Keep.drew)) | exact kx)).mono ?_; rintro e wz ⟨rfl, rfl⟩)
   | (go_simp; go_at_call 163; refine (hsp _).mono ?_; rintro e ws ⟨S, rfl, hS, hSn, hST, hSm, kS⟩; have kW := kof kS (by (repeat (first | exact Keep.refl _ _ | apply Keep.alloc | apply Keep.drew))); have kx := kW.nobt kS; have q0 := HS2.out _ kx; have q1 := HS2.out _ (kx.alloc (.cells (madeCells #[.int .u8 0] (64 * f)) 5)); have q2 := HS2.out _ (kx.alloc (.cells #[.slice (some ⟨wb.heap.size, 0, none⟩) (64 * f) (64 * f), .slice none 0 0, .slice none 0 0, .pointer (some ⟨S.s, 0, none⟩)] 179)); have q3 := HS2.out _ ((kx.alloc (.cells (madeCells #[.int .u8 0] (64 * f)) 5)).alloc (.cells #[.slice (some ⟨ws.heap.size, 0, none⟩) (64 * f) (64 * f), .slice none 0 0, .slice none 0 0, .pointer (some ⟨S.s, 0, none⟩)] 179))))
  all_goals
   have hI : Inv S.T S.n := by rw [hST, hSn]; exact init_inv e40
   have l5 := kW.size
   have l6 := kx.size
   have l7 := HB.out.2.2.2.1.size
   clear q0 q1 q2 q3 k0 k3 hmk hsp hfi
   go_wp2_with fail
   go_meet
   exact ⟨_, Mk.start2 (ws := ws) hf2 HB.out.2.2.2.1 HB.out.1 HB.out.2.1 HB.out.2.2.1 (by (repeat (first | exact kx | exact Keep.refl _ _ | apply Keep.alloc | apply Keep.drew))) hS (by (repeat (first | exact Keep.refl _ _ | apply Keep.alloc | apply Keep.drew))) hI (by refine rblk ?_; simp; done) (by (repeat (first | (with_reducible refine zblk ?_; simp; done) | with_reducible refine Blk.alloc ?_ _ | with_reducible refine Blk.nob ?_ kS | with_reducible refine Blk.nob ?_ (Keep.nobdrew _)))) lkk (by omega) (by omega) (fun x hx => by have := hSm x hx; omega), rfl, rfl, hSn, hST⟩
 case rest =>
 obtain ⟨R, hM, hRx, hRL, hRn, hRT⟩ := hcut
 have HR := aa (And.intro hRx (And.intro hRL (And.intro hRn hRT)))
 have h64 := HB.out.2.2.2.2
 have H64 := aa h64
 have s8 := HH.out.2.s8
 have h16 := HH.out.2.h16
 clear hmk hsp hfi k0 k3 HS2 kof HB hRx hRL hRn hRT h64
 go_wp2_with fail
 go_loopw [4] (fun s4 wx => ∃ (j : Nat) (Ag : Option Addr) (cg : Nat) (vs : List Value), j ≤ b.sects.length ∧ s4 = .int .i64 j ∧ Mk w wx b ns kk pq Aq cq gq (fun i => List.replicate (ns.getD i 0) false) R Ag j cg vs) (fun s4 _ => b.sects.length - (intOf s4).toNat)
 case atStart => exact ⟨0, none, 0, [], Nat.zero_le _, rfl, hM⟩
 case round =>
  obtain ⟨j, Ag, cg, vs, hj, rfl, hP⟩ := hrel
  clear hM
  have e2 := hP.boot.cell 2
  simp only [List.getElem?_cons_zero, List.getElem?_cons_succ] at e2
  by_cases hlt : j < b.sects.length
  ·have hlt2 : (j : Int) < b.sects.length := by omega
   have sf : ∀ W, Keep Nob wr W → W.cell? ⟨w.heap.size, 3, none⟩ = some (.int .i64 b.lease) ∧ W.cell? ⟨kk, 7, none⟩ = some (.slice Ag j cg) := fun W k9 => ⟨(hP.nob k9).boot.cell 3, (hP.nob k9).obj.cell 7⟩
   have q0 := sf _ (Keep.refl Nob wr)
   have SF := aa sf
   have HP := aa hP
   clear sf hP
   go_wp2_with fail
   clear e2
   go_region_law (first
    | (go_simp; go_at_call 164; refine (sect_is b.lease _).mono ?_; rintro e ws ⟨p, rfl, hp, kS⟩; have ka := (Keep.refl Nob wr).drew.nobt kS; have q1 := SF.out _ ka; have kx := ka.alloc (.cells #[.pointer (some ⟨p, 0, none⟩)] 184); have q2 := SF.out _ kx; have hv1 := (HP.out.nob kx).row; have hr1 := aj (n := 1) (Blk.new ws 184 [.pointer (some ⟨p, 0, none⟩)]) rfl)
    | (refine Qu.fo (by rfl) _ _ 169 (by rfl) 184 1 8 (.pointer none) Tryz.underlying169 infopS (by rfl) (by decide) Ag j cg _ (by rfl) hv1 (some ⟨ws.heap.size, 0, none⟩) 1 1 [.pointer (some ⟨p, 0, none⟩)] (by rfl) 1 (by rfl) hr1 (by simp [Value.oneCell']) (by unfold maxLen; omega) (by omega) ?_; intro A2 c2 w2 hv2 hk2 ho2; obtain ⟨o2, M5⟩ := (HP.out.nob kx).sect hv2 hk2 (fun x hx => (ho2 x hx).imp id (fun e => by omega)); have z7 := o2.cell 7; have f7 := o2.frozen 7; simp only [List.getElem?_cons_zero, List.getElem?_cons_succ] at z7))
   all_goals
    have M6 := aa M5
    clear M5 hv2 hk2 ho2 o2 z7 f7 hv1 hr1 q0 q1 q2 ka kx kS hp SF HP
    go_wp2_with fail
    go_roundw
    case rel => exact ⟨j + 1, A2, c2, _, by omega, by go_num, M6.out⟩
    case measure => simp [intOf]; omega
  ·have hlt2 : ¬ ((j : Int) < b.sects.length) := by omega
   obtain ⟨gH, oH, hAH, -⟩ := (HH.out.1.sh).lit (by omega)
   have hcs : ∀ wx, Keep Nob w wx → ∀ (j : Nat) (x : Sh), b.shared[j]? = some x → wx.cell? ⟨gH, oH + j * 5, none⟩ = some (.int .i64 x.ses) ∧ wx.cell? ⟨gH, oH + j * 5 + 1, none⟩ = some (.int .i64 x.frame) ∧ wx.cell? ⟨gH, oH + j * 5 + 2, none⟩ = some (.int .i64 x.lo) ∧ wx.cell? ⟨gH, oH + j * 5 + 3, none⟩ = some (.int .i64 x.n) ∧ wx.cell? ⟨gH, oH + j * 5 + 4, none⟩ = some (.slice x.A x.tos.length x.c) := fun wx kk j x hx => by
    obtain ⟨g2, o2, h2, h3⟩ := (HH.out.1.nob kk).sh.lit (by have := aP hx; omega)
    rw [hAH] at h2
    cases h2
    have g0 := h3 _ _ (az hx (j := 0) (by decide))
    have g1 := h3 _ _ (az hx (j := 1) (by decide))
    have g2 := h3 _ _ (az hx (j := 2) (by decide))
    have g3 := h3 _ _ (az hx (j := 3) (by decide))
    have g4 := h3 _ _ (az hx (j := 4) (by decide))
    rw [← Nat.add_assoc] at g1 g2 g3 g4
    rw [Nat.add_zero] at g0
    exact ⟨g0, g1, g2, g3, g4⟩
   obtain ⟨gE, oE, hAE, -⟩ := (HH.out.1.en).lit (by omega)
   have hce : ∀ wx, Keep Nob w wx → ∀ (e : Nat), e < b.envs.length → wx.cell? ⟨gE, oE + e, none⟩ = some (.int .i64 (b.envs.getD e 0)) := fun wx kk e he => by
    obtain ⟨g2, o2, h2, h3⟩ := (HH.out.1.nob kk).en.lit (by omega)
    rw [hAE] at h2
    cases h2
    exact h3 e _ (by rw [bg, List.getElem?_eq_getElem he, List.getD_eq_getElem?_getD, List.getElem?_eq_getElem he]; rfl)
   have HCS := aa (And.intro hcs (And.intro hce (And.intro hAH hAE)))
   clear hcs hce
   have hj0 : Mk w wr b ns kk pq Aq cq gq (fun i => List.replicate (ns.getD i 0) false) R Ag j cg vs ∧ R.xs = br f ∧ R.L = (b.shared.take 0).map (au ns) ∧ R.S.n = b.envs.length ∧ R.S.T = tOf (bw b.envs b.shared 0) := ⟨hP, HR.out.1, HR.out.2.1, HR.out.2.2.1, HR.out.2.2.2.trans jC⟩
   have J0 := aa hj0
   clear hj0 hP HR hAH hAE
   go_wp2_with fail
   clear e2
   go_loopw [5] (fun s5 wx => ∃ (k : Nat) (R : Dr), k ≤ b.shared.length ∧ s5 = .int .i64 k ∧ Mk w wx b ns kk pq Aq cq gq (fun i => List.replicate (ns.getD i 0) false) R Ag j cg vs ∧ R.xs = br f ∧ R.L = (b.shared.take k).map (au ns) ∧ R.S.n = b.envs.length ∧ R.S.T = tOf (bw b.envs b.shared k)) (fun s5 _ => b.shared.length - (intOf s5).toNat)
   case atStart => exact ⟨0, R, Nat.zero_le _, rfl, J0.out⟩
   case round =>
    clear J0
    obtain ⟨k, R, hk, rfl, hP, hx, hL, hn, hT⟩ := hrel
    have e4 := hP.boot.cell 4
    simp only [List.getElem?_cons_zero, List.getElem?_cons_succ] at e4
    by_cases hlt3 : k < b.shared.length
    ·rw [HCS.out.2.2.1] at e4
     have hlt4 : (k : Int) < b.shared.length := by omega
     obtain ⟨x, hxs⟩ : ∃ x, b.shared[k]? = some x := ⟨_, List.getElem?_eq_getElem hlt3⟩
     obtain ⟨g0, g1, g2, g3, g4⟩ := HCS.out.1 wr hP.keep k x hxs
     have hxm := List.mem_of_getElem? hxs
     have hok := HH.out.2.sh x hxm
     have hsp := span_in hok
     obtain ⟨a1, a2, a3, a4, a5, a6, a7, a8, a9⟩ := hok
     obtain ⟨i, hi⟩ := Int.eq_ofNat_of_zero_le a1
     rw [hi, Int.toNat_natCast] at a4 a7
     have hin : i < ns.length := by omega
     have hf64 : ns.getD i 0 ≤ 64 := by
      rw [List.getD_eq_getElem?_getD, List.getElem?_eq_getElem hin]
      exact H64.out _ (List.getElem_mem hin)
     have hff := Qu.bV H64.out i (by omega)
     have hN4 : ns.length ≤ 4 := by rw [HN.out]; exact h4
     obtain ⟨ah, hah⟩ : ∃ ah, Qu.first ns i = ah := ⟨_, rfl⟩
     rw [hah] at hff
     obtain ⟨lo, hlo⟩ : ∃ lo, (au ns x).1 = lo := ⟨_, rfl⟩
     have hlo2 : ((ah : Int) + x.frame) * 64 + x.lo = lo := by rw [← hlo]; unfold au; rw [hi, Int.toNat_natCast, hah]
     have hxl : R.xs.length = 64 * Qu.first ns ns.length := by rw [hx, fI, ← HF.out, HN.out]
     have hLl : R.L.length = k := by rw [hL, List.length_map, List.length_take]; omega
     have hnn : (au ns x).2 = x.n := rfl
     rw [hlo, hnn] at hsp
     have hlx : lo + x.n ≤ R.xs.length := by rw [hxl]; exact_mod_cast hsp.2
     have kA := (Keep.refl Nob wr).alloc (.cells #[.int .i64 i, .int .i64 x.frame, .int .i64 x.lo, .int .i64 x.n, .slice x.A x.tos.length x.c] 230)
     have bS := Blk.new wr 230 [.int .i64 i, .int .i64 x.frame, .int .i64 x.lo, .int .i64 x.n, .slice x.A x.tos.length x.c]
     have hPa := hP.nob kA
     rw [hi] at g0
     have kd := Keep.nobdrew (wr.alloc (.cells #[.int .i64 i, .int .i64 x.frame, .int .i64 x.lo, .int .i64 x.n, .slice x.A x.tos.length x.c] 230))
     have hFst := Qu.gv (hPa.nob kd).quo i (by omega) ah (by rw [hah])
     have hAdd := radd_is (hPa.nob kd).reg lo x.n ⟨hsp.1, a6, hlx⟩ (by rw [hLl]; omega)
     rw [hLl] at hAdd
     have s0 : (wr.alloc (.cells #[.int .i64 i, .int .i64 x.frame, .int .i64 x.lo, .int .i64 x.n, .slice x.A x.tos.length x.c] 230)).drew.cell? ⟨kk, 5, none⟩ = some (.pointer (some ⟨pq, 0, none⟩)) ∧ (wr.alloc (.cells #[.int .i64 i, .int .i64 x.frame, .int .i64 x.lo, .int .i64 x.n, .slice x.A x.tos.length x.c] 230)).drew.cell? ⟨kk, 6, none⟩ = some (.pointer (some ⟨R.r, 0, none⟩)) := ⟨(hPa.nob kd).obj.cell 5, (hPa.nob kd).obj.cell 6⟩
     have s1 : (wr.alloc (.cells #[.int .i64 i, .int .i64 x.frame, .int .i64 x.lo, .int .i64 x.n, .slice x.A x.tos.length x.c] 230)).drew.cell? ⟨wr.heap.size, 0, none⟩ = some (.int .i64 i) ∧ (wr.alloc (.cells #[.int .i64 i, .int .i64 x.frame, .int .i64 x.lo, .int .i64 x.n, .slice x.A x.tos.length x.c] 230)).drew.cell? ⟨wr.heap.size, 1, none⟩ = some (.int .i64 x.frame) ∧ (wr.alloc (.cells #[.int .i64 i, .int .i64 x.frame, .int .i64 x.lo, .int .i64 x.n, .slice x.A x.tos.length x.c] 230)).drew.cell? ⟨wr.heap.size, 2, none⟩ = some (.int .i64 x.lo) ∧ (wr.alloc (.cells #[.int .i64 i, .int .i64 x.frame, .int .i64 x.lo, .int .i64 x.n, .slice x.A x.tos.length x.c] 230)).drew.cell? ⟨wr.heap.size, 3, none⟩ = some (.int .i64 x.n) := ⟨(bS.nob kd).cell 0, (bS.nob kd).cell 1, (bS.nob kd).cell 2, (bS.nob kd).cell 3⟩
     have hwr : IntKind.i64.wrap (IntKind.i64.wrap (64 * IntKind.i64.wrap ((ah : Int) + x.frame)) + x.lo) = lo := by
      have w1 : IntKind.i64.wrap ((ah : Int) + x.frame) = ah + x.frame := by simp [IntKind.wrap, IntKind.bits, IntKind.signed]; omega
      have w2 : IntKind.i64.wrap (64 * ((ah : Int) + x.frame)) = (ah + x.frame) * 64 := by simp [IntKind.wrap, IntKind.bits, IntKind.signed]; omega
      have w3 : IntKind.i64.wrap (((ah : Int) + x.frame) * 64 + x.lo) = (ah + x.frame) * 64 + x.lo := by simp [IntKind.wrap, IntKind.bits, IntKind.signed]; omega
      rw [w1, w2, w3, hlo2]
     have HW := aa hwr
     have SS := aa (And.intro s0 s1)
     have HX := aa (And.intro (hPa.nob kd) (And.intro (bS.nob kd) (And.intro hxs (And.intro hxm (And.intro hx (And.intro hL (And.intro hn hT)))))))
     have hb9 := a9
     have hn9 : x.n ≤ 65536 := by omega
     have hlk : k < 16 := by omega
     have HO := aa (And.intro hlo hnn)
     clear hwr hPa bS kA hxs hxm hP hx hL hn hT hxl hLl hlx hsp hlo hlo2 hah hff hf64 hin a1 a2 a4 a7 a8 hi s0 s1 hnn
     go_wp2_with fail
     generalize hW1 : (wr.alloc (.cells #[.int .i64 i, .int .i64 x.frame, .int .i64 x.lo, .int .i64 x.n, .slice x.A x.tos.length x.c] 230)) = W1 at *
     have s0 := SS.out
     go_region_held3 (fun w' => (w'.cell? ⟨kk, 5, none⟩ = some (.pointer (some ⟨pq, 0, none⟩)) ∧ w'.cell? ⟨kk, 6, none⟩ = some (.pointer (some ⟨R.r, 0, none⟩))) ∧ w'.cell? ⟨wr.heap.size, 0, none⟩ = some (.int .i64 i) ∧ w'.cell? ⟨wr.heap.size, 1, none⟩ = some (.int .i64 x.frame) ∧ w'.cell? ⟨wr.heap.size, 2, none⟩ = some (.int .i64 x.lo) ∧ w'.cell? ⟨wr.heap.size, 3, none⟩ = some (.int .i64 x.n))
      (first | exact s0 | exact SP.out)
      (first
       | (go_at_call 162; refine hFst.mono ?_; rintro e wz ⟨rfl, rfl⟩)
       | (go_at_call 165; rw [HW.out]; refine hAdd.mono ?_; rintro e w2 ⟨Al', cl', An', cn', rfl, hAd⟩; have hP2 := HX.out.1.add hAd; have bS2 := HX.out.2.1.keep hAd.keep (fun m => by
         rcases m with m | m | m
         ·exact HX.out.2.1.ne_ HX.out.1.reg.obj (by decide) m
         ·obtain ⟨cur, hc⟩ := HX.out.1.reg.lo.blk m
          exact HX.out.2.1.ne_ hc (by decide) rfl
         ·obtain ⟨cur, hc⟩ := HX.out.1.reg.nn.blk m
          exact HX.out.2.1.ne_ hc (by decide) rfl); have SP := aa (show (w2.cell? ⟨kk, 5, none⟩ = some (.pointer (some ⟨pq, 0, none⟩)) ∧ w2.cell? ⟨kk, 6, none⟩ = some (.pointer (some ⟨R.r, 0, none⟩))) ∧ w2.cell? ⟨wr.heap.size, 0, none⟩ = some (.int .i64 i) ∧ w2.cell? ⟨wr.heap.size, 1, none⟩ = some (.int .i64 x.frame) ∧ w2.cell? ⟨wr.heap.size, 2, none⟩ = some (.int .i64 x.lo) ∧ w2.cell? ⟨wr.heap.size, 3, none⟩ = some (.int .i64 x.n) from ⟨⟨hP2.obj.cell 5, hP2.obj.cell 6⟩, bS2.cell 0, bS2.cell 1, bS2.cell 2, bS2.cell 3⟩)))
     have eL : R.L ++ [(lo, x.n)] = (b.shared.take (k + 1)).map (au ns) := by
      rw [List.take_add_one, HX.out.2.2.1, List.map_append, HX.out.2.2.2.2.2.1]
      have : au ns x = (lo, x.n) := Prod.ext HO.out.1 HO.out.2
      simp [this]
     have fin0 : ∃ R2 : Dr, Mk w w2 b ns kk pq Aq cq gq (fun i => List.replicate (ns.getD i 0) false) R2 Ag j cg vs ∧ R2.xs = br f ∧ R2.L = (b.shared.take (k + 1)).map (au ns) ∧ R2.S.n = b.envs.length ∧ R2.S.T = tOf (dH (bw b.envs b.shared k) b.envs x.tos ⟨k, 3, 0, x.n, (0, 0)⟩ 0) :=
      ⟨_, hP2, HX.out.2.2.2.2.1, eL, HX.out.2.2.2.2.2.2.1, by rw [gave_zero]; exact HX.out.2.2.2.2.2.2.2⟩
     obtain ⟨R2, hP3⟩ := fin0
     have J1 := aa (And.intro hP3 bS2)
     have HX2 := aa (And.intro HX.out.2.2.1 HX.out.2.2.2.1)
     clear hP3 bS2 hP2 hAd eL SP s0 hFst hAdd HX SS HW HO kd hW1
     generalize wr.heap.size = g6 at *
     go_wp2_with fail
     go_loopw [9] (fun s9 wx => ∃ (e : Nat) (R : Dr), e ≤ b.envs.length ∧ s9 = .int .i64 e ∧ (Mk w wx b ns kk pq Aq cq gq (fun i => List.replicate (ns.getD i 0) false) R Ag j cg vs ∧ R.xs = br f ∧ R.L = (b.shared.take (k + 1)).map (au ns) ∧ R.S.n = b.envs.length ∧ R.S.T = tOf (dH (bw b.envs b.shared k) b.envs x.tos ⟨k, 3, 0, x.n, (0, 0)⟩ e)) ∧ Blk wx g6 230 [.int .i64 i, .int .i64 x.frame, .int .i64 x.lo, .int .i64 x.n, .slice x.A x.tos.length x.c]) (fun s9 _ => b.envs.length - (intOf s9).toNat)
     case atStart => exact ⟨0, R2, Nat.zero_le _, rfl, J1.out⟩
     case round =>
      clear J1
      obtain ⟨e, R3, he, rfl, ⟨hP4, hx4, hL4, hn4, hT4⟩, hB4⟩ := hrel
      have e1 := hP4.boot.cell 1
      simp only [List.getElem?_cons_zero, List.getElem?_cons_succ] at e1
      by_cases hlt5 : e < b.envs.length
      ·rw [HCS.out.2.2.2] at e1
       have hlt6 : (e : Int) < b.envs.length := by omega
       obtain ⟨ss, hss⟩ : ∃ ss, b.envs.getD e 0 = ss := ⟨_, rfl⟩
       have hc9 := HCS.out.2.1 wr hP4.keep e hlt5
       rw [hss] at hc9
       have hrd := fun n => ((HH.out.1.nob hP4.keep).tos x HX2.out.2).nob ((Keep.refl Nob wr).drewN n)
       have c4 : wr.cell? ⟨g6, 4, none⟩ = some (.slice x.A x.tos.length x.c) := hB4.cell 4
       by_cases hm : ss ∈ x.tos
       ·have HIN := aa (fun n => inq (c := x.c) (hrd n) hb9 true (decide_eq_true hm))
        have hm9 := hm
        rw [← hss] at hm9
        have kq := fun n => ((Keep.refl Nob wr).drewN n).drew
        have hl : (dH (bw b.envs b.shared k) b.envs x.tos ⟨k, 3, 0, x.n, (0, 0)⟩ e e).length < 32 := by
         have h1 : dH (bw b.envs b.shared k) b.envs x.tos ⟨k, 3, 0, x.n, (0, 0)⟩ e e = bw b.envs b.shared k e := by unfold dH; rw [if_neg (by omega)]
         rw [h1]
         have := iK b.envs b.shared k e
         omega
        have hput := fun n => put_row (hP4.nob (kq n)).reg hT4 e (by rw [hn4]; exact hlt5) hl ⟨k, 3, 0, x.n, (0, 0)⟩ rfl rfl ⟨a6, hn9⟩ rfl
        simp only [dG] at hput
        rw [gave_yes hm9] at hput
        have t0 : ∀ n, (wr.drewN n).drew.cell? ⟨kk, 6, none⟩ = some (.pointer (some ⟨R3.r, 0, none⟩)) ∧ (wr.drewN n).drew.cell? ⟨R3.r, 3, none⟩ = some (.pointer (some ⟨R3.S.s, 0, none⟩)) ∧ (wr.drewN n).drew.cell? ⟨g6, 3, none⟩ = some (.int .i64 x.n) := fun n => ⟨(hP4.nob (kq n)).obj.cell 6, (hP4.nob (kq n)).reg.obj.cell 3, (hB4.nob (kq n)).cell 3⟩
        have HP4 := aa (fun n => And.intro (hP4.nob (kq n)) (And.intro (hB4.nob (kq n)) (And.intro hx4 (And.intro hL4 hn4))))
        have T0 := aa t0
        have HPUT := aa hput
        clear hP4 hB4 hx4 hL4 hT4 hrd hl hm hm9 hn4 hss t0 hput kq
        go_wp2_with fail
        go_quiet (first | (go_at_call 166; (with_reducible_and_instances exact HIN.out _)))
        clear HIN c4 e1 hc9
        go_wp2_with fail
        have t0 := T0.out
        go_region_held3 (fun w' => w'.cell? ⟨kk, 6, none⟩ = some (.pointer (some ⟨R3.r, 0, none⟩)) ∧ w'.cell? ⟨R3.r, 3, none⟩ = some (.pointer (some ⟨R3.S.s, 0, none⟩)) ∧ w'.cell? ⟨g6, 3, none⟩ = some (.int .i64 x.n))
         (first | exact t0 _ | exact SP.out)
         (first | (go_at_call 167; refine (HPUT.out _).mono ?_; rintro e9 w3 ⟨v9, rfl, hR5, kP⟩; obtain ⟨hP5, bS5⟩ := put_all (HP4.out _).1 (HP4.out _).2.1 (HP4.out 0).2.2.2.2 hlt5 hR5 kP; have SP := aa (show w3.cell? ⟨kk, 6, none⟩ = some (.pointer (some ⟨R3.r, 0, none⟩)) ∧ w3.cell? ⟨R3.r, 3, none⟩ = some (.pointer (some ⟨R3.S.s, 0, none⟩)) ∧ w3.cell? ⟨g6, 3, none⟩ = some (.int .i64 x.n) from ⟨hP5.obj.cell 6, hP5.reg.obj.cell 3, bS5.cell 3⟩)))
        have J2 := aa (And.intro (And.intro hP5 (And.intro (HP4.out 0).2.2.1 (And.intro (HP4.out 0).2.2.2.1 (And.intro (HP4.out 0).2.2.2.2 (show tOf (dH (bw b.envs b.shared k) b.envs x.tos ⟨k, 3, 0, x.n, (0, 0)⟩ (e + 1)) = tOf (dH (bw b.envs b.shared k) b.envs x.tos ⟨k, 3, 0, x.n, (0, 0)⟩ (e + 1)) from rfl))))) bS5)
        clear hP5 bS5 SP kP hR5 HP4 t0 T0 HPUT
        go_wp2_with fail
        go_roundw
        case rel => exact ⟨e + 1, _, by omega, by go_num, J2.out⟩
        case measure => simp [intOf]; omega
       ·have HIN := aa (fun n => inq (c := x.c) (hrd n) hb9 false (decide_eq_false hm))
        have hm9 := hm
        rw [← hss] at hm9
        have hT5 := hT4
        rw [gave_no hm9] at hT5
        have J2 := aa (fun n => And.intro (And.intro (hP4.nob ((Keep.refl Nob wr).drewN n)) (And.intro hx4 (And.intro hL4 (And.intro hn4 hT5)))) (hB4.nob ((Keep.refl Nob wr).drewN n)))
        clear hP4 hB4 hx4 hL4 hT4 hrd hT5 hm hm9 hn4 hss
        go_wp2_with fail
        go_quiet (first | (go_at_call 166; (with_reducible_and_instances exact HIN.out _)))
        clear HIN c4 e1 hc9
        go_wp2_with fail
        go_roundw
        case rel => exact ⟨e + 1, R3, by omega, by go_num, J2.out _⟩
        case measure => simp [intOf]; omega
      ·have hlt6 : ¬ ((e : Int) < b.envs.length) := by omega
       have ee : e = b.envs.length := by omega
       have hT6 : R3.S.T = tOf (bw b.envs b.shared (k + 1)) := by rw [fF HX2.out.1, ← ee]; exact hT4
       have J3 := aa (And.intro hP4 (And.intro hx4 (And.intro hL4 (And.intro hn4 hT6))))
       clear hP4 hx4 hL4 hn4 hT4 hT6 hB4
       go_wp2_with fail
       go_roundw
       case rel => exact ⟨k + 1, R3, by omega, by go_num, J3.out⟩
       case measure => simp [intOf]; omega
    ·have hlt4 : ¬ ((k : Int) < b.shared.length) := by omega
     have ek : k = b.shared.length := by omega
     have FI := aa (And.intro hP (And.intro hx (And.intro hL (And.intro hn hT))))
     clear hP hx hL hn hT
     go_wp2
     go_ret
     refine ⟨kk, rfl, pq, Aq, cq, gq, _, R, ⟨Ag, j, cg, vs, FI.out.1⟩, ?_, ?_, FI.out.2.2.2.1, ?_⟩
     ·rw [FI.out.2.1, ← HF.out, HN.out]
     ·rw [FI.out.2.2.1, ek, List.take_of_length_le (Nat.le_refl _)]
     ·rw [FI.out.2.2.2.2, ek]
end
end Go.Proofs.YtgcikpgcoemfnaaGreat.Dk
namespace Go.Proofs.YtgcikpgcoemfnaaGreat.Dk
open Go.RowKit
structure IsKd (w : World) (b : Bt) (k pq : Nat) (R : Dr) (Ag : Option Addr) (ng cg : Nat) : Prop where
 obj : Blk w k 171 [.slice b.Af b.frames.length b.cf, .slice b.Ae b.envs.length b.ce, .slice b.As b.sects.length b.cs, .int .i64 b.lease, .slice b.Ah b.shared.length b.ch, .pointer (some ⟨pq, 0, none⟩), .pointer (some ⟨R.r, 0, none⟩), .slice Ag ng cg, .int .i64 0]
 reg : bL w R
section
variable {w w' : World} {b : Bt} {k pq : Nat} {R : Dr} {Ag : Option Addr} {ng cg : Nat}
theorem IsKd.nob (h : IsKd w b k pq R Ag ng cg) (kk : Keep Nob w w') : IsKd w' b k pq R Ag ng cg := ⟨h.obj.nob kk, h.reg.nob kk⟩
theorem kdo_write (h : IsKd w b k pq R Ag ng cg) (e : Nat) (he : e < b.envs.length) (cap at_ n to_ on : Int) (A : Option Addr) (m c : Nat) (l : List UInt8) (hl : ae w A m (bytes l)) (hA : 0 < m → ∀ ad, A = some ad → ad.block ≠ R.m) (er : Int) (R' : Dr) (hr : R'.r = R.r)
  (hcall : ∀ W, Keep Nob w W → Calls Tryz.prog 91 #[.pointer (some ⟨R.r, 0, none⟩), .int .i64 e, .int .i64 cap, .int .i64 at_, .string (str l)] W fun e w' => e = .returned (.int .i64 er) ∧ bL w' R' ∧ Keep (· = R.m) W w') :
  Calls Tryz.prog 31 #[.pointer (some ⟨k, 0, none⟩), .int .i64 e, fq 2 cap at_ n to_ on A m c] w fun e' w' => e' = .returned (.tuple #[.int .i64 er, .int .i64 0, .string (str [])]) ∧ IsKd w' b k pq R' Ag ng cg ∧ Keep (· = R.m) w w' := by
 have k1 := (Keep.refl Nob w).alloc (.cells #[.int .i64 2, .int .i64 cap, .int .i64 at_, .int .i64 n, .int .i64 to_, .int .i64 on, .slice A m c] 79)
 have b1 : Blk (w.alloc (.cells #[.int .i64 2, .int .i64 cap, .int .i64 at_, .int .i64 n, .int .i64 to_, .int .i64 on, .slice A m c] 79)) w.heap.size 79 [.int .i64 2, .int .i64 cap, .int .i64 at_, .int .i64 n, .int .i64 to_, .int .i64 on, .slice A m c] := Blk.new w 79 _
 have h1 := h.nob k1
 have c1 := h1.obj.cell 1
 have l0 := b1.cell 0
 simp only [List.getElem?_cons_zero, List.getElem?_cons_succ] at c1 l0
 have sf : ∀ W, Keep (· = R.m) (w.alloc (.cells #[.int .i64 2, .int .i64 cap, .int .i64 at_, .int .i64 n, .int .i64 to_, .int .i64 on, .slice A m c] 79)) W → (W.cell? ⟨k, 6, none⟩ = some (.pointer (some ⟨R.r, 0, none⟩)) ∧ W.cell? ⟨w.heap.size, 1, none⟩ = some (.int .i64 cap) ∧ W.cell? ⟨w.heap.size, 2, none⟩ = some (.int .i64 at_) ∧ W.cell? ⟨w.heap.size, 6, none⟩ = some (.slice A m c) ∧ (convert 28 9 (.slice A m c)).run Tryz.prog W = .ok (.string (str l)) W) ∧ Blk W k 171 [.slice b.Af b.frames.length b.cf, .slice b.Ae b.envs.length b.ce, .slice b.As b.sects.length b.cs, .int .i64 b.lease, .slice b.Ah b.shared.length b.ch, .pointer (some ⟨pq, 0, none⟩), .pointer (some ⟨R.r, 0, none⟩), .slice Ag ng cg, .int .i64 0] := fun W kk => by
  have o1 := h1.obj.keep kk (h1.obj.ne_ h1.reg.mem (by decide))
  have o2 := b1.keep kk (b1.ne_ h1.reg.mem (by decide))
  have hlW : ae W A m (bytes l) := by
   by_cases h0 : 0 < m
   ·exact (hl.nob k1).keep kk (hA h0)
   ·exact ⟨hl.1, fun h1 => absurd h1 h0⟩
  exact ⟨⟨o1.cell 6, o2.cell 1, o2.cell 2, o2.cell 6, cw (P := Tryz.prog) W 28 9 5 A m c l Tryz.underlying28 Tryz.underlying5 Tryz.underlying9 hlW⟩, o1⟩
 have kd := Keep.nobdrew (w.alloc (.cells #[.int .i64 2, .int .i64 cap, .int .i64 at_, .int .i64 n, .int .i64 to_, .int .i64 on, .slice A m c] 79))
 have kM : Keep (· = R.m) (w.alloc (.cells #[.int .i64 2, .int .i64 cap, .int .i64 at_, .int .i64 n, .int .i64 to_, .int .i64 on, .slice A m c] 79)) (w.alloc (.cells #[.int .i64 2, .int .i64 cap, .int .i64 at_, .int .i64 n, .int .i64 to_, .int .i64 on, .slice A m c] 79)).drew := kd.mono (fun _ _ f => f.elim)
 have s0 := (sf _ kM).1
 have hcl := hcall _ (k1.nobt kd)
 have he1 : ¬ ((e : Int) < 0) := by omega
 have he2 : ¬ ((b.envs.length : Int) ≤ e) := by omega
 have K1 := aa k1
 have SF := aa sf
 clear h h1 b1 k1 hcall sf hl hA
 unfold fq
 go_enter Tryz.func31, Tryz.ntmps31
 go_wp2_with fail
 go_region_held3 (fun w' => w'.cell? ⟨k, 6, none⟩ = some (.pointer (some ⟨R.r, 0, none⟩)) ∧ w'.cell? ⟨w.heap.size, 1, none⟩ = some (.int .i64 cap) ∧ w'.cell? ⟨w.heap.size, 2, none⟩ = some (.int .i64 at_) ∧ w'.cell? ⟨w.heap.size, 6, none⟩ = some (.slice A m c) ∧ (convert 28 9 (.slice A m c)).run Tryz.prog w' = .ok (.string (str l)) w')
  (first | exact s0 | exact (SF.out _ (kM.trans k2 (fun _ _ m => m))).1)
  (first | (go_at_call 91; refine hcl.mono ?_; rintro e9 w2 ⟨rfl, hR2, k2⟩))
 have KK := aa (show IsKd w2 b k pq R' Ag ng cg ∧ Keep (· = R.m) w w2 from ⟨⟨by rw [hr]; exact (SF.out _ (kM.trans k2 (fun _ _ m => m))).2, hR2⟩, (((K1.out.mono (fun _ _ f => f.elim)).trans kM (fun _ _ m => m))).trans k2 (fun _ _ m => m)⟩)
 clear k2 hcl s0 kd kM c1 l0 hR2
 go_wp2
 go_ret3
 exact ⟨rfl, KK.out⟩
end
end Go.Proofs.YtgcikpgcoemfnaaGreat.Dk
namespace Go.Proofs.YtgcikpgcoemfnaaGreat.Dk
open Go.RowKit
section
variable {w w' : World} {S : Ds} {b : Bt} {k pq : Nat} {R : Dr} {Ag : Option Addr} {ng cg : Nat}
def nms (T : St) (e : Nat) : List Int := names ((T e).map nq) ((T e).map nq).length
theorem sall_is (h : eD w S) (e : Nat) (he : e < S.n) :
  Calls Tryz.prog 170 #[.pointer (some ⟨S.s, 0, none⟩), .int .i64 e] w fun e' w' => ∃ B c, e' = .returned (.slice B (nms S.T e).length c) ∧ Vec w' 3 1 B (nms S.T e).length c (ab (nms S.T e)) ∧ Keep Nob w w' ∧ ∀ g, Own B g → w.heap.size ≤ g := by
 have henv := env_is h e true (by simp [he])
 have hall := Ref.all_new (h.nm e he)
 have hall := hall
 rw [show names ((S.T e).map nq) ((S.T e).map nq).length = nms S.T e from rfl] at hall
 generalize nms S.T e = l at *
 obtain ⟨g, hg, pg⟩ := gY h.nrow he
 have c0 : w.cell? ⟨S.s, 0, none⟩ = some (.slice S.AN S.n S.cN) := h.obj.cell 0
 rw [hg] at c0
 have he2 : (e : Int) < S.n := by omega
 clear h hg
 go_enter Tryz.func170, Tryz.ntmps170
 go_wp2_with fail
 refine henv.mono ?_; rintro e' w1 ⟨rfl, rfl⟩
 go_wp2_with fail
 refine hall.mono ?_; rintro e' w2 ⟨B, c, rfl, hv, hk, ho⟩
 clear henv hall pg c0
 go_wp2
 go_ret
 exact ⟨B, c, rfl, hv, hk, ho⟩
theorem rcom_new (h : IsKd w b k pq R Ag ng cg) (e : Nat) (he : e < R.S.n) (hn : nms R.S.T e ≠ []) :
  Calls Tryz.prog 78 #[.pointer (some ⟨k, 0, none⟩), .int .i64 e] w fun e' w' => ∃ g B c, e' = .returned (.pointer (some ⟨g, 0, none⟩)) ∧ Blk w' g 259 [.pointer (some ⟨k, 0, none⟩), .int .i64 e, .slice B (nms R.S.T e).length c, .slice none 0 0] ∧ Vec w' 3 1 B (nms R.S.T e).length c (ab (nms R.S.T e)) ∧ w.heap.size ≤ g ∧ Keep Nob w w' ∧ ∀ x, Own B x → w.heap.size ≤ x := by
 have hall := sall_is h.reg.sp e he
 have c6 : w.cell? ⟨k, 6, none⟩ = some (.pointer (some ⟨R.r, 0, none⟩)) := h.obj.cell 6
 have c3 : w.cell? ⟨R.r, 3, none⟩ = some (.pointer (some ⟨R.S.s, 0, none⟩)) := h.reg.obj.cell 3
 generalize nms R.S.T e = l at *
 have hl : ¬ (l.length : Int) = 0 := by
  have : l.length ≠ 0 := fun e => hn (List.eq_nil_of_length_eq_zero e)
  omega
 clear h hn
 go_enter Tryz.func78, Tryz.ntmps78
 go_wp2_with fail
 refine hall.mono ?_; rintro e' w1 ⟨B, c, rfl, hv, hk, ho⟩
 have hb := Blk.new w1 259 [.pointer (some ⟨k, 0, none⟩), .int .i64 e, .slice B l.length c, .slice none 0 0]
 have ka := (Keep.refl Nob w1).alloc (.cells #[.pointer (some ⟨k, 0, none⟩), .int .i64 e, .slice B l.length c, .slice none 0 0] 259)
 have F := aa (And.intro hb (And.intro (hv.nob ka) (And.intro hk.size (And.intro (hk.nobt ka) ho))))
 clear hall hv hk hb ka ho c6 c3
 go_wp2
 go_ret
 exact ⟨_, B, c, rfl, F.out⟩
end
end Go.Proofs.YtgcikpgcoemfnaaGreat.Dk
namespace Go.Proofs.YtgcikpgcoemfnaaGreat.Pn
open Go.RowKit
open Co (Src Link Cm Kc Ct)
def brs2 : List Rf := [(0, 1), (1, 0)]
theorem keys4 : mk 2 key1 ++ mk brs2.length (key2 brs2) = [(0, 0, 0, 492, [0]), (1, 0, 0, 492, [1]), (0, 8, 0, 40, [0, 1]), (1, 9, 0, 40, [1, 0])] := by decide
section
variable {b : Bt}
theorem jP (h : jG 2 brs2 5 b) : ∃ s0 s1 s2 s3, b.shared = [s0, s1, s2, s3] ∧ key s0 = (0, 0, 0, 492, [0]) ∧ key s1 = (1, 0, 0, 492, [1]) ∧ key s2 = (0, 8, 0, 40, [0, 1]) ∧ key s3 = (1, 9, 0, 40, [1, 0]) := by
 have hk := h.shared
 rw [keys4] at hk
 have hl := congrArg List.length hk
 simp only [List.length_map, List.length_cons, List.length_nil] at hl
 match hb : b.shared, hl with
 | [s0, s1, s2, s3], _ =>
  rw [hb] at hk
  simp only [List.map_cons, List.map_nil, List.cons.injEq, and_true] at hk
  exact ⟨s0, s1, s2, s3, rfl, hk.1, hk.2.1, hk.2.2.1, hk.2.2.2⟩
theorem em {s : Sh} {a f l n : Int} {t : List Int} (h : key s = (a, f, l, n, t)) : s.ses = a ∧ s.frame = f ∧ s.lo = l ∧ s.n = n ∧ s.tos = t := by
 unfold key at h
 simp only [Prod.mk.injEq] at h
 exact h
theorem boot_ok (h : jG 2 brs2 5 b) : BtOk b [20, 20] := by
 have hs : b.sects.map (·.xs) = [[0], [1]] := h.sects
 have hf : b.frames = [20, 20] := h.frames
 obtain ⟨s0, s1, s2, s3, hsh, k0, k1, k2, k3⟩ := jP h
 obtain ⟨a0, a1, a2, a3, a4⟩ := em k0
 obtain ⟨b0, b1, b2, b3, b4⟩ := em k1
 obtain ⟨c0, c1, c2, c3, c4⟩ := em k2
 obtain ⟨d0, d1, d2, d3, d4⟩ := em k3
 have hsl : b.sects.length = 2 := by
  have := congrArg List.length hs
  simpa using this
 refine ⟨by rw [hf]; rfl, by rw [hf]; decide, by rw [hf]; decide, by rw [h.envs]; simp, by omega, by rw [hsh]; simp, by rw [h.lease]; decide, by rw [h.lease]; decide, fun x hx => ?_, fun s hs' => ?_, fun s hs' => ?_⟩
 ·rw [h.envs] at hx
  rw [hf]
  obtain ⟨i, hi, rfl⟩ := List.mem_map.1 hx
  have := List.mem_range.1 hi
  simp only [List.length_cons, List.length_nil]
  omega
 ·have : s.xs ∈ b.sects.map (·.xs) := List.mem_map.2 ⟨s, hs', rfl⟩
  rw [hs] at this
  rw [hf]
  rcases List.mem_cons.1 this with e | this
  ·rw [e]; exact ⟨fun x hx => by simp at hx; subst hx; decide, by decide⟩
  ·rcases List.mem_cons.1 this with e | this
   ·rw [e]; exact ⟨fun x hx => by simp at hx; subst hx; decide, by decide⟩
   ·cases this
 ·rw [hsh] at hs'
  have hin1 : InR 2 [0] := fun x hx => by simp at hx; subst hx; decide
  have hin2 : InR 2 [1] := fun x hx => by simp at hx; subst hx; decide
  have hin3 : InR 2 [0, 1] := fun x hx => by simp at hx; omega
  have hin4 : InR 2 [1, 0] := fun x hx => by simp at hx; omega
  rcases List.mem_cons.1 hs' with rfl | hs'
  ·unfold ShOk; rw [a0, a1, a2, a3, a4]; exact ⟨by decide, by decide, by decide, by decide, by decide, by decide, by decide, hin1, by decide⟩
  ·rcases List.mem_cons.1 hs' with rfl | hs'
   ·unfold ShOk; rw [b0, b1, b2, b3, b4]; exact ⟨by decide, by decide, by decide, by decide, by decide, by decide, by decide, hin2, by decide⟩
   ·rcases List.mem_cons.1 hs' with rfl | hs'
    ·unfold ShOk; rw [c0, c1, c2, c3, c4]; exact ⟨by decide, by decide, by decide, by decide, by decide, by decide, by decide, hin3, by decide⟩
    ·rcases List.mem_cons.1 hs' with rfl | hs'
     ·unfold ShOk; rw [d0, d1, d2, d3, d4]; exact ⟨by decide, by decide, by decide, by decide, by decide, by decide, by decide, hin4, by decide⟩
     ·cases hs'
def fB (s : Nat) : List Cp := [⟨s, 3, 0, 492, (0, 0)⟩, ⟨2, 3, 0, 40, (0, 0)⟩, ⟨3, 3, 0, 40, (0, 0)⟩]
def spans2 : List Rf := [(0, 492), (1280, 492), (512, 40), (1856, 40)]
theorem cs_two (h : jG 2 brs2 5 b) (e : Nat) (he : e < 18) : bw b.envs b.shared b.shared.length e = fB (e / 9) := by
 obtain ⟨s0, s1, s2, s3, hsh, k0, k1, k2, k3⟩ := jP h
 obtain ⟨a0, a1, a2, a3, a4⟩ := em k0
 obtain ⟨b0, b1, b2, b3, b4⟩ := em k1
 obtain ⟨c0, c1, c2, c3, c4⟩ := em k2
 obtain ⟨d0, d1, d2, d3, d4⟩ := em k3
 have hen : b.envs.getD e 0 = ((e / 9 : Nat) : Int) := by
  rw [h.envs, List.getD_eq_getElem?_getD, dn (by omega)]
  rfl
 rw [jD (by rw [h.envs]; simpa using he) _ (Nat.le_refl _), List.take_length, hen, hsh]
 have h2 : e / 9 = 0 ∨ e / 9 = 1 := by omega
 rcases h2 with h2 | h2 <;> rw [h2] <;> simp [eR, fB, a3, a4, b3, b4, c3, c4, d3, d4]
theorem spans_two (h : jG 2 brs2 5 b) : b.shared.map (au [20, 20]) = spans2 := by
 obtain ⟨s0, s1, s2, s3, hsh, k0, k1, k2, k3⟩ := jP h
 obtain ⟨a0, a1, a2, a3, a4⟩ := em k0
 obtain ⟨b0, b1, b2, b3, b4⟩ := em k1
 obtain ⟨c0, c1, c2, c3, c4⟩ := em k2
 obtain ⟨d0, d1, d2, d3, d4⟩ := em k3
 rw [hsh]
 simp [au, spans2, Qu.first, a0, a1, a2, a3, b0, b1, b2, b3, c0, c1, c2, c3, d0, d1, d2, d3]
end
structure G2 (T : St) (n : Nat) (L : List Rf) : Prop where
 n18 : n = 18
 cs : ∃ cs : Nat → List Cp, T = tOf cs ∧ ∀ e, e < 18 → cs e = fB (e / 9)
 spans : L = spans2
def gh (s j : Nat) : Nat := match j with
 | 0 => 1280 * s
 | 1 => 512
 | _ => 1856
def cP (s : Nat) : Src := fun j _ _ => some (gh s j)
section
variable {T : St} {n : Nat} {L : List Rf}
theorem G2.of {b : Bt} (h : jG 2 brs2 5 b) (hn : n = b.envs.length) (hT : T = tOf (bw b.envs b.shared b.shared.length)) (hL : L = b.shared.map (au [20, 20])) : G2 T n L :=
 ⟨by rw [hn, h.envs]; simp, ⟨_, hT, cs_two h⟩, by rw [hL, spans_two h]⟩
theorem G2.has (h : G2 T n L) {e j : Nat} (he : e < 18) (hj : j < 3) : ∃ c, (fB (e / 9))[j]? = some c ∧ Has T n ((e : Int), (j : Int) + 256) c := by
 obtain ⟨cs, hT, hc⟩ := h.cs
 have h32 : ∀ e, e < n → (cs e).length ≤ 32 := fun e he => by rw [hc e (by have := h.n18; omega)]; simp [fB]
 obtain ⟨c, hcj⟩ : ∃ c, (fB (e / 9))[j]? = some c := ⟨_, List.getElem?_eq_getElem (by simpa [fB] using hj)⟩
 refine ⟨c, hcj, ?_⟩
 rw [hT]
 exact (row_has h32 _ _).2 ⟨e, j, by rw [h.n18]; exact he, rfl, by rw [hc e he]; exact hcj⟩
theorem G2.reach (h : G2 T n L) {e j : Nat} (he : e < 18) (hj : j < 3) {right : Int} (hr : right = 1 ∨ right = 2) {at_ k : Nat} (hin : at_ + k ≤ if j = 0 then 492 else 40) : bo T n L e ((j : Int) + 256) right at_ k ((gh (e / 9) j + at_ : Nat) : Int) 0 := by
 obtain ⟨c, hc, hh⟩ := h.has he hj
 have hs : e / 9 = 0 ∨ e / 9 = 1 := by omega
 have hb : ∀ x : Int, x = 3 → (bits .and .i64 x right == 0) = false := fun x hx => by subst hx; rcases hr with rfl | rfl <;> decide
 rw [h.spans]
 rcases (show j = 0 ∨ j = 1 ∨ j = 2 by omega) with rfl | rfl | rfl
 ·simp only [if_true] at hin
  simp only [fB, List.getElem?_cons_zero, Option.some.injEq] at hc
  subst hc
  rcases hs with e0 | e0 <;> rw [e0] at hh ⊢
  ·exact bo.yes _ (0, 492) _ hh (hb _ rfl) ⟨by omega, by omega, by dsimp only; omega, by dsimp only; omega, rfl, by dsimp only; omega⟩ (by simp only [gh]; omega)
  ·exact bo.yes _ (1280, 492) _ hh (hb _ rfl) ⟨by omega, by omega, by dsimp only; omega, by dsimp only; omega, rfl, by dsimp only; omega⟩ (by simp only [gh]; omega)
 ·rw [if_neg (by decide)] at hin
  simp only [fB, List.getElem?_cons_zero, List.getElem?_cons_succ, Option.some.injEq] at hc
  subst hc
  exact bo.yes _ (512, 40) _ hh (hb _ rfl) ⟨by omega, by omega, by dsimp only; omega, by dsimp only; omega, rfl, by dsimp only; omega⟩ (by simp only [gh]; omega)
 ·rw [if_neg (by decide)] at hin
  simp only [fB, List.getElem?_cons_zero, List.getElem?_cons_succ, Option.some.injEq] at hc
  subst hc
  exact bo.yes _ (1856, 40) _ hh (hb _ rfl) ⟨by omega, by omega, by dsimp only; omega, by dsimp only; omega, rfl, by dsimp only; omega⟩ (by simp only [gh]; omega)
theorem G2.row (h : G2 T n L) {e : Nat} (he : e < 18) : T e = el (fB (e / 9)) := by
 obtain ⟨cs, hT, hc⟩ := h.cs
 rw [hT]
 show el (cs e) = _
 rw [hc e he]
theorem G2.names (h : G2 T n L) {e : Nat} (he : e < 18) : names ((T e).map Q.pl) (T e).length = 256 :: [257, 258] := by
 rw [h.row he, names_pl _ (by simp [fB])]
 rfl
theorem G2.nms (h : G2 T n L) {e : Nat} (he : e < 18) : Dk.nms T e = [256, 257, 258] := by
 unfold Dk.nms
 rw [h.row he, List.length_map, names_nq _ (by simp [fB])]
 rfl
end
theorem G2.link {K : Kn} {C : Cm} (h : G2 K.T K.envs.length K.L) (he : C.env < 18) (hn : C.name = 256) (hb : C.brs = [257, 258]) : Link K C (cP (C.env / 9)) := by
 have hl : C.brs.length = 2 := by rw [hb]; rfl
 refine ⟨by rw [h.n18]; exact he, fun j b at_ k hj hs right hr hin => ?_, fun j _ _ _ hs => by cases hs⟩
 cases hs
 have hnm : C.nm j = (j : Int) + 256 := by
  rcases (show j = 0 ∨ j = 1 ∨ j = 2 by omega) with rfl | rfl | rfl
  ·exact hn
  ·show C.brs.getD 0 0 = _; rw [hb]; rfl
  ·show C.brs.getD 1 0 = _; rw [hb]; rfl
 rw [hnm]
 exact h.reach he (by omega) hr hin
theorem infoPlan : (Tryz.prog.info? 76).map (·.size) = some 3 := by kernel_rfl
theorem plan_is (w : World) : Calls Tryz.prog 28 #[] w fun e w' => ∃ Ab AB, e = .returned (.agg #[.slice Ab 2 2, .slice AB 2 2, .int .i64 5]) ∧ ae w' AB (2 * 2) (cU brs2) ∧ Keep Nob w w' := by
 have hb : Blk (((w.alloc (.cells #[.slice (some ⟨w.heap.size + 1, 0, none⟩) 2 2, .slice (some ⟨w.heap.size + 1 + 1, 0, none⟩) 2 2, .int .i64 5] 76)).alloc (.cells #[.bool false, .bool false] 4)).alloc (.cells #[.int .i64 0, .int .i64 1, .int .i64 1, .int .i64 0] 153)) w.heap.size 76 [.slice (some ⟨w.heap.size + 1, 0, none⟩) 2 2, .slice (some ⟨w.heap.size + 1 + 1, 0, none⟩) 2 2, .int .i64 5] := ((Blk.new w 76 _).alloc _).alloc _
 have hr := aj (n := 4) (Blk.new ((w.alloc (.cells #[.slice (some ⟨w.heap.size + 1, 0, none⟩) 2 2, .slice (some ⟨w.heap.size + 1 + 1, 0, none⟩) 2 2, .int .i64 5] 76)).alloc (.cells #[.bool false, .bool false] 4)) 153 (cU brs2)) rfl
 have hs : ((w.alloc (.cells #[.slice (some ⟨w.heap.size + 1, 0, none⟩) 2 2, .slice (some ⟨w.heap.size + 1 + 1, 0, none⟩) 2 2, .int .i64 5] 76)).alloc (.cells #[.bool false, .bool false] 4)).heap.size = w.heap.size + 1 + 1 := by simp
 rw [hs] at hr
 have F := aa (And.intro hb (And.intro hr ((((Keep.refl Nob w).alloc (.cells #[.slice (some ⟨w.heap.size + 1, 0, none⟩) 2 2, .slice (some ⟨w.heap.size + 1 + 1, 0, none⟩) 2 2, .int .i64 5] 76)).alloc (.cells #[.bool false, .bool false] 4)).alloc (.cells #[.int .i64 0, .int .i64 1, .int .i64 1, .int .i64 0] 153))))
 clear hb hr hs
 go_enter Tryz.func28, Tryz.ntmps28
 go_wp2
 refine bodyPost_ret (v := .agg #[.slice (some ⟨w.heap.size + 1, 0, none⟩) 2 2, .slice (some ⟨w.heap.size + 1 + 1, 0, none⟩) 2 2, .int .i64 5]) (results_cell_row rfl _ _ w.heap.size 76 #[.slice (some ⟨w.heap.size + 1, 0, none⟩) 2 2, .slice (some ⟨w.heap.size + 1 + 1, 0, none⟩) 2 2, .int .i64 5] (0, 0) _ rfl F.out.1 Tryz.underlying76 rfl infoPlan) rfl ?_
 exact ⟨_, _, rfl, F.out.2.1, F.out.2.2⟩
end Go.Proofs.YtgcikpgcoemfnaaGreat.Pn
namespace Go.Proofs.YtgcikpgcoemfnaaGreat.Co
open Go.RowKit Go.MapKept
structure NewCm (w w' : World) (k : Nat) (C : Cm) (e : Nat) (n0 : Int) (l : List Int) : Prop where
 is : IsCm w' k C
 env : C.env = e
 name : C.name = n0
 brs : C.brs = l
 bad : C.bad = []
 p : w.heap.size ≤ C.p
 b : w.heap.size ≤ C.b
 a : ∀ ad, C.A = some ad → w.heap.size ≤ ad.block
 keep : Keep Nob w w'
theorem cnew_is {w : World} {K : Kn} (h : aK w K) (e : Nat) (he : e < K.envs.length) (n0 : Int) (l : List Int) (hl : names ((K.T e).map Q.pl) (K.T e).length = n0 :: l) (few : l.length ≤ 31) :
  Calls Tryz.prog 77 #[.pointer (some ⟨K.k, 0, none⟩), .int .i64 e] w fun e' w' => ∃ C, e' = .returned (.tuple #[.pointer (some ⟨C.p, 0, none⟩), .int .i64 0]) ∧ NewCm w w' K.k C e n0 l := by
 have hsp := iQ h
 have hnm := lx h.reg.sp he
 rw [hl] at hnm
 have hmm := @run_makeMap Tryz.prog
 clear h hl he
 generalize K.s = ks at *
 generalize K.k = kk at *
 go_enter Tryz.func77, Tryz.ntmps77
 go_wp2_with fail
 refine hsp.mono ?_; rintro e' w1 ⟨rfl, rfl⟩
 go_wp2_with fail
 refine hnm.mono ?_; rintro e' w1 ⟨A, c, rfl, hv, hk, hfr⟩
 obtain ⟨g, cur, rfl, hb, hlc, hcl, ht⟩ := hv.at_ (by simp)
 have hg : w.heap.size ≤ g := hfr g ⟨_, rfl, rfl⟩
 have hrd := hv.reads
 have z0 : w1.cell? ⟨g, 0, none⟩ = some (.int .i64 n0) := by
  obtain ⟨ad, e1, e2⟩ := hrd.2 (by simp)
  cases e1
  exact e2 0 _ rfl
 have z1 : (w1.alloc (.map #[] 0)).cell? ⟨g, 0, none⟩ = some (.int .i64 n0) := by
  rw [(hb.alloc _).cell, ← hb.cell]
  exact z0
 have hr1 : c ≠ 1 → ae w1 (some ⟨g, 1, none⟩) l.length (ab l) := fun _ => by
  obtain ⟨ad, e1, e2⟩ := hrd.2 (by simp)
  cases e1
  refine ⟨by simp [ab], fun _ => ⟨_, rfl, fun j u hu => ?_⟩⟩
  have e3 := e2 (j + 1) u (by simpa [ab] using hu)
  rw [cR] at e3 ⊢
  rw [← e3]
  congr 2
  omega
 have hr0 : c = 1 → ae w1 (some ⟨g, 0, none⟩) l.length (ab l) := fun e => by
  simp at hlc
  have : l = [] := List.eq_nil_of_length_eq_zero (by omega)
  subst this
  exact ae.nil_ _ _
 have hlen : (n0 :: l).length = l.length + 1 := rfl
 rw [hlen] at hlc ⊢
 have HH := aa (And.intro hr1 (And.intro hr0 (And.intro hk hg)))
 clear hsp hnm hv hfr hb hcl ht hrd hr1 hr0 hk hg hlen
 generalize hln : l.length = n at *
 have HL := aa hln
 have h1n : (1 : Int) ≤ (n : Int) + 1 := by omega
 clear hln
 have fin : ∀ (A : Option Addr) (c' : Nat), ae w1 A n (ab l) → (∀ ad, A = some ad → w.heap.size ≤ ad.block) →
   ∃ C : Cm, C.p = w1.heap.size + 1 ∧ NewCm w ((w1.alloc (.map #[] 0)).alloc (.cells #[.pointer (some ⟨kk, 0, none⟩), .int .i64 e, .int .i64 n0, .slice A n c', .map (some w1.heap.size)] 129)).drew kk C e n0 l := fun A c' hA hf => by
  have hk1 : Keep Nob w1 ((w1.alloc (.map #[] 0)).alloc (.cells #[.pointer (some ⟨kk, 0, none⟩), .int .i64 e, .int .i64 n0, .slice A n c', .map (some w1.heap.size)] 129)).drew := (((Keep.refl Nob w1).alloc _).alloc _).drew
  have hlen : l.length = n := HL.out
  have hs := HH.out.2.2.1.size
  have hb2 := Blk.new (w1.alloc (.map #[] 0)) 129 [.pointer (some ⟨kk, 0, none⟩), .int .i64 e, .int .i64 n0, .slice A n c', .map (some w1.heap.size)]
  have hsz : (w1.alloc (.map #[] 0)).heap.size = w1.heap.size + 1 := by simp
  rw [hsz] at hb2
  refine ⟨⟨w1.heap.size + 1, e, n0, A, c', l, w1.heap.size, []⟩, rfl, ⟨⟨?_, ?_, ⟨[], ?_, List.Perm.refl _⟩, List.Pairwise.nil, by rw [hlen]; exact few, fun r hr => by cases hr⟩, rfl, rfl, rfl, rfl, by dsimp only; omega, hs, hf, HH.out.2.2.1.trans hk1 (fun _ _ f => f)⟩⟩
  ·dsimp only
   rw [hlen]
   exact hb2
  ·dsimp only
   rw [hlen]
   exact hA.nob hk1
  ·exact (MapIs.new w1).nob (((Keep.refl Nob _).alloc _).drew)
 have FIN := aa fin
 clear fin
 by_cases hc1 : c = 1
 ·subst hc1
  go_wp2_with fail
  go_region
  have hn0 : n = 0 := by omega
  subst hn0
  obtain ⟨C, hp, hC⟩ := FIN.out (some ⟨g, 0, none⟩) 0 (HH.out.2.1 trivial) (fun ad e => by cases e; exact HH.out.2.2.2)
  go_wp2
  go_ret2
  exact ⟨C, by rw [hp]; rfl, hC⟩
 ·go_wp2_with fail
  go_region
  obtain ⟨C, hp, hC⟩ := FIN.out (some ⟨g, 1, none⟩) (c - 1) (HH.out.1 hc1) (fun ad e => by cases e; exact HH.out.2.2.2)
  go_wp2
  go_ret2
  exact ⟨C, by rw [hp]; rfl, hC⟩
end Go.Proofs.YtgcikpgcoemfnaaGreat.Co
namespace Go.Proofs.YtgcikpgcoemfnaaGreat.Dk
open Go.RowKit
section
variable {w w' : World}
theorem iR {fn : Func} {a b c d : Tmp} (h : fn.results = #[.tmp a, .tmp b, .tmp c, .tmp d]) (tmps : Array Value) (P : Program) (w : World) : (results fn tmps).run P w = .ok (.tuple #[tmps.getD a undef, tmps.getD b undef, tmps.getD c undef, tmps.getD d undef]) w := by
 simp [results, h]
end
end Go.Proofs.YtgcikpgcoemfnaaGreat.Dk
namespace Go.Proofs.YtgcikpgcoemfnaaGreat.Au
open Go.RowKit Co
def cQ : Src := fun _ _ _ => some 0
def ff (b : List UInt8) : List UInt8 := splice (br 8) 0 b
theorem zlen (k : Nat) : (br k).length = 64 * k := by simp [br]
theorem fC {L cs : List UInt8} {o a n : Nat} (h : o + cs.length ≤ L.length) (ha : a + n ≤ cs.length) : ((splice L o cs).drop (o + a)).take n = (cs.drop a).take n := by
 apply List.ext_getElem?
 intro i
 rw [List.getElem?_take, List.getElem?_take]
 by_cases hi : i < n
 ·rw [if_pos hi, if_pos hi, List.getElem?_drop, List.getElem?_drop, eW _ _ _ h, if_pos (by omega), show o + a + i - o = a + i by omega]
 ·rw [if_neg hi, if_neg hi]
theorem got1 {b : List UInt8} (hb : b.length = 492) {a n : Nat} (h : a + n ≤ 492) : got (ff b) cQ (0, a, n) = (b.drop a).take n := by
 show (List.drop (0 + a) (ff b)).take n = _
 unfold ff
 exact fC (by rw [hb, zlen]; decide) (by rw [hb]; exact h)
def pAt (b : List UInt8) (i : Nat) : List Int × Int := Cd.dcd ((b.drop (24 * i)).take 24)
def fAt (b : List UInt8) (i : Nat) : List Int × Int := Fi.dcd ((b.drop (192 + 8 * i)).take 8)
def rAt (b : List UInt8) (i : Nat) : Ri.Pp × Int := Ri.dcd ((b.drop (288 + 40 * i)).take 40)
def tAt (b : List UInt8) : Ri.Pp × Int := Ri.dcd ((b.drop 448).take 40)
def gAt (b : List UInt8) : Int × Int := fdec ((b.drop 488).take 4)
def dx (b : List UInt8) (r : Rf) : Bool :=
 if r.1 = 1 then (pAt b r.2.toNat).2 == 2 else if r.1 = 2 then (fAt b r.2.toNat).2 == 2 else if r.1 = 3 then (rAt b r.2.toNat).2 == 2
 else if r.1 = 4 then (tAt b).2 == 2 else (gAt b).2 == 2
def fv (b : List UInt8) : List Rf := (bD 0).filter (dx b)
theorem all_sorted : (bD 0).Pairwise ltR := by
 have h : (bD 0).Pairwise (fun a b => lt a b = true) := by decide +kernel
 exact h.imp (fun {a b} h => lt_iff.1 h)
theorem ins_last {r : Rf} : ∀ {l : List Rf}, (∀ x ∈ l, ltR x r) → ins r l = l ++ [r]
 | [], _ => rfl
 | x :: l, h => by
  unfold ins
  rw [if_neg (fun hl => jS (h x (by simp)) (lt_iff.1 hl)), ins_last (fun y hy => h y (by simp [hy]))]
  rfl
theorem lB {f : List Rf → Rf → List Rf} {p : Rf → Bool} : ∀ {L bad : List Rf}, L.Pairwise ltR → (∀ x ∈ bad, ∀ y ∈ L, ltR x y) → (∀ r ∈ L, ∀ l, r ∉ l → f l r = if p r then ins r l else l) → L.foldl f bad = bad ++ L.filter p
 | [], bad, _, _, _ => by simp
 | r :: L, bad, hL, hb, hf => by
  have hp := List.pairwise_cons.1 hL
  have hn : r ∉ bad := fun h => jS (hb r h r (by simp)) (hb r h r (by simp))
  rw [List.foldl_cons, hf r (by simp) bad hn]
  by_cases h : p r = true
  ·rw [if_pos h, ins_last (fun x hx => hb x hx r (by simp)), List.filter_cons_of_pos h, lB hp.2 (fun x hx y hy => ?_) (fun r' hr' => hf r' (by simp [hr']))]
   ·simp
   ·rcases List.mem_append.1 hx with hx | hx
    ·exact hb x hx y (by simp [hy])
    ·rw [List.mem_singleton.1 hx]; exact hp.1 y hy
  ·rw [if_neg h, List.filter_cons_of_neg h, lB hp.2 (fun x hx y hy => hb x hx y (by simp [hy])) (fun r' hr' => hf r' (by simp [hr']))]
theorem mem_all0 {r : Rf} (h : r ∈ bD 0) : (∃ i, i < 8 ∧ r = (1, ((i : Nat) : Int))) ∨ (∃ i, i < 12 ∧ r = (2, ((i : Nat) : Int))) ∨ (∃ i, i < 4 ∧ r = (3, ((i : Nat) : Int))) ∨ r = (4, 0) ∨ r = (5, 0) := by
 unfold bD at h
 simp only [List.mem_append, mk, List.mem_map, List.mem_range, List.mem_cons, List.not_mem_nil, or_false] at h
 rcases h with ((⟨i, hi, rfl⟩ | ⟨i, hi, rfl⟩) | ⟨i, hi, rfl⟩) | rfl | rfl
 ·exact .inl ⟨i, hi, rfl⟩
 ·exact .inr (.inl ⟨i, hi, rfl⟩)
 ·exact .inr (.inr (.inl ⟨i, by omega, rfl⟩))
 ·exact .inr (.inr (.inr (.inl rfl)))
 ·exact .inr (.inr (.inr (.inr rfl)))
theorem gF {α : Type} {dec : List UInt8 → α × Int} {z : α} {xs : List UInt8} {src : Src} {l : List Rf} {r : Rf} (h : r ∉ l) {x : Nat × Nat × Nat} (hw : aw 0 r = some x) : (aC dec z xs src 0 l r).2 = if ((dec (got xs src x)).2 == 2) = true then ins r l else l := by
 rw [aF h hw (v := (dec (got xs src x)).1) (d := (dec (got xs src x)).2) rfl]
 by_cases h2 : (dec (got xs src x)).2 = 2
 ·rw [if_pos h2, if_pos (by simp [h2])]
 ·rw [if_neg h2, if_neg (by simp [h2])]
theorem wher1 {i : Nat} (h : i < 8) : aw 0 (1, (i : Int)) = some (0, 24 * i, 24) := by simp [aw]; omega
theorem wher2 {i : Nat} (h : i < 12) : aw 0 (2, (i : Int)) = some (0, 192 + 8 * i, 8) := by simp [aw]; omega
theorem wher3 {i : Nat} (h : i < 4) : aw 0 (3, (i : Int)) = some (0, 288 + 40 * i, 40) := by simp [aw]; omega
theorem wher4 : aw 0 (4, 0) = some (0, 448, 40) := by simp [aw]
theorem wher5 : aw 0 (5, 0) = some (0, 488, 4) := by simp [aw]
section
variable {b : List UInt8}
theorem seen1 (hb : b.length = 492) {r : Rf} (hr : r ∈ bD 0) (l : List Rf) (hl : r ∉ l) : Co.seen (ff b) cQ 0 l r = if dx b r then ins r l else l := by
 rcases mem_all0 hr with ⟨i, hi, rfl⟩ | ⟨i, hi, rfl⟩ | ⟨i, hi, rfl⟩ | rfl | rfl
 ·simp only [Co.seen, dx, if_true, Int.toNat_natCast]
  rw [gF hl (wher1 hi), got1 hb (by omega)]
  rfl
 ·simp only [Co.seen, dx, show ¬ ((2 : Int) = 1) by decide, if_false, if_true, Int.toNat_natCast]
  rw [gF hl (wher2 hi), got1 hb (by omega)]
  rfl
 ·simp only [Co.seen, dx, show ¬ ((3 : Int) = 1) by decide, show ¬ ((3 : Int) = 2) by decide, show ¬ ((3 : Int) = 5) by decide, if_false, if_true, Int.toNat_natCast]
  rw [gF hl (wher3 hi), got1 hb (by omega)]
  rfl
 ·simp only [Co.seen, dx, show ¬ ((4 : Int) = 1) by decide, show ¬ ((4 : Int) = 2) by decide, show ¬ ((4 : Int) = 3) by decide, show ¬ ((4 : Int) = 5) by decide, if_false, if_true]
  rw [gF hl wher4, got1 hb (by omega)]
  rfl
 ·simp only [Co.seen, dx, show ¬ ((5 : Int) = 1) by decide, show ¬ ((5 : Int) = 2) by decide, show ¬ ((5 : Int) = 3) by decide, show ¬ ((5 : Int) = 4) by decide, if_false, if_true]
  rw [gF hl wher5, got1 hb (by omega)]
  rfl
theorem look1 (hb : b.length = 492) : Co.look (ff b) cQ 0 [] = fv b := by
 unfold Co.look fv
 rw [lB (p := dx b) all_sorted (fun x hx => by cases hx) (fun r hr l hl => seen1 hb hr l hl)]
 rfl
structure fW (b : List UInt8) : Prop where
 p : ∀ i, i < 8 → (pAt b i).2 ≠ 2
 f : ∀ i, i < 12 → (fAt b i).2 ≠ 2
 r : ∀ i, i < 4 → (rAt b i).2 ≠ 2
 t : (tAt b).2 ≠ 2
 g : (gAt b).2 ≠ 2
theorem good_of (h : fv b = []) : fW b := by
 have h' : ∀ r ∈ bD 0, dx b r = false := fun r hr => by
  cases hx : dx b r with
  | false => rfl
  | true =>
   have : r ∈ fv b := List.mem_filter.2 ⟨hr, hx⟩
   rw [h] at this
   cases this
 have m : ∀ r, (∃ i, i < 8 ∧ r = (1, ((i : Nat) : Int))) ∨ (∃ i, i < 12 ∧ r = (2, ((i : Nat) : Int))) ∨ (∃ i, i < 4 ∧ r = (3, ((i : Nat) : Int))) ∨ r = (4, 0) ∨ r = (5, 0) → r ∈ bD 0 := fun r hr => by
  unfold bD
  simp only [List.mem_append, mk, List.mem_map, List.mem_range, List.mem_cons, List.not_mem_nil, or_false]
  rcases hr with ⟨i, hi, rfl⟩ | ⟨i, hi, rfl⟩ | ⟨i, hi, rfl⟩ | rfl | rfl
  ·exact .inl (.inl (.inl ⟨i, hi, rfl⟩))
  ·exact .inl (.inl (.inr ⟨i, hi, rfl⟩))
  ·exact .inl (.inr ⟨i, by omega, rfl⟩)
  ·exact .inr (.inl rfl)
  ·exact .inr (.inr rfl)
 refine ⟨fun i hi e => ?_, fun i hi e => ?_, fun i hi e => ?_, fun e => ?_, fun e => ?_⟩
 ·have := h' (1, (i : Int)) (m _ (.inl ⟨i, hi, rfl⟩))
  simp [dx, e] at this
 ·have := h' (2, (i : Int)) (m _ (.inr (.inl ⟨i, hi, rfl⟩)))
  simp [dx, e] at this
 ·have := h' (3, (i : Int)) (m _ (.inr (.inr (.inl ⟨i, hi, rfl⟩))))
  simp [dx, e] at this
 ·have := h' (4, 0) (m _ (.inr (.inr (.inr (.inl rfl)))))
  simp [dx, e] at this
 ·have := h' (5, 0) (m _ (.inr (.inr (.inr (.inr rfl)))))
  simp [dx, e] at this
theorem rdP (hb : b.length = 492) (hg : fW b) {i : Nat} (hi : i < 8) : aC Cd.dcd Cd.noP (ff b) cQ 0 [] (1, (i : Int)) = (((pAt b i).1, (pAt b i).2), []) := by
 have e : Cd.dcd (got (ff b) cQ (0, 24 * i, 24)) = ((pAt b i).1, (pAt b i).2) := by rw [got1 hb (by omega)]; rfl
 rw [aF (by simp) (wher1 hi) e, if_neg (hg.p i hi)]
theorem rdF (hb : b.length = 492) (hg : fW b) {i : Nat} (hi : i < 12) : aC Fi.dcd Fi.noP (ff b) cQ 0 [] (2, (i : Int)) = (((fAt b i).1, (fAt b i).2), []) := by
 have e : Fi.dcd (got (ff b) cQ (0, 192 + 8 * i, 8)) = ((fAt b i).1, (fAt b i).2) := by rw [got1 hb (by omega)]; rfl
 rw [aF (by simp) (wher2 hi) e, if_neg (hg.f i hi)]
theorem rdR (hb : b.length = 492) (hg : fW b) {i : Nat} (hi : i < 4) : aC Ri.dcd Ri.noP (ff b) cQ 0 [] (3, (i : Int)) = (((rAt b i).1, (rAt b i).2), []) := by
 have e : Ri.dcd (got (ff b) cQ (0, 288 + 40 * i, 40)) = ((rAt b i).1, (rAt b i).2) := by rw [got1 hb (by omega)]; rfl
 rw [aF (by simp) (wher3 hi) e, if_neg (hg.r i hi)]
end
def there {α : Type} (g : Nat → α × Int) : Nat → List (Nat × α)
 | 0 => []
 | k + 1 => if (g k).2 = 1 then there g k ++ [(k, (g k).1)] else there g k
theorem bZ {α : Type} {g : Nat → α × Int} {x : Nat × α} : ∀ {n : Nat}, x ∈ there g n ↔ x.1 < n ∧ (g x.1).2 = 1 ∧ (g x.1).1 = x.2
 | 0 => by simp [there]
 | n + 1 => by
  have ih := bZ (g := g) (x := x) (n := n)
  unfold there
  split
  ·rename_i h
   rw [List.mem_append, ih, List.mem_singleton]
   constructor
   ·rintro (⟨h1, h2⟩ | rfl)
    ·exact ⟨by omega, h2⟩
    ·exact ⟨by simp, h, rfl⟩
   ·rintro ⟨h1, h2, h3⟩
    by_cases e : x.1 = n
    ·right
     subst e
     rw [h3]
    ·exact .inl ⟨by omega, h2, h3⟩
  ·rename_i h
   rw [ih]
   constructor
   ·rintro ⟨h1, h2⟩; exact ⟨by omega, h2⟩
   ·rintro ⟨h1, h2, h3⟩
    refine ⟨?_, h2, h3⟩
    by_cases e : x.1 = n
    ·subst e; exact absurd h2 h
    ·omega
theorem dP {α : Type} (g : Nat → α × Int) : ∀ n, (there g n).length ≤ n
 | 0 => Nat.le_refl _
 | n + 1 => by
  have ih := dP g n
  unfold there
  split
  ·rw [List.length_append]; simp; omega
  ·omega
end Go.Proofs.YtgcikpgcoemfnaaGreat.Au
namespace Go.Proofs.YtgcikpgcoemfnaaGreat
open Go.RowKit Co
theorem flatSp : cS 121 2 (ab [0, 0]) := ⟨⟨_, Tryz.underlying121, rfl⟩, by kernel_rfl, fun W => by go_simp; rfl, rfl⟩
section
variable {w w' : World} {q m mr s B n : Nat} {p r : Nat → Nat} {A : Option Addr} {cap : Nat} {xs : List UInt8} {T : St} {L : List Rf} {K : Kn}
theorem regs_is (h : aK w K) : Calls Tryz.prog 18 #[.pointer (some ⟨K.k, 0, none⟩)] w fun e w' => e = .returned (.pointer (some ⟨K.q, 0, none⟩)) ∧ w = w' := by
 have hc := h.obj.cell 5
 simp only [List.getElem?_cons_succ, List.getElem?_cons_zero] at hc
 clear h
 go_enter Tryz.func18, Tryz.ntmps18
 go_wp2
 go_ret
 exact ⟨rfl, rfl⟩
theorem raw_is (h : Reg w q m mr s B n p r A cap xs T L) (k lo len : Nat) (hk : L[k]? = some ((lo : Int), (len : Int))) (ys : List UInt8) (hy : (xs.drop lo).take len = ys) :
  Calls Tryz.prog 21 #[.pointer (some ⟨q, 0, none⟩), .int .i64 k] w (iu ys w) := by
 have hlt : k < L.length := (List.getElem?_eq_some_iff.1 hk).1
 have hle := h.le
 have hin := h.ok _ (List.mem_of_getElem? hk)
 dsimp only at hin
 obtain ⟨b, off, hA, hcl⟩ := h.row.reads.lit (show 0 < L.length * 2 by omega)
 have hM : w.rangeAt b (off + k * 2) (ab [(lo : Int), (len : Int)]) := fun j v hv => by
  have hj : j < 2 := (List.getElem?_eq_some_iff.1 hv).1
  rw [Nat.add_assoc]
  exact hcl (k * 2 + j) v (by rw [fK hk hj]; exact hv)
 have HHas := aa (jZ h (k : Int) true (by simp; omega))
 have HLd := aa (fun W (hW : Keep Nob w W) => load_yes m mr lo len xs W (h.mem.keep hW (fun f => f) (fun f => f)) (by omega))
 have hl : ((xs.drop lo).take len).length = len := by simp; omega
 rw [hy] at hl
 rw [hy] at HLd
 have HL := aa hl
 have HM := aa hM
 have HO := aa h.obj
 have HC := aa (ai (n := 2) (l := [(lo : Int), (len : Int)]) rfl)
 have HC0 := aa (ai (n := 2) (l := [0, 0]) rfl)
 have c2 : w.cell? ⟨q, 2, none⟩ = some (.slice A L.length cap) := h.obj.cell 2
 subst hA
 clear hl hM hcl hin hk h hy
 go_enter Tryz.func21, Tryz.ntmps21
 go_wp2_with fail
 refine HHas.out.mono ?_; rintro e w1 ⟨rfl, rfl⟩
 go_upto_region 4 with (first
  | (refine wpList_load_mid rfl 121 _ rfl b (off + k * 2) rfl (ab [(lo : Int), (len : Int)]) _ HM.out Tryz.underlying121 rfl (by rw [HC.out.len]; exact flatSp.i) ?_)
  | (refine flatSp.wpList_al rfl rfl ?_; intro w3 hb3 hk3 hs3; clear hs3)
  | (refine flatSp.wpList_st rfl rfl rfl rfl HC.out HC0.out hb3 ?_; intro w4 hb4 hk4 hs4; clear hs4))
 have K4 := aa (show Keep Nob w w4 from hk3.trans hk4 (fun x hx e => by omega))
 have q0 : w4.cell? ⟨q, 0, none⟩ = some (.pointer (some ⟨m, 0, none⟩)) := ((HO.out.nob K4.out).cell 0)
 have s0 : w4.cell? ⟨w.heap.size, 0, none⟩ = some (.int .i64 lo) := hb4.cell 0
 have s1 : w4.cell? ⟨w.heap.size, 1, none⟩ = some (.int .i64 len) := hb4.cell 1
 have HLd4 := aa (fun W (k5 : Keep Nob w4 W) => HLd.out W (K4.out.nobt k5))
 have HBs := aa hb4
 generalize w.heap.size = gs at *
 clear hb3 hk3 hb4 hk4 c2
 have kd := Keep.nobdrew w4
 have hcl := HLd4.out w4.drew kd
 have s0 : w4.drew.cell? ⟨q, 0, none⟩ = some (.pointer (some ⟨m, 0, none⟩)) ∧ w4.drew.cell? ⟨gs, 0, none⟩ = some (.int .i64 lo) ∧ w4.drew.cell? ⟨gs, 1, none⟩ = some (.int .i64 len) := ⟨q0, s0, s1⟩
 have HQ := aa (show ∀ W, Keep Nob w4 W → W.cell? ⟨q, 0, none⟩ = some (.pointer (some ⟨m, 0, none⟩)) ∧ W.cell? ⟨gs, 0, none⟩ = some (.int .i64 lo) ∧ W.cell? ⟨gs, 1, none⟩ = some (.int .i64 len) from fun W k => ⟨((HO.out.nob K4.out).nob k).cell 0, (HBs.out.nob k).cell 0, (HBs.out.nob k).cell 1⟩)
 clear q0 s1
 go_region_held3 (fun w' => w'.cell? ⟨q, 0, none⟩ = some (.pointer (some ⟨m, 0, none⟩)) ∧ w'.cell? ⟨gs, 0, none⟩ = some (.int .i64 lo) ∧ w'.cell? ⟨gs, 1, none⟩ = some (.int .i64 len))
  (first | exact s0 | exact HQ.out _ kx)
  (first | (go_at_call 65; refine hcl.mono ?_; rintro e w8 ⟨g, rfl, hb8, hg8, k8⟩; have kx := kd.trans k8 (fun _ _ f => f)))
 all_goals (go_wp2; go_ret2)
 all_goals (exact ⟨g, by rw [HL.out]; rfl, hb8, Nat.le_trans K4.out.size (Nat.le_trans (by simp) hg8), K4.out.nobt kx⟩)
end
end Go.Proofs.YtgcikpgcoemfnaaGreat
namespace Go.Proofs.YtgcikpgcoemfnaaGreat.Au
open Go.RowKit
open Co (Src Link Cm Kc Ct)
structure Bt1 (b : Bt) : Prop where
 frames : b.frames = [8]
 envs : b.envs = [0]
 sects : b.sects = []
 lease : b.lease = 1
 shared : ∃ s, b.shared = [s] ∧ s.ses = 0 ∧ s.frame = 0 ∧ s.lo = 0 ∧ s.n = 492 ∧ s.tos = [0]
def caps1 : List Cp := [⟨0, 3, 0, 492, (0, 0)⟩]
section
variable {b : Bt}
theorem Bt1.ok (h : Bt1 b) : BtOk b [8] := by
 obtain ⟨s, hs, h1, h2, h3, h4, h5⟩ := h.shared
 refine ⟨by rw [h.frames]; rfl, by rw [h.frames]; decide, by rw [h.frames]; decide, by rw [h.envs]; decide, by rw [h.sects]; decide, by rw [hs]; simp, by rw [h.lease]; decide, by rw [h.lease]; decide, fun x hx => ?_, fun s hs => (by rw [h.sects] at hs; cases hs), fun s' hs' => ?_⟩
 ·rw [h.envs] at hx
  rw [h.frames]
  obtain rfl := List.mem_singleton.1 hx
  decide
 ·rw [hs] at hs'
  obtain rfl := List.mem_singleton.1 hs'
  unfold ShOk
  rw [h1, h2, h3, h4, h5]
  exact ⟨by decide, by decide, by decide, by decide, by decide, by decide, by decide, fun x hx => by obtain rfl := List.mem_singleton.1 hx; decide, by decide⟩
theorem Bt1.cs (h : Bt1 b) : bw b.envs b.shared b.shared.length 0 = caps1 := by
 obtain ⟨s, hs, h1, h2, h3, h4, h5⟩ := h.shared
 rw [Pn.jD (by rw [h.envs]; decide) _ (Nat.le_refl _), List.take_length, h.envs, hs]
 simp [Pn.eR, caps1, h4, h5]
theorem Bt1.spans (h : Bt1 b) : b.shared.map (au [8]) = [(0, 492)] := by
 obtain ⟨s, hs, h1, h2, h3, h4, h5⟩ := h.shared
 rw [hs]
 simp [au, Qu.first, h1, h2, h3, h4]
end
structure G1 (T : St) (n : Nat) (L : List Rf) : Prop where
 n1 : n = 1
 cs : ∃ cs : Nat → List Cp, T = tOf cs ∧ cs 0 = caps1
 spans : L = [(0, 492)]
section
variable {T : St} {n : Nat} {L : List Rf}
theorem G1.of {b : Bt} (h : Bt1 b) (hn : n = b.envs.length) (hT : T = tOf (bw b.envs b.shared b.shared.length)) (hL : L = b.shared.map (au [8])) : G1 T n L :=
 ⟨by rw [hn, h.envs]; rfl, ⟨_, hT, h.cs⟩, by rw [hL, h.spans]⟩
theorem G1.has (h : G1 T n L) : Has T n (((0 : Nat) : Int), ((0 : Nat) : Int) + 256) ⟨0, 3, 0, 492, (0, 0)⟩ := by
 obtain ⟨cs, hT, hc⟩ := h.cs
 have h32 : ∀ e, e < n → (cs e).length ≤ 32 := fun e he => by
  obtain rfl : e = 0 := by have := h.n1; omega
  rw [hc]; decide
 rw [hT]
 exact (row_has h32 _ _).2 ⟨0, 0, by rw [h.n1]; decide, rfl, by rw [hc]; rfl⟩
theorem G1.reach (h : G1 T n L) {right : Int} (hr : right = 1 ∨ right = 2) {at_ k : Nat} (hin : at_ + k ≤ 492) : bo T n L 0 256 right at_ k ((0 + at_ : Nat) : Int) 0 := by
 have hh := h.has
 have hb : ∀ x : Int, x = 3 → (bits .and .i64 x right == 0) = false := fun x hx => by subst hx; rcases hr with rfl | rfl <;> decide
 rw [h.spans]
 exact bo.yes _ (0, 492) _ hh (hb _ rfl) ⟨by omega, by omega, by dsimp only; omega, by dsimp only; omega, rfl, by dsimp only; omega⟩ (by dsimp only; omega)
theorem G1.names (h : G1 T n L) : names ((T 0).map Q.pl) (T 0).length = 256 :: [] := by
 obtain ⟨cs, hT, hc⟩ := h.cs
 have e : T 0 = el caps1 := by rw [hT]; show el (cs 0) = _; rw [hc]
 rw [e, Pn.names_pl _ (by decide)]
 rfl
end
theorem G1.link {K : Kn} {C : Cm} (h : G1 K.T K.envs.length K.L) (he : C.env = 0) (hn : C.name = 256) (hb : C.brs = []) : Link K C cQ := by
 refine ⟨by rw [h.n1, he]; decide, fun j b at_ k hj hs right hr hin => ?_, fun j _ _ _ hs => by cases hs⟩
 rw [hb] at hj
 obtain rfl : j = 0 := by simpa using hj
 cases hs
 rw [if_pos rfl] at hin
 rw [he, show C.nm 0 = 256 from hn]
 exact h.reach hr hin
end Go.Proofs.YtgcikpgcoemfnaaGreat.Au
namespace Go.Proofs.YtgcikpgcoemfnaaGreat.Au
open Go.RowKit
open Co (Src Link Cm Kc Ct)
structure Over (w W : World) (K : Kn) (C : Cm) (b : List UInt8) (bad : List Rf) : Prop where
 op : Pn.Op0 w W K C cQ
 xs : K.xs = ff b
 env : C.env = 0
 brs : C.brs = []
 bad : C.bad = bad
theorem over_is {w : World} (A : Option Addr) (c : Nat) (b : List UInt8) (hb : ae w A 492 (bytes b)) (hl : b.length = 492) :
  Calls Tryz.prog 236 #[.slice A 492 c] w fun e w' => ∃ K C, e = .returned (.pointer (some ⟨C.p, 0, none⟩)) ∧ Over w w' K C b [] := by
 have k0 := ((((Keep.refl Nob w).alloc (.cells #[.int .i64 8] 3)).alloc (.cells #[.int .i64 0] 3)).alloc (.cells #[.int .i64 0] 3)).alloc (.cells #[.int .i64 0, .int .i64 0, .int .i64 0, .int .i64 492, .slice (some ⟨w.heap.size + 1 + 1, 0, none⟩) 1 1] 230)
 have r0 : ae ((((w.alloc (.cells #[.int .i64 8] 3)).alloc (.cells #[.int .i64 0] 3)).alloc (.cells #[.int .i64 0] 3)).alloc (.cells #[.int .i64 0, .int .i64 0, .int .i64 0, .int .i64 492, .slice (some ⟨w.heap.size + 1 + 1, 0, none⟩) 1 1] 230)) (some ⟨w.heap.size, 0, none⟩) 1 (ab [8]) := aj ((((Blk.new w 3 [.int .i64 8]).alloc _).alloc _).alloc _) rfl
 have r1 : ae ((((w.alloc (.cells #[.int .i64 8] 3)).alloc (.cells #[.int .i64 0] 3)).alloc (.cells #[.int .i64 0] 3)).alloc (.cells #[.int .i64 0, .int .i64 0, .int .i64 0, .int .i64 492, .slice (some ⟨w.heap.size + 1 + 1, 0, none⟩) 1 1] 230)) (some ⟨w.heap.size + 1, 0, none⟩) 1 (ab [0]) := by
  have := aj (n := 1) (((Blk.new (w.alloc (.cells #[.int .i64 8] 3)) 3 [.int .i64 0]).alloc (.cells #[.int .i64 0] 3)).alloc (.cells #[.int .i64 0, .int .i64 0, .int .i64 0, .int .i64 492, .slice (some ⟨w.heap.size + 1 + 1, 0, none⟩) 1 1] 230)) rfl
  simp at this
  exact this
 have r2 : ae ((((w.alloc (.cells #[.int .i64 8] 3)).alloc (.cells #[.int .i64 0] 3)).alloc (.cells #[.int .i64 0] 3)).alloc (.cells #[.int .i64 0, .int .i64 0, .int .i64 0, .int .i64 492, .slice (some ⟨w.heap.size + 1 + 1, 0, none⟩) 1 1] 230)) (some ⟨w.heap.size + 1 + 1, 0, none⟩) 1 (ab [0]) := by
  have := aj (n := 1) ((Blk.new ((w.alloc (.cells #[.int .i64 8] 3)).alloc (.cells #[.int .i64 0] 3)) 3 [.int .i64 0]).alloc (.cells #[.int .i64 0, .int .i64 0, .int .i64 0, .int .i64 492, .slice (some ⟨w.heap.size + 1 + 1, 0, none⟩) 1 1] 230)) rfl
  simp at this
  exact this
 have r3 : ae ((((w.alloc (.cells #[.int .i64 8] 3)).alloc (.cells #[.int .i64 0] 3)).alloc (.cells #[.int .i64 0] 3)).alloc (.cells #[.int .i64 0, .int .i64 0, .int .i64 0, .int .i64 492, .slice (some ⟨w.heap.size + 1 + 1, 0, none⟩) 1 1] 230)) (some ⟨w.heap.size + 1 + 1 + 1, 0, none⟩) 5 [.int .i64 0, .int .i64 0, .int .i64 0, .int .i64 492, .slice (some ⟨w.heap.size + 1 + 1, 0, none⟩) 1 1] := by
  have := aj (n := 5) (Blk.new (((w.alloc (.cells #[.int .i64 8] 3)).alloc (.cells #[.int .i64 0] 3)).alloc (.cells #[.int .i64 0] 3)) 230 [.int .i64 0, .int .i64 0, .int .i64 0, .int .i64 492, .slice (some ⟨w.heap.size + 1 + 1, 0, none⟩) 1 1]) rfl
  simp at this
  exact this
 have hI : IsBt ((((w.alloc (.cells #[.int .i64 8] 3)).alloc (.cells #[.int .i64 0] 3)).alloc (.cells #[.int .i64 0] 3)).alloc (.cells #[.int .i64 0, .int .i64 0, .int .i64 0, .int .i64 492, .slice (some ⟨w.heap.size + 1 + 1, 0, none⟩) 1 1] 230)) ⟨[8], some ⟨w.heap.size, 0, none⟩, 1, [0], some ⟨w.heap.size + 1, 0, none⟩, 1, [], none, 0, 1, [⟨0, 0, 0, 492, some ⟨w.heap.size + 1 + 1, 0, none⟩, 1, [0]⟩], some ⟨w.heap.size + 1 + 1 + 1, 0, none⟩, 1⟩ :=
  ⟨r0, Nat.le_refl _, r1, ae.nil_ _ _, fun s hs => (by cases hs), r3, fun s hs => (by obtain rfl := List.mem_singleton.1 hs; exact r2)⟩
 have h1 : Bt1 ⟨[8], some ⟨w.heap.size, 0, none⟩, 1, [0], some ⟨w.heap.size + 1, 0, none⟩, 1, [], none, 0, 1, [⟨0, 0, 0, 492, some ⟨w.heap.size + 1 + 1, 0, none⟩, 1, [0]⟩], some ⟨w.heap.size + 1 + 1 + 1, 0, none⟩, 1⟩ :=
  ⟨rfl, rfl, rfl, rfl, _, rfl, rfl, rfl, rfl, rfl, rfl⟩
 have hnew := knew_is hI h1.ok
 unfold Bt.val at hnew
 have HR := aa (hb.nob k0)
 have K0 := aa k0
 have H1 := aa h1
 clear k0 r0 r1 r2 r3 hI h1 hb
 go_enter Tryz.func236, Tryz.ntmps236
 go_wp2_with fail
 refine hnew.mono ?_; rintro e w1 ⟨K, rfl, hK, hBo⟩
 have hg : G1 K.T K.envs.length K.L := G1.of H1.out (by rw [hBo.envs]) hBo.T hBo.L
 have hxs : K.xs = br 8 := hBo.xs
 have hsp := iQ hK.is
 have hnm := lx hK.is.reg.sp (e := 0) (by rw [hg.n1]; decide)
 rw [hg.names] at hnm
 have HG := aa (And.intro hg hxs)
 have HK := aa hK
 have HR1 := aa (HR.out.nob hK.keep)
 have HK1 := aa (K0.out.nobt hK.keep)
 have HM := aa (show ∀ x, Mine K x → w.heap.size ≤ x from fun x m => Nat.le_trans K0.out.size (hK.mine x m))
 clear hnew hK hBo hg hxs HR K0
 go_wp2_with fail
 refine hsp.mono ?_; rintro e w2 ⟨rfl, rfl⟩
 go_wp2_with fail
 refine hnm.mono ?_; rintro e w3 ⟨B, cB, rfl, hv, k3, hfr⟩
 obtain ⟨g, cur, rfl, hB, _, _, ht⟩ := hv.at_ (by simp)
 have hrd := hv.reads
 have z0 : w3.cell? ⟨g, 0, none⟩ = some (.int .i64 256) := by
  obtain ⟨ad, e1, e2⟩ := hrd.2 (by simp)
  cases e1
  exact e2 0 _ rfl
 have hre : bo K.T K.envs.length K.L 0 256 2 ((0 : Nat) : Int) (492 : Nat) ((0 + 0 : Nat) : Int) 0 := HG.out.1.reach (.inr rfl) (by decide)
 have hw : Calls Tryz.prog 30 #[.pointer (some ⟨K.k, 0, none⟩), .int .i64 0, fq 2 256 0 0 0 0 A 492 c] w3 fun e w' => e = .returned (.agg #[.int .i64 0, .int .i64 0, .slice none 0 0]) ∧ To w3 K { K with xs := ff b } w' :=
  k_write (HK.out.is.nob k3) 0 (by rw [HG.out.1.n1]; decide) 256 0 0 0 0 A 492 c 0 b hre (HR1.out.nob k3) (ff b) (by rw [HG.out.2]; rfl)
 unfold fq at hw
 have K3 := aa (HK1.out.nobt k3)
 clear hv k3 hB ht hrd hnm hsp hre hfr
 go_wp2_with fail
 refine hw.mono ?_; rintro e w4 ⟨rfl, t⟩
 have hnew2 := Co.cnew_is t.is 0 (by rw [HG.out.1.n1]; decide) 256 [] HG.out.1.names (by decide)
 have HT := aa t
 clear hw t z0
 go_wp2_with fail
 refine hnew2.mono ?_; rintro e w5 ⟨C, rfl, hC⟩
 have hlk : Link { K with xs := ff b } C cQ := HG.out.1.link (K := { K with xs := ff b }) hC.env hC.name hC.brs
 have hlt : ∀ x, Mine { K with xs := ff b } x → x < w4.heap.size := fun x m => HT.out.is.mine_lt x m
 have kc : Kc w5 { K with xs := ff b } C cQ := ⟨HT.out.is.nob hC.keep, hC.is, hlk, fun h0 ad e m => by have := hC.a ad e; have := hlt _ m; omega⟩
 have s1 := HK1.out.size
 have s3 := K3.out.size
 have s4 := HT.out.keep.size
 have kk : Keep (bT w.heap.size) w w5 := ((K3.out.mono (fun _ _ f => f.elim)).trans HT.out.keep (fun x _ m => HM.out x (.inl m))).nob hC.keep
 have FIN := aa (show Over w w5 { K with xs := ff b } C b [] from ⟨⟨kc, fun x m => HM.out x m, by have := hC.b; omega, kk⟩, rfl, hC.env, hC.brs, hC.bad⟩)
 clear hnew2 hC hlk hlt kc kk s1 s3 s4
 go_wp2
 go_ret
 exact ⟨_, C, rfl, FIN.out⟩
end Go.Proofs.YtgcikpgcoemfnaaGreat.Au
namespace Go.Proofs.YtgcikpgcoemfnaaGreat.Co
open Go.RowKit Go.MapKept
theorem infoRec : (Tryz.prog.info? 57).map (fun i => (i.zero, i.size, i.bytes)) = some (some (.agg #[.int .i64 0, .int .i64 0]), 2, 16) := by kernel_rfl
theorem bad_is {w : World} {k : Nat} {C : Cm} (h : IsCm w k C) :
  Calls Tryz.prog 22 #[.pointer (some ⟨C.p, 0, none⟩)] w fun e w' => ∃ A cap, e = .returned (.slice A C.bad.length cap) ∧ Vec w' 57 2 A C.bad.length cap (cU C.bad) ∧ Keep Nob w w' := by
 obtain ⟨F, hF', hperm⟩ := h.map
 have hF : MapIs Tryz.prog 57 w C.b (fT F) := hF'
 clear hF'
 have hFl : F.length ≤ 57 := by rw [hperm.length_eq]; exact bad_le h
 have hFs : (fT F).length = F.length := by simp [fT]
 have HFs := aa hFs
 have c4 : w.cell? ⟨C.p, 4, none⟩ = some (.map (some C.b)) := h.obj.cell 4
 have hsrt := h.srt
 have hfin : ∀ U : List Rf, U.Perm F → U.Pairwise (fun a b => ¬ ltR b a) → U = C.bad := fun U hU hs => by
  have hUp := hU.trans hperm
  refine sorted_eq hUp ?_ hsrt
  have hnd : U.Nodup := hUp.nodup_iff.2 (jb hsrt)
  refine (List.Pairwise.and hs hnd).imp (fun {a b} hab => ?_)
  rcases ltR_tri a b with h1 | h1 | h1
  ·exact h1
  ·exact absurd h1 hab.2
  ·exact absurd h1 hab.1
 have HFin := aa hfin
 have hobj := h.obj
 generalize C.b = bf at *
 generalize hcp : C.p = cp at *
 clear hFs h hfin hsrt hperm
 have hc4 : ∀ W, Keep Nob w W → W.cell? ⟨cp, 4, none⟩ = some (.map (some bf)) := fun W kk => (hobj.nob kk).cell 4
 clear hobj
 go_enter Tryz.func22, Tryz.ntmps22
 go_wp2_with (first
  | (at_len; go_loud (refine lF rfl _ 127 rfl 57 197 Tryz.underlying127 rfl hF ?_); go_loud (rw [HFs.out]))
  | (refine wpList_mk0 rfl _ _ 54 rfl 57 (.agg #[.int .i64 0, .int .i64 0]) 16 Tryz.underlying54 infoRec .i64 .i64 F.length _ rfl rfl rfl (by omega) (by unfold maxLen; omega) ?_; intro w3 hV3 hk5; have hF3 := hF.nob hk5; have c43 := hc4 _ hk5)
  | (at_range; refine jO rfl 127 _ rfl 57 197 Tryz.underlying127 rfl hF3 ?_; intro w4 hR4 hk6 hs6))
 have hV4 := hV3.nob hk6
 have hlt3 := hV3.lt w.heap.size ⟨_, rfl, rfl⟩
 have k6 := hk5.nobt hk6
 clear c4 c43 hc4
 go_frame
 go_loopw [3] (fun s11 wx => ∃ acc left g cap, s11 = .slice (some ⟨g, 0, none⟩) acc.length cap ∧ Vec wx 57 2 (some ⟨g, 0, none⟩) acc.length cap (cU acc) ∧ aQ Tryz.prog 57 wx bf w3.heap.size (fT F) left ∧ (fT acc ++ left).Perm (fT F) ∧ Keep Nob w wx ∧ w.heap.size ≤ g) (fun _ wx => wx.rangeLeft bf w3.heap.size)
 case atStart => exact ⟨[], fT F, _, _, rfl, hV4, hR4, List.Perm.refl _, k6, Nat.le_refl _⟩
 case round =>
  obtain ⟨acc, left, g, cap, rfl, hV, hR, hp, hK, hA⟩ := hrel
  have hshape : ∀ p ∈ left, ∃ ρ : Rf, p = (eA ρ, .agg #[]) := by
   intro p hp'
   have h1 : p ∈ fT F := hp.mem_iff.1 (List.mem_append.2 (.inr hp'))
   obtain ⟨ρ, _, e⟩ := List.mem_map.1 h1
   exact ⟨ρ, e.symm⟩
  have hlen := hp.length_eq
  rw [List.length_append] at hlen
  have hal : acc.length ≤ 57 := by
   have h1 : (fT acc).length = acc.length := by simp [fT]
   have h2 := HFs.out
   omega
  have Hp := aa hp
  have hneR := hR.ne_own hV
  clear hp hlen
  go_wp2_with (first
   | (at_next; refine lA rfl _ rfl 57 rfl hR hshape (fun hl0 => ?_) (fun ρ left' w5 hpl hR5 hk7 hs7 hen => ?_) <;> (try clear hs7))
   | (at_builtin; go_loud (refine aN rfl _ _ 54 rfl 57 2 16 (.agg #[.int .i64 0, .int .i64 0]) Tryz.underlying54 infoRec rfl (by decide) (some ⟨g, 0, none⟩) acc.length cap _ rfl (((hV.keep hk7 (fun g ho e => hneR (e ▸ ho))).nob ((Keep.refl Nob w5).alloc (.cells #[.int .i64 ρ.1, .int .i64 ρ.2] 57))).nob ((Keep.refl Nob _).alloc (.cells #[.int .i64 ρ.1, .int .i64 ρ.2] 57))) (some ⟨w5.heap.size + 1, 0, none⟩) 1 1 [.int .i64 ρ.1, .int .i64 ρ.2] rfl 2 rfl (aj (t := 57) (by have h5 := Blk.new (w5.alloc (.cells #[.int .i64 ρ.1, .int .i64 ρ.2] 57)) 57 [.int .i64 ρ.1, .int .i64 ρ.2]; simpa using h5) rfl) (by simp [Value.oneCell']) (by unfold maxLen; omega) (by omega) ?_); intro A2 c2 w6 hv2 hk8 ho2))
  ·subst hl0
   have hpf : acc.Perm F := setM_perm (by have := Hp.out; rwa [List.append_nil] at this)
   refine (sort_is hV (by omega)).mono ?_; rintro e w7 ⟨rfl, U, hU1, hU2, hU3, hk9⟩
   obtain rfl := HFin.out U (hU1.trans hpf) hU2
   have hUl := hU1.length_eq
   have K9 := hK.trans hk9 (fun b hb e => by omega)
   have HUl := aa hUl
   clear hUl
   go_wp2
   go_ret
   exact ⟨_, cap, by rw [HUl.out]; rfl, by rw [HUl.out]; exact hU3, K9⟩
  ·have hR6 := (hR5.keep (((Keep.refl Nob w5).alloc (.cells #[.int .i64 ρ.1, .int .i64 ρ.2] 57)).alloc (.cells #[.int .i64 ρ.1, .int .i64 ρ.2] 57)) (fun f => f) (fun f => f)).keep hk8 (hR.is.ne_own hV) hneR
   have hl := hpl.length_eq
   have hlt7 := hR5.is.lt
   have hlr := hR.lt
   have hws := hK.size
   have hkk := hk7.size
   have hw3 := hk5.size
   have K6 := (((hK.trans hk7 (fun b hb e => by omega)).alloc (.cells #[.int .i64 ρ.1, .int .i64 ρ.2] 57)).alloc (.cells #[.int .i64 ρ.1, .int .i64 ρ.2] 57)).trans hk8 (fun b hb ⟨a, ha, hb2⟩ => by cases ha; simp at hb2; omega)
   obtain ⟨g2, _, hA2, _⟩ := hv2.at_ (Nat.succ_pos _)
   subst hA2
   have hg2 : w.heap.size ≤ g2 := by
    rcases ho2 g2 ⟨_, rfl, rfl⟩ with ⟨a, ha, hb2⟩ | h1
    ·cases ha; simp at hb2; omega
    ·rw [h1]; simp; omega
   have hp6 : (fT (acc ++ [ρ]) ++ left').Perm (fT F) := by
    rw [setM_add, List.append_assoc]
    exact (hpl.symm.append_left _).trans Hp.out
   have hv6 : Vec w6 57 2 (some ⟨g2, 0, none⟩) (acc.length + 1) c2 (cU (acc ++ [ρ])) := by rw [jJ]; exact hv2
   refine ⟨⟨acc ++ [ρ], left', g2, c2, by simp, by rw [List.length_append]; exact hv6, hR6, hp6, K6, hg2⟩, ?_⟩
   rw [hR6.left_eq, hR.left_eq]
   simp at hl
   omega
end Go.Proofs.YtgcikpgcoemfnaaGreat.Co
namespace Go.Proofs.YtgcikpgcoemfnaaGreat.Au
open Go.RowKit Co
theorem looked_is {w : World} (A : Option Addr) (c : Nat) (b : List UInt8) (hb : ae w A 492 (bytes b)) (hl : b.length = 492) :
  Calls Tryz.prog 140 #[.slice A 492 c] w fun e w' => ∃ K C B cap, e = .returned (.tuple #[.pointer (some ⟨C.p, 0, none⟩), .slice B (fv b).length cap]) ∧ Over w w' K C b (fv b) ∧ Vec w' 57 2 B (fv b).length cap (cU (fv b)) := by
 have hov := over_is A c b hb hl
 clear hb
 go_enter Tryz.func140, Tryz.ntmps140
 go_wp2_with fail
 refine hov.mono ?_; rintro e w1 ⟨K, C, rfl, O⟩
 have hlk := Co.look_is O.op.kc (fv b) (by rw [O.xs, O.brs, O.bad]; exact look1 hl)
 have HO := aa O
 clear hov O
 go_wp2_with fail
 refine hlk.mono ?_; rintro e w2 ⟨rfl, t⟩
 have O2 := aa (show Over w w2 K { C with bad := fv b } b (fv b) from ⟨HO.out.op.ct t rfl, HO.out.xs, HO.out.env, HO.out.brs, rfl⟩)
 have hbd := Co.bad_is O2.out.op.kc.c
 dsimp only at hbd
 clear hlk t
 go_wp2_with fail
 refine hbd.mono ?_; rintro e w3 ⟨B, cap, rfl, hv, k3⟩
 have O3 := aa (show Over w w3 K { C with bad := fv b } b (fv b) from ⟨O2.out.op.nob k3, O2.out.xs, O2.out.env, O2.out.brs, rfl⟩)
 have HV := aa hv
 clear hbd hv k3
 go_wp2
 go_ret2
 exact ⟨K, { C with bad := fv b }, B, cap, rfl, O3.out, HV.out⟩
theorem looked_no {w : World} (A : Option Addr) (n c : Nat) (hn : n ≠ 492) :
  Calls Tryz.prog 140 #[.slice A n c] w fun e w' => e = .returned (.tuple #[.pointer none, .slice (some ⟨w.heap.size, 0, none⟩) 1 1]) ∧ Blk w' w.heap.size 57 [.int .i64 0, .int .i64 0] ∧ Keep Nob w w' := by
 have h1 : ¬ ((n : Int) = 492) := by omega
 have hb := Blk.new w 57 [.int .i64 0, .int .i64 0]
 have k := (Keep.refl Nob w).alloc (.cells #[.int .i64 0, .int .i64 0] 57)
 have F := aa (And.intro hb k)
 clear hb k
 go_enter Tryz.func140, Tryz.ntmps140
 go_wp2
 go_ret2
 exact ⟨rfl, F.out⟩
end Go.Proofs.YtgcikpgcoemfnaaGreat.Au
