/- The Boot that the statements of layer 8 make of numbers: what it is, and that it is good. -/
import Derived.Test.YtompckcnpidbdaaGreatKrn5
import Derived.Deep.RegionLaw
namespace Go.Proofs.YtompckcnpidbdaaGreat
open Go.RowKit
set_option linter.unusedVariables false
set_option linter.unusedSimpArgs false
/-- What next stands on: how many numbers it has told, and the list of numbers. -/
structure Nx (w W : World) (ab lb : Nat) (A : Option Addr) (n c : Nat) (xs : List Int) (k : Nat) : Prop where
  a : Blk W ab 3 [.int .i64 k]
  l : Blk W lb 27 [.slice A n c]
  r : Reads w A n (ints xs)
  keep : Keep (From w.heap.size) w W
  lo : w.heap.size ≤ ab
section
variable {w W W' : World} {ab lb : Nat} {A : Option Addr} {n c : Nat} {xs : List Int} {k : Nat}
theorem Nx.nob (h : Nx w W ab lb A n c xs k) (kk : Keep Nob W W') : Nx w W' ab lb A n c xs k := ⟨h.a.nob kk, h.l.nob kk, h.r, h.keep.nob kk, h.lo⟩
set_option maxHeartbeats 1000000 in
theorem next_is (h : Nx w W ab lb A n c xs k) (hk : k ≤ 1000) (m : Int) (h1 : 1 ≤ m) (h2 : m ≤ 1000000) :
    Calls Tryz.prog 43 #[.int .i64 m, .pointer (some ⟨ab, 0, none⟩), .pointer (some ⟨lb, 0, none⟩)] W fun e w' => ∃ v, e = .returned (.int .i64 v) ∧ 0 ≤ v ∧ v < m ∧ Nx w w' ab lb A n c xs (k + 1) ∧ Keep (· = ab) W w' := by
  have c0 := h.a.cell 0
  have f0 := h.a.frozen 0
  have hne := h.l.ne_ h.a (by decide)
  have kA : Keep (fun b => b = ab) W (W.setCell ⟨ab, 0, none⟩ (.int .i64 ((k : Int) + 1))) := (Keep.refl _ _).setCell _ _ (fun _ => rfl)
  have a2 : Blk (W.setCell ⟨ab, 0, none⟩ (.int .i64 ((k : Int) + 1))) ab 3 [.int .i64 ((k + 1 : Nat) : Int)] := by
    have := h.a.setCell 0 (.int .i64 ((k : Int) + 1))
    simpa using this
  have l2 := h.l.keep kA hne
  have K2 := h.keep.at_ kA h.lo
  have fin : Nx w (W.setCell ⟨ab, 0, none⟩ (.int .i64 ((k : Int) + 1))) ab lb A n c xs (k + 1) := ⟨a2, l2, h.r, K2, h.lo⟩
  have hr := h.r.from_ K2
  have hlx : xs.length = n := by have := h.r.1; rwa [ints_len] at this
  have d0 := l2.cell 0
  simp only [List.getElem?_cons_zero] at c0 d0
  have FI := Lib.hid (And.intro fin kA)
  clear fin kA a2 l2 K2 h
  by_cases hgt : (n : Int) < (k : Int) + 1
  · go_enter Tryz.func43, Tryz.ntmps43
    go_wp2
    go_ret
    exact ⟨_, rfl, Int.emod_nonneg _ (by omega), Int.emod_lt_of_pos _ (by omega), FI.out.1, FI.out.2⟩
  · have hkn : k < n := by omega
    obtain ⟨b, off, hA, hcl⟩ := hr.lit (by omega)
    obtain ⟨x, hx⟩ : ∃ x, xs[k]? = some x := ⟨_, List.getElem?_eq_getElem (by omega)⟩
    have hck := hcl k (.int .i64 x) (by simp [ints, hx])
    subst hA
    clear hcl hx hr
    go_enter Tryz.func43, Tryz.ntmps43
    go_wp2
    go_ret
    exact ⟨_, rfl, Int.emod_nonneg _ (by omega), Int.emod_lt_of_pos _ (by omega), FI.out.1, FI.out.2⟩
end
theorem infoint_ : (Tryz.prog.info? 3).map (fun i => (i.zero, i.size, i.bytes)) = some (some (.int .i64 0), 1, 8) := by kernel_rfl
theorem infoints_ : (Tryz.prog.info? 27).map (fun i => (i.zero, i.size, i.bytes)) = some (some (.slice none 0 0), 1, 24) := by kernel_rfl
theorem infoshare_ : (Tryz.prog.info? 53).map (fun i => (i.zero, i.size, i.bytes)) = some (some (.agg #[.int .i64 0, .int .i64 0, .int .i64 0, .int .i64 0, .slice none 0 0]), 5, 56) := by kernel_rfl
/-- A Boot that is being made, in block pb. -/
structure Bs (w W : World) (ab lb pb : Nat) (A : Option Addr) (n c : Nat) (xs : List Int) (k : Nat) (b : Bt) : Prop where
  nx : Nx w W ab lb A n c xs k
  o : Blk W pb 31 [.slice b.Af b.frames.length b.cf, .slice b.Ae b.envs.length b.ce, .slice b.As b.sects.length b.cs, .int .i64 b.lease, .slice b.Ah b.shared.length b.ch]
  fr : Vec W 3 1 b.Af b.frames.length b.cf (ints b.frames)
  en : Vec W 3 1 b.Ae b.envs.length b.ce (ints b.envs)
  se : Vec W 27 1 b.As b.sects.length b.cs (b.sects.map Sl.cell)
  sl : ∀ s ∈ b.sects, ∃ g, s.A = some ⟨g, 0, none⟩ ∧ Blk W g 3 (ints s.xs) ∧ g ≠ ab ∧ ¬ Own b.Af g ∧ ¬ Own b.Ae g
  sh : Vec W 53 5 b.Ah b.shared.length b.ch (shares b.shared)
  tos : ∀ s ∈ b.shared, ∃ g, s.A = some ⟨g, 0, none⟩ ∧ Blk W g 3 (ints s.tos) ∧ g ≠ ab ∧ ¬ Own b.Af g ∧ ¬ Own b.Ae g
  d1 : ¬ Own b.Af ab
  d2 : ¬ Own b.Ae ab
  d3 : ∀ x, Own b.Af x → ¬ Own b.Ae x
  d4 : ¬ Own b.As lb
  lp : w.heap.size ≤ pb
  lf : ∀ x, Own b.Af x → w.heap.size ≤ x
  le : ∀ x, Own b.Ae x → w.heap.size ≤ x
  ls : ∀ x, Own b.As x → w.heap.size ≤ x
  lh : ∀ x, Own b.Ah x → w.heap.size ≤ x
section
variable {w W W' : World} {ab lb pb : Nat} {A : Option Addr} {n c : Nat} {xs : List Int} {k : Nat} {b : Bt}
/-- A Share that Boot makes. -/
def ShG (fs : List Int) (nn : Nat) (s : Sh) : Prop := 0 ≤ s.ses ∧ s.ses < nn ∧ s.tos.length = 2 ∧ InR nn s.tos ∧ 0 ≤ s.frame ∧ s.frame < fs.getD s.ses.toNat 0 ∧ 0 ≤ s.lo ∧ 0 ≤ s.n ∧ s.lo + s.n ≤ 64 * (fs.getD s.ses.toNat 0 - s.frame)
theorem Bs.nob (h : Bs w W ab lb pb A n c xs k b) (kk : Keep Nob W W') : Bs w W' ab lb pb A n c xs k b :=
  ⟨h.nx.nob kk, h.o.nob kk, h.fr.keep kk (fun _ _ f => f), h.en.keep kk (fun _ _ f => f), h.se.keep kk (fun _ _ f => f), fun s hs => by obtain ⟨g, h1, h2, h3⟩ := h.sl s hs; exact ⟨g, h1, h2.nob kk, h3⟩, h.sh.keep kk (fun _ _ f => f), fun s hs => by obtain ⟨g, h1, h2, h3⟩ := h.tos s hs; exact ⟨g, h1, h2.nob kk, h3⟩, h.d1, h.d2, h.d3, h.d4, h.lp, h.lf, h.le, h.ls, h.lh⟩
/-- next has told one more. -/
theorem Bs.tick (h : Bs w W ab lb pb A n c xs k b) (hn : Nx w W' ab lb A n c xs (k + 1)) (kk : Keep (· = ab) W W') : Bs w W' ab lb pb A n c xs (k + 1) b := by
  have ha := h.nx.a
  have ob : ∀ {x : Nat} {u : TypeId} {cs : List Value}, Blk W x u cs → u ≠ 3 → x ≠ ab := fun hb hu => hb.ne_ ha hu
  have ov : ∀ {e sz n cap : Nat} {A : Option Addr} {xs : List Value}, Vec W e sz A n cap xs → e ≠ 3 → ∀ g, Own A g → g ≠ ab := fun hv hu g hg => by
    obtain ⟨c, hc⟩ := hv.blk hg
    exact hc.ne_ ha hu
  exact ⟨hn, h.o.keep kk (ob h.o (by decide)), h.fr.keep kk (fun g hg e => h.d1 (e ▸ hg)), h.en.keep kk (fun g hg e => h.d2 (e ▸ hg)), h.se.keep kk (ov h.se (by decide)), fun s hs => by obtain ⟨g, h1, h2, h3, h4⟩ := h.sl s hs; exact ⟨g, h1, h2.keep kk h3, h3, h4⟩, h.sh.keep kk (ov h.sh (by decide)), fun s hs => by obtain ⟨g, h1, h2, h3, h4⟩ := h.tos s hs; exact ⟨g, h1, h2.keep kk h3, h3, h4⟩, h.d1, h.d2, h.d3, h.d4, h.lp, h.lf, h.le, h.ls, h.lh⟩
theorem Bs.keepF (h : Bs w W ab lb pb A n c xs k b) (kk : Keep (· = ab) W W') : Keep (From w.heap.size) w W' := h.nx.keep.at_ kk h.nx.lo
/-- One more frame count. -/
theorem Bs.frame (h : Bs w W ab lb pb A n c xs k b) (he : b.envs = []) (hAe : b.Ae = none) (hs : b.sects = []) (hsh : b.shared = []) {W2 : World} {v : Int} {A2 : Option Addr} {c2 : Nat} (hv : Vec W2 3 1 A2 (b.frames.length + 1) c2 (ints b.frames ++ [.int .i64 v])) (hk : Keep (Own b.Af) W W2) (ho : ∀ g, Own A2 g → Own b.Af g ∨ W.heap.size ≤ g) :
    Bs w (W2.setCell ⟨pb, 0, none⟩ (.slice A2 (b.frames.length + 1) c2)) ab lb pb A n c xs k { b with frames := b.frames ++ [v], Af := A2, cf := c2 } := by
  have hM : ∀ g, Own b.Af g → ∃ cs, Blk W g 3 cs := fun g hg => h.fr.blk hg
  have o2 := h.o.keep hk (offB hM h.o (by decide))
  have kp : Keep (fun x => x = pb) W2 (W2.setCell ⟨pb, 0, none⟩ (.slice A2 (b.frames.length + 1) c2)) := (Keep.refl _ _).setCell _ _ (fun _ => rfl)
  have ha2 := (h.nx.a.keep hk h.d1)
  have l2 := h.nx.l.keep hk (offB hM h.nx.l (by decide))
  have hse := h.se.keep hk (offV hM h.se (by decide))
  have hsh2 := h.sh.keep hk (offV hM h.sh (by decide))
  have hp : ∀ {x : Nat} {u : TypeId} {cs : List Value}, Blk W2 x u cs → u ≠ 31 → Blk (W2.setCell ⟨pb, 0, none⟩ (.slice A2 (b.frames.length + 1) c2)) x u cs := fun hb hu => hb.far (hb.ne_ o2 hu) _
  have hpv : ∀ {e sz n cap : Nat} {A : Option Addr} {xs : List Value}, Vec W2 e sz A n cap xs → e ≠ 31 → Vec (W2.setCell ⟨pb, 0, none⟩ (.slice A2 (b.frames.length + 1) c2)) e sz A n cap xs := fun hv hu => hv.keep kp (fun g hg e => by obtain ⟨cc, hc⟩ := hv.blk hg; exact hc.ne_ o2 hu e)
  have K1 : Keep (From w.heap.size) w (W2.setCell ⟨pb, 0, none⟩ (.slice A2 (b.frames.length + 1) c2)) := (h.nx.keep.from_ hk h.lf).at_ kp h.lp
  have halt := h.nx.a.lt
  refine ⟨⟨hp ha2 (by decide), hp l2 (by decide), h.nx.r, K1, h.nx.lo⟩, ?_, ?_, ?_, hpv hse (by decide), ?_, hpv hsh2 (by decide), ?_, ?_, h.d2, ?_, h.d4, h.lp, fun x hx => (ho x hx).elim (h.lf x) (fun e => by have := h.nx.keep.size; omega), h.le, h.ls, h.lh⟩
  · have := o2.setCell 0 (.slice A2 (b.frames.length + 1) c2)
    simpa using this
  · have := hpv hv (by decide)
    simpa [ints] using this
  · exact (h.en.keep hk (fun g ⟨a, e, _⟩ => (by rw [hAe] at e; cases e))).keep kp (fun g ⟨a, e, _⟩ => (by rw [hAe] at e; cases e))
  · intro s hs'
    rw [hs] at hs'
    cases hs'
  · intro s hs'
    rw [hsh] at hs'
    cases hs'
  · intro m
    rcases ho ab m with m | m
    · exact h.d1 m
    · omega
  · intro x _ hy
    dsimp only at hy
    rw [hAe] at hy
    obtain ⟨a, e, _⟩ := hy
    cases e
/-- One more environment. -/
theorem Bs.env (h : Bs w W ab lb pb A n c xs k b) (hs : b.sects = []) (hsh : b.shared = []) {W2 : World} {v : Int} {A2 : Option Addr} {c2 : Nat} (hv : Vec W2 3 1 A2 (b.envs.length + 1) c2 (ints b.envs ++ [.int .i64 v])) (hk : Keep (Own b.Ae) W W2) (ho : ∀ g, Own A2 g → Own b.Ae g ∨ W.heap.size ≤ g) :
    Bs w (W2.setCell ⟨pb, 1, none⟩ (.slice A2 (b.envs.length + 1) c2)) ab lb pb A n c xs k { b with envs := b.envs ++ [v], Ae := A2, ce := c2 } := by
  have hM : ∀ g, Own b.Ae g → ∃ cs, Blk W g 3 cs := fun g hg => h.en.blk hg
  have o2 := h.o.keep hk (offB hM h.o (by decide))
  have kp : Keep (fun x => x = pb) W2 (W2.setCell ⟨pb, 1, none⟩ (.slice A2 (b.envs.length + 1) c2)) := (Keep.refl _ _).setCell _ _ (fun _ => rfl)
  have ha2 := (h.nx.a.keep hk h.d2)
  have l2 := h.nx.l.keep hk (offB hM h.nx.l (by decide))
  have hfr := h.fr.keep hk h.d3
  have hse := h.se.keep hk (offV hM h.se (by decide))
  have hsh2 := h.sh.keep hk (offV hM h.sh (by decide))
  have hp : ∀ {x : Nat} {u : TypeId} {cs : List Value}, Blk W2 x u cs → u ≠ 31 → Blk (W2.setCell ⟨pb, 1, none⟩ (.slice A2 (b.envs.length + 1) c2)) x u cs := fun hb hu => hb.far (hb.ne_ o2 hu) _
  have hpv : ∀ {e sz n cap : Nat} {A : Option Addr} {xs : List Value}, Vec W2 e sz A n cap xs → e ≠ 31 → Vec (W2.setCell ⟨pb, 1, none⟩ (.slice A2 (b.envs.length + 1) c2)) e sz A n cap xs := fun hv hu => hv.keep kp (fun g hg e => by obtain ⟨cc, hc⟩ := hv.blk hg; exact hc.ne_ o2 hu e)
  have K1 : Keep (From w.heap.size) w (W2.setCell ⟨pb, 1, none⟩ (.slice A2 (b.envs.length + 1) c2)) := (h.nx.keep.from_ hk h.le).at_ kp h.lp
  have halt := h.nx.a.lt
  refine ⟨⟨hp ha2 (by decide), hp l2 (by decide), h.nx.r, K1, h.nx.lo⟩, ?_, hpv hfr (by decide), ?_, hpv hse (by decide), ?_, hpv hsh2 (by decide), ?_, h.d1, ?_, ?_, h.d4, h.lp, h.lf, fun x hx => (ho x hx).elim (h.le x) (fun e => by have := h.nx.keep.size; omega), h.ls, h.lh⟩
  · have := o2.setCell 1 (.slice A2 (b.envs.length + 1) c2)
    simpa using this
  · have := hpv hv (by decide)
    simpa [ints] using this
  · intro s hs'
    rw [hs] at hs'
    cases hs'
  · intro s hs'
    rw [hsh] at hs'
    cases hs'
  · intro m
    rcases ho ab m with m | m
    · exact h.d2 m
    · omega
  · intro x hx hy
    rcases ho x hy with m | m
    · exact h.d3 x hx m
    · have := h.fr.lt x hx
      omega
/-- One more Sect: its list lies in block g. -/
theorem Bs.sect (h : Bs w W ab lb pb A n c xs k b) {W2 : World} {g : Nat} {l : List Int} (hl : l.length = 2) (hg : Blk W g 3 (ints l)) (g1 : g ≠ ab) (g2 : ¬ Own b.Af g) (g3 : ¬ Own b.Ae g) {A2 : Option Addr} {c2 : Nat} (hv : Vec W2 27 1 A2 (b.sects.length + 1) c2 (b.sects.map Sl.cell ++ [.slice (some ⟨g, 0, none⟩) 2 2])) (hk : Keep (Own b.As) W W2) (ho : ∀ g, Own A2 g → Own b.As g ∨ W.heap.size ≤ g) :
    Bs w (W2.setCell ⟨pb, 2, none⟩ (.slice A2 (b.sects.length + 1) c2)) ab lb pb A n c xs k { b with sects := b.sects ++ [⟨some ⟨g, 0, none⟩, 2, l⟩], As := A2, cs := c2 } := by
  have hM : ∀ g, Own b.As g → ∃ cs, Blk W g 27 cs := fun g hg => h.se.blk hg
  have o2 := h.o.keep hk (offB hM h.o (by decide))
  have kp : Keep (fun x => x = pb) W2 (W2.setCell ⟨pb, 2, none⟩ (.slice A2 (b.sects.length + 1) c2)) := (Keep.refl _ _).setCell _ _ (fun _ => rfl)
  have hp : ∀ {x : Nat} {u : TypeId} {cs : List Value}, Blk W2 x u cs → u ≠ 31 → Blk (W2.setCell ⟨pb, 2, none⟩ (.slice A2 (b.sects.length + 1) c2)) x u cs := fun hb hu => hb.far (hb.ne_ o2 hu) _
  have hpv : ∀ {e sz n cap : Nat} {A : Option Addr} {xs : List Value}, Vec W2 e sz A n cap xs → e ≠ 31 → Vec (W2.setCell ⟨pb, 2, none⟩ (.slice A2 (b.sects.length + 1) c2)) e sz A n cap xs := fun hv hu => hv.keep kp (fun g hg e => by obtain ⟨cc, hc⟩ := hv.blk hg; exact hc.ne_ o2 hu e)
  have bI : ∀ {x : Nat} {u : TypeId} {cs : List Value}, Blk W x u cs → u ≠ 27 → u ≠ 31 → Blk (W2.setCell ⟨pb, 2, none⟩ (.slice A2 (b.sects.length + 1) c2)) x u cs := fun hb h1 h2 => hp (hb.keep hk (offB hM hb h1)) h2
  have vI : ∀ {e sz n cap : Nat} {A : Option Addr} {xs : List Value}, Vec W e sz A n cap xs → e ≠ 27 → e ≠ 31 → Vec (W2.setCell ⟨pb, 2, none⟩ (.slice A2 (b.sects.length + 1) c2)) e sz A n cap xs := fun hv h1 h2 => hpv (hv.keep hk (offV hM hv h1)) h2
  have K1 : Keep (From w.heap.size) w (W2.setCell ⟨pb, 2, none⟩ (.slice A2 (b.sects.length + 1) c2)) := (h.nx.keep.from_ hk h.ls).at_ kp h.lp
  have hllt := h.nx.l.lt
  refine ⟨⟨bI h.nx.a (by decide) (by decide), hp (h.nx.l.keep hk h.d4) (by decide), h.nx.r, K1, h.nx.lo⟩, ?_, vI h.fr (by decide) (by decide), vI h.en (by decide) (by decide), ?_, ?_, vI h.sh (by decide) (by decide), ?_, h.d1, h.d2, h.d3, ?_, h.lp, h.lf, h.le, fun x hx => (ho x hx).elim (h.ls x) (fun e => by have := h.nx.keep.size; omega), h.lh⟩
  · have := o2.setCell 2 (.slice A2 (b.sects.length + 1) c2)
    simpa using this
  · have := hpv hv (by decide)
    dsimp only
    rw [List.map_append, List.length_append]
    have e1 : Sl.cell ⟨some ⟨g, 0, none⟩, 2, l⟩ = .slice (some ⟨g, 0, none⟩) 2 2 := by unfold Sl.cell; rw [hl]
    simp only [List.map_cons, List.map_nil, e1]
    exact this
  · intro s hs
    rcases List.mem_append.1 hs with hs | hs
    · obtain ⟨g', e1, e2, e3⟩ := h.sl s hs
      exact ⟨g', e1, bI e2 (by decide) (by decide), e3⟩
    · obtain rfl := List.mem_singleton.1 hs
      exact ⟨g, rfl, bI hg (by decide) (by decide), g1, g2, g3⟩
  · intro s hs
    obtain ⟨g', e1, e2, e3⟩ := h.tos s hs
    exact ⟨g', e1, bI e2 (by decide) (by decide), e3⟩
  · intro m
    rcases ho lb m with m | m
    · exact h.d4 m
    · omega
/-- One more Share: its To lies in block g. -/
theorem Bs.share (h : Bs w W ab lb pb A n c xs k b) {W2 : World} {s : Sh} {g : Nat} (hA : s.A = some ⟨g, 0, none⟩) (hg : Blk W g 3 (ints s.tos)) (g1 : g ≠ ab) (g2 : ¬ Own b.Af g) (g3 : ¬ Own b.Ae g) {A2 : Option Addr} {c2 : Nat} (hv : Vec W2 53 5 A2 (b.shared.length + 1) c2 (shares b.shared ++ s.cells)) (hk : Keep (Own b.Ah) W W2) (ho : ∀ g, Own A2 g → Own b.Ah g ∨ W.heap.size ≤ g) :
    Bs w (W2.setCell ⟨pb, 4, none⟩ (.slice A2 (b.shared.length + 1) c2)) ab lb pb A n c xs k { b with shared := b.shared ++ [s], Ah := A2, ch := c2 } := by
  have hM : ∀ g, Own b.Ah g → ∃ cs, Blk W g 53 cs := fun g hg => h.sh.blk hg
  have o2 := h.o.keep hk (offB hM h.o (by decide))
  have kp : Keep (fun x => x = pb) W2 (W2.setCell ⟨pb, 4, none⟩ (.slice A2 (b.shared.length + 1) c2)) := (Keep.refl _ _).setCell _ _ (fun _ => rfl)
  have hp : ∀ {x : Nat} {u : TypeId} {cs : List Value}, Blk W2 x u cs → u ≠ 31 → Blk (W2.setCell ⟨pb, 4, none⟩ (.slice A2 (b.shared.length + 1) c2)) x u cs := fun hb hu => hb.far (hb.ne_ o2 hu) _
  have hpv : ∀ {e sz n cap : Nat} {A : Option Addr} {xs : List Value}, Vec W2 e sz A n cap xs → e ≠ 31 → Vec (W2.setCell ⟨pb, 4, none⟩ (.slice A2 (b.shared.length + 1) c2)) e sz A n cap xs := fun hv hu => hv.keep kp (fun g hg e => by obtain ⟨cc, hc⟩ := hv.blk hg; exact hc.ne_ o2 hu e)
  have bI : ∀ {x : Nat} {u : TypeId} {cs : List Value}, Blk W x u cs → u ≠ 53 → u ≠ 31 → Blk (W2.setCell ⟨pb, 4, none⟩ (.slice A2 (b.shared.length + 1) c2)) x u cs := fun hb h1 h2 => hp (hb.keep hk (offB hM hb h1)) h2
  have vI : ∀ {e sz n cap : Nat} {A : Option Addr} {xs : List Value}, Vec W e sz A n cap xs → e ≠ 53 → e ≠ 31 → Vec (W2.setCell ⟨pb, 4, none⟩ (.slice A2 (b.shared.length + 1) c2)) e sz A n cap xs := fun hv h1 h2 => hpv (hv.keep hk (offV hM hv h1)) h2
  have K1 : Keep (From w.heap.size) w (W2.setCell ⟨pb, 4, none⟩ (.slice A2 (b.shared.length + 1) c2)) := (h.nx.keep.from_ hk h.lh).at_ kp h.lp
  refine ⟨⟨bI h.nx.a (by decide) (by decide), bI h.nx.l (by decide) (by decide), h.nx.r, K1, h.nx.lo⟩, ?_, vI h.fr (by decide) (by decide), vI h.en (by decide) (by decide), vI h.se (by decide) (by decide), ?_, ?_, ?_, h.d1, h.d2, h.d3, h.d4, h.lp, h.lf, h.le, h.ls, fun x hx => (ho x hx).elim (h.lh x) (fun e => by have := h.nx.keep.size; omega)⟩
  · have := o2.setCell 4 (.slice A2 (b.shared.length + 1) c2)
    simpa using this
  · intro s hs
    obtain ⟨g', e1, e2, e3⟩ := h.sl s hs
    exact ⟨g', e1, bI e2 (by decide) (by decide), e3⟩
  · have := hpv hv (by decide)
    have e1 : shares (b.shared ++ [s]) = shares b.shared ++ s.cells := by simp [shares]
    dsimp only
    rw [e1, List.length_append]
    exact this
  · intro s' hs
    rcases List.mem_append.1 hs with hs | hs
    · obtain ⟨g', e1, e2, e3⟩ := h.tos s' hs
      exact ⟨g', e1, bI e2 (by decide) (by decide), e3⟩
    · obtain rfl := List.mem_singleton.1 hs
      exact ⟨g, hA, bI hg (by decide) (by decide), g1, g2, g3⟩
/-- A Share of its own is written. -/
theorem Bs.farS (h : Bs w W ab lb pb A n c xs k b) {g : Nat} {cs : List Value} (hb : Blk W g 53 cs) (hA : ¬ Own b.Ah g) (hg : w.heap.size ≤ g) (kk : Keep (· = g) W W') : Bs w W' ab lb pb A n c xs k b := by
  have ob : ∀ {x : Nat} {u : TypeId} {cs : List Value}, Blk W x u cs → u ≠ 53 → x ≠ g := fun hx hu => hx.ne_ hb hu
  have ov : ∀ {e sz n cap : Nat} {A : Option Addr} {xs : List Value}, Vec W e sz A n cap xs → e ≠ 53 → ∀ x, Own A x → x ≠ g := fun hv hu x hx => by
    obtain ⟨c, hc⟩ := hv.blk hx
    exact hc.ne_ hb hu
  exact ⟨⟨h.nx.a.keep kk (ob h.nx.a (by decide)), h.nx.l.keep kk (ob h.nx.l (by decide)), h.nx.r, h.nx.keep.at_ kk hg, h.nx.lo⟩, h.o.keep kk (ob h.o (by decide)), h.fr.keep kk (ov h.fr (by decide)), h.en.keep kk (ov h.en (by decide)), h.se.keep kk (ov h.se (by decide)), fun s hs => by obtain ⟨g', h1, h2, h3⟩ := h.sl s hs; exact ⟨g', h1, h2.keep kk (ob h2 (by decide)), h3⟩,
    h.sh.keep kk (fun x hx e => hA (e ▸ hx)), fun s hs => by obtain ⟨g', h1, h2, h3⟩ := h.tos s hs; exact ⟨g', h1, h2.keep kk (ob h2 (by decide)), h3⟩, h.d1, h.d2, h.d3, h.d4, h.lp, h.lf, h.le, h.ls, h.lh⟩
theorem Bs.frame_at (h : Bs w W ab lb pb A n c xs k b) {j : Nat} (hj : j < b.frames.length) : ∃ g, b.Af = some ⟨g, 0, none⟩ ∧ W.cell? ⟨g, j, none⟩ = some (.int .i64 (b.frames.getD j 0)) := by
  obtain ⟨r, cur, hA, hb, hn, hc, ht⟩ := h.fr.at_ (by omega)
  refine ⟨r, hA, ?_⟩
  have e : (ints b.frames)[j]? = some (.int .i64 (b.frames.getD j 0)) := by simp [ints, hj, List.getD_eq_getElem?_getD]
  rw [← ht, List.getElem?_take, if_pos (by omega)] at e
  rw [hb.cell]; exact e
end
end Go.Proofs.YtompckcnpidbdaaGreat
