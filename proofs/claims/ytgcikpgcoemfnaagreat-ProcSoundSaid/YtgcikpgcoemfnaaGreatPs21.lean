import Derived.Laws.EntriesVeiled
import Derived.Test.YtgcikpgcoemfnaaGreatPs19
set_option maxRecDepth 100000
set_option maxHeartbeats 8000000
set_option linter.unusedVariables false
set_option linter.unusedSimpArgs false
namespace Go.Proofs.YtgcikpgcoemfnaaGreat
open Go.RowKit
def eU (l : List Sh) : List Value := (l.map Sh.cells).flatten
theorem az {l : List Sh} {i j : Nat} {s : Sh} (h : l[i]? = some s) (hj : j < 5) : (eU l)[i * 5 + j]? = s.cells[j]? := by
 have hW : ∀ c ∈ l.map Sh.cells, c.length = 5 := fun c hc => by
  obtain ⟨x, _, rfl⟩ := List.mem_map.1 hc
  rfl
 have := aE (l.map Sh.cells) hW i j hj
 rw [List.getElem?_map, h] at this
 exact this
theorem ix3_is {w : World} {rc ic lc rr n : Nat} {ns : List Nat} (h : Clo w rc ic lc rr n ns) (A : Option Addr) (m c2 : Nat) (ls : List Sh) (hl : ls.length = m) (hx : ae w A (m * 5) (eU ls)) (hr : ∀ s ∈ ls, ae w s.A s.tos.length (ab s.tos) ∧ ShOk ns s) (hm : m ≤ 1000) :
  Calls Tryz.prog 319 #[.slice A m c2, .func (.func 260) #[] #[.pointer (some ⟨ic, 0, none⟩), .pointer (some ⟨lc, 0, none⟩), .pointer (some ⟨rc, 0, none⟩)]] w fun e w' => e = .returned (.int .i64 (-1)) ∧ Keep Nob w w' := by
 have HX := aa hx
 have HL := aa hl
 have HR := aa hr
 have HH := aa h
 clear hx hl hr h
 go_enter Tryz.func319, Tryz.ntmps319
 go_wp2_with fail
 go_loopw [8] (fun s8 wx => ∃ k : Nat, k ≤ m ∧ s8 = .int .i64 k ∧ Keep Nob w wx) (fun s8 _ => m - (intOf s8).toNat)
 case atStart => exact ⟨0, Nat.zero_le _, rfl, Keep.refl _ _⟩
 case round =>
  obtain ⟨k, hk, rfl, hK⟩ := hrel
  by_cases hlt : k < m
  ·obtain ⟨x, hx⟩ : ∃ x, ls[k]? = some x := ⟨_, List.getElem?_eq_getElem (by rw [HL.out]; exact hlt)⟩
   obtain ⟨b, off, hA, hcl⟩ := (HX.out.nob hK).lit (by omega)
   have hxm := HR.out x (List.mem_of_getElem? hx)
   have g0 := hcl _ _ (az hx (j := 0) (by decide))
   have g1 := hcl _ _ (az hx (j := 1) (by decide))
   have g2 := hcl _ _ (az hx (j := 2) (by decide))
   have g3 := hcl _ _ (az hx (j := 3) (by decide))
   have g4 := hcl _ _ (az hx (j := 4) (by decide))
   rw [← Nat.add_assoc] at g1 g2 g3 g4
   rw [Nat.add_zero] at g0
   have HM := aa hxm
   subst hA
   clear hcl hx hxm
   have hcall := share_no (HH.out.nob hK) x HM.out.2 (HM.out.1.nob hK)
   unfold Sh.val at hcall
   go_wp2_with fail
   refine hcall.mono ?_; rintro e w1 ⟨rfl, k1⟩
   have hK2 := hK.trans k1 (fun _ _ f => f)
   clear hcall g0 g1 g2 g3 g4 k1
   go_wp2_with fail
   go_roundw
   case rel => exact ⟨k + 1, by omega, by go_num, hK2⟩
   case measure => simp [intOf]; omega
  ·obtain rfl : k = m := by omega
   go_wp2
   go_ret
   exact ⟨rfl, hK⟩
theorem cf3_is {w : World} {rc ic lc rr n : Nat} {ns : List Nat} (h : Clo w rc ic lc rr n ns) (A : Option Addr) (m c2 : Nat) (ls : List Sh) (hl : ls.length = m) (hx : ae w A (m * 5) (eU ls)) (hr : ∀ s ∈ ls, ae w s.A s.tos.length (ab s.tos) ∧ ShOk ns s) (hm : m ≤ 1000) :
  Calls Tryz.prog 259 #[.slice A m c2, .func (.func 260) #[] #[.pointer (some ⟨ic, 0, none⟩), .pointer (some ⟨lc, 0, none⟩), .pointer (some ⟨rc, 0, none⟩)]] w fun e w' => e = .returned (.bool false) ∧ Keep Nob w w' := by
 go_enter Tryz.func259, Tryz.ntmps259
 go_wp2_with fail
 refine (ix3_is h A m c2 ls hl hx hr hm).mono ?_; rintro e w1 ⟨rfl, k1⟩
 go_wp2
 go_ret
 exact ⟨rfl, k1⟩
structure Bt where
 frames : List Int
 Af : Option Addr
 cf : Nat
 envs : List Int
 Ae : Option Addr
 ce : Nat
 sects : List Sl
 As : Option Addr
 cs : Nat
 lease : Int
 shared : List Sh
 Ah : Option Addr
 ch : Nat
def Bt.val (b : Bt) : Value := .agg #[.slice b.Af b.frames.length b.cf, .slice b.Ae b.envs.length b.ce, .slice b.As b.sects.length b.cs, .int .i64 b.lease, .slice b.Ah b.shared.length b.ch]
structure IsBt (w : World) (b : Bt) : Prop where
 fr : ae w b.Af b.frames.length (ab b.frames)
 cf : b.frames.length ≤ b.cf
 en : ae w b.Ae b.envs.length (ab b.envs)
 se : ae w b.As b.sects.length (b.sects.map Sl.cell)
 sl : ∀ s ∈ b.sects, ae w s.A s.xs.length (ab s.xs)
 sh : ae w b.Ah (b.shared.length * 5) (eU b.shared)
 tos : ∀ s ∈ b.shared, ae w s.A s.tos.length (ab s.tos)
theorem IsBt.nob {w w' : World} {b : Bt} (h : IsBt w b) (k : Keep Nob w w') : IsBt w' b :=
 ⟨h.fr.nob k, h.cf, h.en.nob k, h.se.nob k, fun s hs => (h.sl s hs).nob k, h.sh.nob k, fun s hs => (h.tos s hs).nob k⟩
structure BtOk (b : Bt) (ns : List Nat) : Prop where
 nse : Qu.dI b.frames = ns
 f1 : 1 ≤ b.frames.length
 f4 : b.frames.length ≤ 4
 e40 : b.envs.length ≤ 40
 s8 : b.sects.length ≤ 8
 h16 : b.shared.length ≤ 16
 l1 : 1 ≤ b.lease
 l2 : b.lease ≤ 1000
 en : InR b.frames.length b.envs
 se : ∀ s ∈ b.sects, InR b.frames.length s.xs ∧ s.xs.length ≤ 1000
 sh : ∀ s ∈ b.shared, ShOk ns s
theorem BtOk.len {b : Bt} {ns : List Nat} (h : BtOk b ns) : ns.length = b.frames.length := by rw [← h.nse, Qu.fO]; have := h.f4; omega
theorem sizes64 {xs : List Int} : ∀ n ∈ Qu.dI xs, n ≤ 64 := fun n hn => by
 unfold Qu.dI at hn
 obtain ⟨x, _, rfl⟩ := List.mem_map.1 hn
 omega
theorem clo_made {w : World} {ns : List Nat} {n rr : Nat} (X : Obj) (hb : Blk w rr 236 (aI ns)) (hn : ns.length = n) (h4 : n ≤ 4) (h64 : ∀ x ∈ ns, x ≤ 64) :
  Clo ((((w.alloc X).alloc (.cells #[.slice (some ⟨rr, 0, none⟩) n n] 232)).alloc (.cells #[.func (.func 256) #[] #[.pointer (some ⟨w.heap.size + 1, 0, none⟩)]] 101)).alloc (.cells #[.func (.func 257) #[] #[.pointer (some ⟨w.heap.size + 1 + 1, 0, none⟩)]] 68)) (w.heap.size + 1) (w.heap.size + 1 + 1) (w.heap.size + 1 + 1 + 1) rr n ns := by
 have e1 : (w.alloc X).heap.size = w.heap.size + 1 := by simp
 have b1 := Blk.new (w.alloc X) 232 [.slice (some ⟨rr, 0, none⟩) n n]
 rw [e1] at b1
 have e2 : ((w.alloc X).alloc (.cells #[.slice (some ⟨rr, 0, none⟩) n n] 232)).heap.size = w.heap.size + 1 + 1 := by simp
 have b2 := Blk.new ((w.alloc X).alloc (.cells #[.slice (some ⟨rr, 0, none⟩) n n] 232)) 101 [.func (.func 256) #[] #[.pointer (some ⟨w.heap.size + 1, 0, none⟩)]]
 rw [e2] at b2
 have e3 : (((w.alloc X).alloc (.cells #[.slice (some ⟨rr, 0, none⟩) n n] 232)).alloc (.cells #[.func (.func 256) #[] #[.pointer (some ⟨w.heap.size + 1, 0, none⟩)]] 101)).heap.size = w.heap.size + 1 + 1 + 1 := by simp
 have b3 := Blk.new (((w.alloc X).alloc (.cells #[.slice (some ⟨rr, 0, none⟩) n n] 232)).alloc (.cells #[.func (.func 256) #[] #[.pointer (some ⟨w.heap.size + 1, 0, none⟩)]] 101)) 68 [.func (.func 257) #[] #[.pointer (some ⟨w.heap.size + 1 + 1, 0, none⟩)]]
 rw [e3] at b3
 have b1' := (b1.alloc (.cells #[.func (.func 256) #[] #[.pointer (some ⟨w.heap.size + 1, 0, none⟩)]] 101)).alloc (.cells #[.func (.func 257) #[] #[.pointer (some ⟨w.heap.size + 1 + 1, 0, none⟩)]] 68)
 have b2' := b2.alloc (.cells #[.func (.func 257) #[] #[.pointer (some ⟨w.heap.size + 1 + 1, 0, none⟩)]] 68)
 exact ⟨b1'.cell 0, b2'.cell 0, b3.cell 0, (((hb.alloc _).alloc _).alloc _).alloc _, b1'.lt, b2'.lt, b3.lt, hn, h4, h64⟩
theorem there_is {w : World} {b : Bt} {ns : List Nat} (h : IsBt w b) (ok : BtOk b ns) (rr : Nat) (hb : Blk w rr 236 (aI ns)) :
  Calls Tryz.prog 153 #[b.val, .slice (some ⟨rr, 0, none⟩) b.frames.length b.frames.length] w fun e w' => e = .returned (.bool true) ∧ Keep Nob w w' := by
 have hnl := ok.len
 have h4 := ok.f4
 have e40 := ok.e40
 have s8 := ok.s8
 have h16 := ok.h16
 have HH := aa (And.intro h ok)
 have HB := aa hb
 have HN := aa hnl
 clear h ok hb hnl
 unfold Bt.val
 go_enter Tryz.func153, Tryz.ntmps153
 go_wp2_with fail
 have hC := clo_made (.cells #[.slice b.Af b.frames.length b.cf, .slice b.Ae b.envs.length b.ce, .slice b.As b.sects.length b.cs, .int .i64 b.lease, .slice b.Ah b.shared.length b.ch] 144) HB.out HN.out h4 (by rw [← HH.out.2.nse]; exact sizes64)
 have k1 := ((((Keep.refl Nob w).alloc (.cells #[.slice b.Af b.frames.length b.cf, .slice b.Ae b.envs.length b.ce, .slice b.As b.sects.length b.cs, .int .i64 b.lease, .slice b.Ah b.shared.length b.ch] 144)).alloc (.cells #[.slice (some ⟨rr, 0, none⟩) b.frames.length b.frames.length] 232)).alloc (.cells #[.func (.func 256) #[] #[.pointer (some ⟨w.heap.size + 1, 0, none⟩)]] 101)).alloc (.cells #[.func (.func 257) #[] #[.pointer (some ⟨w.heap.size + 1 + 1, 0, none⟩)]] 68)
 have h1 := HH.out.1.nob k1
 refine (list_is _ _ _ _ _ _ hC.r hC.i _ _ _ b.envs h1.en HH.out.2.en (by omega)).mono ?_; rintro e w1 ⟨rfl, rfl⟩
 go_wp2_with fail
 refine (cf2_is _ _ _ _ _ _ hC.r hC.i _ _ _ b.sects h1.se (fun s hs => ⟨h1.sl s hs, (HH.out.2.se s hs).1, (HH.out.2.se s hs).2⟩) (by omega)).mono ?_; rintro e w1 ⟨rfl, rfl⟩
 go_wp2_with fail
 refine (cf3_is hC _ _ _ b.shared rfl h1.sh (fun s hs => ⟨h1.tos s hs, HH.out.2.sh s hs⟩) (by omega)).mono ?_; rintro e w1 ⟨rfl, k2⟩
 have k3 := k1.trans k2 (fun _ _ f => f)
 go_wp2
 go_ret
 exact ⟨rfl, k3⟩
end Go.Proofs.YtgcikpgcoemfnaaGreat
namespace Go.Proofs.YtgcikpgcoemfnaaGreat.Pn
open Go.RowKit
theorem infoint_ : (Tryz.prog.info? 3).map (fun i => (i.zero, i.size, i.bytes)) = some (some (.int .i64 0), 1, 8) := by kernel_rfl
theorem infoints_ : (Tryz.prog.info? 42).map (fun i => (i.zero, i.size, i.bytes)) = some (some (.slice none 0 0), 1, 24) := by kernel_rfl
theorem kI : (Tryz.prog.info? 230).map (fun i => (i.zero, i.size, i.bytes)) = some (some (.agg #[.int .i64 0, .int .i64 0, .int .i64 0, .int .i64 0, .slice none 0 0]), 5, 56) := by kernel_rfl
theorem infoBoot : (Tryz.prog.info? 144).map (·.size) = some 5 := by kernel_rfl
structure Pb (w W : World) (pb : Nat) (b : Bt) : Prop where
 keep : Keep (bT w.heap.size) w W
 o : Blk W pb 144 [.slice b.Af b.frames.length b.cf, .slice b.Ae b.envs.length b.ce, .slice b.As b.sects.length b.cs, .int .i64 b.lease, .slice b.Ah b.shared.length b.ch]
 fr : Vec W 3 1 b.Af b.frames.length b.cf (ab b.frames)
 en : Vec W 3 1 b.Ae b.envs.length b.ce (ab b.envs)
 se : Vec W 42 1 b.As b.sects.length b.cs (b.sects.map Sl.cell)
 sl : ∀ s ∈ b.sects, ∃ g, s.A = some ⟨g, 0, none⟩ ∧ Blk W g 3 (ab s.xs) ∧ ¬ Own b.Af g ∧ ¬ Own b.Ae g
 sh : Vec W 230 5 b.Ah b.shared.length b.ch (eU b.shared)
 tos : ∀ s ∈ b.shared, ∃ g, s.A = some ⟨g, 0, none⟩ ∧ Blk W g 3 (ab s.tos) ∧ ¬ Own b.Af g ∧ ¬ Own b.Ae g
 d3 : ∀ x, Own b.Af x → ¬ Own b.Ae x
 lp : w.heap.size ≤ pb
 lf : ∀ x, Own b.Af x → w.heap.size ≤ x
 le : ∀ x, Own b.Ae x → w.heap.size ≤ x
 ls : ∀ x, Own b.As x → w.heap.size ≤ x
 lh : ∀ x, Own b.Ah x → w.heap.size ≤ x
section
variable {w W W' : World} {pb : Nat} {b : Bt}
theorem Pb.nob (h : Pb w W pb b) (kk : Keep Nob W W') : Pb w W' pb b :=
 ⟨h.keep.nob kk, h.o.nob kk, h.fr.keep kk (fun _ _ f => f), h.en.keep kk (fun _ _ f => f), h.se.keep kk (fun _ _ f => f), fun s hs => by obtain ⟨g, h1, h2, h3⟩ := h.sl s hs; exact ⟨g, h1, h2.nob kk, h3⟩, h.sh.keep kk (fun _ _ f => f), fun s hs => by obtain ⟨g, h1, h2, h3⟩ := h.tos s hs; exact ⟨g, h1, h2.nob kk, h3⟩, h.d3, h.lp, h.lf, h.le, h.ls, h.lh⟩
theorem Pb.frame (h : Pb w W pb b) {W2 : World} {v : Int} {A2 : Option Addr} {c2 : Nat} (hv : Vec W2 3 1 A2 (b.frames.length + 1) c2 (ab b.frames ++ [.int .i64 v])) (hk : Keep (Own b.Af) W W2) (ho : ∀ g, Own A2 g → Own b.Af g ∨ W.heap.size ≤ g) :
  Pb w (W2.setCell ⟨pb, 0, none⟩ (.slice A2 (b.frames.length + 1) c2)) pb { b with frames := b.frames ++ [v], Af := A2, cf := c2 } := by
 have hM : ∀ g, Own b.Af g → ∃ cs, Blk W g 3 cs := fun g hg => h.fr.blk hg
 have o2 := h.o.keep hk (eO hM h.o (by decide))
 have kp : Keep (fun x => x = pb) W2 (W2.setCell ⟨pb, 0, none⟩ (.slice A2 (b.frames.length + 1) c2)) := (Keep.refl _ _).setCell _ _ (fun _ => rfl)
 have hp : ∀ {x : Nat} {u : TypeId} {cs : List Value}, Blk W2 x u cs → u ≠ 144 → Blk (W2.setCell ⟨pb, 0, none⟩ (.slice A2 (b.frames.length + 1) c2)) x u cs := fun hb hu => hb.far (hb.ne_ o2 hu) _
 have hpv : ∀ {e sz n cap : Nat} {A : Option Addr} {xs : List Value}, Vec W2 e sz A n cap xs → e ≠ 144 → Vec (W2.setCell ⟨pb, 0, none⟩ (.slice A2 (b.frames.length + 1) c2)) e sz A n cap xs := fun hv hu => hv.keep kp (fun g hg e => by obtain ⟨cc, hc⟩ := hv.blk hg; exact hc.ne_ o2 hu e)
 have K1 : Keep (bT w.heap.size) w (W2.setCell ⟨pb, 0, none⟩ (.slice A2 (b.frames.length + 1) c2)) := (h.keep.from_ hk h.lf).at_ kp h.lp
 have new : ∀ {g : Nat} {t : TypeId} {cs : List Value}, Blk W g t cs → ¬ Own b.Af g → ¬ Own A2 g := fun hb hn m => (ho _ m).elim hn (fun e => by have := hb.lt; omega)
 refine ⟨K1, ?_, ?_, hpv (h.en.keep hk (fun g hg m => h.d3 g m hg)) (by decide), hpv (h.se.keep hk (offV hM h.se (by decide))) (by decide), fun s hs => ?_, hpv (h.sh.keep hk (offV hM h.sh (by decide))) (by decide), fun s hs => ?_, ?_, h.lp, fun x hx => (ho x hx).elim (h.lf x) (fun e => by have := h.keep.size; omega), h.le, h.ls, h.lh⟩
 ·have := o2.setCell 0 (.slice A2 (b.frames.length + 1) c2)
  simpa using this
 ·have := hpv hv (by decide)
  simpa [ab] using this
 ·obtain ⟨g, e1, e2, e3, e4⟩ := h.sl s hs
  exact ⟨g, e1, hp (e2.keep hk e3) (by decide), new e2 e3, e4⟩
 ·obtain ⟨g, e1, e2, e3, e4⟩ := h.tos s hs
  exact ⟨g, e1, hp (e2.keep hk e3) (by decide), new e2 e3, e4⟩
 ·intro x hx hy
  rcases ho x hx with m | m
  ·exact h.d3 x m hy
  ·have := h.en.lt x hy
   omega
theorem Pb.env (h : Pb w W pb b) {W2 : World} {v : Int} {A2 : Option Addr} {c2 : Nat} (hv : Vec W2 3 1 A2 (b.envs.length + 1) c2 (ab b.envs ++ [.int .i64 v])) (hk : Keep (Own b.Ae) W W2) (ho : ∀ g, Own A2 g → Own b.Ae g ∨ W.heap.size ≤ g) :
  Pb w (W2.setCell ⟨pb, 1, none⟩ (.slice A2 (b.envs.length + 1) c2)) pb { b with envs := b.envs ++ [v], Ae := A2, ce := c2 } := by
 have hM : ∀ g, Own b.Ae g → ∃ cs, Blk W g 3 cs := fun g hg => h.en.blk hg
 have o2 := h.o.keep hk (eO hM h.o (by decide))
 have kp : Keep (fun x => x = pb) W2 (W2.setCell ⟨pb, 1, none⟩ (.slice A2 (b.envs.length + 1) c2)) := (Keep.refl _ _).setCell _ _ (fun _ => rfl)
 have hp : ∀ {x : Nat} {u : TypeId} {cs : List Value}, Blk W2 x u cs → u ≠ 144 → Blk (W2.setCell ⟨pb, 1, none⟩ (.slice A2 (b.envs.length + 1) c2)) x u cs := fun hb hu => hb.far (hb.ne_ o2 hu) _
 have hpv : ∀ {e sz n cap : Nat} {A : Option Addr} {xs : List Value}, Vec W2 e sz A n cap xs → e ≠ 144 → Vec (W2.setCell ⟨pb, 1, none⟩ (.slice A2 (b.envs.length + 1) c2)) e sz A n cap xs := fun hv hu => hv.keep kp (fun g hg e => by obtain ⟨cc, hc⟩ := hv.blk hg; exact hc.ne_ o2 hu e)
 have K1 : Keep (bT w.heap.size) w (W2.setCell ⟨pb, 1, none⟩ (.slice A2 (b.envs.length + 1) c2)) := (h.keep.from_ hk h.le).at_ kp h.lp
 have new : ∀ {g : Nat} {t : TypeId} {cs : List Value}, Blk W g t cs → ¬ Own b.Ae g → ¬ Own A2 g := fun hb hn m => (ho _ m).elim hn (fun e => by have := hb.lt; omega)
 refine ⟨K1, ?_, hpv (h.fr.keep hk (fun g hg m => h.d3 g hg m)) (by decide), ?_, hpv (h.se.keep hk (offV hM h.se (by decide))) (by decide), fun s hs => ?_, hpv (h.sh.keep hk (offV hM h.sh (by decide))) (by decide), fun s hs => ?_, ?_, h.lp, h.lf, fun x hx => (ho x hx).elim (h.le x) (fun e => by have := h.keep.size; omega), h.ls, h.lh⟩
 ·have := o2.setCell 1 (.slice A2 (b.envs.length + 1) c2)
  simpa using this
 ·have := hpv hv (by decide)
  simpa [ab] using this
 ·obtain ⟨g, e1, e2, e3, e4⟩ := h.sl s hs
  exact ⟨g, e1, hp (e2.keep hk e4) (by decide), e3, new e2 e4⟩
 ·obtain ⟨g, e1, e2, e3, e4⟩ := h.tos s hs
  exact ⟨g, e1, hp (e2.keep hk e4) (by decide), e3, new e2 e4⟩
 ·intro x hx hy
  rcases ho x hy with m | m
  ·exact h.d3 x hx m
  ·have := h.fr.lt x hx
   omega
theorem Pb.sect (h : Pb w W pb b) {W2 : World} {g : Nat} {l : List Int} {k : Nat} (hl : l.length = k) (hg : Blk W g 3 (ab l)) (g2 : ¬ Own b.Af g) (g3 : ¬ Own b.Ae g) {A2 : Option Addr} {c2 : Nat} (hv : Vec W2 42 1 A2 (b.sects.length + 1) c2 (b.sects.map Sl.cell ++ [.slice (some ⟨g, 0, none⟩) k k])) (hk : Keep (Own b.As) W W2) (ho : ∀ g, Own A2 g → Own b.As g ∨ W.heap.size ≤ g) :
  Pb w (W2.setCell ⟨pb, 2, none⟩ (.slice A2 (b.sects.length + 1) c2)) pb { b with sects := b.sects ++ [⟨some ⟨g, 0, none⟩, k, l⟩], As := A2, cs := c2 } := by
 have hM : ∀ g, Own b.As g → ∃ cs, Blk W g 42 cs := fun g hg => h.se.blk hg
 have o2 := h.o.keep hk (eO hM h.o (by decide))
 have kp : Keep (fun x => x = pb) W2 (W2.setCell ⟨pb, 2, none⟩ (.slice A2 (b.sects.length + 1) c2)) := (Keep.refl _ _).setCell _ _ (fun _ => rfl)
 have hp : ∀ {x : Nat} {u : TypeId} {cs : List Value}, Blk W2 x u cs → u ≠ 144 → Blk (W2.setCell ⟨pb, 2, none⟩ (.slice A2 (b.sects.length + 1) c2)) x u cs := fun hb hu => hb.far (hb.ne_ o2 hu) _
 have hpv : ∀ {e sz n cap : Nat} {A : Option Addr} {xs : List Value}, Vec W2 e sz A n cap xs → e ≠ 144 → Vec (W2.setCell ⟨pb, 2, none⟩ (.slice A2 (b.sects.length + 1) c2)) e sz A n cap xs := fun hv hu => hv.keep kp (fun g hg e => by obtain ⟨cc, hc⟩ := hv.blk hg; exact hc.ne_ o2 hu e)
 have bI : ∀ {x : Nat} {u : TypeId} {cs : List Value}, Blk W x u cs → u ≠ 42 → u ≠ 144 → Blk (W2.setCell ⟨pb, 2, none⟩ (.slice A2 (b.sects.length + 1) c2)) x u cs := fun hb h1 h2 => hp (hb.keep hk (eO hM hb h1)) h2
 have vI : ∀ {e sz n cap : Nat} {A : Option Addr} {xs : List Value}, Vec W e sz A n cap xs → e ≠ 42 → e ≠ 144 → Vec (W2.setCell ⟨pb, 2, none⟩ (.slice A2 (b.sects.length + 1) c2)) e sz A n cap xs := fun hv h1 h2 => hpv (hv.keep hk (offV hM hv h1)) h2
 have K1 : Keep (bT w.heap.size) w (W2.setCell ⟨pb, 2, none⟩ (.slice A2 (b.sects.length + 1) c2)) := (h.keep.from_ hk h.ls).at_ kp h.lp
 refine ⟨K1, ?_, vI h.fr (by decide) (by decide), vI h.en (by decide) (by decide), ?_, fun s hs => ?_, vI h.sh (by decide) (by decide), fun s hs => ?_, h.d3, h.lp, h.lf, h.le, fun x hx => (ho x hx).elim (h.ls x) (fun e => by have := h.keep.size; omega), h.lh⟩
 ·have := o2.setCell 2 (.slice A2 (b.sects.length + 1) c2)
  simpa using this
 ·have := hpv hv (by decide)
  dsimp only
  rw [List.map_append, List.length_append]
  have e1 : Sl.cell ⟨some ⟨g, 0, none⟩, k, l⟩ = .slice (some ⟨g, 0, none⟩) k k := by unfold Sl.cell; rw [hl]
  simp only [List.map_cons, List.map_nil, e1]
  exact this
 ·rcases List.mem_append.1 hs with hs | hs
  ·obtain ⟨g', e1, e2, e3⟩ := h.sl s hs
   exact ⟨g', e1, bI e2 (by decide) (by decide), e3⟩
  ·obtain rfl := List.mem_singleton.1 hs
   exact ⟨g, rfl, bI hg (by decide) (by decide), g2, g3⟩
 ·obtain ⟨g', e1, e2, e3⟩ := h.tos s hs
  exact ⟨g', e1, bI e2 (by decide) (by decide), e3⟩
theorem Pb.share (h : Pb w W pb b) {W2 : World} {s : Sh} {g : Nat} (hA : s.A = some ⟨g, 0, none⟩) (hg : Blk W g 3 (ab s.tos)) (g2 : ¬ Own b.Af g) (g3 : ¬ Own b.Ae g) {A2 : Option Addr} {c2 : Nat} (hv : Vec W2 230 5 A2 (b.shared.length + 1) c2 (eU b.shared ++ s.cells)) (hk : Keep (Own b.Ah) W W2) (ho : ∀ g, Own A2 g → Own b.Ah g ∨ W.heap.size ≤ g) :
  Pb w (W2.setCell ⟨pb, 4, none⟩ (.slice A2 (b.shared.length + 1) c2)) pb { b with shared := b.shared ++ [s], Ah := A2, ch := c2 } := by
 have hM : ∀ g, Own b.Ah g → ∃ cs, Blk W g 230 cs := fun g hg => h.sh.blk hg
 have o2 := h.o.keep hk (eO hM h.o (by decide))
 have kp : Keep (fun x => x = pb) W2 (W2.setCell ⟨pb, 4, none⟩ (.slice A2 (b.shared.length + 1) c2)) := (Keep.refl _ _).setCell _ _ (fun _ => rfl)
 have hp : ∀ {x : Nat} {u : TypeId} {cs : List Value}, Blk W2 x u cs → u ≠ 144 → Blk (W2.setCell ⟨pb, 4, none⟩ (.slice A2 (b.shared.length + 1) c2)) x u cs := fun hb hu => hb.far (hb.ne_ o2 hu) _
 have hpv : ∀ {e sz n cap : Nat} {A : Option Addr} {xs : List Value}, Vec W2 e sz A n cap xs → e ≠ 144 → Vec (W2.setCell ⟨pb, 4, none⟩ (.slice A2 (b.shared.length + 1) c2)) e sz A n cap xs := fun hv hu => hv.keep kp (fun g hg e => by obtain ⟨cc, hc⟩ := hv.blk hg; exact hc.ne_ o2 hu e)
 have bI : ∀ {x : Nat} {u : TypeId} {cs : List Value}, Blk W x u cs → u ≠ 230 → u ≠ 144 → Blk (W2.setCell ⟨pb, 4, none⟩ (.slice A2 (b.shared.length + 1) c2)) x u cs := fun hb h1 h2 => hp (hb.keep hk (eO hM hb h1)) h2
 have vI : ∀ {e sz n cap : Nat} {A : Option Addr} {xs : List Value}, Vec W e sz A n cap xs → e ≠ 230 → e ≠ 144 → Vec (W2.setCell ⟨pb, 4, none⟩ (.slice A2 (b.shared.length + 1) c2)) e sz A n cap xs := fun hv h1 h2 => hpv (hv.keep hk (offV hM hv h1)) h2
 have K1 : Keep (bT w.heap.size) w (W2.setCell ⟨pb, 4, none⟩ (.slice A2 (b.shared.length + 1) c2)) := (h.keep.from_ hk h.lh).at_ kp h.lp
 refine ⟨K1, ?_, vI h.fr (by decide) (by decide), vI h.en (by decide) (by decide), vI h.se (by decide) (by decide), fun s hs => ?_, ?_, fun s' hs => ?_, h.d3, h.lp, h.lf, h.le, h.ls, fun x hx => (ho x hx).elim (h.lh x) (fun e => by have := h.keep.size; omega)⟩
 ·have := o2.setCell 4 (.slice A2 (b.shared.length + 1) c2)
  simpa using this
 ·obtain ⟨g', e1, e2, e3⟩ := h.sl s hs
  exact ⟨g', e1, bI e2 (by decide) (by decide), e3⟩
 ·have := hpv hv (by decide)
  have e1 : eU (b.shared ++ [s]) = eU b.shared ++ s.cells := by simp [eU]
  dsimp only
  rw [e1, List.length_append]
  exact this
 ·rcases List.mem_append.1 hs with hs | hs
  ·obtain ⟨g', e1, e2, e3⟩ := h.tos s' hs
   exact ⟨g', e1, bI e2 (by decide) (by decide), e3⟩
  ·obtain rfl := List.mem_singleton.1 hs
   exact ⟨g, hA, bI hg (by decide) (by decide), g2, g3⟩
theorem Pb.farB (h : Pb w W pb b) {g : Nat} {t : TypeId} {cs : List Value} (hb : Blk W g t cs) (ht : t ≠ 3 ∧ t ≠ 42 ∧ t ≠ 230) (hp : g ≠ pb) (hg : w.heap.size ≤ g) (kk : Keep (· = g) W W') : Pb w W' pb b := by
 have ob : ∀ {x : Nat} {u : TypeId} {cs : List Value}, Blk W x u cs → u ≠ t → x ≠ g := fun hx hu => hx.ne_ hb hu
 have ov : ∀ {e sz n cap : Nat} {A : Option Addr} {xs : List Value}, Vec W e sz A n cap xs → e ≠ t → ∀ x, Own A x → x ≠ g := fun hv hu x hx => by
  obtain ⟨c, hc⟩ := hv.blk hx
  exact hc.ne_ hb hu
 exact ⟨h.keep.at_ kk hg, h.o.keep kk (fun e => hp e.symm), h.fr.keep kk (ov h.fr ht.1.symm), h.en.keep kk (ov h.en ht.1.symm), h.se.keep kk (ov h.se ht.2.1.symm), fun s hs => by obtain ⟨g', h1, h2, h3⟩ := h.sl s hs; exact ⟨g', h1, h2.keep kk (ob h2 ht.1.symm), h3⟩,
  h.sh.keep kk (ov h.sh ht.2.2.symm), fun s hs => by obtain ⟨g', h1, h2, h3⟩ := h.tos s hs; exact ⟨g', h1, h2.keep kk (ob h2 ht.1.symm), h3⟩, h.d3, h.lp, h.lf, h.le, h.ls, h.lh⟩
theorem boot_blk {W : World} {g : Nat} {x y z u v : Value} (hb : Blk W g 144 [x, y, z, u, v]) (a b c d e : Value) : Blk (((((W.setCell ⟨g, 0, none⟩ a).setCell ⟨g, 1, none⟩ b).setCell ⟨g, 2, none⟩ c).setCell ⟨g, 3, none⟩ d).setCell ⟨g, 4, none⟩ e) g 144 [a, b, c, d, e] := by
 have := ((((hb.setCell 0 a).setCell 1 b).setCell 2 c).setCell 3 d).setCell 4 e
 simpa using this
theorem boot_keep (W : World) (g : Nat) (a b c d e : Value) : Keep (fun x => x = g) W (((((W.setCell ⟨g, 0, none⟩ a).setCell ⟨g, 1, none⟩ b).setCell ⟨g, 2, none⟩ c).setCell ⟨g, 3, none⟩ d).setCell ⟨g, 4, none⟩ e) :=
 (((((Keep.refl (fun x => x = g) W).setCell ⟨g, 0, none⟩ a (fun _ => rfl)).setCell ⟨g, 1, none⟩ b (fun _ => rfl)).setCell ⟨g, 2, none⟩ c (fun _ => rfl)).setCell ⟨g, 3, none⟩ d (fun _ => rfl)).setCell ⟨g, 4, none⟩ e (fun _ => rfl)
end
end Go.Proofs.YtgcikpgcoemfnaaGreat.Pn
namespace Go.Proofs.YtgcikpgcoemfnaaGreat.Pn
open Go.RowKit
def key (s : Sh) : Int × Int × Int × Int × List Int := (s.ses, s.frame, s.lo, s.n, s.tos)
def key1 (s : Nat) : Int × Int × Int × Int × List Int := (s, 0, 0, 492, [(s : Int)])
def key2 (brs : List Rf) (i : Nat) : Int × Int × Int × Int × List Int := ((brs.getD i (0, 0)).1, 8 + (i : Int), 0, 40, [(brs.getD i (0, 0)).1, (brs.getD i (0, 0)).2])
structure jG (n : Nat) (brs : List Rf) (lease : Int) (b : Bt) : Prop where
 frames : b.frames = mk n (fun _ => 20)
 envs : b.envs = mk (9 * n) (fun i => ((i / 9 : Nat) : Int))
 sects : b.sects.map (·.xs) = mk n (fun s => [(s : Int)])
 lease : b.lease = lease
 shared : b.shared.map key = mk n key1 ++ mk brs.length (key2 brs)
theorem stay {W W2 : World} {e sz n c : Nat} {A : Option Addr} {xs : List Value} (hV : Vec W e sz A n c xs) (hk : Keep (Own A) W W2) {x : Nat} {t : TypeId} {cs : List Value} (hb : Blk W x t cs) (ht : t ≠ e) {pb : Nat} (hx : x ≠ pb) (i : Nat) (v : Value) : Blk (W2.setCell ⟨pb, i, none⟩ v) x t cs :=
 (hb.keep hk (eO (fun g hg => hV.blk hg) hb ht)).far hx _
structure By (W : World) (pb g rb : Nat) (Ab : Option Addr) (n cb : Nat) (AB : Option Addr) (m cB : Nat) (lease : Int) : Prop where
 p : Blk W g 76 [.slice Ab n cb, .slice AB m cB, .int .i64 lease]
 z : Blk W rb 144 [.slice none 0 0, .slice none 0 0, .slice none 0 0, .int .i64 0, .slice none 0 0]
 gp : g ≠ pb
 rp : rb ≠ pb
section
variable {w W W2 : World} {pb g rb n cb m cB : Nat} {Ab AB : Option Addr} {lease : Int} {b : Bt}
theorem By.nob (h : By W pb g rb Ab n cb AB m cB lease) (k : Keep Nob W W2) : By W2 pb g rb Ab n cb AB m cB lease := ⟨h.p.nob k, h.z.nob k, h.gp, h.rp⟩
theorem By.st (h : By W pb g rb Ab n cb AB m cB lease) {e sz k c : Nat} {A : Option Addr} {xs : List Value} (hV : Vec W e sz A k c xs) (hk : Keep (Own A) W W2) (h1 : 76 ≠ e) (h2 : 144 ≠ e) (i : Nat) (v : Value) : By (W2.setCell ⟨pb, i, none⟩ v) pb g rb Ab n cb AB m cB lease :=
 ⟨stay hV hk h.p h1 h.gp i v, stay hV hk h.z h2 h.rp i v, h.gp, h.rp⟩
end
theorem Pb.isBt {w W : World} {pb : Nat} {b : Bt} (h : Pb w W pb b) : IsBt W b := by
 have e1 : ∀ {e n cap : Nat} {A : Option Addr} {xs : List Value}, Vec W e 1 A n cap xs → ae W A n xs := fun hv => by
  have := hv.reads
  rwa [Nat.mul_one] at this
 refine ⟨e1 h.fr, ?_, e1 h.en, ?_, fun s hs => ?_, h.sh.reads, fun s hs => ?_⟩
 ·by_cases h0 : 0 < b.frames.length
  ·obtain ⟨r, cur, hA, hb, hn, hc, ht⟩ := h.fr.at_ h0
   omega
  ·omega
 ·have := h.se.reads
  rwa [Nat.mul_one] at this
 ·obtain ⟨g, h1, h2, _⟩ := h.sl s hs
  rw [h1]
  exact aj h2 (by rw [dd])
 ·obtain ⟨g, h1, h2, _⟩ := h.tos s hs
  rw [h1]
  exact aj h2 (by rw [dd])
theorem boot_is {w : World} (Ab : Option Addr) (n cb : Nat) (AB : Option Addr) (cB : Nat) (brs : List Rf) (lease : Int) (m : Nat) (hml : brs.length = m) (hr : ae w AB (m * 2) (cU brs)) (hn : n ≤ 4) (hm : m ≤ 4) :
  Calls Tryz.prog 74 #[.agg #[.slice Ab n cb, .slice AB m cB, .int .i64 lease]] w fun e w' => ∃ b, e = .returned b.val ∧ IsBt w' b ∧ jG n brs lease b ∧ Keep (bT w.heap.size) w w' := by
 obtain ⟨g, hg⟩ : ∃ g, w.heap.size = g := ⟨_, rfl⟩
 have k0 := ((((Keep.refl Nob w).alloc (.cells #[.slice Ab n cb, .slice AB m cB, .int .i64 lease] 76)).alloc (.cells #[.slice none 0 0, .slice none 0 0, .slice none 0 0, .int .i64 0, .slice none 0 0] 144))).alloc (.cells #[.slice none 0 0, .slice none 0 0, .slice none 0 0, .int .i64 lease, .slice none 0 0] 144)
 have B0 : By (((w.alloc (.cells #[.slice Ab n cb, .slice AB m cB, .int .i64 lease] 76)).alloc (.cells #[.slice none 0 0, .slice none 0 0, .slice none 0 0, .int .i64 0, .slice none 0 0] 144)).alloc (.cells #[.slice none 0 0, .slice none 0 0, .slice none 0 0, .int .i64 lease, .slice none 0 0] 144)) (g + 1 + 1) g (g + 1) Ab n cb AB m cB lease := by
  subst hg
  refine ⟨((Blk.new w 76 _).alloc _).alloc _, ?_, by omega, by omega⟩
  have := (Blk.new (w.alloc (.cells #[.slice Ab n cb, .slice AB m cB, .int .i64 lease] 76)) 144 [.slice none 0 0, .slice none 0 0, .slice none 0 0, .int .i64 0, .slice none 0 0]).alloc (.cells #[.slice none 0 0, .slice none 0 0, .slice none 0 0, .int .i64 lease, .slice none 0 0] 144)
  simpa using this
 have P0 : Pb w (((w.alloc (.cells #[.slice Ab n cb, .slice AB m cB, .int .i64 lease] 76)).alloc (.cells #[.slice none 0 0, .slice none 0 0, .slice none 0 0, .int .i64 0, .slice none 0 0] 144)).alloc (.cells #[.slice none 0 0, .slice none 0 0, .slice none 0 0, .int .i64 lease, .slice none 0 0] 144)) (g + 1 + 1) ⟨[], none, 0, [], none, 0, [], none, 0, lease, [], none, 0⟩ := by
  have no : ∀ x, ¬ Own none x := fun x ⟨a, e, _⟩ => by cases e
  refine ⟨k0.mono (fun _ _ f => f.elim), ?_, Vec.nil _ _ _, Vec.nil _ _ _, Vec.nil _ _ _, fun s hs => (by cases hs), Vec.nil _ _ _, fun s hs => (by cases hs), fun x hx => (no x hx).elim, by omega, fun x hx => (no x hx).elim, fun x hx => (no x hx).elim, fun x hx => (no x hx).elim, fun x hx => (no x hx).elim⟩
  have := Blk.new ((w.alloc (.cells #[.slice Ab n cb, .slice AB m cB, .int .i64 lease] 76)).alloc (.cells #[.slice none 0 0, .slice none 0 0, .slice none 0 0, .int .i64 0, .slice none 0 0] 144)) 144 [.slice none 0 0, .slice none 0 0, .slice none 0 0, .int .i64 lease, .slice none 0 0]
  subst hg
  simpa using this
 have HR := aa hr
 have HML := aa hml
 have HB := aa (And.intro P0 (And.intro B0 (show w.heap.size ≤ g + 1 by omega)))
 have HG := aa hg
 clear k0 B0 P0 hr hml
 go_enter Tryz.func74, Tryz.ntmps74
 go_wp2_with fail
 obtain ⟨P0, B0, hlo⟩ := HB.out
 clear HB hg
 generalize ((w.alloc (.cells #[.slice Ab n cb, .slice AB m cB, .int .i64 lease] 76)).alloc (.cells #[.slice none 0 0, .slice none 0 0, .slice none 0 0, .int .i64 0, .slice none 0 0] 144)).alloc (.cells #[.slice none 0 0, .slice none 0 0, .slice none 0 0, .int .i64 lease, .slice none 0 0] 144) = w1 at *
 generalize g + 1 + 1 = pb at *
 generalize g + 1 = rb at *
 go_loopw [4] (fun s4 wx => ∃ (s : Nat) (b : Bt), s ≤ n ∧ s4 = .int .i64 s ∧ Pb w wx pb b ∧ By wx pb g rb Ab n cb AB m cB lease ∧ Hid (b.frames = mk s (fun _ => 20) ∧ b.envs = mk (9 * s) (fun i => ((i / 9 : Nat) : Int)) ∧ b.sects.map (·.xs) = mk s (fun s => [(s : Int)]) ∧ b.lease = lease ∧ b.shared.map key = mk s key1)) (fun t _ => n - (intOf t).toNat)
 case atStart => exact ⟨0, _, Nat.zero_le _, rfl, P0, B0, aa ⟨rfl, rfl, rfl, rfl, rfl⟩⟩
 case round =>
  clear P0 B0
  obtain ⟨s, b, hs, rfl, hP, hB, HI⟩ := hrel
  have c0 := hB.p.cell 0
  simp only [List.getElem?_cons_zero] at c0
  by_cases hlt : s < n
  ·have hlt' : (s : Int) < n := by omega
   have hfl := aa (show b.frames.length ≤ 4 ∧ b.envs.length = 9 * s by rw [HI.out.1, HI.out.2.1]; simp; omega)
   have p0 := hP.o.cell 0
   simp only [List.getElem?_cons_zero] at p0
   have kx := (Keep.refl Nob wr).alloc (.cells #[.int .i64 20] 3)
   have P1 := hP.nob kx
   have B1 := hB.nob kx
   have hv1 := P1.fr
   have hr1 := aj (n := 1) (Blk.new wr 3 [.int .i64 20]) rfl
   go_wp2_with (at_builtin; go_loud (refine aN rfl _ _ 42 rfl 3 1 8 (.int .i64 0) Tryz.underlying42 infoint_ rfl (by decide) b.Af b.frames.length b.cf (ab b.frames) rfl hv1 (some ⟨wr.heap.size, 0, none⟩) 1 1 [.int .i64 20] rfl 1 rfl hr1 (by simp [Value.oneCell']) (by have := hfl.out; unfold maxLen; omega) (by have := hfl.out; omega) ?_); intro A2 c2 w5 hv2 hk2 ho2; have o2 := P1.o.keep hk2 (eO (fun g hg => P1.fr.blk hg) P1.o (by decide)); have z1 := o2.cell 0; have f1 := o2.frozen 0; simp only [List.getElem?_cons_zero, List.getElem?_cons_succ] at z1)
   have P2 := P1.frame hv2 hk2 (fun g hg => (ho2 g hg).imp id (fun e => by omega))
   have B2 := B1.st hv1 hk2 (by decide) (by decide) 0 (.slice A2 (b.frames.length + 1) c2)
   have I2 : Hid (b.frames ++ [20] = mk (s + 1) (fun _ => 20) ∧ b.envs = mk (9 * s + 0) (fun i => ((i / 9 : Nat) : Int)) ∧ b.sects.map (·.xs) = mk s (fun s => [(s : Int)]) ∧ b.lease = lease ∧ b.shared.map key = mk s key1) := aa ⟨by rw [HI.out.1, dE], HI.out.2⟩
   clear P1 B1 hv1 hr1 kx hv2 hk2 ho2 o2 z1 f1 p0 hP hB c0
   generalize w5.setCell ⟨pb, 0, none⟩ (.slice A2 (b.frames.length + 1) c2) = w6 at *
   go_wp2_with fail
   go_loopw [5] (fun s5 wx => ∃ (i : Nat) (b : Bt), i ≤ 9 ∧ s5 = .int .i64 i ∧ Pb w wx pb b ∧ By wx pb g rb Ab n cb AB m cB lease ∧ Hid (b.frames = mk (s + 1) (fun _ => 20) ∧ b.envs = mk (9 * s + i) (fun i => ((i / 9 : Nat) : Int)) ∧ b.sects.map (·.xs) = mk s (fun s => [(s : Int)]) ∧ b.lease = lease ∧ b.shared.map key = mk s key1)) (fun t _ => 9 - (intOf t).toNat)
   case atStart => exact ⟨0, _, by omega, rfl, P2, B2, I2⟩
   case round =>
    clear P2 B2 I2 hfl
    obtain ⟨i, b, hi, rfl, hP, hB, HI⟩ := hrel
    by_cases hl9 : i < 9
    ·have hel := aa (show b.envs.length ≤ 100 by rw [HI.out.2.1]; simp; omega)
     have p0 := hP.o.cell 1
     simp only [List.getElem?_cons_zero, List.getElem?_cons_succ] at p0
     have kx := (Keep.refl Nob wr).alloc (.cells #[.int .i64 s] 3)
     have P1 := hP.nob kx
     have B1 := hB.nob kx
     have hv1 := P1.en
     have hr1 := aj (n := 1) (Blk.new wr 3 [.int .i64 s]) rfl
     go_wp2_with (at_builtin; go_loud (refine aN rfl _ _ 42 rfl 3 1 8 (.int .i64 0) Tryz.underlying42 infoint_ rfl (by decide) b.Ae b.envs.length b.ce (ab b.envs) rfl hv1 (some ⟨wr.heap.size, 0, none⟩) 1 1 [.int .i64 s] rfl 1 rfl hr1 (by simp [Value.oneCell']) (by have := hel.out; unfold maxLen; omega) (by have := hel.out; omega) ?_); intro A2 c2 w5 hv2 hk2 ho2; have o2 := P1.o.keep hk2 (eO (fun g hg => P1.en.blk hg) P1.o (by decide)); have z1 := o2.cell 1; have f1 := o2.frozen 1; simp only [List.getElem?_cons_zero, List.getElem?_cons_succ] at z1)
     have P2 := P1.env hv2 hk2 (fun g hg => (ho2 g hg).imp id (fun e => by omega))
     have B2 := B1.st hv1 hk2 (by decide) (by decide) 1 (.slice A2 (b.envs.length + 1) c2)
     have I2 := aa (show b.frames = mk (s + 1) (fun _ => 20) ∧ b.envs ++ [(s : Int)] = mk (9 * s + (i + 1)) (fun i => ((i / 9 : Nat) : Int)) ∧ b.sects.map (·.xs) = mk s (fun s => [(s : Int)]) ∧ b.lease = lease ∧ b.shared.map key = mk s key1 from ⟨HI.out.1, by rw [HI.out.2.1, show 9 * s + (i + 1) = (9 * s + i) + 1 by omega, ← dE, show (9 * s + i) / 9 = s by omega], HI.out.2.2⟩)
     have FI := aa (And.intro P2 B2)
     clear P1 B1 hv1 hr1 kx hv2 hk2 ho2 o2 hP hB P2 B2
     go_roundw
     case rel => exact ⟨i + 1, _, by omega, by go_num, FI.out.1, FI.out.2, I2⟩
     case measure => simp [intOf]; omega
    ·have hi9 := aa (show i = 9 by omega)
     have HL := aa (show b.sects.length ≤ 4 ∧ b.shared.length ≤ 4 by
      have e1 := congrArg List.length HI.out.2.2.1
      have e2 := congrArg List.length HI.out.2.2.2.2
      simp at e1 e2
      omega)
     have p0 := hP.o.cell 2
     simp only [List.getElem?_cons_zero, List.getElem?_cons_succ] at p0
     have kx := ((Keep.refl Nob wr).alloc (.cells #[.int .i64 s] 3)).alloc (.cells #[.slice (some ⟨wr.heap.size, 0, none⟩) 1 1] 42)
     have P1 := hP.nob kx
     have B1 := hB.nob kx
     have hg1 := (Blk.new wr 3 (ab [(s : Int)])).alloc (.cells #[.slice (some ⟨wr.heap.size, 0, none⟩) 1 1] 42)
     have nf : ¬ Own b.Af wr.heap.size := fun h => by have := hP.fr.lt _ h; omega
     have ne : ¬ Own b.Ae wr.heap.size := fun h => by have := hP.en.lt _ h; omega
     have hv1 := P1.se
     have hbY := Blk.new (wr.alloc (.cells #[.int .i64 s] 3)) 42 [.slice (some ⟨wr.heap.size, 0, none⟩) 1 1]
     have hsz : (wr.alloc (.cells #[.int .i64 s] 3)).heap.size = wr.heap.size + 1 := by simp
     rw [hsz] at hbY
     have hr1 := aj (n := 1) hbY rfl
     have HX := aa (And.intro hg1 (And.intro nf (And.intro ne hsz)))
     clear hg1 nf ne hsz hbY
     go_upto_region 11 with (at_builtin; go_loud (refine aN rfl _ _ 141 rfl 42 1 24 (.slice none 0 0) Tryz.underlying141 infoints_ rfl (by decide) b.As b.sects.length b.cs (b.sects.map Sl.cell) rfl hv1 (some ⟨wr.heap.size + 1, 0, none⟩) 1 1 [.slice (some ⟨wr.heap.size, 0, none⟩) 1 1] rfl 1 rfl hr1 (by simp [Value.oneCell']) (by have := HL.out; unfold maxLen; omega) (by have := HL.out; omega) ?_); intro A2 c2 w5 hv2 hk2 ho2; have o2 := P1.o.keep hk2 (eO (fun g hg => P1.se.blk hg) P1.o (by decide)); have z1 := o2.cell 2; have f1 := o2.frozen 2; simp only [List.getElem?_cons_zero, List.getElem?_cons_succ] at z1)
     have P2 := P1.sect (k := 1) (l := [(s : Int)]) rfl HX.out.1 HX.out.2.1 HX.out.2.2.1 hv2 hk2 (fun g hg => (ho2 g hg).imp id (fun e => by omega))
     have B2 := B1.st hv1 hk2 (by decide) (by decide) 2 (.slice A2 (b.sects.length + 1) c2)
     have I2 := aa (show b.frames = mk (s + 1) (fun _ => 20) ∧ b.envs = mk (9 * (s + 1)) (fun i => ((i / 9 : Nat) : Int)) ∧ (b.sects ++ [(⟨some ⟨wr.heap.size, 0, none⟩, 1, [(s : Int)]⟩ : Sl)]).map (fun x : Sl => x.xs) = mk (s + 1) (fun s => [(s : Int)]) ∧ b.lease = lease ∧ b.shared.map key = mk s key1 from ⟨HI.out.1, by rw [HI.out.2.1, hi9.out, Nat.mul_succ], by rw [List.map_append, HI.out.2.2.1, ← dE]; rfl, HI.out.2.2.2⟩)
     clear P1 B1 hv1 hr1 kx hv2 hk2 ho2 o2 z1 f1 p0 hP hB HX HI
     generalize w5.setCell ⟨pb, 2, none⟩ (.slice A2 (b.sects.length + 1) c2) = w6 at *
     have p0 := P2.o.cell 4
     simp only [List.getElem?_cons_zero, List.getElem?_cons_succ] at p0
     have kx := ((Keep.refl Nob w6).alloc (.cells #[.int .i64 s] 3)).alloc (.cells #[.int .i64 s, .int .i64 0, .int .i64 0, .int .i64 492, .slice (some ⟨w6.heap.size, 0, none⟩) 1 1] 230)
     have P3 := P2.nob kx
     have B3 := B2.nob kx
     have hg1 := (Blk.new w6 3 (ab [(s : Int)])).alloc (.cells #[.int .i64 s, .int .i64 0, .int .i64 0, .int .i64 492, .slice (some ⟨w6.heap.size, 0, none⟩) 1 1] 230)
     have nf : ¬ Own b.Af w6.heap.size := fun h => by have := P2.fr.lt _ h; omega
     have ne : ¬ Own b.Ae w6.heap.size := fun h => by have := P2.en.lt _ h; omega
     have hv1 := P3.sh
     have hbY := Blk.new (w6.alloc (.cells #[.int .i64 s] 3)) 230 [.int .i64 s, .int .i64 0, .int .i64 0, .int .i64 492, .slice (some ⟨w6.heap.size, 0, none⟩) 1 1]
     have hsz : (w6.alloc (.cells #[.int .i64 s] 3)).heap.size = w6.heap.size + 1 := by simp
     rw [hsz] at hbY
     have hr1 := aj (n := 5) hbY rfl
     have HX := aa (And.intro hg1 (And.intro nf (And.intro ne hsz)))
     clear hg1 nf ne hsz hbY
     go_wp2_with (at_builtin; go_loud (refine aN rfl _ _ 142 rfl 230 5 56 (.agg #[.int .i64 0, .int .i64 0, .int .i64 0, .int .i64 0, .slice none 0 0]) Tryz.underlying142 kI rfl (by decide) b.Ah b.shared.length b.ch (eU b.shared) rfl hv1 (some ⟨w6.heap.size + 1, 0, none⟩) 1 1 [.int .i64 s, .int .i64 0, .int .i64 0, .int .i64 492, .slice (some ⟨w6.heap.size, 0, none⟩) 1 1] rfl 5 rfl hr1 (by simp [Value.oneCell']) (by have := HL.out; unfold maxLen; omega) (by have := HL.out; omega) ?_); intro A2 c2 w5 hv2 hk2 ho2; have o2 := P3.o.keep hk2 (eO (fun x hx => P3.sh.blk hx) P3.o (by decide)); have z1 := o2.cell 4; have f1 := o2.frozen 4; simp only [List.getElem?_cons_zero, List.getElem?_cons_succ] at z1)
     have P4 := P3.share (s := ⟨s, 0, 0, 492, some ⟨w6.heap.size, 0, none⟩, 1, [(s : Int)]⟩) (g := w6.heap.size) rfl HX.out.1 HX.out.2.1 HX.out.2.2.1 hv2 hk2 (fun g hg => (ho2 g hg).imp id (fun e => by omega))
     have B4 := B3.st hv1 hk2 (by decide) (by decide) 4 (.slice A2 (b.shared.length + 1) c2)
     have FI := aa (And.intro P4 B4)
     clear P3 B3 hv1 hr1 kx hv2 hk2 ho2 o2 P2 B2 P4 B4 p0
     go_wp2_with fail
     go_roundw
     case rel => exact ⟨s + 1, _, by omega, by go_num, FI.out.1, FI.out.2, aa ⟨I2.out.1, I2.out.2.1, I2.out.2.2.1, I2.out.2.2.2.1, by dsimp only; rw [List.map_append, I2.out.2.2.2.2, ← dE]; rfl⟩⟩
     case measure => simp [intOf]; omega
  ·obtain rfl : s = n := by omega
   clear hlt
   go_wp2_with fail
   clear c0
   go_loopw [6] (fun s6 wx => ∃ (i : Nat) (b : Bt), i ≤ m ∧ s6 = .int .i64 i ∧ Pb w wx pb b ∧ By wx pb g rb Ab s cb AB m cB lease ∧ Hid (b.frames = mk s (fun _ => 20) ∧ b.envs = mk (9 * s) (fun i => ((i / 9 : Nat) : Int)) ∧ b.sects.map (·.xs) = mk s (fun s => [(s : Int)]) ∧ b.lease = lease ∧ b.shared.map key = mk s key1 ++ mk i (key2 brs))) (fun t _ => m - (intOf t).toNat)
   case atStart => exact ⟨0, b, Nat.zero_le _, rfl, hP, hB, aa ⟨HI.out.1, HI.out.2.1, HI.out.2.2.1, HI.out.2.2.2.1, by rw [HI.out.2.2.2.2]; simp [mk]⟩⟩
   case round =>
    clear hP hB HI
    obtain ⟨i, b, hi, rfl, hP, hB, HI⟩ := hrel
    have c1 := hB.p.cell 1
    simp only [List.getElem?_cons_zero, List.getElem?_cons_succ] at c1
    by_cases hlt : i < m
    ·have HL := aa (show b.shared.length ≤ 8 by
      have e2 := congrArg List.length HI.out.2.2.2.2
      simp at e2
      omega)
     obtain ⟨bb, off, hAB, hcl⟩ := (HR.out.from_ hP.keep).lit (by omega)
     subst hAB
     obtain ⟨x, hx⟩ : ∃ x, brs[i]? = some x := ⟨_, List.getElem?_eq_getElem (by rw [HML.out]; exact hlt)⟩
     have y0 := hcl (i * 2) (.int .i64 x.1) (by have := fK hx (j := 0) (by decide); simpa [bP] using this)
     have y1 := hcl (i * 2 + 1) (.int .i64 x.2) (by have := fK hx (j := 1) (by decide); simpa [bP] using this)
     rw [← Nat.add_assoc] at y1
     have HK := aa (show brs.getD i (0, 0) = x by rw [List.getD_eq_getElem?_getD, hx]; rfl)
     clear hcl hx
     obtain ⟨x1, x2⟩ := x
     dsimp only at y0 y1
     have p0 := (hP.nob ((Keep.refl Nob wr).alloc (.cells #[.int .i64 x1, .int .i64 x2] 153))).o.cell 4
     simp only [List.getElem?_cons_zero, List.getElem?_cons_succ] at p0
     have kx := (((Keep.refl Nob wr).alloc (.cells #[.int .i64 x1, .int .i64 x2] 153)).alloc (.cells #[.int .i64 x1, .int .i64 x2] 3)).alloc (.cells #[.int .i64 x1, .int .i64 (8 + i), .int .i64 0, .int .i64 40, .slice (some ⟨wr.heap.size + 1, 0, none⟩) 2 2] 230)
     have P3 := hP.nob kx
     have B3 := hB.nob kx
     have hs1 : (wr.alloc (.cells #[.int .i64 x1, .int .i64 x2] 153)).heap.size = wr.heap.size + 1 := by simp
     have hg1 := (Blk.new (wr.alloc (.cells #[.int .i64 x1, .int .i64 x2] 153)) 3 (ab [x1, x2])).alloc (.cells #[.int .i64 x1, .int .i64 (8 + i), .int .i64 0, .int .i64 40, .slice (some ⟨wr.heap.size + 1, 0, none⟩) 2 2] 230)
     rw [hs1] at hg1
     have nf : ¬ Own b.Af (wr.heap.size + 1) := fun h => by have := hP.fr.lt _ h; omega
     have ne : ¬ Own b.Ae (wr.heap.size + 1) := fun h => by have := hP.en.lt _ h; omega
     have hv1 := P3.sh
     have hbY := Blk.new ((wr.alloc (.cells #[.int .i64 x1, .int .i64 x2] 153)).alloc (.cells #[.int .i64 x1, .int .i64 x2] 3)) 230 [.int .i64 x1, .int .i64 (8 + i), .int .i64 0, .int .i64 40, .slice (some ⟨wr.heap.size + 1, 0, none⟩) 2 2]
     have hsz : ((wr.alloc (.cells #[.int .i64 x1, .int .i64 x2] 153)).alloc (.cells #[.int .i64 x1, .int .i64 x2] 3)).heap.size = wr.heap.size + 1 + 1 := by simp
     rw [hsz] at hbY
     have hr1 := aj (n := 5) hbY rfl
     have HX := aa (And.intro hg1 (And.intro nf (And.intro ne (And.intro hsz hs1))))
     clear hg1 nf ne hsz hbY hs1
     go_wp2_with (at_builtin; go_loud (refine aN rfl _ _ 142 rfl 230 5 56 (.agg #[.int .i64 0, .int .i64 0, .int .i64 0, .int .i64 0, .slice none 0 0]) Tryz.underlying142 kI rfl (by decide) b.Ah b.shared.length b.ch (eU b.shared) rfl hv1 (some ⟨wr.heap.size + 1 + 1, 0, none⟩) 1 1 [.int .i64 x1, .int .i64 (8 + i), .int .i64 0, .int .i64 40, .slice (some ⟨wr.heap.size + 1, 0, none⟩) 2 2] rfl 5 rfl hr1 (by simp [Value.oneCell']) (by have := HL.out; unfold maxLen; omega) (by have := HL.out; omega) ?_); intro A2 c2 w5 hv2 hk2 ho2; have o2 := P3.o.keep hk2 (eO (fun x hx => P3.sh.blk hx) P3.o (by decide)); have z1 := o2.cell 4; have f1 := o2.frozen 4; simp only [List.getElem?_cons_zero, List.getElem?_cons_succ] at z1)
     have P4 := P3.share (s := ⟨x1, 8 + i, 0, 40, some ⟨wr.heap.size + 1, 0, none⟩, 2, [x1, x2]⟩) (g := wr.heap.size + 1) rfl HX.out.1 HX.out.2.1 HX.out.2.2.1 hv2 hk2 (fun g hg => (ho2 g hg).imp id (fun e => by omega))
     have B4 := B3.st hv1 hk2 (by decide) (by decide) 4 (.slice A2 (b.shared.length + 1) c2)
     have FI := aa (And.intro P4 B4)
     clear P3 B3 hv1 hr1 kx hv2 hk2 ho2 o2 P4 B4 p0 y0 y1
     go_wp2_with fail
     go_roundw
     case rel => exact ⟨i + 1, _, by omega, by go_num, FI.out.1, FI.out.2, aa ⟨HI.out.1, HI.out.2.1, HI.out.2.2.1, HI.out.2.2.2.1, by dsimp only; rw [List.map_append, HI.out.2.2.2.2, ← dE (n := i), List.append_assoc]; unfold key2; rw [HK.out]; rfl⟩⟩
     case measure => simp [intOf]; omega
    ·obtain rfl : i = m := by omega
     have d0 := hP.o.cell 0
     have d1 := hP.o.cell 1
     have d2 := hP.o.cell 2
     have d3 := hP.o.cell 3
     have d4 := hP.o.cell 4
     have r0 := hB.z.cell 0
     have r1 := hB.z.cell 1
     have r2 := hB.z.cell 2
     have r3 := hB.z.cell 3
     have r4 := hB.z.cell 4
     have f0 := hB.z.frozen 0
     have f1 := hB.z.frozen 1
     have f2 := hB.z.frozen 2
     have f3 := hB.z.frozen 3
     have f4 := hB.z.frozen 4
     simp only [List.getElem?_cons_zero, List.getElem?_cons_succ] at d0 d1 d2 d3 d4 r0 r1 r2 r3 r4
     have hb2 := boot_blk hB.z (.slice b.Af b.frames.length b.cf) (.slice b.Ae b.envs.length b.ce) (.slice b.As b.sects.length b.cs) (.int .i64 b.lease) (.slice b.Ah b.shared.length b.ch)
     have kk := boot_keep wr rb (.slice b.Af b.frames.length b.cf) (.slice b.Ae b.envs.length b.ce) (.slice b.As b.sects.length b.cs) (.int .i64 b.lease) (.slice b.Ah b.shared.length b.ch)
     have hP2 := hP.farB hB.z (by decide) hB.rp hlo kk
     have FI := aa (And.intro hP2 hb2)
     clear hP hB hP2 hb2 kk
     go_wp2
     (try simp only [Exit.inBlock, Exit.then])
     refine bodyPost_ret (v := b.val) (results_cell_row rfl _ _ rb 144 #[.slice b.Af b.frames.length b.cf, .slice b.Ae b.envs.length b.ce, .slice b.As b.sects.length b.cs, .int .i64 b.lease, .slice b.Ah b.shared.length b.ch] (0, 0) _ rfl FI.out.2 Tryz.underlying144 rfl infoBoot) rfl ?_
     exact ⟨b, rfl, FI.out.1.isBt, ⟨HI.out.1, HI.out.2.1, HI.out.2.2.1, HI.out.2.2.2.1, by rw [HML.out]; exact HI.out.2.2.2.2⟩, FI.out.1.keep⟩
end Go.Proofs.YtgcikpgcoemfnaaGreat.Pn
