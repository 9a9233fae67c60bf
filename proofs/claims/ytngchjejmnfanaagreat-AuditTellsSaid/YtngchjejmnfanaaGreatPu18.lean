/- Texts Krn5, packed. -/
import Derived.Laws.EntriesVeiled
import Derived.Test.YtngchjejmnfanaaGreatPu0
import Derived.Test.YtngchjejmnfanaaGreatPu7
import Derived.Test.YtngchjejmnfanaaGreatPu12
import Derived.Test.YtngchjejmnfanaaGreatPu3
import Derived.Test.YtngchjejmnfanaaGreatPu13
import Derived.Test.YtngchjejmnfanaaGreatPu15
import Derived.Test.YtngchjejmnfanaaGreatPu14
import Derived.Test.YtngchjejmnfanaaGreatPu17
namespace Go.Proofs.YtngchjejmnfanaaGreat
open Go.RowKit
set_option linter.unusedVariables false
set_option linter.unusedSimpArgs false
def shares (l : List Sh) : List Value := (l.map Sh.cells).flatten
theorem shares_get {l : List Sh} {i j : Nat} {s : Sh} (h : l[i]? = some s) (hj : j < 5) : (shares l)[i * 5 + j]? = s.cells[j]? := by
  have hW : ∀ c ∈ l.map Sh.cells, c.length = 5 := fun c hc => by
    obtain ⟨x, _, rfl⟩ := List.mem_map.1 hc
    rfl
  have := flatten_get (l.map Sh.cells) hW i j hj
  rw [List.getElem?_map, h] at this
  exact this
set_option maxHeartbeats 2000000 in
theorem ix3_is {w : World} {rc ic lc rr n : Nat} {ns : List Nat} (h : Clo w rc ic lc rr n ns) (A : Option Addr) (m c2 : Nat) (ls : List Sh) (hl : ls.length = m) (hx : Reads w A (m * 5) (shares ls)) (hr : ∀ s ∈ ls, Reads w s.A s.tos.length (ints s.tos) ∧ ShOk ns s) (hm : m ≤ 1000) :
    Calls Tryz.prog 258 #[.slice A m c2, .func (.func 186) #[] #[.pointer (some ⟨ic, 0, none⟩), .pointer (some ⟨lc, 0, none⟩), .pointer (some ⟨rc, 0, none⟩)]] w fun e w' => e = .returned (.int .i64 (-1)) ∧ Keep Nob w w' := by
  have HX := Lib.hid hx
  have HL := Lib.hid hl
  have HR := Lib.hid hr
  have HH := Lib.hid h
  clear hx hl hr h
  go_enter Tryz.func258, Tryz.ntmps258
  go_wp2_with fail
  go_loopw [8] (fun s8 wx => ∃ k : Nat, k ≤ m ∧ s8 = .int .i64 k ∧ Keep Nob w wx) (fun s8 _ => m - (intOf s8).toNat)
  case atStart => exact ⟨0, Nat.zero_le _, rfl, Keep.refl _ _⟩
  case round =>
    obtain ⟨k, hk, rfl, hK⟩ := hrel
    by_cases hlt : k < m
    · obtain ⟨x, hx⟩ : ∃ x, ls[k]? = some x := ⟨_, List.getElem?_eq_getElem (by rw [HL.out]; exact hlt)⟩
      obtain ⟨b, off, hA, hcl⟩ := (HX.out.nob hK).lit (by omega)
      have hxm := HR.out x (List.mem_of_getElem? hx)
      have g0 := hcl _ _ (shares_get hx (j := 0) (by decide))
      have g1 := hcl _ _ (shares_get hx (j := 1) (by decide))
      have g2 := hcl _ _ (shares_get hx (j := 2) (by decide))
      have g3 := hcl _ _ (shares_get hx (j := 3) (by decide))
      have g4 := hcl _ _ (shares_get hx (j := 4) (by decide))
      rw [← Nat.add_assoc] at g1 g2 g3 g4
      rw [Nat.add_zero] at g0
      have HM := Lib.hid hxm
      subst hA
      clear hcl hx hxm
      have hcall := share_no (HH.out.nob hK) x HM.out.2 (HM.out.1.nob hK)
      unfold Sh.val at hcall
      go_wp2_with fail
      refine hcall.mono ?_; rintro e w1 ⟨rfl, k1⟩
      have hK2 := hK.trans k1 (fun _ _ f => f)
      clear hcall g0 g1 g2 g3 g4 k1
      go_wp2_with fail
      go_roundw
      case rel => exact ⟨k + 1, by omega, by go_num, hK2⟩
      case measure => simp [intOf]; omega
    · obtain rfl : k = m := by omega
      go_wp2
      go_ret
      exact ⟨rfl, hK⟩
theorem cf3_is {w : World} {rc ic lc rr n : Nat} {ns : List Nat} (h : Clo w rc ic lc rr n ns) (A : Option Addr) (m c2 : Nat) (ls : List Sh) (hl : ls.length = m) (hx : Reads w A (m * 5) (shares ls)) (hr : ∀ s ∈ ls, Reads w s.A s.tos.length (ints s.tos) ∧ ShOk ns s) (hm : m ≤ 1000) :
    Calls Tryz.prog 185 #[.slice A m c2, .func (.func 186) #[] #[.pointer (some ⟨ic, 0, none⟩), .pointer (some ⟨lc, 0, none⟩), .pointer (some ⟨rc, 0, none⟩)]] w fun e w' => e = .returned (.bool false) ∧ Keep Nob w w' := by
  go_enter Tryz.func185, Tryz.ntmps185
  go_wp2_with fail
  refine (ix3_is h A m c2 ls hl hx hr hm).mono ?_; rintro e w1 ⟨rfl, k1⟩
  go_wp2
  go_ret
  exact ⟨rfl, k1⟩
/-- A Boot. -/
structure Bt where
  frames : List Int
  Af : Option Addr
  cf : Nat
  envs : List Int
  Ae : Option Addr
  ce : Nat
  sects : List Sl
  As : Option Addr
  cs : Nat
  lease : Int
  shared : List Sh
  Ah : Option Addr
  ch : Nat
def Bt.val (b : Bt) : Value := .agg #[.slice b.Af b.frames.length b.cf, .slice b.Ae b.envs.length b.ce, .slice b.As b.sects.length b.cs, .int .i64 b.lease, .slice b.Ah b.shared.length b.ch]
/-- How a Boot lies in memory. -/
structure IsBt (w : World) (b : Bt) : Prop where
  fr : Reads w b.Af b.frames.length (ints b.frames)
  cf : b.frames.length ≤ b.cf
  en : Reads w b.Ae b.envs.length (ints b.envs)
  se : Reads w b.As b.sects.length (b.sects.map Sl.cell)
  sl : ∀ s ∈ b.sects, Reads w s.A s.xs.length (ints s.xs)
  sh : Reads w b.Ah (b.shared.length * 5) (shares b.shared)
  tos : ∀ s ∈ b.shared, Reads w s.A s.tos.length (ints s.tos)
theorem IsBt.nob {w w' : World} {b : Bt} (h : IsBt w b) (k : Keep Nob w w') : IsBt w' b :=
  ⟨h.fr.nob k, h.cf, h.en.nob k, h.se.nob k, fun s hs => (h.sl s hs).nob k, h.sh.nob k, fun s hs => (h.tos s hs).nob k⟩
/-- A Boot that is good. -/
structure BtOk (b : Bt) (ns : List Nat) : Prop where
  nse : Qu.sizes b.frames = ns
  f1 : 1 ≤ b.frames.length
  f4 : b.frames.length ≤ 4
  e40 : b.envs.length ≤ 40
  s8 : b.sects.length ≤ 8
  h16 : b.shared.length ≤ 16
  l1 : 1 ≤ b.lease
  l2 : b.lease ≤ 1000
  en : InR b.frames.length b.envs
  se : ∀ s ∈ b.sects, InR b.frames.length s.xs ∧ s.xs.length ≤ 1000
  sh : ∀ s ∈ b.shared, ShOk ns s
theorem BtOk.len {b : Bt} {ns : List Nat} (h : BtOk b ns) : ns.length = b.frames.length := by rw [← h.nse, Qu.sizes_len]; have := h.f4; omega
theorem sizes64 {xs : List Int} : ∀ n ∈ Qu.sizes xs, n ≤ 64 := fun n hn => by
  unfold Qu.sizes at hn
  obtain ⟨x, _, rfl⟩ := List.mem_map.1 hn
  omega
theorem clo_made {w : World} {ns : List Nat} {n rr : Nat} (X : Obj) (hb : Blk w rr 179 (roomCells ns)) (hn : ns.length = n) (h4 : n ≤ 4) (h64 : ∀ x ∈ ns, x ≤ 64) :
    Clo ((((w.alloc X).alloc (.cells #[.slice (some ⟨rr, 0, none⟩) n n] 175)).alloc (.cells #[.func (.func 182) #[] #[.pointer (some ⟨w.heap.size + 1, 0, none⟩)]] 120)).alloc (.cells #[.func (.func 183) #[] #[.pointer (some ⟨w.heap.size + 1 + 1, 0, none⟩)]] 279)) (w.heap.size + 1) (w.heap.size + 1 + 1) (w.heap.size + 1 + 1 + 1) rr n ns := by
  have e1 : (w.alloc X).heap.size = w.heap.size + 1 := by simp
  have b1 := Blk.new (w.alloc X) 175 [.slice (some ⟨rr, 0, none⟩) n n]
  rw [e1] at b1
  have e2 : ((w.alloc X).alloc (.cells #[.slice (some ⟨rr, 0, none⟩) n n] 175)).heap.size = w.heap.size + 1 + 1 := by simp
  have b2 := Blk.new ((w.alloc X).alloc (.cells #[.slice (some ⟨rr, 0, none⟩) n n] 175)) 120 [.func (.func 182) #[] #[.pointer (some ⟨w.heap.size + 1, 0, none⟩)]]
  rw [e2] at b2
  have e3 : (((w.alloc X).alloc (.cells #[.slice (some ⟨rr, 0, none⟩) n n] 175)).alloc (.cells #[.func (.func 182) #[] #[.pointer (some ⟨w.heap.size + 1, 0, none⟩)]] 120)).heap.size = w.heap.size + 1 + 1 + 1 := by simp
  have b3 := Blk.new (((w.alloc X).alloc (.cells #[.slice (some ⟨rr, 0, none⟩) n n] 175)).alloc (.cells #[.func (.func 182) #[] #[.pointer (some ⟨w.heap.size + 1, 0, none⟩)]] 120)) 279 [.func (.func 183) #[] #[.pointer (some ⟨w.heap.size + 1 + 1, 0, none⟩)]]
  rw [e3] at b3
  have b1' := (b1.alloc (.cells #[.func (.func 182) #[] #[.pointer (some ⟨w.heap.size + 1, 0, none⟩)]] 120)).alloc (.cells #[.func (.func 183) #[] #[.pointer (some ⟨w.heap.size + 1 + 1, 0, none⟩)]] 279)
  have b2' := b2.alloc (.cells #[.func (.func 183) #[] #[.pointer (some ⟨w.heap.size + 1 + 1, 0, none⟩)]] 279)
  exact ⟨b1'.cell 0, b2'.cell 0, b3.cell 0, (((hb.alloc _).alloc _).alloc _).alloc _, b1'.lt, b2'.lt, b3.lt, hn, h4, h64⟩
set_option maxRecDepth 100000 in
set_option maxHeartbeats 2000000 in
theorem there_is {w : World} {b : Bt} {ns : List Nat} (h : IsBt w b) (ok : BtOk b ns) (rr : Nat) (hb : Blk w rr 179 (roomCells ns)) :
    Calls Tryz.prog 92 #[b.val, .slice (some ⟨rr, 0, none⟩) b.frames.length b.frames.length] w fun e w' => e = .returned (.bool true) ∧ Keep Nob w w' := by
  have hnl := ok.len
  have h4 := ok.f4
  have e40 := ok.e40
  have s8 := ok.s8
  have h16 := ok.h16
  have HH := Lib.hid (And.intro h ok)
  have HB := Lib.hid hb
  have HN := Lib.hid hnl
  clear h ok hb hnl
  unfold Bt.val
  go_enter Tryz.func92, Tryz.ntmps92
  go_wp2_with fail
  have hC := clo_made (.cells #[.slice b.Af b.frames.length b.cf, .slice b.Ae b.envs.length b.ce, .slice b.As b.sects.length b.cs, .int .i64 b.lease, .slice b.Ah b.shared.length b.ch] 62) HB.out HN.out h4 (by rw [← HH.out.2.nse]; exact sizes64)
  have k1 := ((((Keep.refl Nob w).alloc (.cells #[.slice b.Af b.frames.length b.cf, .slice b.Ae b.envs.length b.ce, .slice b.As b.sects.length b.cs, .int .i64 b.lease, .slice b.Ah b.shared.length b.ch] 62)).alloc (.cells #[.slice (some ⟨rr, 0, none⟩) b.frames.length b.frames.length] 175)).alloc (.cells #[.func (.func 182) #[] #[.pointer (some ⟨w.heap.size + 1, 0, none⟩)]] 120)).alloc (.cells #[.func (.func 183) #[] #[.pointer (some ⟨w.heap.size + 1 + 1, 0, none⟩)]] 279)
  have h1 := HH.out.1.nob k1
  refine (list_is _ _ _ _ _ _ hC.r hC.i _ _ _ b.envs h1.en HH.out.2.en (by omega)).mono ?_; rintro e w1 ⟨rfl, rfl⟩
  go_wp2_with fail
  refine (cf2_is _ _ _ _ _ _ hC.r hC.i _ _ _ b.sects h1.se (fun s hs => ⟨h1.sl s hs, (HH.out.2.se s hs).1, (HH.out.2.se s hs).2⟩) (by omega)).mono ?_; rintro e w1 ⟨rfl, rfl⟩
  go_wp2_with fail
  refine (cf3_is hC _ _ _ b.shared rfl h1.sh (fun s hs => ⟨h1.tos s hs, HH.out.2.sh s hs⟩) (by omega)).mono ?_; rintro e w1 ⟨rfl, k2⟩
  have k3 := k1.trans k2 (fun _ _ f => f)
  go_wp2
  go_ret
  exact ⟨rfl, k3⟩
end Go.Proofs.YtngchjejmnfanaaGreat
