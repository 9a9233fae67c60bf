/- Texts SltM, SltN, FilM, packed. -/
import Derived.BigRegion
import Derived.Deep.RegionHeld3
import Derived.Test.YtngchjejmnfanaaGreatPu0
import Derived.Test.YtngchjejmnfanaaGreatPu3
import Derived.Test.YtngchjejmnfanaaGreatPu4
import Derived.Test.YtngchjejmnfanaaGreatPu5
import Derived.Test.YtngchjejmnfanaaGreatPu8
import Derived.Test.YtngchjejmnfanaaGreatPu9
namespace Go.Proofs.YtngchjejmnfanaaGreat.Cd
open Go.RowKit
set_option linter.unusedVariables false
set_option linter.unusedSimpArgs false
theorem i64_and24 (n : Int) : bits .and .i64 n 16777215 = n % 16777216 := i64_mask n 24 (by decide)
/-- The number that is told as number k (from nought). -/
def nxt (l : List Int) (k : Nat) : Int := if k < l.length then l.getD k 0 % 16777216 else ((k : Int) + 1) * 7
theorem nxt_lo (l : List Int) (k : Nat) : 0 ≤ nxt l k := by unfold nxt; split <;> omega
theorem nxt_hi (l : List Int) (k : Nat) (h : k ≤ 20) : nxt l k < 16777216 := by unfold nxt; split <;> omega
theorem reads_int {w : World} {b off n k : Nat} {l : List Int} (hr : Reads w (some ⟨b, off, none⟩) n (ints l)) (hk : k < n) : w.cell? ⟨b, off + k, none⟩ = some (.int .i64 (l.getD k 0)) := by
  have hl : l.length = n := by simpa using hr.1
  obtain ⟨ad, h1, h2⟩ := hr.2 (by omega)
  cases h1
  have := h2 k _ (ints_getD_ (by omega))
  rwa [add_lit] at this
theorem reads_int_lit {w : World} {A : Option Addr} {n : Nat} {l : List Int} (hr : Reads w A n (ints l)) (hn : 0 < n) : ∃ b off, A = some ⟨b, off, none⟩ := by
  have hl : l.length = n := by simpa using hr.1
  obtain ⟨ad, h1, h2⟩ := hr.2 hn
  have := World.cell?_spot (h2 0 _ (ints_getD_ (by omega)))
  obtain ⟨b, off, spot⟩ := ad
  refine ⟨b, off, ?_⟩
  simp [Addr.add] at this
  rw [h1, this]
theorem _root_.Go.Proofs.YtngchjejmnfanaaGreat.Reads.keep0 {M : Nat → Prop} {w w' : World} {A : Option Addr} {n : Nat} {xs : List Value} (h : Reads w A n xs) (k : Keep M w w') (hm : 0 < n → ∀ ad, A = some ad → ¬ M ad.block) : Reads w' A n xs := by
  rcases Nat.eq_zero_or_pos n with h0 | h0
  · exact ⟨h.1, fun h1 => by omega⟩
  · exact h.keep k (hm h0)
/-- What 'next' looks at: the number of what was told, the list. -/
structure Nx (w : World) (lo ga gl : Nat) (A : Option Addr) (n c : Nat) (l : List Int) (k : Nat) : Prop where
  at_ : Blk w ga 3 [.int .i64 (k : Int)]
  ls : Blk w gl 35 [.slice A n c]
  rd : Reads w A n (ints l)
  no : 0 < n → ∀ ad, A = some ad → ad.block < lo
  ga_ : lo ≤ ga
  gl_ : lo ≤ gl
theorem Nx.keep {w w' : World} {lo ga gl n c k g : Nat} {A : Option Addr} {l : List Int} (h : Nx w lo ga gl A n c l k) (hk : Keep (· = g) w w') (hg : lo ≤ g) (h1 : ga ≠ g) (h2 : gl ≠ g) : Nx w' lo ga gl A n c l k :=
  ⟨h.at_.keep hk h1, h.ls.keep hk h2, h.rd.keep0 hk (fun h0 ad e e2 => by have := h.no h0 ad e; have h3 : ad.block = g := e2; omega), h.no, h.ga_, h.gl_⟩
theorem Nx.nob {w w' : World} {lo ga gl n c k : Nat} {A : Option Addr} {l : List Int} (h : Nx w lo ga gl A n c l k) (hk : Keep Nob w w') : Nx w' lo ga gl A n c l k :=
  ⟨h.at_.nob hk, h.ls.nob hk, h.rd.nob hk, h.no, h.ga_, h.gl_⟩
set_option maxHeartbeats 1000000 in
theorem next_is {lo ga gl k : Nat} {A : Option Addr} {n c : Nat} {l : List Int} {w : World} (h : Nx w lo ga gl A n c l k) (hk : k ≤ 1000) (hn : n ≤ 9000000000000000000) (v : Int) (hv : nxt l k = v) :
    Calls Tryz.prog 138 #[.pointer (some ⟨ga, 0, none⟩), .pointer (some ⟨gl, 0, none⟩)] w fun e w' => e = .returned (.int .i64 v) ∧ Nx w' lo ga gl A n c l (k + 1) ∧ Keep (· = ga) w w' := by
  have hl : l.length = n := by simpa using h.rd.1
  have a0 : w.cell? ⟨ga, 0, none⟩ = some (.int .i64 (k : Int)) := h.at_.cell 0
  have l0 : w.cell? ⟨gl, 0, none⟩ = some (.slice A n c) := h.ls.cell 0
  have fr := h.at_.frozen 0
  have hne : gl ≠ ga := h.ls.ne_ h.at_ (by decide)
  have hK2 : Keep (· = ga) w (w.setCell ⟨ga, 0, none⟩ (.int .i64 ((k : Int) + 1))) := (Keep.refl _ w).setCell ⟨ga, 0, none⟩ _ (fun _ => rfl)
  have hN : Nx (w.setCell ⟨ga, 0, none⟩ (.int .i64 ((k : Int) + 1))) lo ga gl A n c l (k + 1) := by
    have := h.at_.setCell 0 (.int .i64 ((k : Int) + 1))
    refine ⟨?_, h.ls.keep hK2 hne, h.rd.keep0 hK2 (fun h0 ad e e2 => by have := h.no h0 ad e; have := h.ga_; have h3 : ad.block = ga := e2; omega), h.no, h.ga_, h.gl_⟩
    rw [show ((k + 1 : Nat) : Int) = (k : Int) + 1 from by omega]
    exact this
  by_cases hkn : k < n
  · obtain ⟨b, off, rfl⟩ := reads_int_lit h.rd (by omega)
    have hck := reads_int h.rd hkn
    have hv2 : l.getD k 0 % 16777216 = v := by rw [← hv, nxt, if_pos (by omega)]
    have hbg : b ≠ ga := by have h1 := h.no (by omega) _ rfl; have h2 := h.ga_; have h3 : b < lo := h1; omega
    generalize l.getD k 0 = u at *
    have hv3 : bits .and .i64 u 16777215 = v := by rw [i64_and24, hv2]
    clear hv hv2 h
    go_enter Tryz.func138, Tryz.ntmps138
    go_wp2
    go_ret
    exact ⟨rfl, hN, hK2⟩
  · have hv2 : ((k : Int) + 1) * 7 = v := by rw [← hv, nxt, if_neg (by omega)]
    clear hv h
    go_enter Tryz.func138, Tryz.ntmps138
    go_wp2
    go_ret
    exact ⟨by subst hv2; rfl, hN, hK2⟩
def stOf (x : Int) : Int := if x % 4 = 2 then 3 else if x % 4 = 3 then 2 else 1
def off (x : Int) : Int := bits .andNot .i64 (bits .and .i64 x 65534) 16896
def fdOf (n : Int) : Int := if n % 4 = 0 then 0 else n / 4 % 13
/-- What the laws' Proc makes. -/
def made (l : List Int) : List Int :=
  if stOf (nxt l 0) = 2 then [2, nxt l 0 / 4 % 16 % 9, nxt l 0 / 64 % 8, nxt l 0 / 512 % 256, 0, off (nxt l 1), off (bits .and .i64 (nxt l 2) (nxt l 3)), bits .andNot .i64 (off (nxt l 4)) (off (bits .and .i64 (nxt l 2) (nxt l 3))), 0, 0, 0, 0, 0, 0, 0, 0]
  else [stOf (nxt l 0), nxt l 0 / 4 % 16 % 9, nxt l 0 / 64 % 8, 0, bits .and .i64 (bits .and .i64 (nxt l 5) (nxt l 6)) 65534, off (nxt l 1), off (bits .and .i64 (nxt l 2) (nxt l 3)), bits .andNot .i64 (off (nxt l 4)) (off (bits .and .i64 (nxt l 2) (nxt l 3))),
    fdOf (nxt l 7), fdOf (nxt l 8), fdOf (nxt l 9), fdOf (nxt l 10), fdOf (nxt l 11), fdOf (nxt l 12), fdOf (nxt l 13), fdOf (nxt l 14)]
def fds8 (l : List Int) : List Int := [fdOf (nxt l 7), fdOf (nxt l 8), fdOf (nxt l 9), fdOf (nxt l 10), fdOf (nxt l 11), fdOf (nxt l 12), fdOf (nxt l 13), fdOf (nxt l 14)]
theorem fds8_at (l : List Int) (k : Nat) (hk : k < 8) : (fds8 l).getD k 0 = fdOf (nxt l (7 + k)) := by
  rcases (show k = 0 ∨ k = 1 ∨ k = 2 ∨ k = 3 ∨ k = 4 ∨ k = 5 ∨ k = 6 ∨ k = 7 from by omega) with rfl | rfl | rfl | rfl | rfl | rfl | rfl | rfl <;> rfl
def fpt (h f : List Int) (k : Nat) : List Int := h ++ f.take k ++ List.replicate (8 - k) 0
theorem fpt_len (h f : List Int) (hh : h.length = 8) (hf : f.length = 8) (k : Nat) (hk : k ≤ 8) : (fpt h f k).length = 16 := by
  simp [fpt, hh, hf]; omega
theorem fpt_set (h f : List Int) (hh : h.length = 8) (hf : f.length = 8) (k : Nat) (hk : k < 8) : (fpt h f k).set (8 + k) (f.getD k 0) = fpt h f (k + 1) := by
  match h, hh, f, hf with
  | [a0, a1, a2, a3, a4, a5, a6, a7], _, [f0, f1, f2, f3, f4, f5, f6, f7], _ =>
    rcases (show k = 0 ∨ k = 1 ∨ k = 2 ∨ k = 3 ∨ k = 4 ∨ k = 5 ∨ k = 6 ∨ k = 7 from by omega) with rfl | rfl | rfl | rfl | rfl | rfl | rfl | rfl <;> rfl
theorem fpt_nought (h f : List Int) (hh : h.length = 8) (hf : f.length = 8) (k : Nat) (hk : k < 8) (h0 : f.getD k 0 = 0) : fpt h f (k + 1) = fpt h f k := by
  rw [← fpt_set h f hh hf k hk, h0]
  match h, hh, f, hf with
  | [a0, a1, a2, a3, a4, a5, a6, a7], _, [f0, f1, f2, f3, f4, f5, f6, f7], _ =>
    rcases (show k = 0 ∨ k = 1 ∨ k = 2 ∨ k = 3 ∨ k = 4 ∨ k = 5 ∨ k = 6 ∨ k = 7 from by omega) with rfl | rfl | rfl | rfl | rfl | rfl | rfl | rfl <;> rfl
theorem made_len (l : List Int) : (made l).length = 16 := by unfold made; split <;> rfl
set_option maxHeartbeats 4000000 in
set_option maxRecDepth 100000 in
theorem made_is (A : Option Addr) (n c : Nat) (l : List Int) (w : World) (hr : Reads w A n (ints l)) (hn : n ≤ 9000000000000000000) (R : List Int) (hR : made l = R) :
    Calls Tryz.prog 40 #[.slice A n c] w fun e w' => e = .returned (pv R) ∧ Keep Nob w w' := by
  have hmf : ∀ (fn : Fn) (first cap : Array Value) (w : World), (Instr.makeFunc fn first cap).run Tryz.prog w = .ok (.func fn first cap) w := fun _ _ _ _ => rfl
  have HR := Lib.hid hR
  have HRd := Lib.hid hr
  clear hR hr
  have s1 : (w.alloc (.cells #[.slice A n c] 35)).heap.size = w.heap.size + 1 := by simp
  have s2 : ((w.alloc (.cells #[.slice A n c] 35)).alloc (.cells #[.int .i64 0, .int .i64 0, .int .i64 0, .int .i64 0, .int .i64 0, .int .i64 0, .int .i64 0, .int .i64 0, .int .i64 0, .int .i64 0, .int .i64 0, .int .i64 0, .int .i64 0, .int .i64 0, .int .i64 0, .int .i64 0] 39)).heap.size = w.heap.size + 1 + 1 := by simp
  have hL0 : Blk (((w.alloc (.cells #[.slice A n c] 35)).alloc (.cells #[.int .i64 0, .int .i64 0, .int .i64 0, .int .i64 0, .int .i64 0, .int .i64 0, .int .i64 0, .int .i64 0, .int .i64 0, .int .i64 0, .int .i64 0, .int .i64 0, .int .i64 0, .int .i64 0, .int .i64 0, .int .i64 0] 39)).alloc (.cells #[.int .i64 0] 3)) w.heap.size 35 [.slice A n c] := ((Blk.new w 35 [.slice A n c]).alloc _).alloc _
  have hr0 : Blk (((w.alloc (.cells #[.slice A n c] 35)).alloc (.cells #[.int .i64 0, .int .i64 0, .int .i64 0, .int .i64 0, .int .i64 0, .int .i64 0, .int .i64 0, .int .i64 0, .int .i64 0, .int .i64 0, .int .i64 0, .int .i64 0, .int .i64 0, .int .i64 0, .int .i64 0, .int .i64 0] 39)).alloc (.cells #[.int .i64 0] 3)) (w.heap.size + 1) 39 (ints noP) := by
    have := (Blk.new (w.alloc (.cells #[.slice A n c] 35)) 39 (ints noP)).alloc (.cells #[.int .i64 0] 3)
    rw [s1] at this
    exact this
  have hA0 : Blk (((w.alloc (.cells #[.slice A n c] 35)).alloc (.cells #[.int .i64 0, .int .i64 0, .int .i64 0, .int .i64 0, .int .i64 0, .int .i64 0, .int .i64 0, .int .i64 0, .int .i64 0, .int .i64 0, .int .i64 0, .int .i64 0, .int .i64 0, .int .i64 0, .int .i64 0, .int .i64 0] 39)).alloc (.cells #[.int .i64 0] 3)) (w.heap.size + 1 + 1) 3 [.int .i64 ((0 : Nat) : Int)] := by
    have := Blk.new ((w.alloc (.cells #[.slice A n c] 35)).alloc (.cells #[.int .i64 0, .int .i64 0, .int .i64 0, .int .i64 0, .int .i64 0, .int .i64 0, .int .i64 0, .int .i64 0, .int .i64 0, .int .i64 0, .int .i64 0, .int .i64 0, .int .i64 0, .int .i64 0, .int .i64 0, .int .i64 0] 39)) 3 [.int .i64 ((0 : Nat) : Int)]
    rw [s2] at this
    exact this
  have hk0 : Keep Nob w (((w.alloc (.cells #[.slice A n c] 35)).alloc (.cells #[.int .i64 0, .int .i64 0, .int .i64 0, .int .i64 0, .int .i64 0, .int .i64 0, .int .i64 0, .int .i64 0, .int .i64 0, .int .i64 0, .int .i64 0, .int .i64 0, .int .i64 0, .int .i64 0, .int .i64 0, .int .i64 0] 39)).alloc (.cells #[.int .i64 0] 3)) := (((Keep.refl Nob w).alloc _).alloc _).alloc _
  have hN0 : Nx (((w.alloc (.cells #[.slice A n c] 35)).alloc (.cells #[.int .i64 0, .int .i64 0, .int .i64 0, .int .i64 0, .int .i64 0, .int .i64 0, .int .i64 0, .int .i64 0, .int .i64 0, .int .i64 0, .int .i64 0, .int .i64 0, .int .i64 0, .int .i64 0, .int .i64 0, .int .i64 0] 39)).alloc (.cells #[.int .i64 0] 3)) w.heap.size (w.heap.size + 1 + 1) w.heap.size A n c l 0 :=
    ⟨hA0, hL0, HRd.out.nob hk0, fun h0 ad e => by
      obtain ⟨ad', e1, e2⟩ := HRd.out.2 h0
      rw [e1] at e; cases e
      have hl : l.length = n := by simpa using HRd.out.1
      have h3 := block_lt_of_cell (e2 0 _ (ints_getD_ (by omega)))
      rw [block_of_add] at h3
      exact h3, by omega, Nat.le_refl _⟩
  clear hL0 hA0 s1 s2
  go_enter Tryz.func40, Tryz.ntmps40
  go_wp2_with fail
  have hra : w.heap.size + 1 ≠ w.heap.size + 1 + 1 := by omega
  have hla : w.heap.size ≠ w.heap.size + 1 + 1 := by omega
  have hga : w.heap.size ≤ w.heap.size + 1 + 1 := by omega
  have hgr : w.heap.size ≤ w.heap.size + 1 := by omega
  have hlr : w.heap.size ≠ w.heap.size + 1 := by omega
  generalize (((w.alloc (.cells #[.slice A n c] 35)).alloc (.cells #[.int .i64 0, .int .i64 0, .int .i64 0, .int .i64 0, .int .i64 0, .int .i64 0, .int .i64 0, .int .i64 0, .int .i64 0, .int .i64 0, .int .i64 0, .int .i64 0, .int .i64 0, .int .i64 0, .int .i64 0, .int .i64 0] 39)).alloc (.cells #[.int .i64 0] 3)) = w0 at *
  generalize w.heap.size + 1 + 1 = ga at *
  generalize w.heap.size + 1 = r at *
  obtain ⟨x, hx⟩ : ∃ x, nxt l 0 = x := ⟨_, rfl⟩
  have x0 := nxt_lo l 0
  have x1 := nxt_hi l 0 (by decide)
  rw [hx] at x0 x1
  refine (next_is hN0 (by decide) hn x hx).mono ?_; rintro e w1 ⟨rfl, hN1, k1⟩
  have hr1 := hr0.keep k1 hra
  have hk1 : Keep Nob w w1 := hk0.trans k1 (fun b hb e => by have h3 : b = ga := e; omega)
  clear hr0 hk0 hN0 k1
  obtain ⟨j, hj, hxj⟩ : ∃ j : Nat, j < 4 ∧ x % 4 = (j : Int) := ⟨(x % 4).toNat, by omega, by omega⟩
  obtain ⟨st, hst⟩ : ∃ s, stOf x = s := ⟨_, rfl⟩
  have hcell : (w1.alloc (.cells #[.int .i64 1, .int .i64 1, .int .i64 3, .int .i64 2] 3)).cell? ⟨w1.heap.size, j, none⟩ = some (.int .i64 st) := by
    rw [(Blk.new w1 3 [.int .i64 1, .int .i64 1, .int .i64 3, .int .i64 2]).cell, ← hst, stOf, hxj]
    rcases (show j = 0 ∨ j = 1 ∨ j = 2 ∨ j = 3 from by omega) with rfl | rfl | rfl | rfl <;> rfl
  have hp2 : Blk ((w1.alloc (.cells #[.int .i64 1, .int .i64 1, .int .i64 3, .int .i64 2] 3)).alloc (.cells #[.int .i64 st, .int .i64 (x / 4 % 16 % 9), .int .i64 (x / 64 % 8), .int .i64 0, .int .i64 0, .int .i64 0, .int .i64 0, .int .i64 0, .int .i64 0, .int .i64 0, .int .i64 0, .int .i64 0, .int .i64 0, .int .i64 0, .int .i64 0, .int .i64 0] 39)) (w1.heap.size + 1) 39 (ints [st, x / 4 % 16 % 9, x / 64 % 8, 0, 0, 0, 0, 0, 0, 0, 0, 0, 0, 0, 0, 0]) := by
    have := Blk.new (w1.alloc (.cells #[.int .i64 1, .int .i64 1, .int .i64 3, .int .i64 2] 3)) 39 (ints [st, x / 4 % 16 % 9, x / 64 % 8, 0, 0, 0, 0, 0, 0, 0, 0, 0, 0, 0, 0, 0])
    rw [show (w1.alloc (.cells #[.int .i64 1, .int .i64 1, .int .i64 3, .int .i64 2] 3)).heap.size = w1.heap.size + 1 from by simp] at this
    exact this
  have ka : Keep Nob w1 ((w1.alloc (.cells #[.int .i64 1, .int .i64 1, .int .i64 3, .int .i64 2] 3)).alloc (.cells #[.int .i64 st, .int .i64 (x / 4 % 16 % 9), .int .i64 (x / 64 % 8), .int .i64 0, .int .i64 0, .int .i64 0, .int .i64 0, .int .i64 0, .int .i64 0, .int .i64 0, .int .i64 0, .int .i64 0, .int .i64 0, .int .i64 0, .int .i64 0, .int .i64 0] 39)) := ((Keep.refl Nob w1).alloc _).alloc _
  have hN2 := hN1.nob ka
  have hr2 := hr1.nob ka
  have hk2 := hk1.nobt ka
  go_wp2_with fail
  have hpa : w1.heap.size + 1 ≠ ga := by have := hN1.at_.lt; omega
  have hap : ga ≠ w1.heap.size + 1 := Ne.symm hpa
  have hlgp : w.heap.size ≠ w1.heap.size + 1 := by have := hN1.ls.lt; omega
  have hrp : r ≠ w1.heap.size + 1 := by have := hr1.lt; omega
  have hpr : w1.heap.size + 1 ≠ r := Ne.symm hrp
  have hlp : w.heap.size ≤ w1.heap.size + 1 := by have := hk1.size; omega
  clear hN1 hr1 hk1 ka hcell hxj
  generalize hpa0 : x / 4 % 16 % 9 = pa at *
  generalize hgg0 : x / 64 % 8 = gg at *
  have HPA := Lib.hid hpa0
  have HGG := Lib.hid hgg0
  clear hpa0 hgg0
  generalize ((w1.alloc (.cells #[.int .i64 1, .int .i64 1, .int .i64 3, .int .i64 2] 3)).alloc (.cells #[.int .i64 st, .int .i64 pa, .int .i64 gg, .int .i64 0, .int .i64 0, .int .i64 0, .int .i64 0, .int .i64 0, .int .i64 0, .int .i64 0, .int .i64 0, .int .i64 0, .int .i64 0, .int .i64 0, .int .i64 0, .int .i64 0] 39)) = w2 at *
  generalize w1.heap.size + 1 = gp at *
  obtain ⟨n1, hn1⟩ : ∃ y, nxt l 1 = y := ⟨_, rfl⟩
  obtain ⟨n2, hn2⟩ : ∃ y, nxt l 2 = y := ⟨_, rfl⟩
  obtain ⟨n3, hn3⟩ : ∃ y, nxt l 3 = y := ⟨_, rfl⟩
  obtain ⟨n4, hn4⟩ : ∃ y, nxt l 4 = y := ⟨_, rfl⟩
  obtain ⟨n5, hn5⟩ : ∃ y, nxt l 5 = y := ⟨_, rfl⟩
  obtain ⟨n6, hn6⟩ : ∃ y, nxt l 6 = y := ⟨_, rfl⟩
  obtain ⟨t1, ht1⟩ : ∃ y, bits .and .i64 n1 65534 = y := ⟨_, rfl⟩
  obtain ⟨m, hm⟩ : ∃ y, bits .andNot .i64 t1 16896 = y := ⟨_, rfl⟩
  obtain ⟨t2, ht2⟩ : ∃ y, bits .and .i64 n2 n3 = y := ⟨_, rfl⟩
  obtain ⟨t3, ht3⟩ : ∃ y, bits .and .i64 t2 65534 = y := ⟨_, rfl⟩
  obtain ⟨ig, hig⟩ : ∃ y, bits .andNot .i64 t3 16896 = y := ⟨_, rfl⟩
  obtain ⟨t4, ht4⟩ : ∃ y, bits .and .i64 n4 65534 = y := ⟨_, rfl⟩
  obtain ⟨t5, ht5⟩ : ∃ y, bits .andNot .i64 t4 16896 = y := ⟨_, rfl⟩
  obtain ⟨ca, hca⟩ : ∃ y, bits .andNot .i64 t5 ig = y := ⟨_, rfl⟩
  obtain ⟨t6, ht6⟩ : ∃ y, bits .and .i64 n5 n6 = y := ⟨_, rfl⟩
  obtain ⟨pe, hpe⟩ : ∃ y, bits .and .i64 t6 65534 = y := ⟨_, rfl⟩
  have hOm : off (nxt l 1) = m := by rw [hn1, off, ht1, hm]
  have hOi : off (bits .and .i64 (nxt l 2) (nxt l 3)) = ig := by rw [hn2, hn3, ht2, off, ht3, hig]
  have hOc : bits .andNot .i64 (off (nxt l 4)) ig = ca := by rw [hn4, off, ht4, ht5, hca]
  have hOp : bits .and .i64 (bits .and .i64 (nxt l 5) (nxt l 6)) 65534 = pe := by rw [hn5, hn6, ht6, hpe]
  have hRR : (if st = 2 then [2, pa, gg, x / 512 % 256, 0, m, ig, ca, 0, 0, 0, 0, 0, 0, 0, 0] else [st, pa, gg, 0, pe, m, ig, ca, fdOf (nxt l 7), fdOf (nxt l 8), fdOf (nxt l 9), fdOf (nxt l 10), fdOf (nxt l 11), fdOf (nxt l 12), fdOf (nxt l 13), fdOf (nxt l 14)]) = R := by
    have := HR.out
    unfold made at this
    rw [hx, hst, HPA.out, HGG.out, hOm, hOi, hOc, hOp] at this
    exact this
  have HRR := Lib.hid hRR
  clear hOm hOi hOc hOp hRR HR HPA HGG HRd
  refine (next_is hN2 (by decide) hn n1 hn1).mono ?_; rintro e w3 ⟨rfl, hN3, k3⟩
  have hp3 := hp2.keep k3 hpa
  have hr3 := hr2.keep k3 hra
  have hk3 : Keep Nob w w3 := hk2.trans k3 (fun b hb e => by have h3 : b = ga := e; omega)
  clear hp2 hr2 hk2 hN2 k3
  have fr5 := hp3.frozen 5
  have cc5 : w3.cell? ⟨gp, 5, none⟩ = some (.int .i64 0) := hp3.cell 5
  have ks5 : Keep (· = gp) w3 (w3.setCell ⟨gp, 5, none⟩ (.int .i64 m)) := (Keep.refl _ w3).setCell ⟨gp, 5, none⟩ _ (fun _ => rfl)
  have hp3a : Blk (w3.setCell ⟨gp, 5, none⟩ (.int .i64 m)) gp 39 (ints [st, pa, gg, 0, 0, m, 0, 0, 0, 0, 0, 0, 0, 0, 0, 0]) := hp3.setCell 5 (.int .i64 m)
  have hN3a := hN3.keep ks5 hlp hap hlgp
  have hr3a := hr3.keep ks5 hrp
  have hk3a : Keep Nob w (w3.setCell ⟨gp, 5, none⟩ (.int .i64 m)) := hk3.trans ks5 (fun b hb e => by have h3 : b = gp := e; omega)
  go_wp2_with fail
  clear hp3 hN3 hr3 hk3 fr5 cc5 ks5
  generalize w3.setCell ⟨gp, 5, none⟩ (.int .i64 m) = w3a at *
  refine (next_is hN3a (by decide) hn n2 hn2).mono ?_; rintro e w4 ⟨rfl, hN4, k4⟩
  have hp4 := hp3a.keep k4 hpa
  have hr4 := hr3a.keep k4 hra
  have hk4 : Keep Nob w w4 := hk3a.trans k4 (fun b hb e => by have h3 : b = ga := e; omega)
  clear hp3a hr3a hk3a hN3a k4
  go_wp2_with fail
  refine (next_is hN4 (by decide) hn n3 hn3).mono ?_; rintro e w5 ⟨rfl, hN5, k5⟩
  have hp5 := hp4.keep k5 hpa
  have hr5 := hr4.keep k5 hra
  have hk5 : Keep Nob w w5 := hk4.trans k5 (fun b hb e => by have h3 : b = ga := e; omega)
  clear hp4 hr4 hk4 hN4 k5
  have fr6 := hp5.frozen 6
  have cc6 : w5.cell? ⟨gp, 6, none⟩ = some (.int .i64 0) := hp5.cell 6
  have ks6 : Keep (· = gp) w5 (w5.setCell ⟨gp, 6, none⟩ (.int .i64 ig)) := (Keep.refl _ w5).setCell ⟨gp, 6, none⟩ _ (fun _ => rfl)
  have hp5a : Blk (w5.setCell ⟨gp, 6, none⟩ (.int .i64 ig)) gp 39 (ints [st, pa, gg, 0, 0, m, ig, 0, 0, 0, 0, 0, 0, 0, 0, 0]) := hp5.setCell 6 (.int .i64 ig)
  have hN5a := hN5.keep ks6 hlp hap hlgp
  have hr5a := hr5.keep ks6 hrp
  have hk5a : Keep Nob w (w5.setCell ⟨gp, 6, none⟩ (.int .i64 ig)) := hk5.trans ks6 (fun b hb e => by have h3 : b = gp := e; omega)
  go_wp2_with fail
  clear hp5 hN5 hr5 hk5 fr6 cc6 ks6
  generalize w5.setCell ⟨gp, 6, none⟩ (.int .i64 ig) = w5a at *
  have hNd := hN5a.nob (Keep.nobdrew _)
  have hpd := hp5a.drew
  have hrd := hr5a.drew
  have hkd := hk5a.drew
  clear hN5a hp5a hr5a hk5a
  refine wp_region_held_drew (S := (fun w' => w'.cell? ⟨gp, 6, none⟩ = some (.int .i64 ig))) (by kernel_rfl) (hpd.cell 6) (fun hHeld => ?_)
  generalize w5a.drew = wd at *
  refine wpAnyH_take (i := 0) (v := ?_) rfl (by kernel_rfl) (by kernel_rfl) (by kernel_rfl) (fun _ _ _ h => h) (Or.inl ⟨by rfl, ?_⟩) (by assumption) ?_
  rotate_left
  · (intro w hSw; (try dsimp only at hSw); go_simp; try with_reducible rfl)
  try simp only [Act.put, List.getElem_toArray, List.getElem_cons_zero, List.getElem_cons_succ, List.setIfInBounds_toArray, List.set_cons_zero, List.set_cons_succ]
  refine wpAnyH_take (i := 4) (v := ?_) rfl (by kernel_rfl) (by kernel_rfl) (by kernel_rfl) (fun _ _ _ h => h) (Or.inl ⟨by rfl, ?_⟩) (by assumption) ?_
  rotate_left
  · (intro w hSw; (try dsimp only at hSw); go_simp; try with_reducible rfl)
  try simp only [Act.put, List.getElem_toArray, List.getElem_cons_zero, List.getElem_cons_succ, List.setIfInBounds_toArray, List.set_cons_zero, List.set_cons_succ]
  refine wpAnyH_take (i := 5) (v := ?_) rfl (by kernel_rfl) (by kernel_rfl) (by kernel_rfl) (fun _ _ _ h => h) (Or.inl ⟨by rfl, ?_⟩) (by assumption) ?_
  rotate_left
  · (intro w hSw; (try dsimp only at hSw); go_simp; try with_reducible rfl)
  try simp only [Act.put, List.getElem_toArray, List.getElem_cons_zero, List.getElem_cons_succ, List.setIfInBounds_toArray, List.set_cons_zero, List.set_cons_succ]
  refine wpAnyH_ready (rs := [1]) (by kernel_rfl) (by simp) ?_
  refine AllReadyH.cons rfl (fun K hK => ?_) AllReadyH.nil
  go_simp
  refine (next_is hNd (by decide) hn n4 hn4).mono ?_; rintro e w6 ⟨rfl, hN6, k6⟩
  have hp6 := hpd.keep k6 hpa
  have hr6 := hrd.keep k6 hra
  have hk6 : Keep Nob w w6 := hkd.trans k6 (fun b hb e => by have h3 : b = ga := e; omega)
  clear hpd hrd hkd hNd k6
  refine hK.out _ _ ?_ (fun hHeld => ?_)
  · exact hp6.cell 6
  clear hK K
  try simp only [Act.put, List.getElem_toArray, List.getElem_cons_zero, List.getElem_cons_succ, List.setIfInBounds_toArray, List.set_cons_zero, List.set_cons_succ]
  refine wpAnyH_take (i := 2) (v := ?_) rfl (by kernel_rfl) (by kernel_rfl) (by kernel_rfl) (fun _ _ _ h => h) (Or.inl ⟨by rfl, ?_⟩) (by assumption) ?_
  rotate_left
  · (intro w hSw; (try dsimp only at hSw); go_simp; try with_reducible rfl)
  try simp only [Act.put, List.getElem_toArray, List.getElem_cons_zero, List.getElem_cons_succ, List.setIfInBounds_toArray, List.set_cons_zero, List.set_cons_succ]
  refine wpAnyH_take (i := 3) (v := ?_) rfl (by kernel_rfl) (by kernel_rfl) (by kernel_rfl) (fun _ _ _ h => h) (Or.inl ⟨by rfl, ?_⟩) (by assumption) ?_
  rotate_left
  · (intro w hSw; (try dsimp only at hSw); go_simp; try with_reducible rfl)
  try simp only [Act.put, List.getElem_toArray, List.getElem_cons_zero, List.getElem_cons_succ, List.setIfInBounds_toArray, List.set_cons_zero, List.set_cons_succ]
  refine wpAnyH_take (i := 6) (v := ?_) rfl (by kernel_rfl) (by kernel_rfl) (by kernel_rfl) (fun _ _ _ h => h) (Or.inl ⟨by rfl, ?_⟩) (by assumption) ?_
  rotate_left
  · (intro w hSw; (try dsimp only at hSw); go_simp; try with_reducible rfl)
  try simp only [Act.put, List.getElem_toArray, List.getElem_cons_zero, List.getElem_cons_succ, List.setIfInBounds_toArray, List.set_cons_zero, List.set_cons_succ]
  refine wpAnyH_take (i := 7) (v := ?_) rfl (by kernel_rfl) (by kernel_rfl) (by kernel_rfl) (fun _ _ _ h => h) (Or.inl ⟨by rfl, ?_⟩) (by assumption) ?_
  rotate_left
  · (intro w hSw; (try dsimp only at hSw); go_simp; try with_reducible rfl)
  try simp only [Act.put, List.getElem_toArray, List.getElem_cons_zero, List.getElem_cons_succ, List.setIfInBounds_toArray, List.set_cons_zero, List.set_cons_succ]
  have fr7 := hp6.frozen 7
  have cc7 : w6.cell? ⟨gp, 7, none⟩ = some (.int .i64 0) := hp6.cell 7
  have ks7 : Keep (· = gp) w6 (w6.setCell ⟨gp, 7, none⟩ (.int .i64 ca)) := (Keep.refl _ w6).setCell ⟨gp, 7, none⟩ _ (fun _ => rfl)
  have hp7 : Blk (w6.setCell ⟨gp, 7, none⟩ (.int .i64 ca)) gp 39 (ints [st, pa, gg, 0, 0, m, ig, ca, 0, 0, 0, 0, 0, 0, 0, 0]) := hp6.setCell 7 (.int .i64 ca)
  have hN7 := hN6.keep ks7 hlp hap hlgp
  have hr7 := hr6.keep ks7 hrp
  have hk7 : Keep Nob w (w6.setCell ⟨gp, 7, none⟩ (.int .i64 ca)) := hk6.trans ks7 (fun b hb e => by have h3 : b = gp := e; omega)
  refine wpAnyH_ready (rs := [8]) (by kernel_rfl) (by simp) ?_
  refine AllReadyH.cons rfl (fun K hK => ?_) AllReadyH.nil
  go_simp
  refine hK.out _ _ ?_ (fun hHeld => ?_)
  · exact hp7.cell 6
  clear hK K
  try simp only [Act.put, List.getElem_toArray, List.getElem_cons_zero, List.getElem_cons_succ, List.setIfInBounds_toArray, List.set_cons_zero, List.set_cons_succ]
  refine wpAnyH_done (by kernel_rfl) ?_ _
  clear hp6 hN6 hr6 hk6 fr7 cc7 ks7
  generalize w6.setCell ⟨gp, 7, none⟩ (.int .i64 ca) = w7 at *
  have c0 : w7.cell? ⟨gp, 0, none⟩ = some (.int .i64 st) := hp7.cell 0
  by_cases hs2 : st = 2
  · have hR2 := HRR.out
    rw [if_pos hs2] at hR2
    have HR2 := Lib.hid hR2
    obtain ⟨cd, hcd⟩ : ∃ y, x / 512 % 256 = y := ⟨_, rfl⟩
    have c3 : w7.cell? ⟨gp, 3, none⟩ = some (.int .i64 0) := hp7.cell 3
    have fr3 := hp7.frozen 3
    have hp8 : Blk (w7.setCell ⟨gp, 3, none⟩ (.int .i64 cd)) gp 39 (ints [st, pa, gg, cd, 0, m, ig, ca, 0, 0, 0, 0, 0, 0, 0, 0]) := hp7.setCell 3 (.int .i64 cd)
    have hr8 := hr7.far (p := ⟨gp, 3, none⟩) hrp (.int .i64 cd)
    have hk8 : Keep Nob w (w7.setCell ⟨gp, 3, none⟩ (.int .i64 cd)) := hk7.setCell ⟨gp, 3, none⟩ _ (fun h => absurd h (by show ¬ gp < _; omega))
    clear hR2 HRR
    go_wp2_with (first | (refine wpList_ld rfl (.tmp 6) rfl gp [st, pa, gg, cd, 0, m, ig, ca, 0, 0, 0, 0, 0, 0, 0, 0] rfl rfl hp8 ?_) | (refine wpList_st rfl (.tmp 2) _ rfl r [st, pa, gg, cd, 0, m, ig, ca, 0, 0, 0, 0, 0, 0, 0, 0] noP rfl rfl rfl rfl hr8 ?_; intro w9 hr9 hk9 hs9; clear hs9))
    (try simp only [Exit.inBlock, Exit.then])
    have hR2 := HR2.out
    rw [hcd] at hR2
    subst hs2
    subst hR2
    refine bodyPost_ret (v := pv _) (results_one rfl _ _ r _ rfl rfl hr9) rfl ?_
    exact ⟨rfl, hk8.trans hk9 (fun b hb e => by have h3 : b = r := e; omega)⟩
  have hsne : (st == 2) = false := by simpa using hs2
  have hR2 := HRR.out
  rw [if_neg hs2] at hR2
  have HR2 := Lib.hid hR2
  clear hR2 HRR
  go_wp2_with fail
  refine (next_is hN7 (by decide) hn n5 hn5).mono ?_; rintro e w8 ⟨rfl, hN8, k8⟩
  have hp8 := hp7.keep k8 hpa
  have hr8 := hr7.keep k8 hra
  have hk8 : Keep Nob w w8 := hk7.trans k8 (fun b hb e => by have h3 : b = ga := e; omega)
  clear hp7 hr7 hk7 hN7 k8
  go_wp2_with fail
  refine (next_is hN8 (by decide) hn n6 hn6).mono ?_; rintro e w9 ⟨rfl, hN9, k9⟩
  have hp9 := hp8.keep k9 hpa
  have hr9 := hr8.keep k9 hra
  have hk9 : Keep Nob w w9 := hk8.trans k9 (fun b hb e => by have h3 : b = ga := e; omega)
  clear hp8 hr8 hk8 hN8 k9
  have fr4 := hp9.frozen 4
  have cc4 : w9.cell? ⟨gp, 4, none⟩ = some (.int .i64 0) := hp9.cell 4
  have ks4 : Keep (· = gp) w9 (w9.setCell ⟨gp, 4, none⟩ (.int .i64 pe)) := (Keep.refl _ w9).setCell ⟨gp, 4, none⟩ _ (fun _ => rfl)
  have hp9a : Blk (w9.setCell ⟨gp, 4, none⟩ (.int .i64 pe)) gp 39 (ints (fpt [st, pa, gg, 0, pe, m, ig, ca] (fds8 l) 0)) := hp9.setCell 4 (.int .i64 pe)
  have hN9a := hN9.keep ks4 hlp hap hlgp
  have hr9a := hr9.keep ks4 hrp
  have hk9a : Keep Nob w (w9.setCell ⟨gp, 4, none⟩ (.int .i64 pe)) := hk9.trans ks4 (fun b hb e => by have h3 : b = gp := e; omega)
  go_wp2_with fail
  clear hp9 hN9 hr9 hk9 fr4 cc4 ks4
  generalize w9.setCell ⟨gp, 4, none⟩ (.int .i64 pe) = w9a at *
  clear c0 hst hx hj x0 x1 hsne hs2 ht1 hm ht2 ht3 hig ht4 ht5 hca ht6 hpe hn1 hn2 hn3 hn4 hn5 hn6
  go_loopw [7, 8] (fun s7 s8 wx => ∃ k : Nat, k ≤ 8 ∧ s7 = .int .i64 k ∧ Nx wx w.heap.size ga w.heap.size A n c l (7 + k) ∧ Blk wx gp 39 (ints (fpt [st, pa, gg, 0, pe, m, ig, ca] (fds8 l) k)) ∧ Blk wx r 39 (ints noP) ∧ Keep Nob w wx) (fun s7 _ _ => 8 - (intOf s7).toNat)
  case atStart => exact ⟨0, Nat.zero_le _, rfl, hN9a, hp9a, hr9a, hk9a⟩
  case round =>
    obtain ⟨k, hk, rfl, hN10, hp10, hr10, hk10⟩ := hrel
    clear hN9a hp9a hr9a hk9a
    by_cases hlt : k < 8
    · obtain ⟨u, hu⟩ : ∃ y, nxt l (7 + k) = y := ⟨_, rfl⟩
      have u0 := nxt_lo l (7 + k)
      have u1 := nxt_hi l (7 + k) (by omega)
      rw [hu] at u0 u1
      go_wp2_with fail
      refine (next_is hN10 (by omega) hn u hu).mono ?_; rintro e w11 ⟨rfl, hN11, k11⟩
      have hp11 := hp10.keep k11 hpa
      have hr11 := hr10.keep k11 hra
      have hk11 : Keep Nob w w11 := hk10.trans k11 (fun b hb e => by have h3 : b = ga := e; omega)
      clear hN10 hp10 hr10 hk10 k11
      have hF := fds8_at l k hlt
      rw [hu] at hF
      by_cases hz : u % 4 = 0
      · have hset := fpt_nought [st, pa, gg, 0, pe, m, ig, ca] (fds8 l) rfl rfl k hlt (by rw [hF, fdOf, if_pos hz])
        rw [← hset] at hp11
        clear hset hF
        go_wp2_with fail
        go_round
        case rel => exact ⟨k + 1, by omega, by go_num, hN11, hp11, hr11, hk11⟩
        case measure => simp [intOf]; omega
      · have hz2 : (u % 4 == 0) = false := by simpa using hz
        have hset := fpt_set [st, pa, gg, 0, pe, m, ig, ca] (fds8 l) rfl rfl k hlt
        rw [hF, fdOf, if_neg hz] at hset
        obtain ⟨y, hy⟩ : ∃ y, u / 4 % 13 = y := ⟨_, rfl⟩
        rw [hy] at hset
        have fr := hp11.frozen (8 + k)
        have cc : ∃ x, _ = some x := ⟨_, (hp11.cell (8 + k)).trans (ints_getD_ (by rw [fpt_len _ _ rfl rfl k hk]; omega))⟩
        obtain ⟨xx, cc⟩ := cc
        have ks : Keep (· = gp) w11 (w11.setCell ⟨gp, 8 + k, none⟩ (.int .i64 y)) := (Keep.refl _ w11).setCell ⟨gp, 8 + k, none⟩ _ (fun _ => rfl)
        have hp12 : Blk (w11.setCell ⟨gp, 8 + k, none⟩ (.int .i64 y)) gp 39 (ints (fpt [st, pa, gg, 0, pe, m, ig, ca] (fds8 l) (k + 1))) := by
          have := hp11.setCell (8 + k) (.int .i64 y)
          rw [ints_set, hset] at this
          exact this
        have hN12 := hN11.keep ks hlp hap hlgp
        have hr12 := hr11.keep ks hrp
        have hk12 : Keep Nob w (w11.setCell ⟨gp, 8 + k, none⟩ (.int .i64 y)) := hk11.trans ks (fun b hb e => by have h3 : b = gp := e; omega)
        clear hset hF hp11 hN11 hr11 hk11 ks
        go_wp2_with fail
        go_round
        case rel => exact ⟨k + 1, by omega, by go_num, hN12, hp12, hr12, hk12⟩
        case measure => simp [intOf]; omega
    · obtain rfl : k = 8 := by omega
      have hR3 : fpt [st, pa, gg, 0, pe, m, ig, ca] (fds8 l) 8 = R := HR2.out
      rw [hR3] at hp10
      have hRl : R.length = 16 := by rw [← hR3]; rfl
      have HRl := Lib.hid hRl
      clear hR3 hRl HR2 hlt hk
      go_wp2_with (first | (refine wpList_ld rfl (.tmp 6) rfl gp R rfl HRl.out hp10 ?_) | (refine wpList_st rfl (.tmp 2) _ rfl r R noP rfl rfl HRl.out rfl hr10 ?_; intro w11 hr11 hk11 hs11; clear hs11))
      (try simp only [Exit.inBlock, Exit.then])
      refine bodyPost_ret (v := pv R) (results_one rfl _ _ r R HRl.out rfl hr11) rfl ?_
      exact ⟨rfl, hk10.trans hk11 (fun b hb e => by have h3 : b = r := e; omega)⟩
end Go.Proofs.YtngchjejmnfanaaGreat.Cd
namespace Go.Proofs.YtngchjejmnfanaaGreat.Cd
open Go.RowKit
set_option linter.unusedVariables false
set_option linter.unusedSimpArgs false
section
variable (a b m h g : BitVec 64)
theorem bvA : (a &&& m &&& ~~~h) &&& ~~~m = 0#64 := by
  apply BitVec.eq_of_getLsbD_eq
  intro i hi
  simp only [BitVec.getLsbD_and, BitVec.getLsbD_not, BitVec.getLsbD_zero, hi, decide_true, Bool.true_and]
  cases a.getLsbD i <;> cases m.getLsbD i <;> cases h.getLsbD i <;> rfl
theorem bvB : (a &&& m) &&& ~~~m = 0#64 := by
  apply BitVec.eq_of_getLsbD_eq
  intro i hi
  simp only [BitVec.getLsbD_and, BitVec.getLsbD_not, BitVec.getLsbD_zero, hi, decide_true, Bool.true_and]
  cases a.getLsbD i <;> cases m.getLsbD i <;> rfl
theorem bvC : ((a &&& m &&& ~~~h) &&& ~~~g) &&& ~~~m = 0#64 := by
  apply BitVec.eq_of_getLsbD_eq
  intro i hi
  simp only [BitVec.getLsbD_and, BitVec.getLsbD_not, BitVec.getLsbD_zero, hi, decide_true, Bool.true_and]
  cases a.getLsbD i <;> cases m.getLsbD i <;> cases h.getLsbD i <;> cases g.getLsbD i <;> rfl
theorem bvD : (a &&& m &&& ~~~h) &&& h = 0#64 := by
  apply BitVec.eq_of_getLsbD_eq
  intro i hi
  simp only [BitVec.getLsbD_and, BitVec.getLsbD_not, BitVec.getLsbD_zero, hi, decide_true, Bool.true_and]
  cases a.getLsbD i <;> cases m.getLsbD i <;> cases h.getLsbD i <;> rfl
theorem bvE : ((a &&& m &&& ~~~h) &&& ~~~g) &&& h = 0#64 := by
  apply BitVec.eq_of_getLsbD_eq
  intro i hi
  simp only [BitVec.getLsbD_and, BitVec.getLsbD_not, BitVec.getLsbD_zero, hi, decide_true, Bool.true_and]
  cases a.getLsbD i <;> cases m.getLsbD i <;> cases h.getLsbD i <;> cases g.getLsbD i <;> rfl
theorem bvF : g &&& (b &&& ~~~g) = 0#64 := by
  apply BitVec.eq_of_getLsbD_eq
  intro i hi
  simp only [BitVec.getLsbD_and, BitVec.getLsbD_not, BitVec.getLsbD_zero, hi, decide_true, Bool.true_and]
  cases b.getLsbD i <;> cases g.getLsbD i <;> rfl
end
theorem off_bv (y : Int) : off y = (BitVec.ofInt 64 y &&& BitVec.ofInt 64 65534 &&& ~~~ BitVec.ofInt 64 16896).toInt := by
  rw [off, off_i64, and_i64, BitVec.ofInt_toInt]
theorem sig_of {n : Int} (hw : Wf n) (h : bits .andNot .i64 n 65534 = 0) : sig n = true := by rw [← sig_off hw, h]; rfl
theorem sig_offs (y : Int) : sig (off y) = true := by
  refine sig_of (wf_bits64 _ _ _) ?_
  rw [off_i64, off_bv, BitVec.ofInt_toInt, toInt_nought]
  exact bvA _ _ _
theorem sig_mask (y : Int) : sig (bits .and .i64 y 65534) = true := by
  refine sig_of (wf_bits64 _ _ _) ?_
  rw [off_i64, and_i64, BitVec.ofInt_toInt, toInt_nought]
  exact bvB _ _
theorem sig_less (y z : Int) : sig (bits .andNot .i64 (off y) z) = true := by
  refine sig_of (wf_bits64 _ _ _) ?_
  rw [off_i64, off_i64, off_bv, BitVec.ofInt_toInt, BitVec.ofInt_toInt, toInt_nought]
  exact bvC _ _ _ _
theorem ruled_none (x y z u : Int) : bits .and .i64 (ruled (off x) (off y) (bits .andNot .i64 (off z) u)) 16896 = 0 := by
  rw [ruled, and_i64, or_i64, or_i64, off_i64, off_bv, off_bv, off_bv, BitVec.ofInt_toInt, BitVec.ofInt_toInt, BitVec.ofInt_toInt, BitVec.ofInt_toInt, BitVec.ofInt_toInt, BitVec.ofInt_toInt, toInt_nought, bv_or_and, bv_or_and]
  exact ⟨⟨bvD _ _ _, bvD _ _ _⟩, bvE _ _ _ _⟩
theorem both_none (y z : Int) : bits .and .i64 (off y) (bits .andNot .i64 (off z) (off y)) = 0 := by
  rw [and_i64, off_i64, BitVec.ofInt_toInt, toInt_nought]
  exact bvF _ _
theorem made_sets (x y z pe : Int) (hp : sig pe = true) : setsOk pe (off x) (off y) (bits .andNot .i64 (off z) (off y)) = true := by
  unfold setsOk
  rw [hp, sig_offs, sig_offs, sig_less, ruled_none, both_none]; rfl
theorem fd_in (n : Int) (h : 0 ≤ n) : inn (fdOf n) 0 12 = true := by
  unfold fdOf inn
  split
  · decide
  · exact decide_eq_true (by omega)
theorem made_ok (l : List Int) : okd (made l) = true := by
  have x0 := nxt_lo l 0
  generalize hx : nxt l 0 = x at x0
  unfold made
  rw [hx]
  split
  · rename_i hs
    unfold okd
    simp only [List.getD_cons_succ, List.getD_cons_zero, List.drop_succ_cons, List.drop_zero]
    rw [made_sets _ _ _ 0 (by decide)]
    have e2 : inn (x / 4 % 16 % 9) 0 8 = true := decide_eq_true (by omega)
    have e3 : inn (x / 64 % 8) 0 7 = true := decide_eq_true (by omega)
    have e4 : inn (x / 512 % 256) 0 255 = true := decide_eq_true (by omega)
    rw [e2, e3, e4]
    rfl
  · rename_i hs
    unfold okd
    simp only [List.getD_cons_succ, List.getD_cons_zero, List.drop_succ_cons, List.drop_zero]
    rw [made_sets _ _ _ _ (sig_mask _)]
    have e1 : inn (stOf x) 1 3 = true := by unfold stOf; split; rfl; split; rfl; rfl
    have e2 : inn (x / 4 % 16 % 9) 0 8 = true := decide_eq_true (by omega)
    have e3 : inn (x / 64 % 8) 0 7 = true := decide_eq_true (by omega)
    have e5 : (stOf x == 2) = false := by simpa using hs
    have hf : fdsOk (fds8 l) = true := by
      simp only [fdsOk, fds8, List.all_cons, List.all_nil, fd_in _ (nxt_lo _ _), Bool.and_true]
    rw [e1, e2, e3, e5, show [fdOf (nxt l 7), fdOf (nxt l 8), fdOf (nxt l 9), fdOf (nxt l 10), fdOf (nxt l 11), fdOf (nxt l 12), fdOf (nxt l 13), fdOf (nxt l 14)] = fds8 l from rfl, hf]
    rfl
end Go.Proofs.YtngchjejmnfanaaGreat.Cd
namespace Go.Proofs.YtngchjejmnfanaaGreat.Fi
open Go.RowKit Cd
set_option linter.unusedVariables false
set_option linter.unusedSimpArgs false
/-- What is made of a number. -/
def made (n : Int) : List Int :=
  [n % 16777216 % 3 + 1, (if n % 16777216 % 3 + 1 = 3 then 0 else n % 16777216 / 16 % 8), n % 16777216 / 256 % 64 + 1, n % 16777216 / 32768 % 2]
set_option maxHeartbeats 4000000 in
theorem made_is (n : Int) (w : World) (R : List Int) (hR : made n = R) :
    Calls Tryz.prog 41 #[.int .i64 n] w fun e w' => e = .returned (pv R) ∧ Keep Nob w w' := by
  have hm : bits .and .i64 n 16777215 = n % 16777216 := i64_mask n 24 (by decide)
  have x0 : 0 ≤ n % 16777216 := by omega
  have x1 : n % 16777216 < 16777216 := by omega
  unfold made at hR
  generalize n % 16777216 = x at *
  have hr0 : Blk (w.alloc (.cells #[.int .i64 0, .int .i64 0, .int .i64 0, .int .i64 0] 41)) w.heap.size 41 (ints noP) := Blk.new w 41 (ints noP)
  have hk0 : Keep Nob w (w.alloc (.cells #[.int .i64 0, .int .i64 0, .int .i64 0, .int .i64 0] 41)) := (Keep.refl Nob w).alloc _
  have s1 : (w.alloc (.cells #[.int .i64 0, .int .i64 0, .int .i64 0, .int .i64 0] 41)).heap.size = w.heap.size + 1 := by simp
  have hne : w.heap.size ≠ w.heap.size + 1 := by omega
  have hle : w.heap.size ≤ w.heap.size + 1 := by omega
  have hp1 : Blk ((w.alloc (.cells #[.int .i64 0, .int .i64 0, .int .i64 0, .int .i64 0] 41)).alloc (.cells #[.int .i64 (x % 3 + 1), .int .i64 (x / 16 % 8), .int .i64 (x / 256 % 64 + 1), .int .i64 (x / 32768 % 2)] 41)) (w.heap.size + 1) 41 (ints [x % 3 + 1, x / 16 % 8, x / 256 % 64 + 1, x / 32768 % 2]) := by
    rw [← s1]; exact Blk.new _ _ _
  have hr1 := hr0.alloc (.cells #[.int .i64 (x % 3 + 1), .int .i64 (x / 16 % 8), .int .i64 (x / 256 % 64 + 1), .int .i64 (x / 32768 % 2)] 41)
  have hk1 := hk0.alloc (.cells #[.int .i64 (x % 3 + 1), .int .i64 (x / 16 % 8), .int .i64 (x / 256 % 64 + 1), .int .i64 (x / 32768 % 2)] 41)
  by_cases h3 : x % 3 + 1 = 3
  · rw [if_pos h3, h3] at hR
    rw [h3] at hp1
    have hp2 : Blk ((w.alloc (.cells #[.int .i64 0, .int .i64 0, .int .i64 0, .int .i64 0] 41)).alloc (.cells #[.int .i64 3, .int .i64 0, .int .i64 (x / 256 % 64 + 1), .int .i64 (x / 32768 % 2)] 41)) (w.heap.size + 1) 41 (ints R) := by
      rw [← s1, ← hR]; exact Blk.new _ _ _
    have hr2 := hr0.alloc (.cells #[.int .i64 3, .int .i64 0, .int .i64 (x / 256 % 64 + 1), .int .i64 (x / 32768 % 2)] 41)
    have hk2 := hk0.alloc (.cells #[.int .i64 3, .int .i64 0, .int .i64 (x / 256 % 64 + 1), .int .i64 (x / 32768 % 2)] 41)
    have hRl : R.length = 4 := by rw [← hR]; rfl
    have fr := hp1.frozen 1
    have cc : ((w.alloc (.cells #[.int .i64 0, .int .i64 0, .int .i64 0, .int .i64 0] 41)).alloc (.cells #[.int .i64 3, .int .i64 (x / 16 % 8), .int .i64 (x / 256 % 64 + 1), .int .i64 (x / 32768 % 2)] 41)).cell? ⟨w.heap.size + 1, 1, none⟩ = some (.int .i64 (x / 16 % 8)) := hp1.cell 1
    have c0 : ((w.alloc (.cells #[.int .i64 0, .int .i64 0, .int .i64 0, .int .i64 0] 41)).alloc (.cells #[.int .i64 3, .int .i64 (x / 16 % 8), .int .i64 (x / 256 % 64 + 1), .int .i64 (x / 32768 % 2)] 41)).cell? ⟨w.heap.size + 1, 0, none⟩ = some (.int .i64 3) := hp1.cell 0
    clear hR hr0 hk0 s1
    go_enter Tryz.func41, Tryz.ntmps41
    go_wp2_with (first | (refine wpList_ld rfl (.tmp 3) rfl (w.heap.size + 1) R rfl hRl hp2 ?_) | (refine wpList_st rfl (.tmp 2) _ rfl w.heap.size R noP rfl rfl hRl rfl hr2 ?_; intro w3 hr3 hk3 hs3; clear hs3))
    (try simp only [Exit.inBlock, Exit.then])
    refine bodyPost_ret (v := pv R) (results_one rfl _ _ w.heap.size R hRl rfl hr3) rfl ?_
    exact ⟨rfl, hk2.trans hk3 (fun b hb e => by have h4 : b = w.heap.size := e; omega)⟩
  · rw [if_neg h3] at hR
    have e3 : (x % 3 + 1 == 3) = false := by simpa using h3
    rw [hR] at hp1
    have hRl : R.length = 4 := by rw [← hR]; rfl
    have c0 : ((w.alloc (.cells #[.int .i64 0, .int .i64 0, .int .i64 0, .int .i64 0] 41)).alloc (.cells #[.int .i64 (x % 3 + 1), .int .i64 (x / 16 % 8), .int .i64 (x / 256 % 64 + 1), .int .i64 (x / 32768 % 2)] 41)).cell? ⟨w.heap.size + 1, 0, none⟩ = some (.int .i64 (x % 3 + 1)) := by rw [hp1.cell, ← hR]; rfl
    clear hR hr0 hk0 s1
    go_enter Tryz.func41, Tryz.ntmps41
    go_wp2_with (first | (refine wpList_ld rfl (.tmp 3) rfl (w.heap.size + 1) R rfl hRl hp1 ?_) | (refine wpList_st rfl (.tmp 2) _ rfl w.heap.size R noP rfl rfl hRl rfl hr1 ?_; intro w3 hr3 hk3 hs3; clear hs3))
    (try simp only [Exit.inBlock, Exit.then])
    refine bodyPost_ret (v := pv R) (results_one rfl _ _ w.heap.size R hRl rfl hr3) rfl ?_
    exact ⟨rfl, hk1.trans hk3 (fun b hb e => by have h4 : b = w.heap.size := e; omega)⟩
end Go.Proofs.YtngchjejmnfanaaGreat.Fi
