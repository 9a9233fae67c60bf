/- Contracts of package kern: a Boot in memory; what areThere asks. -/
import Derived.Test.YtompckcnpidbdaaGreatKrn3
namespace Go.Proofs.YtompckcnpidbdaaGreat
open Go.RowKit
set_option linter.unusedVariables false
set_option linter.unusedSimpArgs false
/-- A slice of ints, and what it holds. -/
structure Sl where
  A : Option Addr
  c : Nat
  xs : List Int
def Sl.cell (s : Sl) : Value := .slice s.A s.xs.length s.c
/-- A Share, and what its To holds. -/
structure Sh where
  ses : Int
  frame : Int
  lo : Int
  n : Int
  A : Option Addr
  c : Nat
  tos : List Int
def Sh.cells (s : Sh) : List Value := [.int .i64 s.ses, .int .i64 s.frame, .int .i64 s.lo, .int .i64 s.n, .slice s.A s.tos.length s.c]
def Sh.val (s : Sh) : Value := .agg #[.int .i64 s.ses, .int .i64 s.frame, .int .i64 s.lo, .int .i64 s.n, .slice s.A s.tos.length s.c]
def InR (n : Nat) (xs : List Int) : Prop := ∀ x ∈ xs, 0 ≤ x ∧ x < n
/-- A Share's bytes are its session's. -/
def ShOk (ns : List Nat) (s : Sh) : Prop := 0 ≤ s.ses ∧ s.ses < ns.length ∧ 0 ≤ s.frame ∧ s.frame ≤ (ns.getD s.ses.toNat 0 : Nat) ∧ 0 ≤ s.lo ∧ 0 ≤ s.n ∧ s.lo ≤ ((ns.getD s.ses.toNat 0 : Nat) - s.frame) * 64 - s.n ∧ InR ns.length s.tos ∧ s.tos.length ≤ 1000
theorem none_is (rc : Nat) (R : Option Addr) (n c : Nat) (x : Int) (w : World) (hc : w.cell? ⟨rc, 0, none⟩ = some (.slice R n c)) (h0 : 0 ≤ x) (h1 : x < n) :
    Calls Tryz.prog 48 #[.int .i64 x, .pointer (some ⟨rc, 0, none⟩)] w fun e w' => e = .returned (.bool false) ∧ w = w' := by
  go_enter Tryz.func48, Tryz.ntmps48
  go_wp2
  go_ret
  exact ⟨by simp; omega, rfl⟩
theorem ix1_is (rc : Nat) (R : Option Addr) (n c : Nat) (w : World) (hc : w.cell? ⟨rc, 0, none⟩ = some (.slice R n c)) (A : Option Addr) (m c2 : Nat) (xs : List Int) (hx : Reads w A m (ints xs)) (hr : InR n xs) (hm : m ≤ 1000) :
    Calls Tryz.prog 75 #[.slice A m c2, .func (.func 48) #[] #[.pointer (some ⟨rc, 0, none⟩)]] w fun e w' => e = .returned (.int .i64 (-1)) ∧ w = w' := by
  have hl : xs.length = m := by have := hx.1; rwa [ints_len] at this
  have HX := Lib.hid hx
  have HL := Lib.hid hl
  have HR := Lib.hid hr
  clear hx hl hr
  go_enter Tryz.func75, Tryz.ntmps75
  go_wp2_with fail
  go_loop [8] (fun s8 => ∃ k : Nat, k ≤ m ∧ s8 = .int .i64 k) (fun s8 => m - (intOf s8).toNat)
  case atStart => exact ⟨0, Nat.zero_le _, rfl⟩
  case round =>
    obtain ⟨k, hk, rfl⟩ := hrel
    by_cases hlt : k < m
    · obtain ⟨b, off, hA, hcl⟩ := HX.out.lit (by omega)
      obtain ⟨x, hx⟩ : ∃ x, xs[k]? = some x := ⟨_, List.getElem?_eq_getElem (by rw [HL.out]; exact hlt)⟩
      have hxm := HR.out x (List.mem_of_getElem? hx)
      have hck := hcl k (.int .i64 x) (by simp [ints, hx])
      subst hA
      clear hcl hx
      go_wp2_with fail
      refine (none_is rc R n c x _ hc hxm.1 hxm.2).mono ?_; rintro e w1 ⟨rfl, rfl⟩
      go_wp2_with fail
      go_round
      case rel => exact ⟨k + 1, by omega, by go_num⟩
      case measure => simp [intOf]; omega
    · obtain rfl : k = m := by omega
      go_wp2
      go_ret
      exact ⟨rfl, rfl⟩
theorem cf1_is (rc : Nat) (R : Option Addr) (n c : Nat) (w : World) (hc : w.cell? ⟨rc, 0, none⟩ = some (.slice R n c)) (A : Option Addr) (m c2 : Nat) (xs : List Int) (hx : Reads w A m (ints xs)) (hr : InR n xs) (hm : m ≤ 1000) :
    Calls Tryz.prog 50 #[.slice A m c2, .func (.func 48) #[] #[.pointer (some ⟨rc, 0, none⟩)]] w fun e w' => e = .returned (.bool false) ∧ w = w' := by
  go_enter Tryz.func50, Tryz.ntmps50
  go_wp2_with fail
  refine (ix1_is rc R n c w hc A m c2 xs hx hr hm).mono ?_; rintro e w1 ⟨rfl, rfl⟩
  go_wp2
  go_ret
  exact ⟨rfl, rfl⟩
theorem list_is (rc ic : Nat) (R : Option Addr) (n c : Nat) (w : World) (hc : w.cell? ⟨rc, 0, none⟩ = some (.slice R n c)) (hi : w.cell? ⟨ic, 0, none⟩ = some (.func (.func 48) #[] #[.pointer (some ⟨rc, 0, none⟩)])) (A : Option Addr) (m c2 : Nat) (xs : List Int) (hx : Reads w A m (ints xs)) (hr : InR n xs) (hm : m ≤ 1000) :
    Calls Tryz.prog 49 #[.slice A m c2, .pointer (some ⟨ic, 0, none⟩)] w fun e w' => e = .returned (.bool false) ∧ w = w' := by
  go_enter Tryz.func49, Tryz.ntmps49
  go_wp2_with fail
  refine (cf1_is rc R n c w hc A m c2 xs hx hr hm).mono ?_; rintro e w1 ⟨rfl, rfl⟩
  go_wp2
  go_ret
  exact ⟨rfl, rfl⟩
theorem ix2_is (rc ic : Nat) (R : Option Addr) (n c : Nat) (w : World) (hc : w.cell? ⟨rc, 0, none⟩ = some (.slice R n c)) (hi : w.cell? ⟨ic, 0, none⟩ = some (.func (.func 48) #[] #[.pointer (some ⟨rc, 0, none⟩)])) (A : Option Addr) (m c2 : Nat) (ls : List Sl) (hx : Reads w A m (ls.map Sl.cell)) (hr : ∀ s ∈ ls, Reads w s.A s.xs.length (ints s.xs) ∧ InR n s.xs ∧ s.xs.length ≤ 1000) (hm : m ≤ 1000) :
    Calls Tryz.prog 76 #[.slice A m c2, .func (.func 49) #[] #[.pointer (some ⟨ic, 0, none⟩)]] w fun e w' => e = .returned (.int .i64 (-1)) ∧ w = w' := by
  have hl : ls.length = m := by have := hx.1; rwa [List.length_map] at this
  have HX := Lib.hid hx
  have HL := Lib.hid hl
  have HR := Lib.hid hr
  clear hx hl hr
  go_enter Tryz.func76, Tryz.ntmps76
  go_wp2_with fail
  go_loop [8] (fun s8 => ∃ k : Nat, k ≤ m ∧ s8 = .int .i64 k) (fun s8 => m - (intOf s8).toNat)
  case atStart => exact ⟨0, Nat.zero_le _, rfl⟩
  case round =>
    obtain ⟨k, hk, rfl⟩ := hrel
    by_cases hlt : k < m
    · obtain ⟨b, off, hA, hcl⟩ := HX.out.lit (by omega)
      obtain ⟨x, hx⟩ : ∃ x, ls[k]? = some x := ⟨_, List.getElem?_eq_getElem (by rw [HL.out]; exact hlt)⟩
      have hxm := HR.out x (List.mem_of_getElem? hx)
      have hck := hcl k x.cell (by simp [hx])
      unfold Sl.cell at hck
      have HM := Lib.hid hxm
      subst hA
      clear hcl hx hxm
      go_wp2_with fail
      refine (list_is rc ic R n c _ hc hi _ _ _ x.xs HM.out.1 HM.out.2.1 HM.out.2.2).mono ?_; rintro e w1 ⟨rfl, rfl⟩
      go_wp2_with fail
      go_round
      case rel => exact ⟨k + 1, by omega, by go_num⟩
      case measure => simp [intOf]; omega
    · obtain rfl : k = m := by omega
      go_wp2
      go_ret
      exact ⟨rfl, rfl⟩
theorem cf2_is (rc ic : Nat) (R : Option Addr) (n c : Nat) (w : World) (hc : w.cell? ⟨rc, 0, none⟩ = some (.slice R n c)) (hi : w.cell? ⟨ic, 0, none⟩ = some (.func (.func 48) #[] #[.pointer (some ⟨rc, 0, none⟩)])) (A : Option Addr) (m c2 : Nat) (ls : List Sl) (hx : Reads w A m (ls.map Sl.cell)) (hr : ∀ s ∈ ls, Reads w s.A s.xs.length (ints s.xs) ∧ InR n s.xs ∧ s.xs.length ≤ 1000) (hm : m ≤ 1000) :
    Calls Tryz.prog 51 #[.slice A m c2, .func (.func 49) #[] #[.pointer (some ⟨ic, 0, none⟩)]] w fun e w' => e = .returned (.bool false) ∧ w = w' := by
  go_enter Tryz.func51, Tryz.ntmps51
  go_wp2_with fail
  refine (ix2_is rc ic R n c w hc hi A m c2 ls hx hr hm).mono ?_; rintro e w1 ⟨rfl, rfl⟩
  go_wp2
  go_ret
  exact ⟨rfl, rfl⟩
set_option maxHeartbeats 2000000 in
theorem rhas_ok (w : World) (ah fr : Nat) (s : Sh) (h1 : 0 ≤ s.frame) (h2 : s.frame ≤ fr) (h3 : 0 ≤ s.lo) (h4 : 0 ≤ s.n) (h5 : s.lo ≤ ((fr : Int) - s.frame) * 64 - s.n) (h6 : fr ≤ 64) :
    Calls Tryz.prog 54 #[.agg #[.int .i64 ah, .int .i64 fr], s.val] w fun e w' => e = .returned (.bool true) ∧ Keep Nob w w' := by
  have k1 := ((Keep.refl Nob w).alloc (.cells #[.int .i64 ah, .int .i64 fr] 72)).alloc (.cells #[.int .i64 s.ses, .int .i64 s.frame, .int .i64 s.lo, .int .i64 s.n, .slice s.A s.tos.length s.c] 53)
  unfold Sh.val
  go_enter Tryz.func54, Tryz.ntmps54
  go_wp2
  go_ret
  exact ⟨by simp, k1⟩
/-- What the closures of areThere hold. -/
structure Clo (w : World) (rc ic lc rr n : Nat) (ns : List Nat) : Prop where
  r : w.cell? ⟨rc, 0, none⟩ = some (.slice (some ⟨rr, 0, none⟩) n n)
  i : w.cell? ⟨ic, 0, none⟩ = some (.func (.func 48) #[] #[.pointer (some ⟨rc, 0, none⟩)])
  l : w.cell? ⟨lc, 0, none⟩ = some (.func (.func 49) #[] #[.pointer (some ⟨ic, 0, none⟩)])
  b : Blk w rr 72 (roomCells ns)
  rlt : rc < w.heap.size
  ilt : ic < w.heap.size
  llt : lc < w.heap.size
  nl : ns.length = n
  n4 : n ≤ 4
  n64 : ∀ x ∈ ns, x ≤ 64
theorem Clo.nob {w w' : World} {rc ic lc rr n : Nat} {ns : List Nat} (h : Clo w rc ic lc rr n ns) (k : Keep Nob w w') : Clo w' rc ic lc rr n ns :=
  ⟨k.cell_nob h.r, k.cell_nob h.i, k.cell_nob h.l, h.b.nob k, Nat.lt_of_lt_of_le h.rlt k.size, Nat.lt_of_lt_of_le h.ilt k.size, Nat.lt_of_lt_of_le h.llt k.size, h.nl, h.n4, h.n64⟩
set_option maxRecDepth 100000 in
set_option maxHeartbeats 4000000 in
theorem share_no {w : World} {rc ic lc rr n : Nat} {ns : List Nat} (h : Clo w rc ic lc rr n ns) (s : Sh) (hs : ShOk ns s) (ht : Reads w s.A s.tos.length (ints s.tos)) :
    Calls Tryz.prog 53 #[s.val, .pointer (some ⟨ic, 0, none⟩), .pointer (some ⟨lc, 0, none⟩), .pointer (some ⟨rc, 0, none⟩)] w fun e w' => e = .returned (.bool false) ∧ Keep Nob w w' := by
  obtain ⟨a1, a2, a3, a4, a5, a6, a7, a8, a9⟩ := hs
  obtain ⟨i, hi⟩ := Int.eq_ofNat_of_zero_le a1
  rw [hi, Int.toNat_natCast] at a4 a7
  have hin : i < ns.length := by omega
  obtain ⟨f, hf⟩ : ∃ f, ns.getD i 0 = f := ⟨_, rfl⟩
  obtain ⟨ah, hah⟩ : ∃ ah, Qu.first ns i = ah := ⟨_, rfl⟩
  have hf64 : f ≤ 64 := by
    rw [← hf, List.getD_eq_getElem?_getD, List.getElem?_eq_getElem hin]
    exact h.n64 _ (List.getElem_mem hin)
  rw [hf] at a4 a7
  have hn := h.nl
  have hn4 := h.n4
  have k1 := (Keep.refl Nob w).alloc (.cells #[.int .i64 s.ses, .int .i64 s.frame, .int .i64 s.lo, .int .i64 s.n, .slice s.A s.tos.length s.c] 53)
  have b1 : Blk (w.alloc (.cells #[.int .i64 s.ses, .int .i64 s.frame, .int .i64 s.lo, .int .i64 s.n, .slice s.A s.tos.length s.c] 53)) w.heap.size 53 [.int .i64 s.ses, .int .i64 s.frame, .int .i64 s.lo, .int .i64 s.n, .slice s.A s.tos.length s.c] := Blk.new w 53 _
  have h1 := h.nob k1
  have ht1 := ht.nob k1
  have sf : ∀ W, Keep Nob (w.alloc (.cells #[.int .i64 s.ses, .int .i64 s.frame, .int .i64 s.lo, .int .i64 s.n, .slice s.A s.tos.length s.c] 53)) W → W.cell? ⟨ic, 0, none⟩ = some (.func (.func 48) #[] #[.pointer (some ⟨rc, 0, none⟩)]) ∧ W.cell? ⟨w.heap.size, 0, none⟩ = some (.int .i64 i) ∧ W.cell? ⟨lc, 0, none⟩ = some (.func (.func 49) #[] #[.pointer (some ⟨ic, 0, none⟩)]) ∧ W.cell? ⟨w.heap.size, 4, none⟩ = some (.slice s.A s.tos.length s.c) ∧ W.cell? ⟨rc, 0, none⟩ = some (.slice (some ⟨rr, 0, none⟩) n n) ∧ W.cell? ⟨rr, i * 2, none⟩ = some (.int .i64 ah) ∧ W.cell? ⟨rr, i * 2 + 1, none⟩ = some (.int .i64 f) ∧ W.cell? ⟨w.heap.size, 1, none⟩ = some (.int .i64 s.frame) ∧ W.cell? ⟨w.heap.size, 2, none⟩ = some (.int .i64 s.lo) ∧ W.cell? ⟨w.heap.size, 3, none⟩ = some (.int .i64 s.n) := by
    intro W k
    have hW := h1.nob k
    have b := b1.nob k
    have g := roomCells_get hin
    rw [hf, hah] at g
    have e0 := b.cell 0
    simp only [List.getElem?_cons_zero, hi] at e0
    exact ⟨hW.i, e0, hW.l, b.cell 4, hW.r, (hW.b.cell _).trans g.1, (hW.b.cell _).trans g.2, b.cell 1, b.cell 2, b.cell 3⟩
  have kd := Keep.nobdrew (w.alloc (.cells #[.int .i64 s.ses, .int .i64 s.frame, .int .i64 s.lo, .int .i64 s.n, .slice s.A s.tos.length s.c] 53))
  have HS := Lib.hid sf
  have HH := Lib.hid (And.intro h1 ht1)
  have HK := Lib.hid k1
  have A8 := Lib.hid a8
  have hin2 : (i : Int) < n := by omega
  have hses := Lib.hid hi
  have hv : s.val = .agg #[.int .i64 i, .int .i64 s.frame, .int .i64 s.lo, .int .i64 s.n, .slice s.A s.tos.length s.c] := by unfold Sh.val; rw [hi]
  have HV := Lib.hid hv
  have n1 := none_is rc (some ⟨rr, 0, none⟩) n n i _ (sf _ kd).2.2.2.2.1 (by omega) hin2
  have n2 := list_is rc ic (some ⟨rr, 0, none⟩) n n _ (sf _ kd).2.2.2.2.1 (sf _ kd).1 s.A s.tos.length s.c s.tos (ht1.nob kd) (hn ▸ a8) a9
  have n3 := fun W => rhas_ok W ah f s a3 a4 a5 a6 a7 hf64
  rw [hv] at n3
  have s0 := sf _ kd
  have n0 : ¬ ((i : Int) < 0) := by omega
  have EV : (Sh.val s) = (Value.agg #[.int .i64 s.ses, .int .i64 s.frame, .int .i64 s.lo, .int .i64 s.n, .slice s.A s.tos.length s.c]) := rfl
  rw [EV]
  clear hv sf h h1 ht ht1 b1 k1 a8 hah hf hi EV a1 a2
  go_enter Tryz.func53, Tryz.ntmps53
  go_wp2_with fail
  go_region_held3 (fun w' => w'.cell? ⟨ic, 0, none⟩ = some (.func (.func 48) #[] #[.pointer (some ⟨rc, 0, none⟩)]) ∧ w'.cell? ⟨w.heap.size, 0, none⟩ = some (.int .i64 i) ∧ w'.cell? ⟨lc, 0, none⟩ = some (.func (.func 49) #[] #[.pointer (some ⟨ic, 0, none⟩)]) ∧ w'.cell? ⟨w.heap.size, 4, none⟩ = some (.slice s.A s.tos.length s.c) ∧ w'.cell? ⟨rc, 0, none⟩ = some (.slice (some ⟨rr, 0, none⟩) n n) ∧ w'.cell? ⟨rr, i * 2, none⟩ = some (.int .i64 ah) ∧ w'.cell? ⟨rr, i * 2 + 1, none⟩ = some (.int .i64 f) ∧ w'.cell? ⟨w.heap.size, 1, none⟩ = some (.int .i64 s.frame) ∧ w'.cell? ⟨w.heap.size, 2, none⟩ = some (.int .i64 s.lo) ∧ w'.cell? ⟨w.heap.size, 3, none⟩ = some (.int .i64 s.n))
    (first | exact s0 | exact HS.out _ (kd.trans k3 (fun _ _ f => f)))
    (first | (go_at_call 48; refine n1.mono ?_; rintro e w1 ⟨rfl, rfl⟩) | (go_at_call 49; refine n2.mono ?_; rintro e w2 ⟨rfl, rfl⟩) | (go_at_call 54; refine (n3 _).mono ?_; rintro e w3 ⟨rfl, k3⟩))
  have fin := HK.out.trans (kd.trans k3 (fun _ _ f => f)) (fun _ _ f => f)
  go_wp2
  go_ret
  exact ⟨rfl, fin⟩
end Go.Proofs.YtompckcnpidbdaaGreat
