/- The walk of CodecOf. -/
import Derived.Test.YtcamgelnkjghbaaCod2
import Derived.Deep.CutBlock
import Derived.Deep.RegionLaw
import Derived.Deep.RegionHeld3
import Derived.BigRegion
namespace Go.Proofs.Ytcamgelnkjghbaa
open Go.RowKit
set_option linter.unusedVariables false
set_option linter.unusedSimpArgs false
/-- A codec of numbers, and one of texts, that a call has made. -/
structure Both (w : World) (p1 p2 k : Nat) : Prop where
  i : Blk w p1 51 [.int .i64 k, .func (.func 18) #[] #[], .func (.func 19) #[] #[]]
  s : Blk w p2 53 [.int .i64 k, .func (.func 21) #[] #[], .func (.func 22) #[] #[]]
theorem Both.nob {w w' : World} {p1 p2 k : Nat} (h : Both w p1 p2 k) (kk : Keep Nob w w') : Both w' p1 p2 k := ⟨h.i.nob kk, h.s.nob kk⟩
/-- The bytes of a number. -/
def numB (k : Nat) (v : Int) : List UInt8 := splice (List.replicate k 0) 0 (two v)
theorem numB_is {k : Nat} (v : Int) (h : 2 ≤ k) : numB k v = two v ++ List.replicate (k - 2) 0 := by simp [numB, splice, two_len]
theorem numB_num {k : Nat} {v : Int} (h : 2 ≤ k) (h0 : 0 ≤ v) (h1 : v ≤ 65535) : num (numB k v) 0 = v := by
  rw [numB_is v h]
  unfold num two
  simp only [List.cons_append, List.getD_cons_zero, List.getD_cons_succ, Nat.zero_add]
  have e1 := byte_back (v / 256)
  have e2 := byte_back v
  omega
theorem enci_any {w : World} {p1 p2 k : Nat} (h : Both w p1 p2 k) (hk : k ≤ 64) (v : Int) (good : Bool) (hg : decide (2 ≤ k ∧ 0 ≤ v ∧ v ≤ 65535) = good) :
    Calls Try.prog 25 #[.pointer (some ⟨p1, 0, none⟩), .int .i64 v] w fun e w' => ∃ A n m, e = .returned (.tuple #[.slice A n m, .bool good]) ∧ (good = true → n = k ∧ Reads w' A k (bytes (numB k v))) ∧ (good = false → n = 0) ∧ Keep Nob w w' := by
  cases good with
  | true =>
    obtain ⟨a, b, c⟩ := of_decide_eq_true hg
    refine (enci_yes p1 k v _ _ _ w h.i hk a b c).mono ?_; rintro e w' ⟨A, m, rfl, h1, h2, -⟩
    have r := h1.reads
    rw [Nat.mul_one] at r
    exact ⟨A, k, m, rfl, fun _ => ⟨rfl, r⟩, fun e => (by cases e), h2⟩
  | false =>
    refine (enci_no p1 k v _ _ _ w h.i hk (of_decide_eq_false hg)).mono ?_; rintro e w' ⟨rfl, h2⟩
    exact ⟨none, 0, 0, rfl, fun e => (by cases e), fun _ => rfl, h2⟩
theorem encs_any {w : World} {p1 p2 k : Nat} (h : Both w p1 p2 k) (hk : k ≤ 64) (s : List UInt8) (hs : s.length ≤ 1000) (good : Bool) (hg : decide (s.length ≤ k) = good) :
    Calls Try.prog 27 #[.pointer (some ⟨p2, 0, none⟩), .string (str s)] w fun e w' => ∃ A n m, e = .returned (.tuple #[.slice A n m, .bool good]) ∧ (good = true → n = k ∧ Reads w' A k (bytes (laid k s))) ∧ (good = false → n = 0) ∧ Keep Nob w w' := by
  cases good with
  | true =>
    refine (encs_yes p2 k s _ _ _ w h.s hk (of_decide_eq_true hg)).mono ?_; rintro e w' ⟨A, m, rfl, h1, h2, -⟩
    have r := h1.reads
    rw [Nat.mul_one] at r
    exact ⟨A, k, m, rfl, fun _ => ⟨rfl, r⟩, fun e => (by cases e), h2⟩
  | false =>
    refine (encs_no p2 k s _ _ _ w h.s hk (by have := of_decide_eq_false hg; omega) hs).mono ?_; rintro e w' ⟨rfl, h2⟩
    exact ⟨none, 0, 0, rfl, fun e => (by cases e), fun _ => rfl, h2⟩
theorem decs_any {w : World} {p1 p2 k : Nat} (h : Both w p1 p2 k) (hk : k ≤ 64) (A : Option Addr) (n cap : Nat) (l : List UInt8) (hr : Reads w A n (bytes l)) (v : Bool) (hv : (decide (n = k) && (decide (0 < n) && !(l.getD 0 0 == 9))) = v) (s : List UInt8) (hs : (if v then l else []) = s) :
    Calls Try.prog 28 #[.pointer (some ⟨p2, 0, none⟩), .slice A n cap] w fun e w' => e = .returned (.tuple #[.string (str s), .bool v]) ∧ Keep Nob w w' := by
  by_cases hn : n = k
  · rw [decide_eq_true hn, Bool.true_and] at hv
    exact decs_is p2 k _ _ _ A n cap l w h.s hn hk hr v hv s hs
  · rw [decide_eq_false hn, Bool.false_and] at hv
    subst hv
    rw [if_neg (by simp)] at hs
    subst hs
    exact (decs_len p2 k _ _ _ _ _ _ A n cap w h.s hn).mono fun e w' ⟨he, hw⟩ => ⟨he, hw ▸ Keep.refl _ _⟩
set_option maxRecDepth 100000 in
set_option maxHeartbeats 4000000 in
theorem CodecOf_in (w : World) (a0 a1 : Int) (s : List UInt8) (A : Option Addr) (n c : Nat) (l : List UInt8) (ra : Reads w A n (bytes l)) (h200 : n ≤ 200) (hs : s.length ≤ 200) (M : Int) (k : Nat) (h1 : (if a0 < 0 then 0 else a0) = M) (h2 : (if 64 < M then 64 else M) = (k : Int)) (hk : k ≤ 64) :
    Calls Try.prog 5 #[.int .i64 a0, .int .i64 a1, .string (str s), .slice A n c] w fun e w' => e = .returned (.bool true) ∧ Below w.heap.size w w' := by
  have hl : l.length = n := by simpa using ra.1
  have hn : (n : Int) ≤ 200 := by omega
  have hss : (str s).size = s.length := str_size s
  have hsz : (((str s).size : Nat) : Int) ≤ 200 := by omega
  obtain ⟨S, hS⟩ : ∃ S, str s = S := ⟨_, rfl⟩
  obtain ⟨good, hgood⟩ : ∃ b, decide (2 ≤ k ∧ 0 ≤ a1 ∧ a1 ≤ 65535) = b := ⟨_, rfl⟩
  rw [hS] at hss hsz
  rw [hS]
  have RA := Lib.hid ra
  have HL := Lib.hid hl
  have HS := Lib.hid hS
  have HZ := Lib.hid hss
  have HG := Lib.hid hgood
  clear ra hl hS hss hgood
  go_enter Try.func5, Try.ntmps5
  go_wp2_with fail
  refine (newi_is a0 M k _ _ _ _ _ _ w h1 h2).mono ?_; rintro e w1 ⟨rfl, b1, k1⟩
  generalize w.heap.size = p1 at b1
  go_wp2_with fail
  refine (news_is a0 M k _ _ _ _ _ _ w1 h1 h2).mono ?_; rintro e w2 ⟨rfl, b2, k2⟩
  have B2 : Both w2 p1 w1.heap.size k := ⟨b1.nob k2, b2⟩
  have K2 := k1.nobt k2
  generalize w1.heap.size = p2 at *
  clear b1 b2 k1 k2 h1 h2
  go_wp2_with fail
  refine (sizei_is p1 k _ _ w2 B2.i).mono ?_; rintro e w3 ⟨rfl, rfl⟩
  go_wp2_with fail
  refine (sizes_is p2 k _ _ w2 B2.s).mono ?_; rintro e w3 ⟨rfl, rfl⟩
  go_wp2_with fail
  refine (enci_any B2 hk a1 good HG.out).mono ?_; rintro e w3 ⟨X, nx, cx, rfl, X1, X0, k3⟩
  have B3 := B2.nob k3
  have K3 := K2.nobt k3
  clear B2 K2 k3
  go_upto_region 9 with fail
  go_cut [14] from 62 to 71 (fun s14 wx => s14 = .bool good ∧ wx = w3)
  case first =>
    clear X1 X0
    by_cases g1 : 2 ≤ k
    · have g1' : (2 : Int) ≤ (k : Int) := by omega
      by_cases g2 : 0 ≤ a1
      · by_cases g3 : a1 ≤ 65535
        · obtain rfl : good = true := by rw [← HG.out]; simp [g1, g2, g3]
          go_wp2_with fail
          go_meet
          exact ⟨rfl, rfl⟩
        · obtain rfl : good = false := by rw [← HG.out]; simp [g1, g2, g3]
          go_wp2_with fail
          go_meet
          exact ⟨rfl, rfl⟩
      · obtain rfl : good = false := by rw [← HG.out]; simp [g1, g2]
        go_wp2_with fail
        go_meet
        exact ⟨rfl, rfl⟩
    · have g1' : ¬ (2 : Int) ≤ (k : Int) := by omega
      obtain rfl : good = false := by rw [← HG.out]; simp [g1]
      go_wp2_with fail
      go_meet
      exact ⟨rfl, rfl⟩
  case rest =>
  obtain ⟨rfl, hw⟩ := hcut
  have hw := hw.symm
  subst hw
  go_upto_region 10 with fail
  go_cut [98] from 72 to 98 (fun s98 wx => s98 = .bool false ∧ Keep Nob w3 wx)
  case first =>
    cases good with
    | false =>
      obtain rfl := X0 rfl
      clear X1 X0
      go_quiet (fail)
      go_wp2_with fail
      go_meet
      exact ⟨rfl, (Keep.refl Nob w3).drewN _⟩
    | true =>
      obtain ⟨rfl, rX⟩ := X1 rfl
      obtain ⟨hg1, hg2, hg3⟩ := of_decide_eq_true HG.out
      clear X1 X0
      obtain ⟨N, hN⟩ : ∃ N : Nat, (nx : Int) - 2 = N ∧ N = nx - 2 := ⟨nx - 2, by omega, rfl⟩
      have hwr : IntKind.i64.wrap (N : Int) = (N : Int) := wrap_small_i64 _ (by omega) (by omega)
      obtain ⟨T, hT⟩ : ∃ T, str (two a1) = T := ⟨_, rfl⟩
      obtain ⟨Z, hZ⟩ : ∃ T, str (List.replicate N 0) = T := ⟨_, rfl⟩
      obtain ⟨U, hU⟩ : ∃ T, str (numB nx a1) = T := ⟨_, rfl⟩
      have ht := fun W => rtwo_is a1 W hg2 hg3
      rw [hT] at ht
      have had := str_add (two a1) (List.replicate N 0) (by simp [two_len]; omega)
      rw [hT, hZ, show two a1 ++ List.replicate N 0 = numB nx a1 from by rw [hN.2, numB_is a1 hg1], hU] at had
      have hN1 := hN.1
      have hN62 : N ≤ 62 := by omega
      have hmk : ∀ W : World, (Instr.makeSlice 22 (.int .i64 (N : Int)) (.int .i64 (N : Int))).run Try.prog W = .ok (.slice (some ⟨W.heap.size, 0, none⟩) N N) (W.alloc (.cells (madeCells #[.int .u8 0] N) 5)) := fun W =>
        run_make_row' (P := Try.prog) 22 5 (.int .u8 0) 1 Try.underlying22 Try.info5 rfl .i64 .i64 N (by omega) (by omega) W
      have hzz : ∀ W W' : World, Keep Nob (W.alloc (.cells (madeCells #[.int .u8 0] N) 5)) W' → (convert 22 9 (.slice (some ⟨W.heap.size, 0, none⟩) N N)).run Try.prog W' = .ok (.string Z) W' := fun W W' kk => by
        have hb := Blk.new W 5 (madeCells #[.int .u8 0] N).toList
        rw [Array.toArray_toList, toList_madeCells_one, ← bytes_replicate] at hb
        rw [← hZ]
        exact run_str (P := Try.prog) W' 22 9 5 _ N N _ Try.underlying22 Try.underlying5 Try.underlying9 ((reads_all hb (by simp)).nob kk)
      have hz0 : ∀ W : World, (convert 22 9 (.slice (some ⟨W.heap.size, 0, none⟩) N N)).run Try.prog (W.alloc (.cells (madeCells #[.int .u8 0] N) 5)) = .ok (.string Z) (W.alloc (.cells (madeCells #[.int .u8 0] N) 5)) := fun W => hzz W _ (Keep.refl _ _)
      have hx : ∀ W, Keep Nob w3 W → (convert 22 9 (.slice X nx cx)).run Try.prog W = .ok (.string U) W := fun W kk => by
        rw [← hU]
        exact run_str (P := Try.prog) W 22 9 5 _ nx cx _ Try.underlying22 Try.underlying5 Try.underlying9 (rX.nob kk)
      have kd := Keep.nobdrew w3
      have x0 := hx _ kd
      have x1 := hx _ (kd.alloc (.cells (madeCells #[.int .u8 0] N) 5))
      have k7 : Keep Nob w3 (w3.alloc (.cells (madeCells #[.int .u8 0] N) 5)).drew := ((Keep.refl Nob w3).alloc _).drew
      have z0 : (convert 22 9 (.slice (some ⟨w3.heap.size, 0, none⟩) N N)).run Try.prog (w3.alloc (.cells (madeCells #[.int .u8 0] N) 5)).drew = .ok (.string Z) (w3.alloc (.cells (madeCells #[.int .u8 0] N) 5)).drew := hzz w3 _ (Keep.nobdrew _)
      have HX := Lib.hid hx
      have HZZ := Lib.hid hzz
      have H := Lib.hid (And.intro hT (And.intro hZ hU))
      clear hT hZ hU hx hzz rX hN K3 B3
      refine wp_region_held_drew (S := fun w' => (convert 22 9 (.slice X nx cx)).run Try.prog w' = .ok (.string U) w') (by kernel_rfl) x0 (fun hHeld => ?_)
      refine wpAnyH_take (i := 0) (v := ?_) rfl (by kernel_rfl) (by kernel_rfl) (by kernel_rfl) (fun _ _ _ h => h) (Or.inl ⟨by rfl, ?_⟩) (by assumption) ?_
      rotate_left
      · (intro w hSw; (try dsimp only at hSw); go_simp; try with_reducible rfl)
      try simp only [Act.put, List.getElem_toArray, List.getElem_cons_zero, List.getElem_cons_succ, List.setIfInBounds_toArray, List.set_cons_zero, List.set_cons_succ]
      refine wpAnyH_take (i := 1) (v := ?_) rfl (by kernel_rfl) (by kernel_rfl) (by kernel_rfl) (fun _ _ _ h => h) (Or.inl ⟨by rfl, ?_⟩) (by assumption) ?_
      rotate_left
      · (intro w hSw; (try dsimp only at hSw); go_simp; try with_reducible rfl)
      try simp only [Act.put, List.getElem_toArray, List.getElem_cons_zero, List.getElem_cons_succ, List.setIfInBounds_toArray, List.set_cons_zero, List.set_cons_succ]
      refine wpAnyH_take (i := 2) (v := ?_) rfl (by kernel_rfl) (by kernel_rfl) (by kernel_rfl) (fun _ _ _ h => h) (Or.inl ⟨by rfl, ?_⟩) (by assumption) ?_
      rotate_left
      · (intro w hSw; (try dsimp only at hSw); go_simp; try with_reducible rfl)
      try simp only [Act.put, List.getElem_toArray, List.getElem_cons_zero, List.getElem_cons_succ, List.setIfInBounds_toArray, List.set_cons_zero, List.set_cons_succ]
      refine wpAnyH_take (i := 3) (v := ?_) rfl (by kernel_rfl) (by kernel_rfl) (by kernel_rfl) (fun _ _ _ h => h) (Or.inl ⟨by rfl, ?_⟩) (by assumption) ?_
      rotate_left
      · (intro w hSw; (try dsimp only at hSw); go_simp; try with_reducible rfl)
      try simp only [Act.put, List.getElem_toArray, List.getElem_cons_zero, List.getElem_cons_succ, List.setIfInBounds_toArray, List.set_cons_zero, List.set_cons_succ]
      refine wpAnyH_take (i := 4) (v := ?_) rfl (by kernel_rfl) (by kernel_rfl) (by kernel_rfl) (fun _ _ _ h => h) (Or.inl ⟨by rfl, ?_⟩) (by assumption) ?_
      rotate_left
      · (intro w hSw; (try dsimp only at hSw); go_simp; try with_reducible rfl)
      try simp only [Act.put, List.getElem_toArray, List.getElem_cons_zero, List.getElem_cons_succ, List.setIfInBounds_toArray, List.set_cons_zero, List.set_cons_succ]
      refine wpAnyH_take (i := 5) (v := ?_) rfl (by kernel_rfl) (by kernel_rfl) (by kernel_rfl) (fun _ _ _ h => h) (Or.inl ⟨by rfl, ?_⟩) (by assumption) ?_
      rotate_left
      · (intro w hSw; (try dsimp only at hSw); go_simp; try with_reducible rfl)
      try simp only [Act.put, List.getElem_toArray, List.getElem_cons_zero, List.getElem_cons_succ, List.setIfInBounds_toArray, List.set_cons_zero, List.set_cons_succ]
      refine wpAnyH_take (i := 6) (v := ?_) rfl (by kernel_rfl) (by kernel_rfl) (by kernel_rfl) (fun _ _ _ h => h) (Or.inl ⟨by rfl, ?_⟩) (by assumption) ?_
      rotate_left
      · (intro w hSw; (try dsimp only at hSw); go_simp; try with_reducible rfl)
      try simp only [Act.put, List.getElem_toArray, List.getElem_cons_zero, List.getElem_cons_succ, List.setIfInBounds_toArray, List.set_cons_zero, List.set_cons_succ]
      refine wpAnyH_take (i := 7) (v := ?_) rfl (by kernel_rfl) (by kernel_rfl) (by kernel_rfl) (fun _ _ _ h => h) (Or.inl ⟨by rfl, ?_⟩) (by assumption) ?_
      rotate_left
      · (intro w hSw; (try dsimp only at hSw); go_simp; try with_reducible rfl)
      try simp only [Act.put, List.getElem_toArray, List.getElem_cons_zero, List.getElem_cons_succ, List.setIfInBounds_toArray, List.set_cons_zero, List.set_cons_succ]
      refine wpAnyH_take (i := 8) (v := ?_) rfl (by kernel_rfl) (by kernel_rfl) (by kernel_rfl) (fun _ _ _ h => h) (Or.inl ⟨by rfl, ?_⟩) (by assumption) ?_
      rotate_left
      · (intro w hSw; (try dsimp only at hSw); go_simp; try with_reducible rfl)
      try simp only [Act.put, List.getElem_toArray, List.getElem_cons_zero, List.getElem_cons_succ, List.setIfInBounds_toArray, List.set_cons_zero, List.set_cons_succ]
      refine wpAnyH_take (i := 10) (v := ?_) rfl (by kernel_rfl) (by kernel_rfl) (by kernel_rfl) (fun _ _ _ h => h) (Or.inl ⟨by rfl, ?_⟩) (by assumption) ?_
      rotate_left
      · (intro w hSw; (try dsimp only at hSw); go_simp; try with_reducible rfl)
      try simp only [Act.put, List.getElem_toArray, List.getElem_cons_zero, List.getElem_cons_succ, List.setIfInBounds_toArray, List.set_cons_zero, List.set_cons_succ]
      refine wpAnyH_take (i := 11) (v := ?_) rfl (by kernel_rfl) (by kernel_rfl) (by kernel_rfl) (fun _ _ _ h => h) (Or.inl ⟨by rfl, ?_⟩) (by assumption) ?_
      rotate_left
      · (intro w hSw; (try dsimp only at hSw); go_simp; try with_reducible rfl)
      try simp only [Act.put, List.getElem_toArray, List.getElem_cons_zero, List.getElem_cons_succ, List.setIfInBounds_toArray, List.set_cons_zero, List.set_cons_succ]
      refine wpAnyH_ready (rs := [9, 12]) (by kernel_rfl) (by simp) ?_
      refine AllReadyH.cons rfl (fun K hK => ?_) ?_
      · go_simp
        refine (ht _).mono ?_; rintro e w6 ⟨rfl, k6⟩
        have k6' := kd.nobt k6
        have x6 := HX.out w6 k6'
        go_wp2_with fail
        refine hK.out _ _ ?_ (fun hHeld => ?_)
        · exact x6
        clear hK K
        try simp only [Act.put, List.getElem_toArray, List.getElem_cons_zero, List.getElem_cons_succ, List.setIfInBounds_toArray, List.set_cons_zero, List.set_cons_succ]
        refine wpAnyH_ready (rs := [12]) (by kernel_rfl) (by simp) ?_
        refine AllReadyH.cons rfl (fun K hK => ?_) AllReadyH.nil
        go_simp
        refine hK.out _ _ ?_ (fun hHeld => ?_)
        · exact HX.out _ (k6'.alloc (.cells (madeCells #[.int .u8 0] N) 5))
        clear hK K
        try simp only [Act.put, List.getElem_toArray, List.getElem_cons_zero, List.getElem_cons_succ, List.setIfInBounds_toArray, List.set_cons_zero, List.set_cons_succ]
        refine wpAnyH_ready (rs := [13]) (by kernel_rfl) (by simp) ?_
        refine AllReadyH.cons rfl (fun K hK => ?_) AllReadyH.nil
        have z9 := hz0 w6
        go_simp
        refine hK.out _ _ ?_ (fun hHeld => ?_)
        · exact HX.out _ (k6'.alloc (.cells (madeCells #[.int .u8 0] N) 5))
        clear hK K
        try simp only [Act.put, List.getElem_toArray, List.getElem_cons_zero, List.getElem_cons_succ, List.setIfInBounds_toArray, List.set_cons_zero, List.set_cons_succ]
        refine wpAnyH_take (i := 14) (v := ?_) rfl (by kernel_rfl) (by kernel_rfl) (by kernel_rfl) (fun _ _ _ h => h) (Or.inl ⟨by rfl, ?_⟩) (by assumption) ?_
        rotate_left
        · (intro w hSw; (try dsimp only at hSw); go_simp; try with_reducible rfl)
        try simp only [Act.put, List.getElem_toArray, List.getElem_cons_zero, List.getElem_cons_succ, List.setIfInBounds_toArray, List.set_cons_zero, List.set_cons_succ]
        refine wpAnyH_take (i := 15) (v := ?_) rfl (by kernel_rfl) (by kernel_rfl) (by kernel_rfl) (fun _ _ _ h => h) (Or.inl ⟨by rfl, ?_⟩) (by assumption) ?_
        rotate_left
        · (intro w hSw; (try dsimp only at hSw); go_simp; try with_reducible rfl)
        try simp only [Act.put, List.getElem_toArray, List.getElem_cons_zero, List.getElem_cons_succ, List.setIfInBounds_toArray, List.set_cons_zero, List.set_cons_succ]
        refine wpAnyH_take (i := 16) (v := ?_) rfl (by kernel_rfl) (by kernel_rfl) (by kernel_rfl) (fun _ _ _ h => h) (Or.inl ⟨by rfl, ?_⟩) (by assumption) ?_
        rotate_left
        · (intro w hSw; (try dsimp only at hSw); go_simp; try with_reducible rfl)
        try simp only [Act.put, List.getElem_toArray, List.getElem_cons_zero, List.getElem_cons_succ, List.setIfInBounds_toArray, List.set_cons_zero, List.set_cons_succ]
        refine wpAnyH_take (i := 17) (v := ?_) rfl (by kernel_rfl) (by kernel_rfl) (by kernel_rfl) (fun _ _ _ h => h) (Or.inl ⟨by rfl, ?_⟩) (by assumption) ?_
        rotate_left
        · (intro w hSw; (try dsimp only at hSw); go_simp; try with_reducible rfl)
        try simp only [Act.put, List.getElem_toArray, List.getElem_cons_zero, List.getElem_cons_succ, List.setIfInBounds_toArray, List.set_cons_zero, List.set_cons_succ]
        refine wpAnyH_take (i := 18) (v := ?_) rfl (by kernel_rfl) (by kernel_rfl) (by kernel_rfl) (fun _ _ _ h => h) (Or.inl ⟨by rfl, ?_⟩) (by assumption) ?_
        rotate_left
        · (intro w hSw; (try dsimp only at hSw); go_simp; try with_reducible rfl)
        try simp only [Act.put, List.getElem_toArray, List.getElem_cons_zero, List.getElem_cons_succ, List.setIfInBounds_toArray, List.set_cons_zero, List.set_cons_succ]
        refine wpAnyH_take (i := 19) (v := ?_) rfl (by kernel_rfl) (by kernel_rfl) (by kernel_rfl) (fun _ _ _ h => h) (Or.inl ⟨by rfl, ?_⟩) (by assumption) ?_
        rotate_left
        · (intro w hSw; (try dsimp only at hSw); go_simp; try with_reducible rfl)
        try simp only [Act.put, List.getElem_toArray, List.getElem_cons_zero, List.getElem_cons_succ, List.setIfInBounds_toArray, List.set_cons_zero, List.set_cons_succ]
        refine wpAnyH_take (i := 20) (v := ?_) rfl (by kernel_rfl) (by kernel_rfl) (by kernel_rfl) (fun _ _ _ h => h) (Or.inl ⟨by rfl, ?_⟩) (by assumption) ?_
        rotate_left
        · (intro w hSw; (try dsimp only at hSw); go_simp; try with_reducible rfl)
        try simp only [Act.put, List.getElem_toArray, List.getElem_cons_zero, List.getElem_cons_succ, List.setIfInBounds_toArray, List.set_cons_zero, List.set_cons_succ]
        refine wpAnyH_take (i := 21) (v := ?_) rfl (by kernel_rfl) (by kernel_rfl) (by kernel_rfl) (fun _ _ _ h => h) (Or.inl ⟨by rfl, ?_⟩) (by assumption) ?_
        rotate_left
        · (intro w hSw; (try dsimp only at hSw); go_simp; try with_reducible rfl)
        try simp only [Act.put, List.getElem_toArray, List.getElem_cons_zero, List.getElem_cons_succ, List.setIfInBounds_toArray, List.set_cons_zero, List.set_cons_succ]
        refine wpAnyH_take (i := 22) (v := undef) rfl (by kernel_rfl) (by kernel_rfl) (by kernel_rfl) (fun _ _ _ h => h) (Or.inr ⟨by rfl, rfl⟩) (by assumption) ?_
        try simp only [Act.put, List.getElem_toArray, List.getElem_cons_zero, List.getElem_cons_succ, List.setIfInBounds_toArray, List.set_cons_zero, List.set_cons_succ]
        refine wpAnyH_take (i := 23) (v := undef) rfl (by kernel_rfl) (by kernel_rfl) (by kernel_rfl) (fun _ _ _ h => h) (Or.inr ⟨by rfl, rfl⟩) (by assumption) ?_
        try simp only [Act.put, List.getElem_toArray, List.getElem_cons_zero, List.getElem_cons_succ, List.setIfInBounds_toArray, List.set_cons_zero, List.set_cons_succ]
        refine wpAnyH_take (i := 24) (v := undef) rfl (by kernel_rfl) (by kernel_rfl) (by kernel_rfl) (fun _ _ _ h => h) (Or.inr ⟨by rfl, rfl⟩) (by assumption) ?_
        try simp only [Act.put, List.getElem_toArray, List.getElem_cons_zero, List.getElem_cons_succ, List.setIfInBounds_toArray, List.set_cons_zero, List.set_cons_succ]
        refine wpAnyH_take (i := 25) (v := ?_) rfl (by kernel_rfl) (by kernel_rfl) (by kernel_rfl) (fun _ _ _ h => h) (Or.inl ⟨by rfl, ?_⟩) (by assumption) ?_
        rotate_left
        · (intro w hSw; (try dsimp only at hSw); go_simp; try with_reducible rfl)
        try simp only [Act.put, List.getElem_toArray, List.getElem_cons_zero, List.getElem_cons_succ, List.setIfInBounds_toArray, List.set_cons_zero, List.set_cons_succ]
        refine wpAnyH_take (i := 26) (v := ?_) rfl (by kernel_rfl) (by kernel_rfl) (by kernel_rfl) (fun _ _ _ h => h) (Or.inl ⟨by rfl, ?_⟩) (by assumption) ?_
        rotate_left
        · (intro w hSw; (try dsimp only at hSw); go_simp; try with_reducible rfl)
        try simp only [Act.put, List.getElem_toArray, List.getElem_cons_zero, List.getElem_cons_succ, List.setIfInBounds_toArray, List.set_cons_zero, List.set_cons_succ]
        refine wpAnyH_done (by kernel_rfl) ?_ _
        go_wp2_with fail
        go_meet
        exact ⟨rfl, k6'.alloc (.cells (madeCells #[.int .u8 0] N) 5)⟩
      refine AllReadyH.cons rfl (fun K hK => ?_) AllReadyH.nil
      go_simp
      refine hK.out _ _ ?_ (fun hHeld => ?_)
      · exact x1
      clear hK K
      try simp only [Act.put, List.getElem_toArray, List.getElem_cons_zero, List.getElem_cons_succ, List.setIfInBounds_toArray, List.set_cons_zero, List.set_cons_succ]
      refine wpAnyH_ready (rs := [9, 13]) (by kernel_rfl) (by simp) ?_
      refine AllReadyH.cons rfl (fun K hK => ?_) ?_
      · go_simp
        refine (ht _).mono ?_; rintro e w6 ⟨rfl, k6⟩
        have k6' := k7.nobt k6
        have x6 := HX.out w6 k6'
        go_wp2_with fail
        refine hK.out _ _ ?_ (fun hHeld => ?_)
        · exact x6
        clear hK K
        try simp only [Act.put, List.getElem_toArray, List.getElem_cons_zero, List.getElem_cons_succ, List.setIfInBounds_toArray, List.set_cons_zero, List.set_cons_succ]
        refine wpAnyH_ready (rs := [13]) (by kernel_rfl) (by simp) ?_
        refine AllReadyH.cons rfl (fun K hK => ?_) AllReadyH.nil
        have z9 := HZZ.out w3 w6 ((Keep.nobdrew _).nobt k6)
        go_simp
        refine hK.out _ _ ?_ (fun hHeld => ?_)
        · exact x6
        clear hK K
        try simp only [Act.put, List.getElem_toArray, List.getElem_cons_zero, List.getElem_cons_succ, List.setIfInBounds_toArray, List.set_cons_zero, List.set_cons_succ]
        refine wpAnyH_take (i := 14) (v := ?_) rfl (by kernel_rfl) (by kernel_rfl) (by kernel_rfl) (fun _ _ _ h => h) (Or.inl ⟨by rfl, ?_⟩) (by assumption) ?_
        rotate_left
        · (intro w hSw; (try dsimp only at hSw); go_simp; try with_reducible rfl)
        try simp only [Act.put, List.getElem_toArray, List.getElem_cons_zero, List.getElem_cons_succ, List.setIfInBounds_toArray, List.set_cons_zero, List.set_cons_succ]
        refine wpAnyH_take (i := 15) (v := ?_) rfl (by kernel_rfl) (by kernel_rfl) (by kernel_rfl) (fun _ _ _ h => h) (Or.inl ⟨by rfl, ?_⟩) (by assumption) ?_
        rotate_left
        · (intro w hSw; (try dsimp only at hSw); go_simp; try with_reducible rfl)
        try simp only [Act.put, List.getElem_toArray, List.getElem_cons_zero, List.getElem_cons_succ, List.setIfInBounds_toArray, List.set_cons_zero, List.set_cons_succ]
        refine wpAnyH_take (i := 16) (v := ?_) rfl (by kernel_rfl) (by kernel_rfl) (by kernel_rfl) (fun _ _ _ h => h) (Or.inl ⟨by rfl, ?_⟩) (by assumption) ?_
        rotate_left
        · (intro w hSw; (try dsimp only at hSw); go_simp; try with_reducible rfl)
        try simp only [Act.put, List.getElem_toArray, List.getElem_cons_zero, List.getElem_cons_succ, List.setIfInBounds_toArray, List.set_cons_zero, List.set_cons_succ]
        refine wpAnyH_take (i := 17) (v := ?_) rfl (by kernel_rfl) (by kernel_rfl) (by kernel_rfl) (fun _ _ _ h => h) (Or.inl ⟨by rfl, ?_⟩) (by assumption) ?_
        rotate_left
        · (intro w hSw; (try dsimp only at hSw); go_simp; try with_reducible rfl)
        try simp only [Act.put, List.getElem_toArray, List.getElem_cons_zero, List.getElem_cons_succ, List.setIfInBounds_toArray, List.set_cons_zero, List.set_cons_succ]
        refine wpAnyH_take (i := 18) (v := ?_) rfl (by kernel_rfl) (by kernel_rfl) (by kernel_rfl) (fun _ _ _ h => h) (Or.inl ⟨by rfl, ?_⟩) (by assumption) ?_
        rotate_left
        · (intro w hSw; (try dsimp only at hSw); go_simp; try with_reducible rfl)
        try simp only [Act.put, List.getElem_toArray, List.getElem_cons_zero, List.getElem_cons_succ, List.setIfInBounds_toArray, List.set_cons_zero, List.set_cons_succ]
        refine wpAnyH_take (i := 19) (v := ?_) rfl (by kernel_rfl) (by kernel_rfl) (by kernel_rfl) (fun _ _ _ h => h) (Or.inl ⟨by rfl, ?_⟩) (by assumption) ?_
        rotate_left
        · (intro w hSw; (try dsimp only at hSw); go_simp; try with_reducible rfl)
        try simp only [Act.put, List.getElem_toArray, List.getElem_cons_zero, List.getElem_cons_succ, List.setIfInBounds_toArray, List.set_cons_zero, List.set_cons_succ]
        refine wpAnyH_take (i := 20) (v := ?_) rfl (by kernel_rfl) (by kernel_rfl) (by kernel_rfl) (fun _ _ _ h => h) (Or.inl ⟨by rfl, ?_⟩) (by assumption) ?_
        rotate_left
        · (intro w hSw; (try dsimp only at hSw); go_simp; try with_reducible rfl)
        try simp only [Act.put, List.getElem_toArray, List.getElem_cons_zero, List.getElem_cons_succ, List.setIfInBounds_toArray, List.set_cons_zero, List.set_cons_succ]
        refine wpAnyH_take (i := 21) (v := ?_) rfl (by kernel_rfl) (by kernel_rfl) (by kernel_rfl) (fun _ _ _ h => h) (Or.inl ⟨by rfl, ?_⟩) (by assumption) ?_
        rotate_left
        · (intro w hSw; (try dsimp only at hSw); go_simp; try with_reducible rfl)
        try simp only [Act.put, List.getElem_toArray, List.getElem_cons_zero, List.getElem_cons_succ, List.setIfInBounds_toArray, List.set_cons_zero, List.set_cons_succ]
        refine wpAnyH_take (i := 22) (v := undef) rfl (by kernel_rfl) (by kernel_rfl) (by kernel_rfl) (fun _ _ _ h => h) (Or.inr ⟨by rfl, rfl⟩) (by assumption) ?_
        try simp only [Act.put, List.getElem_toArray, List.getElem_cons_zero, List.getElem_cons_succ, List.setIfInBounds_toArray, List.set_cons_zero, List.set_cons_succ]
        refine wpAnyH_take (i := 23) (v := undef) rfl (by kernel_rfl) (by kernel_rfl) (by kernel_rfl) (fun _ _ _ h => h) (Or.inr ⟨by rfl, rfl⟩) (by assumption) ?_
        try simp only [Act.put, List.getElem_toArray, List.getElem_cons_zero, List.getElem_cons_succ, List.setIfInBounds_toArray, List.set_cons_zero, List.set_cons_succ]
        refine wpAnyH_take (i := 24) (v := undef) rfl (by kernel_rfl) (by kernel_rfl) (by kernel_rfl) (fun _ _ _ h => h) (Or.inr ⟨by rfl, rfl⟩) (by assumption) ?_
        try simp only [Act.put, List.getElem_toArray, List.getElem_cons_zero, List.getElem_cons_succ, List.setIfInBounds_toArray, List.set_cons_zero, List.set_cons_succ]
        refine wpAnyH_take (i := 25) (v := ?_) rfl (by kernel_rfl) (by kernel_rfl) (by kernel_rfl) (fun _ _ _ h => h) (Or.inl ⟨by rfl, ?_⟩) (by assumption) ?_
        rotate_left
        · (intro w hSw; (try dsimp only at hSw); go_simp; try with_reducible rfl)
        try simp only [Act.put, List.getElem_toArray, List.getElem_cons_zero, List.getElem_cons_succ, List.setIfInBounds_toArray, List.set_cons_zero, List.set_cons_succ]
        refine wpAnyH_take (i := 26) (v := ?_) rfl (by kernel_rfl) (by kernel_rfl) (by kernel_rfl) (fun _ _ _ h => h) (Or.inl ⟨by rfl, ?_⟩) (by assumption) ?_
        rotate_left
        · (intro w hSw; (try dsimp only at hSw); go_simp; try with_reducible rfl)
        try simp only [Act.put, List.getElem_toArray, List.getElem_cons_zero, List.getElem_cons_succ, List.setIfInBounds_toArray, List.set_cons_zero, List.set_cons_succ]
        refine wpAnyH_done (by kernel_rfl) ?_ _
        go_wp2_with fail
        go_meet
        exact ⟨rfl, k6'⟩
      refine AllReadyH.cons rfl (fun K hK => ?_) AllReadyH.nil
      have z9 := z0
      go_simp
      refine hK.out _ _ ?_ (fun hHeld => ?_)
      · exact x1
      clear hK K
      try simp only [Act.put, List.getElem_toArray, List.getElem_cons_zero, List.getElem_cons_succ, List.setIfInBounds_toArray, List.set_cons_zero, List.set_cons_succ]
      refine wpAnyH_ready (rs := [9]) (by kernel_rfl) (by simp) ?_
      refine AllReadyH.cons rfl (fun K hK => ?_) AllReadyH.nil
      go_simp
      refine (ht _).mono ?_; rintro e w6 ⟨rfl, k6⟩
      have k6' := k7.nobt k6
      have x6 := HX.out w6 k6'
      go_wp2_with fail
      refine hK.out _ _ ?_ (fun hHeld => ?_)
      · exact x6
      clear hK K
      try simp only [Act.put, List.getElem_toArray, List.getElem_cons_zero, List.getElem_cons_succ, List.setIfInBounds_toArray, List.set_cons_zero, List.set_cons_succ]
      refine wpAnyH_take (i := 14) (v := ?_) rfl (by kernel_rfl) (by kernel_rfl) (by kernel_rfl) (fun _ _ _ h => h) (Or.inl ⟨by rfl, ?_⟩) (by assumption) ?_
      rotate_left
      · (intro w hSw; (try dsimp only at hSw); go_simp; try with_reducible rfl)
      try simp only [Act.put, List.getElem_toArray, List.getElem_cons_zero, List.getElem_cons_succ, List.setIfInBounds_toArray, List.set_cons_zero, List.set_cons_succ]
      refine wpAnyH_take (i := 15) (v := ?_) rfl (by kernel_rfl) (by kernel_rfl) (by kernel_rfl) (fun _ _ _ h => h) (Or.inl ⟨by rfl, ?_⟩) (by assumption) ?_
      rotate_left
      · (intro w hSw; (try dsimp only at hSw); go_simp; try with_reducible rfl)
      try simp only [Act.put, List.getElem_toArray, List.getElem_cons_zero, List.getElem_cons_succ, List.setIfInBounds_toArray, List.set_cons_zero, List.set_cons_succ]
      refine wpAnyH_take (i := 16) (v := ?_) rfl (by kernel_rfl) (by kernel_rfl) (by kernel_rfl) (fun _ _ _ h => h) (Or.inl ⟨by rfl, ?_⟩) (by assumption) ?_
      rotate_left
      · (intro w hSw; (try dsimp only at hSw); go_simp; try with_reducible rfl)
      try simp only [Act.put, List.getElem_toArray, List.getElem_cons_zero, List.getElem_cons_succ, List.setIfInBounds_toArray, List.set_cons_zero, List.set_cons_succ]
      refine wpAnyH_take (i := 17) (v := ?_) rfl (by kernel_rfl) (by kernel_rfl) (by kernel_rfl) (fun _ _ _ h => h) (Or.inl ⟨by rfl, ?_⟩) (by assumption) ?_
      rotate_left
      · (intro w hSw; (try dsimp only at hSw); go_simp; try with_reducible rfl)
      try simp only [Act.put, List.getElem_toArray, List.getElem_cons_zero, List.getElem_cons_succ, List.setIfInBounds_toArray, List.set_cons_zero, List.set_cons_succ]
      refine wpAnyH_take (i := 18) (v := ?_) rfl (by kernel_rfl) (by kernel_rfl) (by kernel_rfl) (fun _ _ _ h => h) (Or.inl ⟨by rfl, ?_⟩) (by assumption) ?_
      rotate_left
      · (intro w hSw; (try dsimp only at hSw); go_simp; try with_reducible rfl)
      try simp only [Act.put, List.getElem_toArray, List.getElem_cons_zero, List.getElem_cons_succ, List.setIfInBounds_toArray, List.set_cons_zero, List.set_cons_succ]
      refine wpAnyH_take (i := 19) (v := ?_) rfl (by kernel_rfl) (by kernel_rfl) (by kernel_rfl) (fun _ _ _ h => h) (Or.inl ⟨by rfl, ?_⟩) (by assumption) ?_
      rotate_left
      · (intro w hSw; (try dsimp only at hSw); go_simp; try with_reducible rfl)
      try simp only [Act.put, List.getElem_toArray, List.getElem_cons_zero, List.getElem_cons_succ, List.setIfInBounds_toArray, List.set_cons_zero, List.set_cons_succ]
      refine wpAnyH_take (i := 20) (v := ?_) rfl (by kernel_rfl) (by kernel_rfl) (by kernel_rfl) (fun _ _ _ h => h) (Or.inl ⟨by rfl, ?_⟩) (by assumption) ?_
      rotate_left
      · (intro w hSw; (try dsimp only at hSw); go_simp; try with_reducible rfl)
      try simp only [Act.put, List.getElem_toArray, List.getElem_cons_zero, List.getElem_cons_succ, List.setIfInBounds_toArray, List.set_cons_zero, List.set_cons_succ]
      refine wpAnyH_take (i := 21) (v := ?_) rfl (by kernel_rfl) (by kernel_rfl) (by kernel_rfl) (fun _ _ _ h => h) (Or.inl ⟨by rfl, ?_⟩) (by assumption) ?_
      rotate_left
      · (intro w hSw; (try dsimp only at hSw); go_simp; try with_reducible rfl)
      try simp only [Act.put, List.getElem_toArray, List.getElem_cons_zero, List.getElem_cons_succ, List.setIfInBounds_toArray, List.set_cons_zero, List.set_cons_succ]
      refine wpAnyH_take (i := 22) (v := undef) rfl (by kernel_rfl) (by kernel_rfl) (by kernel_rfl) (fun _ _ _ h => h) (Or.inr ⟨by rfl, rfl⟩) (by assumption) ?_
      try simp only [Act.put, List.getElem_toArray, List.getElem_cons_zero, List.getElem_cons_succ, List.setIfInBounds_toArray, List.set_cons_zero, List.set_cons_succ]
      refine wpAnyH_take (i := 23) (v := undef) rfl (by kernel_rfl) (by kernel_rfl) (by kernel_rfl) (fun _ _ _ h => h) (Or.inr ⟨by rfl, rfl⟩) (by assumption) ?_
      try simp only [Act.put, List.getElem_toArray, List.getElem_cons_zero, List.getElem_cons_succ, List.setIfInBounds_toArray, List.set_cons_zero, List.set_cons_succ]
      refine wpAnyH_take (i := 24) (v := undef) rfl (by kernel_rfl) (by kernel_rfl) (by kernel_rfl) (fun _ _ _ h => h) (Or.inr ⟨by rfl, rfl⟩) (by assumption) ?_
      try simp only [Act.put, List.getElem_toArray, List.getElem_cons_zero, List.getElem_cons_succ, List.setIfInBounds_toArray, List.set_cons_zero, List.set_cons_succ]
      refine wpAnyH_take (i := 25) (v := ?_) rfl (by kernel_rfl) (by kernel_rfl) (by kernel_rfl) (fun _ _ _ h => h) (Or.inl ⟨by rfl, ?_⟩) (by assumption) ?_
      rotate_left
      · (intro w hSw; (try dsimp only at hSw); go_simp; try with_reducible rfl)
      try simp only [Act.put, List.getElem_toArray, List.getElem_cons_zero, List.getElem_cons_succ, List.setIfInBounds_toArray, List.set_cons_zero, List.set_cons_succ]
      refine wpAnyH_take (i := 26) (v := ?_) rfl (by kernel_rfl) (by kernel_rfl) (by kernel_rfl) (fun _ _ _ h => h) (Or.inl ⟨by rfl, ?_⟩) (by assumption) ?_
      rotate_left
      · (intro w hSw; (try dsimp only at hSw); go_simp; try with_reducible rfl)
      try simp only [Act.put, List.getElem_toArray, List.getElem_cons_zero, List.getElem_cons_succ, List.setIfInBounds_toArray, List.set_cons_zero, List.set_cons_succ]
      refine wpAnyH_done (by kernel_rfl) ?_ _
      go_wp2_with fail
      go_meet
      exact ⟨rfl, k6'⟩
  case rest =>
  obtain ⟨rfl, k4⟩ := hcut
  have B4 := B3.nob k4
  have K4 := K3.nobt k4
  have X4 : good = true → nx = k ∧ Reads wc X k (bytes (numB k a1)) := fun h => ⟨(X1 h).1, (X1 h).2.nob k4⟩
  clear X1 X0 B3 K3 k4
  generalize wc = w4 at *
  go_upto_if 99 with fail
  go_cut [15, 16] from 100 to 112 (fun s15 s16 wx => Keep Nob w4 wx)
  case first =>
    cases good with
    | false =>
      go_wp2_with fail
      go_meet
      exact Keep.refl _ _
    | true =>
      obtain ⟨rfl, rX⟩ := X4 rfl
      obtain ⟨hg1, hg2, hg3⟩ := of_decide_eq_true HG.out
      have hd := deci_yes p1 nx _ _ _ X nx cx _ w4 B4.i rfl hk hg1 rX a1 (numB_num hg1 hg2 hg3)
      clear X4 rX
      go_wp2_with fail
      refine hd.mono ?_; rintro e w5 ⟨rfl, k5⟩
      clear hd
      go_wp2_with fail
      go_meet
      exact k5
  case rest =>
  have k5 := hcut
  have B5 := B4.nob k5
  have K5 := K4.nobt k5
  clear hcut k5 X4 B4 K4
  generalize wc = w5 at *
  obtain ⟨fits, hfits⟩ : ∃ b, decide (s.length ≤ k) = b := ⟨_, rfl⟩
  have he := encs_any B5 hk s (by omega) fits hfits
  rw [HS.out] at he
  have HF := Lib.hid hfits
  clear hfits
  go_wp2_with fail
  refine he.mono ?_; rintro e w6 ⟨Y, ny, cy, rfl, Y1, Y0, k6⟩
  have B6 := B5.nob k6
  have K6 := K5.nobt k6
  clear B5 K5 k6 he
  go_upto_region 17 with fail
  go_cut [149] from 119 to 149 (fun s149 wx => s149 = .bool false ∧ Keep Nob w6 wx)
  case first =>
    cases fits with
    | false =>
      obtain rfl := Y0 rfl
      have hlt := of_decide_eq_false HF.out
      have hz1 : ¬ ((S.size : Int) ≤ (k : Int)) := by rw [HZ.out]; omega
      have hz2 : decide ((S.size : Int) ≤ (k : Int)) = false := decide_eq_false hz1
      clear Y1 Y0 B6 K6
      go_quiet (fail)
      go_wp2_with fail
      go_meet
      exact ⟨rfl, (Keep.refl Nob w6).drewN _⟩
    | true =>
      obtain ⟨rfl, rY⟩ := Y1 rfl
      have hle := of_decide_eq_true HF.out
      have hz1 : (S.size : Int) ≤ (ny : Int) := by rw [HZ.out]; omega
      obtain ⟨N, hN, hN2⟩ : ∃ N : Nat, (ny : Int) - (S.size : Int) = N ∧ N = ny - s.length := ⟨ny - s.length, by rw [HZ.out]; omega, rfl⟩
      have hwr : IntKind.i64.wrap (N : Int) = (N : Int) := wrap_small_i64 _ (by omega) (by omega)
      obtain ⟨Z, hZ⟩ : ∃ T, str (List.replicate N 0) = T := ⟨_, rfl⟩
      obtain ⟨U, hU⟩ : ∃ T, str (laid ny s) = T := ⟨_, rfl⟩
      have had := str_add s (List.replicate N 0) (by simp; omega)
      rw [HS.out, hZ, hN2, ← laid_fits hle, hU] at had
      have hN62 : N ≤ 64 := by omega
      have hmk : ∀ W : World, (Instr.makeSlice 22 (.int .i64 (N : Int)) (.int .i64 (N : Int))).run Try.prog W = .ok (.slice (some ⟨W.heap.size, 0, none⟩) N N) (W.alloc (.cells (madeCells #[.int .u8 0] N) 5)) := fun W =>
        run_make_row' (P := Try.prog) 22 5 (.int .u8 0) 1 Try.underlying22 Try.info5 rfl .i64 .i64 N (by omega) (by omega) W
      have hzz : ∀ W W' : World, Keep Nob (W.alloc (.cells (madeCells #[.int .u8 0] N) 5)) W' → (convert 22 9 (.slice (some ⟨W.heap.size, 0, none⟩) N N)).run Try.prog W' = .ok (.string Z) W' := fun W W' kk => by
        have hb := Blk.new W 5 (madeCells #[.int .u8 0] N).toList
        rw [Array.toArray_toList, toList_madeCells_one, ← bytes_replicate] at hb
        rw [← hZ]
        exact run_str (P := Try.prog) W' 22 9 5 _ N N _ Try.underlying22 Try.underlying5 Try.underlying9 ((reads_all hb (by simp)).nob kk)
      have hx : ∀ W, Keep Nob w6 W → (convert 22 9 (.slice Y ny cy)).run Try.prog W = .ok (.string U) W := fun W kk => by
        rw [← hU]
        exact run_str (P := Try.prog) W 22 9 5 _ ny cy _ Try.underlying22 Try.underlying5 Try.underlying9 (rY.nob kk)
      have kd := Keep.nobdrew w6
      have x0 := hx _ kd
      have k7 : Keep Nob w6 (w6.alloc (.cells (madeCells #[.int .u8 0] N) 5)).drew := ((Keep.refl Nob w6).alloc _).drew
      have x1 : (convert 22 9 (.slice Y ny cy)).run Try.prog (w6.alloc (.cells (madeCells #[.int .u8 0] N) 5)).drew = .ok (.string U) (w6.alloc (.cells (madeCells #[.int .u8 0] N) 5)).drew := hx _ k7
      have z0 : (convert 22 9 (.slice (some ⟨w6.heap.size, 0, none⟩) N N)).run Try.prog (w6.alloc (.cells (madeCells #[.int .u8 0] N) 5)).drew = .ok (.string Z) (w6.alloc (.cells (madeCells #[.int .u8 0] N) 5)).drew := hzz w6 _ (Keep.nobdrew _)
      have H := Lib.hid (And.intro hZ (And.intro hU hN2))
      clear hZ hU hx hzz rY hN2 K6 B6 hle Y1 Y0
      go_region
      all_goals
        go_wp2_with fail
        go_meet
        exact ⟨rfl, k7⟩
  case rest =>
  obtain ⟨rfl, k7⟩ := hcut
  have B7 := B6.nob k7
  have K7 := K6.nobt k7
  clear Y1 Y0 B6 K6 k7 HF hw
  generalize wc = w7 at *
  obtain ⟨want, hwant⟩ : ∃ b, (decide (n = k) && (decide (0 < n) && !(l.getD 0 0 == 9))) = b := ⟨_, rfl⟩
  obtain ⟨r, hr⟩ : ∃ r, (if want then l else []) = r := ⟨_, rfl⟩
  have hdec := decs_any B7 hk A n c l (RA.out.nob K7) want hwant r hr
  have HW := Lib.hid hwant
  have HR := Lib.hid hr
  clear hwant hr
  obtain ⟨V, hV⟩ : ∃ V, str r = V := ⟨_, rfl⟩
  rw [hV] at hdec
  have HV := Lib.hid hV
  clear hV
  go_wp2_with fail
  refine hdec.mono ?_; rintro e w8 ⟨rfl, k8⟩
  have K8 := K7.nobt k8
  clear hdec B7 K7 k8
  go_upto_region 20 with fail
  go_cut [21] from 156 to 170 (fun s21 wx => s21 = .bool want ∧ wx = w8)
  case first =>
    by_cases g1 : n = k
    · subst g1
      rcases Nat.eq_zero_or_pos n with g2 | g2
      · subst g2
        obtain rfl : want = false := by rw [← HW.out]; simp
        go_wp2_with fail
        go_meet
        exact ⟨rfl, rfl⟩
      · obtain ⟨b, off, hA, hc⟩ := (RA.out.nob K8).lit g2
        have hc0 := hc 0 _ (bytes_getD (by rw [HL.out]; exact g2))
        rw [Nat.add_zero] at hc0
        have g3 : (0 : Int) < (n : Int) := by omega
        have hd : ((((l.getD 0 0).toNat : Int)) != 9) = want := by
          rw [← HW.out, decide_eq_true rfl, decide_eq_true g2, Bool.true_and, Bool.true_and, Bool.eq_iff_iff]
          simp only [bne_iff_ne, ne_eq, Bool.not_eq_true', beq_eq_false_iff_ne]
          exact not_congr ⟨fun e => UInt8.toNat_inj.1 (by rw [show (l.getD 0 0).toNat = 9 from by omega]; rfl), fun e => by rw [e]; rfl⟩
        subst hA
        clear hc
        generalize l.getD 0 0 = x at *
        go_wp2_with fail
        go_meet
        exact ⟨rfl, rfl⟩
    · have g2 : ((n : Int) == (k : Int)) = false := by rw [beq_eq_false_iff_ne]; omega
      obtain rfl : want = false := by rw [← HW.out, decide_eq_false g1]; rfl
      go_wp2_with fail
      go_meet
      exact ⟨rfl, rfl⟩
  case rest =>
  obtain ⟨rfl, hw⟩ := hcut
  have hw := hw.symm
  subst hw
  cases want with
  | true =>
    have hrl : l = r := by have := HR.out; rwa [if_pos rfl] at this
    have s8 := fun c => run_str (P := Try.prog) w8 22 9 5 A n c l Try.underlying22 Try.underlying5 Try.underlying9 (RA.out.nob K8)
    rw [hrl, HV.out] at s8
    have HRL := Lib.hid hrl
    clear hrl
    go_wp2_with fail
    refine (awake_is w8).mono ?_; rintro e w9 ⟨rfl, k9⟩
    go_wp2
    go_ret
    exact ⟨rfl, ((Keep.refl (From w.heap.size) w).nob (K8.nobt k9)).done⟩
  | false =>
    have hrl : [] = r := by have := HR.out; rwa [if_neg (by simp)] at this
    have hVe : V = ByteArray.empty := by rw [← HV.out, ← hrl]; rfl
    subst hVe
    clear hrl
    go_wp2_with fail
    refine (awake_is w8).mono ?_; rintro e w9 ⟨rfl, k9⟩
    go_wp2
    go_ret
    exact ⟨rfl, ((Keep.refl (From w.heap.size) w).nob (K8.nobt k9)).done⟩
set_option maxRecDepth 100000 in
set_option maxHeartbeats 2000000 in
theorem CodecOf_out (w : World) (a0 a1 : Int) (S : ByteArray) (A : Option Addr) (n c : Nat) (h : 200 < n ∨ (n ≤ 200 ∧ 200 < S.size)) :
    Calls Try.prog 5 #[.int .i64 a0, .int .i64 a1, .string S, .slice A n c] w fun e w' => e = .returned (.bool true) ∧ Below w.heap.size w w' := by
  rcases h with h | ⟨h, h2⟩
  · have h1 : (200 : Int) < (n : Int) := by omega
    go_enter Try.func5, Try.ntmps5
    go_wp2_with fail
    refine (awake_is _).mono ?_; rintro e w7 ⟨rfl, hk7⟩
    go_wp2
    go_ret
    exact ⟨rfl, ((Keep.refl (From w.heap.size) w).nob hk7).done⟩
  · have h1 : (n : Int) ≤ 200 := by omega
    have h3 : (200 : Int) < (S.size : Int) := by omega
    go_enter Try.func5, Try.ntmps5
    go_wp2_with fail
    refine (awake_is _).mono ?_; rintro e w7 ⟨rfl, hk7⟩
    go_wp2
    go_ret
    exact ⟨rfl, ((Keep.refl (From w.heap.size) w).nob hk7).done⟩
theorem CodecOf_walk (w : World) (a0 : Int) (_ : (Lit.int .i64 a0).wf = true) (a1 : Int) (_ : (Lit.int .i64 a1).wf = true) (a2 : ByteArray) (_ : a2.size ≤ 140737488351232) (A3 : Option Addr) (n3 c3 : Nat) (x3 : Ty.den (.sl 1 .byte)) (w3 : Holds w (.sl 1 .byte) x3 [.slice A3 n3 c3]) :
    Calls Try.prog 5 #[.int .i64 a0, .int .i64 a1, .string a2, .slice A3 n3 c3] w fun e w' => e = .returned (.bool true) ∧ Below w.heap.size w w' := by
  obtain ⟨_, r0, _, _⟩ := holds_bytes w3
  by_cases h : 200 < n3 ∨ (n3 ≤ 200 ∧ 200 < a2.size)
  · exact CodecOf_out w a0 a1 a2 A3 n3 c3 h
  · have e : a2 = str a2.data.toList := by apply ByteArray.ext; simp [str]
    have hl : a2.data.toList.length = a2.size := by show a2.data.toList.length = a2.data.size; exact Array.length_toList
    have hin := CodecOf_in w a0 a1 a2.data.toList A3 n3 c3 x3 r0 (by omega) (by omega) (max a0 0) (min (max a0 0) 64).toNat (by split <;> omega) (by split <;> omega) (by omega)
    rw [← e] at hin
    exact hin
end Go.Proofs.Ytcamgelnkjghbaa
