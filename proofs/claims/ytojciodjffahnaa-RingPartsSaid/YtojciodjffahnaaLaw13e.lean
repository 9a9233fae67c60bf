/- The walk of RingParts. -/
import Derived.Test.YtojciodjffahnaaRinN
import Derived.Test.YtojciodjffahnaaRinM
import Derived.Test.YtojciodjffahnaaRead
namespace Go.Proofs.Ytojciodjffahnaa
open Go.RowKit Ri
set_option linter.unusedVariables false
set_option linter.unusedSimpArgs false
theorem lay_app (d : List UInt8) (s : Nat) (b : List UInt8) (m : Nat) : ∀ j, lay (lay d s b m) (s + m) (b.drop m) j = lay d s b (m + j)
  | 0 => rfl
  | j + 1 => by
    rw [lay, lay_app d s b m j, ← Nat.add_assoc, lay, Nat.add_assoc]
    congr 1
    simp [List.getD_eq_getElem?_getD, List.getElem?_drop]
theorem lay_take (d : List UInt8) (s : Nat) (b : List UInt8) (k : Nat) : ∀ m, m ≤ k → lay d s (b.take k) m = lay d s b m
  | 0, _ => rfl
  | m + 1, h => by
    rw [lay, lay, lay_take d s b k m (by omega)]
    congr 1
    simp [List.getD_eq_getElem?_getD, List.getElem?_take, show m < k from by omega]
/-- Put in two parts is put in one. -/
theorem put_two {p P1 Q1 Q2 : Pp} {b : List UInt8} {k n m j : Nat} (ok : okd p = true) (hk : k ≤ b.length) (h1 : pput p b = (P1, n)) (h2 : pput p (b.take k) = (Q1, m)) (h3 : pput Q1 (b.drop k) = (Q2, j)) : n = m + j ∧ P1 = Q2 := by
  have B := okd_bounds ok
  have ok2 : okd Q1 = true := by have := pput_ok ok (b.take k); rwa [h2] at this
  have hB := B.c
  have hb0 := B.h
  rw [pput, ok, if_pos rfl] at h1 h2
  rw [pput, ok2, if_pos rfl] at h3
  have e1 := congrArg Prod.snd h1
  have e2 := congrArg Prod.snd h2
  have e3 := congrArg Prod.snd h3
  have f1 := congrArg Prod.fst h1
  have f2 := congrArg Prod.fst h2
  have f3 := congrArg Prod.fst h3
  simp only at e1 e2 e3 f1 f2 f3
  rw [e1] at f1
  rw [e2] at f2
  rw [e3] at f3
  simp only [List.length_take, List.length_drop] at e2 e3
  subst f2
  simp only [room] at e1 e2 e3
  have hn : n = m + j := by omega
  refine ⟨hn, ?_⟩
  rw [← f1, ← f3]
  have ec : p.c + (n : Int) = p.c + (m : Int) + (j : Int) := by omega
  have es : p.h.toNat + (p.c + (m : Int)).toNat = p.h.toNat + p.c.toNat + m := by omega
  simp only
  rw [ec, es, hn]
  congr 1
  by_cases hm : m = k
  · subst hm
    rw [lay_take _ _ _ _ _ (Nat.le_refl _), lay_app]
  · obtain rfl : j = 0 := by omega
    rw [lay_take _ _ _ _ _ (by omega)]; rfl
/-- Taken in two parts is taken in one. -/
theorem take_two {p P1 Q1 Q2 : Pp} {x y : Int} {s u v : List UInt8} (ok : okd p = true) (hx : 0 ≤ x) (hy : 0 ≤ y) (h1 : ptake p (x + y) = (P1, s)) (h2 : ptake p x = (Q1, u)) (h3 : ptake Q1 y = (Q2, v)) : P1 = Q2 ∧ s = u ++ v := by
  have B := okd_bounds ok
  have ok2 : okd Q1 = true := by have := ptake_ok ok x; rwa [h2] at this
  have hB := B.c
  have hb0 := B.h
  rw [ptake, ok, if_pos rfl] at h1 h2
  rw [ptake, ok2, if_pos rfl] at h3
  have e1 := congrArg Prod.snd h1
  have e2 := congrArg Prod.snd h2
  have e3 := congrArg Prod.snd h3
  have f1 := congrArg Prod.fst h1
  have f2 := congrArg Prod.fst h2
  have f3 := congrArg Prod.fst h3
  simp only at e1 e2 e3 f1 f2 f3
  subst f2
  have hf : few p (x + y) = few p x + few ⟨(p.h + (few p x : Nat)) % 32, p.c - (few p x : Nat), p.r, p.s, p.d⟩ y := by
    unfold few
    simp only
    omega
  generalize few ⟨(p.h + (few p x : Nat)) % 32, p.c - (few p x : Nat), p.r, p.s, p.d⟩ y = j at *
  generalize few p x = m at *
  rw [hf] at e1 f1
  refine ⟨?_, ?_⟩
  · rw [← f1, ← f3]
    simp only
    congr 1 <;> omega
  · rw [← e1, ← e2, ← e3, ahd_add]
    simp only
    rw [show ((p.h + (m : Int)) % 32).toNat = (p.h.toNat + m) % 32 from by omega, ahd_mod]
theorem gives_str {w : World} {l : List UInt8} {A : Option Addr} {c : Nat} (r : Row w A l) : (convert 22 9 (.slice A l.length c)).run Try.prog w = .ok (.string (str l)) w :=
  run_str (P := Try.prog) w 22 9 5 A l.length c l Try.underlying22 Try.underlying5 Try.underlying9 r.1
set_option maxHeartbeats 8000000 in
set_option maxRecDepth 100000 in
theorem RingParts_in (w : World) (a0 : Int) (A1 : Option Addr) (n1 c1 : Nat) (x1 : List UInt8) (r1 : Reads w A1 n1 (bytes x1)) (A2 : Option Addr) (n2 c2 : Nat) (x2 : List UInt8) (r2 : Reads w A2 n2 (bytes x2)) (hc2 : n2 ≤ c2) (a3 : Int) :
    Calls Try.prog 7 #[.int .i64 a0, .slice A1 n1 c1, .slice A2 n2 c2, .int .i64 a3] w fun e w' => e = .returned (.bool true) ∧ Below w.heap.size w w' := by
  by_cases h100 : 100 < n1
  · go_enter Try.func7, Try.ntmps7
    go_wp2_with fail
    refine (awake_is _).mono ?_; rintro e w1 ⟨rfl, k1⟩
    go_wp2
    go_ret
    exact ⟨rfl, k1.below (Nat.le_refl _) (fun _ _ f => f)⟩
  by_cases h60 : 60 < n2
  · go_enter Try.func7, Try.ntmps7
    go_wp2_with fail
    refine (awake_is _).mono ?_; rintro e w1 ⟨rfl, k1⟩
    go_wp2
    go_ret
    exact ⟨rfl, k1.below (Nat.le_refl _) (fun _ _ f => f)⟩
  have hl2 : x2.length = n2 := by simpa using r2.1
  have HM := Lib.hid (fun w (hr : Reads w A1 n1 (bytes x1)) => made_is a0 A1 n1 c1 x1 w hr (made a0 x1) rfl)
  have hml := made_len a0 x1
  have hmo := made_ok a0 x1
  generalize made a0 x1 = M at *
  -- where it is parted
  have h255 : bits .and .i64 a3 255 = a3 % 256 := i64_and255 a3
  have h31 : bits .and .i64 a3 31 = a3 % 32 := i64_and31 a3
  obtain ⟨u, hu⟩ : ∃ u : Nat, a3 % 256 = (u : Int) := ⟨(a3 % 256).toNat, by omega⟩
  obtain ⟨cc, hcc⟩ : ∃ u : Int, a3 % 32 = u := ⟨_, rfl⟩
  have hcc0 : 0 ≤ cc ∧ cc < 32 := by omega
  rw [hu] at h255
  rw [hcc] at h31
  obtain ⟨n3, hn3⟩ : ∃ x : Int, (n2 : Int) + 1 = x := ⟨_, rfl⟩
  have hw3 : IntKind.i64.wrap ((n2 : Int) + 1) = n3 := by rw [hn3]; exact wrap_small_i64 _ (by omega) (by omega)
  obtain ⟨k, hk⟩ : ∃ k : Nat, (u : Int) % n3 = (k : Int) := ⟨u % (n2 + 1), by rw [← hn3]; exact_mod_cast rfl⟩
  have hk2 : k ≤ n2 := by
    have := Int.emod_lt_of_pos (u : Int) (show 0 < n3 by omega)
    omega
  have hkt : (u : Int).tmod n3 = (k : Int) := by rw [Int.tmod_eq_emod_of_nonneg (by omega)]; exact hk
  have hn0 : n3 ≠ 0 := by omega
  have hn1 : ¬ (n3 = -1) := by omega
  have hwk : IntKind.i64.wrap (k : Int) = (k : Int) := wrap_small_i64 _ (by omega) (by omega)
  -- the puts
  obtain ⟨P1, n, hP1⟩ : ∃ P n, pput M x2 = (P, n) := ⟨_, _, rfl⟩
  obtain ⟨Q1, m, hQ1⟩ : ∃ P n, pput M (x2.take k) = (P, n) := ⟨_, _, rfl⟩
  obtain ⟨Q2, j, hQ2⟩ : ∃ P n, pput Q1 (x2.drop k) = (P, n) := ⟨_, _, rfl⟩
  obtain ⟨hnm, hPQ⟩ := put_two hmo (by omega) hP1 hQ1 hQ2
  have hP1l : P1.d.length = 32 := by have := pput_len hml x2; rwa [hP1] at this
  have hP1o : okd P1 = true := by have := pput_ok hmo x2; rwa [hP1] at this
  have hQ1l : Q1.d.length = 32 := by have := pput_len hml (x2.take k); rwa [hQ1] at this
  have hm32 : m ≤ 32 ∧ j ≤ 32 := by
    have e1 := congrArg Prod.snd hQ1
    have e2 := congrArg Prod.snd hQ2
    have ok2 : okd Q1 = true := by have := pput_ok hmo (x2.take k); rwa [hQ1] at this
    rw [pput, hmo, if_pos rfl] at e1
    rw [pput, ok2, if_pos rfl] at e2
    simp only [room] at e1 e2
    omega
  have hwn : IntKind.i64.wrap ((m : Int) + (j : Int)) = (n : Int) := by rw [hnm, wrap_small_i64 _ (by omega) (by omega)]; rfl
  subst hPQ
  -- the takes
  obtain ⟨e, he⟩ : ∃ e : Int, (if 20 < cc then 20 else cc) = e := ⟨_, rfl⟩
  have he0 : 0 ≤ e ∧ e ≤ 20 := by subst he; split <;> omega
  obtain ⟨f, hf⟩ : ∃ f : Int, 20 - e = f := ⟨_, rfl⟩
  have hwf : IntKind.i64.wrap (20 - e) = f := by rw [hf]; exact wrap_small_i64 _ (by omega) (by omega)
  obtain ⟨Y, s, hY⟩ : ∃ P l, ptake P1 20 = (P, l) := ⟨_, _, rfl⟩
  obtain ⟨Z1, ul, hZ1⟩ : ∃ P l, ptake P1 e = (P, l) := ⟨_, _, rfl⟩
  obtain ⟨Z2, vl, hZ2⟩ : ∃ P l, ptake Z1 f = (P, l) := ⟨_, _, rfl⟩
  have h20 : ptake P1 (e + f) = (Y, s) := by rw [show e + f = 20 from by omega]; exact hY
  obtain ⟨hYZ, hsuv⟩ := take_two hP1o (by omega) (by omega) h20 hZ1 hZ2
  have hYl : Y.d.length = 32 := by have := ptake_len hP1l 20; rwa [hY] at this
  have hZl : Z1.d.length = 32 := by have := ptake_len hP1l e; rwa [hZ1] at this
  have hsl : s.length ≤ 32 := by
    have := take_len hP1o 20
    rw [hY] at this
    have hB := (okd_bounds hP1o).c
    unfold few at this
    simp only at this
    omega
  subst hYZ
  have huv : ul.length + vl.length ≤ 100000 := by
    have := congrArg List.length hsuv
    rw [List.length_append] at this
    omega
  have sadd := fun W => str_add ul vl huv W
  rw [← hsuv] at sadd
  -- the contracts
  have HP1 := Lib.hid (fun w (hr : Reads w A2 n2 (bytes x2)) => put_is M hml A2 n2 c2 x2 w hr hc2 (by omega) P1 n hP1)
  have HQ1 := Lib.hid (fun w (hr : Reads w A2 k (bytes (x2.take k))) => put_is M hml A2 k c2 (x2.take k) w hr (by omega) (by omega) Q1 m hQ1)
  have HQ2 := Lib.hid (fun w A c (hr : Reads w A (n2 - k) (bytes (x2.drop k))) (hc : n2 - k ≤ c) => put_is Q1 hQ1l A (n2 - k) c (x2.drop k) w hr hc (by omega) P1 j hQ2)
  have HT1 := Lib.hid (fun w => take_is P1 hP1l 20 w Y s hY)
  have HT2 := Lib.hid (fun w => take_is P1 hP1l e w Z1 ul hZ1)
  have HT3 := Lib.hid (fun w => take_is Z1 hZl f w Y vl hZ2)
  have HE1 := Lib.hid (fun W => ne_pv P1 P1 hP1l hP1l true (same_refl P1) W)
  have HE2 := Lib.hid (fun W => eq_pv Y Y hYl hYl true (same_refl Y) W)
  have HML := Lib.hid hml
  have HPL := Lib.hid hP1l
  have HQL := Lib.hid hQ1l
  have HYL := Lib.hid hYl
  have HZL := Lib.hid hZl
  have HR2 := Lib.hid r2
  have HSA := Lib.hid sadd
  have HL2 := Lib.hid hl2
  unfold pv at HM HP1 HQ1 HQ2 HT1 HT2 HT3 HE1 HE2
  have hk0 : (0 : Int) ≤ (k : Int) := by omega
  have hkc : (k : Int) ≤ (c2 : Int) := by omega
  have hkn : (k : Int) ≤ (n2 : Int) := by omega
  clear hml hmo hP1 hQ1 hQ2 hP1l hP1o hQ1l hY h20 hZ1 hZ2 hYl hZl hsl hsuv huv sadd r2 hl2 hk hf he0 hm32 hu hcc hn3 hnm hcc0
  go_enter Try.func7, Try.ntmps7
  go_wp2_with fail
  refine (HM.out _ r1).mono ?_; rintro e w1 ⟨rfl, K1⟩
  clear r1 HM
  go_wp2_with (first | (refine wpList_al rfl rfl ?_; intro v1 hp1 k1 hs1; clear hs1) | (refine wpList_st rfl (.tmp 9) _ rfl w1.heap.size M noP rfl rfl HML.out rfl hp1 ?_; intro v2 hp2 k2 hs2; clear hs2) | (refine wpList_ld rfl (.tmp 9) rfl w1.heap.size M rfl HML.out hp2 ?_))
  have K2 : Keep Nob w v2 := (K1.nobt k1).trans k2 (fun b hb e => by have h3 : b = w1.heap.size := e; have := K1.size; omega)
  have hg9 : w.heap.size ≤ w1.heap.size := K1.size
  clear hp1 k1 k2 K1 h255 hw3 hkt hn0 hn1 hwk
  generalize w1.heap.size = g9 at *
  refine (HP1.out _ (HR2.out.nob K2)).mono ?_; rintro e w2 ⟨rfl, k3⟩
  have hp3 := hp2.nob k3
  have K3 := K2.nobt k3
  clear hp2 K2 k3 HP1
  go_upto_region 6 with (first | (refine wpList_al rfl rfl ?_; intro v3 hq1 k4 hs4; clear hs4) | (refine wpList_st rfl (.tmp 11) _ rfl w2.heap.size P1 noP rfl rfl HPL.out rfl hq1 ?_; intro v4 hq2 k5 hs5; clear hs5))
  have hne1 : g9 ≠ w2.heap.size := by have := hp3.lt; omega
  have hp4 := (hp3.nob k4).keep k5 hne1
  have K4 : Keep Nob w v4 := (K3.nobt k4).trans k5 (fun b hb e => by have h3 : b = w2.heap.size := e; have := K3.size; omega)
  have hg11 : w.heap.size ≤ w2.heap.size := K3.size
  clear hp3 K3 k4 k5 hq1
  generalize w2.heap.size = g11 at *
  go_cut [13, 14] from 47 to 53 (fun s13 s14 wx => ∃ g13, g11 ≠ g13 ∧ w.heap.size ≤ g13 ∧ s13 = .pointer (some ⟨g13, 0, none⟩) ∧ s14 = .int .i64 (m : Int) ∧ Blk wx g13 26 (pc Q1) ∧ Blk wx g11 26 (pc P1) ∧ Keep Nob w wx)
  case first =>
    go_wp2_with fail
    have hp5 := hp4.drew
    have hq5 := hq2.drew
    have K5 := K4.drew
    clear hp4 hq2 K4
    refine wp_region_held_drew (S := (fun w' => Blk w' g9 26 (pc M))) (by kernel_rfl) hp5 (fun hHeld => ?_)
    generalize v4.drew = wd at *
    refine wpAnyH_take (i := 0) (v := ?_) rfl (by kernel_rfl) (by kernel_rfl) (by kernel_rfl) (fun _ _ _ h => h) (Or.inl ⟨by rfl, ?_⟩) (by assumption) ?_
    rotate_left
    · (intro w hSw; (try dsimp only at hSw); refine exec_load (x := .tmp 9) ?_ ?_ HML.out hSw <;> rfl)
    try simp only [Act.put, List.getElem_toArray, List.getElem_cons_zero, List.getElem_cons_succ, List.setIfInBounds_toArray, List.set_cons_zero, List.set_cons_succ]
    refine wpAnyH_take (i := 1) (v := ?_) rfl (by kernel_rfl) (by kernel_rfl) (by kernel_rfl) (fun _ _ _ h => h) (Or.inl ⟨by rfl, ?_⟩) (by assumption) ?_
    rotate_left
    · (intro w hSw; (try dsimp only at hSw); go_simp; try with_reducible rfl)
    try simp only [Act.put, List.getElem_toArray, List.getElem_cons_zero, List.getElem_cons_succ, List.setIfInBounds_toArray, List.set_cons_zero, List.set_cons_succ]
    refine wpAnyH_take (i := 2) (v := ?_) rfl (by kernel_rfl) (by kernel_rfl) (by kernel_rfl) (fun _ _ _ h => h) (Or.inl ⟨by rfl, ?_⟩) (by assumption) ?_
    rotate_left
    · (intro w hSw; (try dsimp only at hSw); go_simp; try with_reducible rfl)
    try simp only [Act.put, List.getElem_toArray, List.getElem_cons_zero, List.getElem_cons_succ, List.setIfInBounds_toArray, List.set_cons_zero, List.set_cons_succ]
    refine wpAnyH_take (i := 3) (v := ?_) rfl (by kernel_rfl) (by kernel_rfl) (by kernel_rfl) (fun _ _ _ h => h) (Or.inl ⟨by rfl, ?_⟩) (by assumption) ?_
    rotate_left
    · (intro w hSw; (try dsimp only at hSw); go_simp; try with_reducible rfl)
    try simp only [Act.put, List.getElem_toArray, List.getElem_cons_zero, List.getElem_cons_succ, List.setIfInBounds_toArray, List.set_cons_zero, List.set_cons_succ]
    refine wpAnyH_ready (rs := [4, 8]) (by kernel_rfl) (by simp) ?_
    refine AllReadyH.cons rfl (fun K hK => ?_) ?_
    · go_simp
      refine (HQ1.out _ (Reads.takes_ HR2.out hk2 K5)).mono ?_; rintro e w_1 ⟨rfl, k_2⟩
      have hp_3 := hp5.nob k_2
      have hq_4 := hq5.nob k_2
      have KK_5 := K5.nobt k_2
      refine hK.out _ _ ?_ (fun hHeld => ?_)
      · exact hp_3
      clear hK K
      try simp only [Act.put, List.getElem_toArray, List.getElem_cons_zero, List.getElem_cons_succ, List.setIfInBounds_toArray, List.set_cons_zero, List.set_cons_succ]
      refine wpAnyH_take (i := 5) (v := ?_) rfl (by kernel_rfl) (by kernel_rfl) (by kernel_rfl) (fun _ _ _ h => h) (Or.inl ⟨by rfl, ?_⟩) (by assumption) ?_
      rotate_left
      · (intro w hSw; (try dsimp only at hSw); go_simp; try with_reducible rfl)
      try simp only [Act.put, List.getElem_toArray, List.getElem_cons_zero, List.getElem_cons_succ, List.setIfInBounds_toArray, List.set_cons_zero, List.set_cons_succ]
      refine wpAnyH_take (i := 6) (v := ?_) rfl (by kernel_rfl) (by kernel_rfl) (by kernel_rfl) (fun _ _ _ h => h) (Or.inl ⟨by rfl, ?_⟩) (by assumption) ?_
      rotate_left
      · (intro w hSw; (try dsimp only at hSw); go_simp; try with_reducible rfl)
      try simp only [Act.put, List.getElem_toArray, List.getElem_cons_zero, List.getElem_cons_succ, List.setIfInBounds_toArray, List.set_cons_zero, List.set_cons_succ]
      refine wpAnyH_take (i := 7) (v := ?_) rfl (by kernel_rfl) (by kernel_rfl) (by kernel_rfl) (fun _ _ _ h => h) (Or.inl ⟨by rfl, ?_⟩) (by assumption) ?_
      rotate_left
      · (intro w hSw; (try dsimp only at hSw); go_simp; try with_reducible rfl)
      try simp only [Act.put, List.getElem_toArray, List.getElem_cons_zero, List.getElem_cons_succ, List.setIfInBounds_toArray, List.set_cons_zero, List.set_cons_succ]
      refine wpAnyH_ready (rs := [8]) (by kernel_rfl) (by simp) ?_
      refine AllReadyH.cons rfl (fun K hK => ?_) AllReadyH.nil
      refine wp_al rfl ?_; intro w_6 hn_8 k_7 s_9; clear s_9
      have e_10 : g9 ≠ w_1.heap.size := by have := hp_3.lt; omega
      have e_11 : g11 ≠ w_1.heap.size := by have := hq_4.lt; omega
      have e_12 : w.heap.size ≤ w_1.heap.size := KK_5.size
      have hp_14 := hp_3.nob k_7
      have hq_15 := hq_4.nob k_7
      have KK_16 := KK_5.nobt k_7
      refine hK.out _ _ ?_ (fun hHeld => ?_)
      · exact hp_14
      clear hK K
      try simp only [Act.put, List.getElem_toArray, List.getElem_cons_zero, List.getElem_cons_succ, List.setIfInBounds_toArray, List.set_cons_zero, List.set_cons_succ]
      generalize w_1.heap.size = g_13 at *
      refine wpAnyH_ready (rs := [9]) (by kernel_rfl) (by simp) ?_
      refine AllReadyH.cons rfl (fun K hK => ?_) AllReadyH.nil
      rw [if_pos (by rfl)]
      refine wp_store_ (old := noP) (q := Q1) rfl rfl rfl HQL.out rfl hn_8 ?_
      refine hK.out _ _ ?_ (fun hHeld => ?_)
      · exact hp_14.setRow_far e_10 _
      clear hK K
      try simp only [Act.put, List.getElem_toArray, List.getElem_cons_zero, List.getElem_cons_succ, List.setIfInBounds_toArray, List.set_cons_zero, List.set_cons_succ]
      refine wpAnyH_take (i := 10) (v := ?_) rfl (by kernel_rfl) (by kernel_rfl) (by kernel_rfl) (fun _ _ _ h => h) (Or.inl ⟨by rfl, ?_⟩) (by assumption) ?_
      rotate_left
      · (intro w hSw; (try dsimp only at hSw); go_simp; try with_reducible rfl)
      try simp only [Act.put, List.getElem_toArray, List.getElem_cons_zero, List.getElem_cons_succ, List.setIfInBounds_toArray, List.set_cons_zero, List.set_cons_succ]
      refine wpAnyH_done (by kernel_rfl) ?_ _
      go_wp2_with fail
      go_meet
      exact ⟨_, e_11, e_12, rfl, rfl, hn_8.setRow (pc Q1), hq_15.setRow_far e_11 _, KK_16.setRow _ _ (fun h => absurd h (by omega))⟩
    refine AllReadyH.cons rfl (fun K hK => ?_) AllReadyH.nil
    refine wp_al rfl ?_; intro w_17 hn_19 k_18 s_20; clear s_20
    have e_21 : g9 ≠ wd.heap.size := by have := hp5.lt; omega
    have e_22 : g11 ≠ wd.heap.size := by have := hq5.lt; omega
    have e_23 : w.heap.size ≤ wd.heap.size := K5.size
    have hp_25 := hp5.nob k_18
    have hq_26 := hq5.nob k_18
    have KK_27 := K5.nobt k_18
    refine hK.out _ _ ?_ (fun hHeld => ?_)
    · exact hp_25
    clear hK K
    try simp only [Act.put, List.getElem_toArray, List.getElem_cons_zero, List.getElem_cons_succ, List.setIfInBounds_toArray, List.set_cons_zero, List.set_cons_succ]
    generalize wd.heap.size = g_24 at *
    refine wpAnyH_ready (rs := [4]) (by kernel_rfl) (by simp) ?_
    refine AllReadyH.cons rfl (fun K hK => ?_) AllReadyH.nil
    go_simp
    refine (HQ1.out _ (Reads.takes_ HR2.out hk2 KK_27)).mono ?_; rintro e w_28 ⟨rfl, k_29⟩
    have hp_30 := hp_25.nob k_29
    have hq_31 := hq_26.nob k_29
    have KK_32 := KK_27.nobt k_29
    have hn_33 := hn_19.nob k_29
    refine hK.out _ _ ?_ (fun hHeld => ?_)
    · exact hp_30
    clear hK K
    try simp only [Act.put, List.getElem_toArray, List.getElem_cons_zero, List.getElem_cons_succ, List.setIfInBounds_toArray, List.set_cons_zero, List.set_cons_succ]
    refine wpAnyH_take (i := 5) (v := ?_) rfl (by kernel_rfl) (by kernel_rfl) (by kernel_rfl) (fun _ _ _ h => h) (Or.inl ⟨by rfl, ?_⟩) (by assumption) ?_
    rotate_left
    · (intro w hSw; (try dsimp only at hSw); go_simp; try with_reducible rfl)
    try simp only [Act.put, List.getElem_toArray, List.getElem_cons_zero, List.getElem_cons_succ, List.setIfInBounds_toArray, List.set_cons_zero, List.set_cons_succ]
    refine wpAnyH_take (i := 6) (v := ?_) rfl (by kernel_rfl) (by kernel_rfl) (by kernel_rfl) (fun _ _ _ h => h) (Or.inl ⟨by rfl, ?_⟩) (by assumption) ?_
    rotate_left
    · (intro w hSw; (try dsimp only at hSw); go_simp; try with_reducible rfl)
    try simp only [Act.put, List.getElem_toArray, List.getElem_cons_zero, List.getElem_cons_succ, List.setIfInBounds_toArray, List.set_cons_zero, List.set_cons_succ]
    refine wpAnyH_take (i := 7) (v := ?_) rfl (by kernel_rfl) (by kernel_rfl) (by kernel_rfl) (fun _ _ _ h => h) (Or.inl ⟨by rfl, ?_⟩) (by assumption) ?_
    rotate_left
    · (intro w hSw; (try dsimp only at hSw); go_simp; try with_reducible rfl)
    try simp only [Act.put, List.getElem_toArray, List.getElem_cons_zero, List.getElem_cons_succ, List.setIfInBounds_toArray, List.set_cons_zero, List.set_cons_succ]
    refine wpAnyH_ready (rs := [9]) (by kernel_rfl) (by simp) ?_
    refine AllReadyH.cons rfl (fun K hK => ?_) AllReadyH.nil
    rw [if_pos (by rfl)]
    refine wp_store_ (old := noP) (q := Q1) rfl rfl rfl HQL.out rfl hn_33 ?_
    refine hK.out _ _ ?_ (fun hHeld => ?_)
    · exact hp_30.setRow_far e_21 _
    clear hK K
    try simp only [Act.put, List.getElem_toArray, List.getElem_cons_zero, List.getElem_cons_succ, List.setIfInBounds_toArray, List.set_cons_zero, List.set_cons_succ]
    refine wpAnyH_take (i := 10) (v := ?_) rfl (by kernel_rfl) (by kernel_rfl) (by kernel_rfl) (fun _ _ _ h => h) (Or.inl ⟨by rfl, ?_⟩) (by assumption) ?_
    rotate_left
    · (intro w hSw; (try dsimp only at hSw); go_simp; try with_reducible rfl)
    try simp only [Act.put, List.getElem_toArray, List.getElem_cons_zero, List.getElem_cons_succ, List.setIfInBounds_toArray, List.set_cons_zero, List.set_cons_succ]
    refine wpAnyH_done (by kernel_rfl) ?_ _
    go_wp2_with fail
    go_meet
    exact ⟨_, e_22, e_23, rfl, rfl, hn_33.setRow (pc Q1), hq_31.setRow_far e_22 _, KK_32.setRow _ _ (fun h => absurd h (by omega))⟩
  case rest =>
  obtain ⟨g13, hgg, hg13, rfl, rfl, hn6, hq6, K6⟩ := hcut
  clear hp4 hq2 K4 HQ1
  have hn7 := hn6.drew
  have hq7 := hq6.drew
  have K7 := K6.drew
  clear hn6 hq6 K6
  go_wp2_with fail
  refine wp_region_held_drew (S := (fun _ => True)) (by kernel_rfl) trivial (fun hHeld => ?_)
  generalize wc.drew = wd at *
  refine wpAnyH_take (i := 1) (v := ?_) rfl (by kernel_rfl) (by kernel_rfl) (by kernel_rfl) (fun _ _ _ h => h) (Or.inl ⟨by rfl, ?_⟩) (by assumption) ?_
  rotate_left
  · (intro w hSw; (try dsimp only at hSw); go_simp; try with_reducible rfl)
  try simp only [Act.put, List.getElem_toArray, List.getElem_cons_zero, List.getElem_cons_succ, List.setIfInBounds_toArray, List.set_cons_zero, List.set_cons_succ]
  refine wpAnyH_take (i := 2) (v := ?_) rfl (by kernel_rfl) (by kernel_rfl) (by kernel_rfl) (fun _ _ _ h => h) (Or.inl ⟨by rfl, ?_⟩) (by assumption) ?_
  rotate_left
  · (intro w hSw; (try dsimp only at hSw); go_simp; try with_reducible rfl)
  try simp only [Act.put, List.getElem_toArray, List.getElem_cons_zero, List.getElem_cons_succ, List.setIfInBounds_toArray, List.set_cons_zero, List.set_cons_succ]
  refine wpAnyH_take (i := 3) (v := ?_) rfl (by kernel_rfl) (by kernel_rfl) (by kernel_rfl) (fun _ _ _ h => h) (Or.inl ⟨by rfl, ?_⟩) (by assumption) ?_
  rotate_left
  · (intro w hSw; (try dsimp only at hSw); refine exec_cut (x := .tmp 56) (lo := .tmp 57) ?_ A2 n2 c2 k ?_ ?_ hk2 <;> rfl)
  try simp only [Act.put, List.getElem_toArray, List.getElem_cons_zero, List.getElem_cons_succ, List.setIfInBounds_toArray, List.set_cons_zero, List.set_cons_succ]
  refine wpAnyH_ready (rs := [0]) (by kernel_rfl) (by simp) ?_
  refine AllReadyH.cons rfl (fun K hK => ?_) AllReadyH.nil
  rw [if_pos (by rfl)]
  refine wp_val (exec_load (q := Q1) (x := .tmp 13) rfl rfl HQL.out hn7) ?_
  refine hK.out _ _ ?_ (fun hHeld => ?_)
  · exact trivial
  clear hK K
  try simp only [Act.put, List.getElem_toArray, List.getElem_cons_zero, List.getElem_cons_succ, List.setIfInBounds_toArray, List.set_cons_zero, List.set_cons_succ]
  refine wpAnyH_ready (rs := [4]) (by kernel_rfl) (by simp) ?_
  refine AllReadyH.cons rfl (fun K hK => ?_) AllReadyH.nil
  go_simp
  refine (HQ2.out _ _ _ (Reads.drops_ HR2.out hk2 K7 (fun hlt => cutA_lt (by omega))) (by omega)).mono ?_; rintro e w8 ⟨rfl, k8⟩
  have hn8 := hn7.nob k8
  have hq8 := hq7.nob k8
  have K8 := K7.nobt k8
  refine hK.out _ _ ?_ (fun hHeld => ?_)
  · exact trivial
  clear hK K
  try simp only [Act.put, List.getElem_toArray, List.getElem_cons_zero, List.getElem_cons_succ, List.setIfInBounds_toArray, List.set_cons_zero, List.set_cons_succ]
  refine wpAnyH_take (i := 5) (v := ?_) rfl (by kernel_rfl) (by kernel_rfl) (by kernel_rfl) (fun _ _ _ h => h) (Or.inl ⟨by rfl, ?_⟩) (by assumption) ?_
  rotate_left
  · (intro w hSw; (try dsimp only at hSw); go_simp; try with_reducible rfl)
  try simp only [Act.put, List.getElem_toArray, List.getElem_cons_zero, List.getElem_cons_succ, List.setIfInBounds_toArray, List.set_cons_zero, List.set_cons_succ]
  refine wpAnyH_take (i := 6) (v := ?_) rfl (by kernel_rfl) (by kernel_rfl) (by kernel_rfl) (fun _ _ _ h => h) (Or.inl ⟨by rfl, ?_⟩) (by assumption) ?_
  rotate_left
  · (intro w hSw; (try dsimp only at hSw); go_simp; try with_reducible rfl)
  try simp only [Act.put, List.getElem_toArray, List.getElem_cons_zero, List.getElem_cons_succ, List.setIfInBounds_toArray, List.set_cons_zero, List.set_cons_succ]
  refine wpAnyH_take (i := 7) (v := ?_) rfl (by kernel_rfl) (by kernel_rfl) (by kernel_rfl) (fun _ _ _ h => h) (Or.inl ⟨by rfl, ?_⟩) (by assumption) ?_
  rotate_left
  · (intro w hSw; (try dsimp only at hSw); go_simp; try with_reducible rfl)
  try simp only [Act.put, List.getElem_toArray, List.getElem_cons_zero, List.getElem_cons_succ, List.setIfInBounds_toArray, List.set_cons_zero, List.set_cons_succ]
  refine wpAnyH_ready (rs := [8]) (by kernel_rfl) (by simp) ?_
  refine AllReadyH.cons rfl (fun K hK => ?_) AllReadyH.nil
  rw [if_pos (by rfl)]
  refine wp_store_ (old := Q1) (q := P1) rfl rfl rfl HPL.out HQL.out hn8 ?_
  have hn9 : Blk _ g13 26 (pc P1) := hn8.setRow _
  have hq9 := hq8.setRow_far hgg (pc P1).toArray
  have K9 := K8.setRow g13 (pc P1).toArray (fun h => absurd h (by omega))
  refine hK.out _ _ ?_ (fun hHeld => ?_)
  · exact trivial
  clear hK K
  try simp only [Act.put, List.getElem_toArray, List.getElem_cons_zero, List.getElem_cons_succ, List.setIfInBounds_toArray, List.set_cons_zero, List.set_cons_succ]
  refine wpAnyH_take (i := 9) (v := ?_) rfl (by kernel_rfl) (by kernel_rfl) (by kernel_rfl) (fun _ _ _ h => h) (Or.inl ⟨by rfl, ?_⟩) (by assumption) ?_
  rotate_left
  · (intro w hSw; (try dsimp only at hSw); go_simp; try with_reducible rfl)
  try simp only [Act.put, List.getElem_toArray, List.getElem_cons_zero, List.getElem_cons_succ, List.setIfInBounds_toArray, List.set_cons_zero, List.set_cons_succ]
  refine wpAnyH_done (by kernel_rfl) ?_ _
  clear hn7 hq7 K7 k8 hn8 hq8 K8 HQ2 HR2
  generalize w8.setRow g13 (pc P1).toArray = w9 at *
  have he1 := HE1.out
  go_upto_region 10 with (first | (refine wpList_ldw (by rfl) (.tmp 11) rfl g11 P1 rfl HPL.out hq9 ?_) | (refine wpList_ldw (by rfl) (.tmp 13) rfl g13 P1 rfl HPL.out hn9 ?_))
  clear hn9 he1 HE1 hwn
  go_wp2_with (refine wpList_ld rfl (.tmp 11) rfl g11 P1 rfl HPL.out hq9 ?_)
  refine (HT1.out _).mono ?_; rintro e w10 ⟨xs, rfl, ⟨As, cs, rfl, -, rs⟩, k10⟩
  have hq10 := hq9.nob k10
  have K10 := K9.nobt k10
  clear hq9 K9 k10 h31 HT1
  go_wp2_with (first | (refine wpList_al rfl rfl ?_; intro v3 hy1 k4 hs4; clear hs4; have hq11 := hq10.nob k4) | (refine wpList_st rfl (.tmp 17) _ rfl w10.heap.size Y noP rfl rfl HYL.out rfl hy1 ?_; intro v4 hy2 k5 hs5; clear hs5; have hq12 := hq11.keep k5 (Nat.ne_of_lt hq10.lt)) | (refine wpList_ld rfl (.tmp 11) rfl g11 P1 rfl HPL.out hq12 ?_))
  have kk : Keep (· = w10.heap.size) w10 v4 := (k4.mono (M' := (· = w10.heap.size)) (fun _ _ f => f.elim)).trans k5 (fun _ _ h => h)
  have K11 : Keep Nob w v4 := K10.trans kk (fun b hb e => by have h3 : b = w10.heap.size := e; have := K10.size; omega)
  have rs1 := rs.fresh kk
  have hgy : w.heap.size ≤ w10.heap.size := K10.size
  clear hq10 K10 hy1 k4 hq11 k5 hq12 rs kk
  generalize w10.heap.size = g17 at *
  refine (HT2.out _).mono ?_; rintro e w12 ⟨xu, rfl, ⟨Au, cu, rfl, -, ru⟩, k12⟩
  have hy3 := hy2.nob k12
  have rs2 := rs1.nob k12
  have K12 := K11.nobt k12
  clear hy2 rs1 K11 k12 HT2
  go_wp2_with (first | (refine wpList_al rfl rfl ?_; intro v5 hz1 k4 hs4; clear hs4) | (refine wpList_st rfl (.tmp 19) _ rfl w12.heap.size Z1 noP rfl rfl HZL.out rfl hz1 ?_; intro v6 hz2 k5 hs5; clear hs5) | (refine wpList_ld rfl (.tmp 19) rfl w12.heap.size Z1 rfl HZL.out hz2 ?_))
  have kk : Keep (· = w12.heap.size) w12 v6 := (k4.mono (M' := (· = w12.heap.size)) (fun _ _ f => f.elim)).trans k5 (fun _ _ h => h)
  have K13 : Keep Nob w v6 := K12.trans kk (fun b hb e => by have h3 : b = w12.heap.size := e; have := K12.size; omega)
  have rs3 := rs2.fresh kk
  have ru3 := ru.fresh kk
  have hy4 := hy3.keep kk (Nat.ne_of_lt hy3.lt)
  have hgn : g17 ≠ w12.heap.size := Nat.ne_of_lt hy3.lt
  have hgz : w.heap.size ≤ w12.heap.size := K12.size
  clear hy3 rs2 ru K12 hz1 k4 k5 kk he
  generalize hg19 : w12.heap.size = g19 at *
  refine (HT3.out _).mono ?_; rintro e w14 ⟨xv, rfl, ⟨Av, cv, rfl, -, rv⟩, k14⟩
  have hy5 := hy4.nob k14
  have hz3 := hz2.nob k14
  have rs4 := rs3.nob k14
  have ru4 := ru3.nob k14
  have K14 := K13.nobt k14
  clear hy4 hz2 rs3 ru3 K13 HT3
  go_upto_region 14 with (refine wpList_st rfl (.tmp 19) _ rfl g19 Y Z1 rfl rfl HYL.out HZL.out hz3 ?_; intro w15 hz5 k15 hs15; clear hs15)
  have hy6 := hy5.keep k15 hgn
  have rs5 := rs4.far k15 hz3
  have ru5 := ru4.far k15 hz3
  have rv5 := rv.far k15 hz3
  have K15 := K14.trans k15 (fun b hb e => by have h3 : b = g19 := e; omega)
  have cs5 := fun c => gives_str (c := c) rs5
  have cu5 := fun c => gives_str (c := c) ru5
  have cv5 := fun c => gives_str (c := c) rv5
  have he2 := HE2.out
  have hsa := HSA.out
  clear hy5 hz3 rs4 ru4 rv K14 k15 rs5 ru5 rv5 HE2 HSA
  generalize str s = S at *
  generalize str ul = U at *
  generalize str vl = V at *
  go_wp2_with (first | (refine wpList_ld rfl (.tmp 17) rfl g17 Y rfl HYL.out hy6 ?_) | (refine wpList_ld rfl (.tmp 19) rfl g19 Y rfl HYL.out hz5 ?_))
  refine (awake_is _).mono ?_; rintro e w16 ⟨rfl, k16⟩
  have K16 := K15.nobt k16
  go_wp2
  go_ret
  exact ⟨rfl, K16.below (Nat.le_refl _) (fun _ _ f => f)⟩
theorem RingParts_walk (w : World) (a0 : Int) (w0 : (Lit.int .i64 a0).wf = true) (A1 : Option Addr) (n1 c1 : Nat) (x1 : Ty.den (.sl 1 .byte)) (w1 : Holds w (.sl 1 .byte) x1 [.slice A1 n1 c1]) (A2 : Option Addr) (n2 c2 : Nat) (x2 : Ty.den (.sl 1 .byte)) (w2 : Holds w (.sl 1 .byte) x2 [.slice A2 n2 c2]) (a3 : Int) (w3 : (Lit.int .i64 a3).wf = true) :
    Calls Try.prog 7 #[.int .i64 a0, .slice A1 n1 c1, .slice A2 n2 c2, .int .i64 a3] w fun e w' => e = .returned (.bool true) ∧ Below w.heap.size w w' :=
  RingParts_in w a0 A1 n1 c1 x1 (holds_bytes w1).2.1 A2 n2 c2 x2 (holds_bytes w2).2.1 (holds_bytes w2).2.2.1 a3
end Go.Proofs.Ytojciodjffahnaa
