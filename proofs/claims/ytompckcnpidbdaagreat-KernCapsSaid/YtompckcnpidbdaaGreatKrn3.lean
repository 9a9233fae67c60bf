/- Contracts of package kern: a Boot's counts; the rooms of its sessions. -/
import Derived.Test.YtompckcnpidbdaaGreatKrn1
namespace Go.Proofs.YtompckcnpidbdaaGreat
open Go.RowKit
set_option linter.unusedVariables false
set_option linter.unusedSimpArgs false
theorem infoRoom : (Tryz.prog.info? 72).map (fun i => (i.zero, i.size, i.bytes)) = some (some (.agg #[.int .i64 0, .int .i64 0]), 2, 16) := by kernel_rfl
set_option maxHeartbeats 2000000 in
theorem counted_is (w : World) (Af Ae As Ah : Option Addr) (nf cf ne ce nS cs nh ch : Nat) (lease : Int) (h1 : 1 ≤ nf) (h2 : nf ≤ 4) (h3 : ne ≤ 40) (h4 : nS ≤ 8) (h5 : nh ≤ 16) (h6 : 1 ≤ lease) (h7 : lease ≤ 1000) :
    Calls Tryz.prog 20 #[.agg #[.slice Af nf cf, .slice Ae ne ce, .slice As nS cs, .int .i64 lease, .slice Ah nh ch]] w fun e w' => e = .returned (.bool true) ∧ Keep Nob w w' := by
  have a1 : (1 : Int) ≤ nf := by omega
  have a2 : (nf : Int) ≤ 4 := by omega
  have a3 : (ne : Int) ≤ 40 := by omega
  have a4 : (nS : Int) ≤ 8 := by omega
  have a5 : (nh : Int) ≤ 16 := by omega
  have k1 := (Keep.refl Nob w).alloc (.cells #[.slice Af nf cf, .slice Ae ne ce, .slice As nS cs, .int .i64 lease, .slice Ah nh ch] 31)
  go_enter Tryz.func20, Tryz.ntmps20
  go_wp2
  go_ret
  exact ⟨rfl, k1⟩
/-- The rooms of sessions of so many frames. -/
def roomCells (ns : List Nat) : List Value := (mk ns.length fun i => [.int .i64 (Qu.first ns i), .int .i64 (ns.getD i 0)]).flatten
def roomPart (ns : List Nat) (k : Nat) : List Value := (mk ns.length fun i => if i < k then [.int .i64 (Qu.first ns i), .int .i64 (ns.getD i 0)] else [.int .i64 0, .int .i64 0]).flatten
theorem roomPart_all (ns : List Nat) : roomPart ns ns.length = roomCells ns := by
  unfold roomPart roomCells
  congr 1
  exact mk_congr fun i hi => if_pos hi
def rp (ns : List Nat) (k : Nat) : List (List Value) := mk ns.length fun i => if i < k then [.int .i64 (Qu.first ns i), .int .i64 (ns.getD i 0)] else [.int .i64 0, .int .i64 0]
theorem roomPart_W (ns : List Nat) (k : Nat) : ∀ c ∈ rp ns k, c.length = 2 := fun c hc => by
  obtain ⟨i, _, rfl⟩ := List.mem_map.1 hc
  split <;> rfl
theorem roomPart_next {ns : List Nat} {k : Nat} (hk : k < ns.length) : ((roomPart ns k).set (k * 2) (.int .i64 (Qu.first ns k))).set (k * 2 + 1) (.int .i64 (ns.getD k 0)) = roomPart ns (k + 1) := by
  have e0 : (rp ns k)[k]? = some [.int .i64 0, .int .i64 0] := by unfold rp; rw [mk_get hk, if_neg (Nat.lt_irrefl _)]
  have s1 := flatten_set (.int .i64 (Qu.first ns k)) _ (roomPart_W ns k) k 0 _ (by decide) e0
  rw [Nat.add_zero] at s1
  have hl : k < (rp ns k).length := by unfold rp; rw [mk_len]; exact hk
  have s2 := flatten_set (W := 2) (.int .i64 (ns.getD k 0)) ((rp ns k).set k [.int .i64 (Qu.first ns k), .int .i64 0]) (fun c hc => by
    rcases List.mem_or_eq_of_mem_set hc with hc | rfl
    · exact roomPart_W ns k c hc
    · rfl) k 1 [.int .i64 (Qu.first ns k), .int .i64 0] (by decide) (List.getElem?_set_self hl)
  show (((rp ns k).flatten).set (k * 2) _).set (k * 2 + 1) _ = (rp ns (k + 1)).flatten
  rw [s1]
  show ((rp ns k).set k [.int .i64 (Qu.first ns k), .int .i64 0]).flatten.set (k * 2 + 1) _ = _
  rw [s2, List.set_set]
  congr 1
  refine mk_set _ fun j hj => ?_
  by_cases e : j = k
  · subst e
    rw [if_pos rfl, if_pos (by omega)]
    rfl
  · rw [if_neg e]
    by_cases e2 : j < k
    · rw [if_pos e2, if_pos (by omega)]
    · rw [if_neg e2, if_neg (by omega)]
theorem roomPart_get {ns : List Nat} {k i : Nat} (hi : i < ns.length) (hk : ¬ i < k) : (roomPart ns k)[i * 2]? = some (.int .i64 0) ∧ (roomPart ns k)[i * 2 + 1]? = some (.int .i64 0) := by
  have e0 := flatten_get _ (roomPart_W ns k) i 0 (by decide)
  have e1 := flatten_get _ (roomPart_W ns k) i 1 (by decide)
  unfold rp at e0 e1
  rw [mk_get hi, if_neg hk] at e0 e1
  exact ⟨e0, e1⟩
theorem roomCells_get {ns : List Nat} {i : Nat} (hi : i < ns.length) : (roomCells ns)[i * 2]? = some (.int .i64 (Qu.first ns i)) ∧ (roomCells ns)[i * 2 + 1]? = some (.int .i64 (ns.getD i 0)) := by
  have hW : ∀ c ∈ mk ns.length (fun i => [Value.int .i64 (Qu.first ns i), .int .i64 (ns.getD i 0)]), c.length = 2 := fun c hc => by
    obtain ⟨i, _, rfl⟩ := List.mem_map.1 hc
    rfl
  have e0 := flatten_get _ hW i 0 (by decide)
  have e1 := flatten_get _ hW i 1 (by decide)
  rw [mk_get hi] at e0 e1
  exact ⟨e0, e1⟩
/-- How many places of a row are free. -/
def offs (g : Nat) (w : World) : Nat := match w.heap[g]? with
  | some (.cells cs _ _) => cs.toList.countP (fun v => match v with | .bool false => true | _ => false)
  | _ => 0
theorem offs_is {w : World} {g : Nat} {l : List Bool} (h : Blk w g 4 (Qu.bools l)) : offs g w = l.count false := by
  unfold offs
  rw [h]
  simp only [Qu.bools]
  rw [List.countP_map, List.count]
  exact List.countP_congr fun b _ => by cases b <;> simp
/-- A session's row of which j are taken. -/
def taken (n j : Nat) : List Bool := List.replicate j true ++ List.replicate (n - j) false
theorem taken_len {n j : Nat} (h : j ≤ n) : (taken n j).length = n := by simp [taken]; omega
theorem taken_count {n j : Nat} : (taken n j).count false = n - j := by simp [taken, List.count_append, List.count_replicate]
theorem taken_true {n j : Nat} : (taken n j).count true = j := by simp [taken, List.count_append, List.count_replicate]
theorem taken_idx {n j : Nat} (h : j < n) : (taken n j).idxOf false = j := by
  obtain ⟨d, hd⟩ : ∃ d, n - j = d + 1 := ⟨n - j - 1, by omega⟩
  unfold taken
  rw [hd, List.replicate_succ]
  clear hd h
  induction j with
  | zero => simp
  | succ j ih => rw [List.replicate_succ, List.cons_append, List.idxOf_cons, ih]; simp
theorem taken_full {n : Nat} : ¬ (taken n n).idxOf false < (taken n n).length := by
  have : false ∉ taken n n := by simp [taken]
  have := List.idxOf_eq_length this
  omega
theorem taken_next {n j : Nat} (h : j < n) : (taken n j).set j true = taken n (j + 1) := by
  obtain ⟨d, hd⟩ : ∃ d, n - j = d + 1 := ⟨n - j - 1, by omega⟩
  unfold taken
  rw [hd, show n - (j + 1) = d by omega, List.replicate_succ, List.set_append_right _ _ (by simp)]
  simp [List.replicate_succ', List.append_assoc]
theorem keep2 (W : World) (g a b : Nat) (u v : Value) : Keep (fun x => x = g) W ((W.setCell ⟨g, a, none⟩ u).setCell ⟨g, b, none⟩ v) :=
  ((Keep.refl (fun x => x = g) W).setCell ⟨g, a, none⟩ u (fun _ => rfl)).setCell ⟨g, b, none⟩ v (fun _ => rfl)
theorem quo_far2 {W : World} {p : Nat} {A : Option Addr} {cap : Nat} {gq : Nat → Nat} {ns : List Nat} {b : Nat → List Bool} (h : Qu.Quo W p A cap gq ns b) {g : Nat} {cs : List Value} (hB : Blk W g 72 cs) (x y : Nat) (u v : Value) :
    Qu.Quo ((W.setCell ⟨g, x, none⟩ u).setCell ⟨g, y, none⟩ v) p A cap gq ns b :=
  h.keep (keep2 W g x y u v) (h.obj.ne_ hB (by decide)) (fun x hx e => by obtain ⟨cur, hc⟩ := h.row.blk hx; exact hc.ne_ hB (by decide) e) (fun i hi => (h.tab i hi).ne_ hB (by decide))
set_option maxHeartbeats 4000000 in
theorem rooms_is {w : World} {A0 : Option Addr} {n0 c0 : Nat} {xs : List Int} (hx : Reads w A0 n0 (ints xs)) (h0 : n0 ≤ c0) (h4 : n0 ≤ 4) (ns : List Nat) (hns : Qu.sizes xs = ns) :
    Calls Tryz.prog 21 #[.slice A0 n0 c0] w fun e w' => ∃ g, e = .returned (.slice (some ⟨g, 0, none⟩) n0 n0) ∧ Blk w' g 72 (roomCells ns) ∧ w.heap.size ≤ g ∧ Keep Nob w w' := by
  have hlx : xs.length = n0 := by have := hx.1; rwa [ints_len] at this
  have hnl : ns.length = n0 := by rw [← hns, Qu.sizes_len]; omega
  have HN := Lib.hid hns
  have HNL := Lib.hid hnl
  clear hlx hns hnl
  go_enter Tryz.func21, Tryz.ntmps21
  go_wp2_with fail
  refine (Qu.new_is hx h0 ns HN.out).mono ?_; rintro e w1 ⟨p, A, cap, gq, rfl, hQ, hgq, k1⟩
  go_wp2_with (refine wpList_mkN rfl _ _ 68 rfl 72 (.agg #[.int .i64 0, .int .i64 0]) 16 Tryz.underlying68 infoRoom .i64 .i64 n0 _ rfl rfl rfl (by omega) (by omega) ?_; intro w2 hb2 hk2 hs2)
  have Q2 := hQ.nob hk2
  have B2 : Blk w2 w1.heap.size 72 (roomPart ns 0) := by
    have e : roomPart ns 0 = (List.replicate n0 (Value.agg #[.int .i64 0, .int .i64 0]).cells.toList).flatten := by
      unfold roomPart
      rw [HNL.out, mk_rep]
      rfl
    rw [e]; exact hb2
  have k2 := k1.trans hk2 (fun _ _ f => f)
  have hsz := k1.size
  clear hb2 hk2 hs2 hQ
  go_wp2_with fail
  go_loopw [5, 15] (fun s5 s15 wx => ∃ (k : Nat) (b : Nat → List Bool), k ≤ n0 ∧ s5 = .int .i64 (Qu.first ns k : Nat) ∧ s15 = .int .i64 k ∧ Qu.Quo wx p A cap gq ns b ∧ (∀ i, k ≤ i → i < n0 → b i = taken (ns.getD i 0) 0) ∧ Blk wx w1.heap.size 72 (roomPart ns k) ∧ Keep Nob w wx) (fun _ t _ => n0 - (intOf t).toNat)
  case atStart => exact ⟨0, _, Nat.zero_le _, rfl, rfl, Q2, fun i _ _ => by simp [taken], B2, k2⟩
  case round =>
    obtain ⟨k, b, hk, rfl, rfl, hQ, hb, hB, hK⟩ := hrel
    clear Q2 B2 k2
    have HB := Lib.hid hb
    have HQ0 := Lib.hid hQ
    clear hb hQ
    by_cases hlt : k < n0
    · have hkn : k < ns.length := by rw [HNL.out]; exact hlt
      obtain ⟨n, hn⟩ : ∃ n, ns.getD k 0 = n := ⟨_, rfl⟩
      have hn64 : n ≤ 64 := by
        have := HQ0.out.size hkn
        rw [HQ0.out.len k hkn, hn] at this
        exact this
      have hfl := Qu.first_le HQ0.out.small k (by omega)
      have hfn := Qu.first_succ hkn
      have HN2 := Lib.hid hn
      have HFN := Lib.hid hfn
      have hg8 : ∀ i, i < ns.length → w.heap.size ≤ gq i := hgq
      clear hn hfn
      go_wp2_with fail
      go_loopw [7] (fun s7 wx => ∃ (j : Nat) (b : Nat → List Bool) (er : Int), j ≤ n ∧ s7 = .int .i64 er ∧ (er = 0 ∨ (er = 4 ∧ j = n)) ∧ Qu.Quo wx p A cap gq ns b ∧ b k = taken n j ∧ (∀ i, k < i → i < n0 → b i = taken (ns.getD i 0) 0) ∧ Blk wx w1.heap.size 72 (roomPart ns k) ∧ Keep Nob w wx) (fun s wx => offs (gq k) wx + (if intOf s = 0 then 1 else 0))
      case atStart => exact ⟨0, b, 0, Nat.zero_le _, rfl, .inl rfl, HQ0.out, by rw [HB.out k (Nat.le_refl _) hlt, HN2.out], fun i h1 h2 => HB.out i (by omega) h2, hB, hK⟩
      case round =>
        obtain ⟨j, b2, er, hj, rfl, her, hQ2, hbk, hbi, hB2, hK2⟩ := hrel
        have ho := offs_is (hQ2.tab k hkn)
        rw [hbk, taken_count] at ho
        have HO := Lib.hid ho
        have HBI := Lib.hid hbi
        have HBK := Lib.hid hbk
        clear ho hbi hbk hB hK
        rcases her with rfl | ⟨rfl, rfl⟩
        · by_cases hjn : j < n
          · have hal : Qu.al ns.length b2 k = ((j : Int), 0, Qu.up b2 k (taken n (j + 1))) := by
              unfold Qu.al
              rw [if_pos ⟨by omega, by omega⟩, Int.toNat_natCast, HBK.out, taken_idx hjn, taken_len hj, if_pos hjn, taken_next hjn]
            go_wp2_with fail
            refine (Qu.alloc_is hQ2 k _ _ _ hal).mono ?_; rintro e w4 ⟨rfl, hQ4, k4⟩
            have hB4 : Blk w4 w1.heap.size 72 (roomPart ns k) := hB2.keep k4 (fun ⟨i, hi, e⟩ => hB2.ne_ (hQ2.tab i hi) (by decide) e.symm)
            have hK4 : Keep Nob w w4 := hK2.trans k4 (fun x hx ⟨i, hi, e⟩ => by have := hg8 i hi; omega)
            have hbk4 : Qu.up b2 k (taken n (j + 1)) k = taken n (j + 1) := by unfold Qu.up; rw [if_pos rfl]
            have ho4 := offs_is (hQ4.tab k hkn)
            rw [hbk4, taken_count] at ho4
            have HO4 := Lib.hid ho4
            have fin : Qu.Quo w4 p A cap gq ns (Qu.up b2 k (taken n (j + 1))) ∧ Qu.up b2 k (taken n (j + 1)) k = taken n (j + 1) ∧ ∀ i, k < i → i < n0 → Qu.up b2 k (taken n (j + 1)) i = taken (ns.getD i 0) 0 := ⟨hQ4, hbk4, fun i h1 h2 => by unfold Qu.up; rw [if_neg (by omega)]; exact HBI.out i h1 h2⟩
            have FI := Lib.hid fin
            clear fin ho4 hbk4 hQ4 hQ2 hB2 hK2 hal k4
            go_wp2_with fail
            go_roundw
            case rel => exact ⟨j + 1, _, 0, by omega, rfl, .inl rfl, FI.out.1, FI.out.2.1, FI.out.2.2, hB4, hK4⟩
            case measure => rw [HO.out, HO4.out]; simp [intOf]; omega
          · obtain rfl : j = n := by omega
            have hal : Qu.al ns.length b2 k = ((0 : Int), 4, b2) := by
              unfold Qu.al
              rw [if_pos ⟨by omega, by omega⟩, Int.toNat_natCast, HBK.out, if_neg taken_full]
            go_wp2_with fail
            refine (Qu.alloc_is hQ2 k _ _ _ hal).mono ?_; rintro e w4 ⟨rfl, hQ4, k4⟩
            have hB4 : Blk w4 w1.heap.size 72 (roomPart ns k) := hB2.keep k4 (fun ⟨i, hi, e⟩ => hB2.ne_ (hQ2.tab i hi) (by decide) e.symm)
            have hK4 : Keep Nob w w4 := hK2.trans k4 (fun x hx ⟨i, hi, e⟩ => by have := hg8 i hi; omega)
            have ho4 := offs_is (hQ4.tab k hkn)
            rw [HBK.out, taken_count] at ho4
            have HO4 := Lib.hid ho4
            have FI := Lib.hid hQ4
            clear ho4 hQ4 hQ2 hB2 hK2 hal k4
            go_wp2_with fail
            go_roundw
            case rel => exact ⟨j, b2, 4, Nat.le_refl _, rfl, .inr ⟨rfl, rfl⟩, FI.out, HBK.out, HBI.out, hB4, hK4⟩
            case measure => rw [HO.out, HO4.out]; simp [intOf]
        · have hu : Qu.used ns.length b2 k = (j : Int) := by
            unfold Qu.used
            rw [if_pos ⟨by omega, by omega⟩, Int.toNat_natCast, HBK.out, taken_true]
          have z0 := (hB2.cell (k * 2)).trans (roomPart_get hkn (Nat.lt_irrefl _)).1
          have z1 := (hB2.cell (k * 2 + 1)).trans (roomPart_get hkn (Nat.lt_irrefl _)).2
          have f0 := hB2.frozen (k * 2)
          have f1 := hB2.frozen (k * 2 + 1)
          have hBn := (hB2.setCell (k * 2) (.int .i64 (Qu.first ns k))).setCell (k * 2 + 1) (.int .i64 (ns.getD k 0))
          rw [roomPart_next hkn, HN2.out] at hBn
          have hKn := (hK2.setCell ⟨w1.heap.size, k * 2, none⟩ (.int .i64 (Qu.first ns k)) (fun h => by dsimp only at h; omega)).setCell ⟨w1.heap.size, k * 2 + 1, none⟩ (.int .i64 j) (fun h => by dsimp only at h; omega)
          have hQn := quo_far2 hQ2 hB2 (k * 2) (k * 2 + 1) (.int .i64 (Qu.first ns k)) (.int .i64 j)
          have e9 := HFN.out
          rw [HN2.out] at e9
          have E9 := Lib.hid e9
          have FI := Lib.hid (And.intro hBn (And.intro hKn hQn))
          clear hBn hKn hQn hB2 hK2 e9
          go_wp2_with fail
          refine (Qu.used_is hQ2 k _ hu).mono ?_; rintro e w4 ⟨rfl, rfl⟩
          clear hQ2 hu
          go_wp2
          go_roundw
          case rel => exact ⟨k + 1, b2, by omega, by rw [E9.out]; go_num, by go_num, FI.out.2.2, fun i h1 h2 => HBI.out i (by omega) h2, FI.out.1, FI.out.2.1⟩
          case measure => simp [intOf]; omega
    · obtain rfl : k = n0 := by omega
      have hB9 : Blk wr w1.heap.size 72 (roomCells ns) := by
        have := hB
        rw [show k = ns.length from HNL.out.symm, roomPart_all] at this
        exact this
      go_wp2
      go_ret
      exact ⟨_, rfl, hB9, hsz, hK⟩
end Go.Proofs.YtompckcnpidbdaaGreat
