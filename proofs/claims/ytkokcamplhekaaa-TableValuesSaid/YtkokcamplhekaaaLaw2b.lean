/- The walk of TableOnce: no name is told twice, and what was dropped is none for ever. -/
import Derived.Test.YtkokcamplhekaaaLaw2a
namespace Go.Proofs.Ytkokcamplhekaaa
open Go.RowKit
/-- What was told so far, and what of it is gone. -/
structure Hist (i : Nat) (L : List Pl) (all : List Int) (G : List Bool) : Prop where
  len : G.length = all.length
  few : all.length ≤ i
  young : ∀ q ∈ L, q.gen ≤ 1 + i
  small : L.length ≤ 256
  each : ∀ (k : Nat) (nm : Int) (b : Bool), all[k]? = some nm → G[k]? = some b → ∃ (j : Nat) (q : Pl) (g : Nat), L[j]? = some q ∧ nm = j + 256 * (g : Int) ∧ (b = false → q.on = true ∧ g = q.gen) ∧ (b = true → g < q.gen)
  apart : ∀ (k k' : Nat) (nm : Int), all[k]? = some nm → all[k']? = some nm → k = k'
  count : cnt L L.length = G.countP (fun b => !b)
section
variable {i : Nat} {L : List Pl} {all : List Int} {G : List Bool}
theorem Hist.more (h : Hist i L all G) : Hist (i + 1) L all G := ⟨h.len, by have := h.few; omega, fun q hq => by have := h.young q hq; omega, h.small, h.each, h.apart, h.count⟩
theorem Hist.fresh (h : Hist i L all G) {j : Nat} {q : Pl} (hq : L[j]? = some q) (hf : q.free = true) {k : Nat} {nm : Int} (hk : all[k]? = some nm) : nm ≠ j + 256 * (q.gen : Int) := by
  have hl := get_lt hk
  obtain ⟨b, hb⟩ : ∃ b, G[k]? = some b := ⟨_, List.getElem?_eq_getElem (by rw [h.len]; exact hl)⟩
  obtain ⟨j', q', g, hj, he, h1, h2⟩ := h.each k nm b hk hb
  intro e
  have hs := h.small
  have a1 := get_lt hj
  have a2 := get_lt hq
  have : j' = j := by omega
  subst this
  rw [hq] at hj
  cases hj
  have := (free_off hf).1
  cases b with
  | false => rw [(h1 rfl).1] at this; cases this
  | true => have := h2 rfl; omega
theorem Hist.add (h : Hist i L all G) {j : Nat} {q : Pl} (v : List Value) (hq : L[j]? = some q) (hf : q.free = true) : Hist (i + 1) (L.set j ⟨q.gen, true, v⟩) (all ++ [(j : Int) + 256 * (q.gen : Int)]) (G ++ [false]) := by
  have hoff := (free_off hf).1
  refine ⟨by simp [h.len], by have := h.few; simp; omega, fun x hx => ?_, by rw [List.length_set]; exact h.small, fun k nm b hk hb => ?_, fun k k' nm hk hk' => ?_, ?_⟩
  · rcases List.mem_or_eq_of_mem_set hx with h1 | rfl
    · have := h.young x h1; omega
    · have := h.young q (get_mem hq); dsimp only; omega
  · by_cases hl : k < all.length
    · rw [List.getElem?_append_left hl] at hk
      rw [List.getElem?_append_left (by rw [h.len]; exact hl)] at hb
      obtain ⟨j', q', g, hj, he, h1, h2⟩ := h.each k nm b hk hb
      by_cases e : j = j'
      · subst e
        rw [hq] at hj
        cases hj
        refine ⟨j, _, g, List.getElem?_set_self (get_lt hq), he, fun hb => ?_, h2⟩
        have := (h1 hb).1
        rw [hoff] at this
        cases this
      · exact ⟨j', q', g, by rw [List.getElem?_set_ne e]; exact hj, he, h1, h2⟩
    · have hk2 : k = all.length := by
        have := get_lt hk
        simp at this
        omega
      subst hk2
      rw [List.getElem?_append_right (Nat.le_refl _)] at hk
      rw [List.getElem?_append_right (by rw [h.len]; exact Nat.le_refl _), h.len] at hb
      simp at hk hb
      subst hk hb
      exact ⟨j, _, q.gen, List.getElem?_set_self (get_lt hq), rfl, fun _ => ⟨rfl, rfl⟩, fun hb => by cases hb⟩
  · rw [List.getElem?_append] at hk hk'
    split at hk <;> split at hk'
    · exact h.apart k k' nm hk hk'
    · have := get_lt hk'
      simp at this
      rw [show k' - all.length = 0 from by omega] at hk'
      simp at hk'
      exact absurd hk'.symm (h.fresh hq hf hk)
    · have := get_lt hk
      simp at this
      rw [show k - all.length = 0 from by omega] at hk
      simp at hk
      exact absurd hk.symm (h.fresh hq hf hk')
    · have := get_lt hk
      have := get_lt hk'
      simp at *
      omega
  · have := cnt_set (q' := ⟨q.gen, true, v⟩) hq L.length (get_lt hq)
    rw [hoff] at this
    rw [List.length_set, List.countP_append, ← h.count]
    simp at this ⊢
    omega
theorem Hist.gone (h : Hist i L all G) {k : Nat} {nm : Int} (hk : all[k]? = some nm) (hb : G[k]? = some true) (j : Nat) (q : Pl) (hq : L[j]? = some q) (ho : q.on = true) : nm ≠ j + 256 * (q.gen : Int) := by
  obtain ⟨j', q', g, hj, he, h1, h2⟩ := h.each k nm true hk hb
  intro e
  have hs := h.small
  have a1 := get_lt hj
  have a2 := get_lt hq
  have : j' = j := by omega
  subst this
  rw [hq] at hj
  cases hj
  have := h2 rfl
  omega
theorem Hist.there (h : Hist i L all G) {k : Nat} {nm : Int} (hk : all[k]? = some nm) (hb : G[k]? = some false) : ∃ (j : Nat) (q : Pl), L[j]? = some q ∧ q.on = true ∧ nm = j + 256 * (q.gen : Int) := by
  obtain ⟨j, q, g, hj, he, h1, _⟩ := h.each k nm false hk hb
  obtain ⟨h3, rfl⟩ := h1 rfl
  exact ⟨j, q, hj, h3, he⟩
theorem Hist.drop (h : Hist i L all G) {k : Nat} {nm : Int} (hk : all[k]? = some nm) (hb : G[k]? = some false) {j : Nat} {q : Pl} (v : List Value) (hq : L[j]? = some q) (ho : q.on = true) (he : nm = j + 256 * (q.gen : Int)) :
    Hist (i + 1) (L.set j ⟨q.gen + 1, false, v⟩) all (G.set k true) := by
  have hs := h.small
  have a2 := get_lt hq
  refine ⟨by rw [List.length_set]; exact h.len, by have := h.few; omega, fun x hx => ?_, by rw [List.length_set]; exact hs, fun k' nm' b' hk' hb' => ?_, h.apart, ?_⟩
  · rcases List.mem_or_eq_of_mem_set hx with h1 | rfl
    · have := h.young x h1; omega
    · have := h.young q (get_mem hq); dsimp only; omega
  · by_cases e : k = k'
    · subst e
      rw [List.getElem?_set_self (get_lt hb)] at hb'
      rw [hk] at hk'
      cases hk'
      cases hb'
      exact ⟨j, ⟨q.gen + 1, false, v⟩, q.gen, List.getElem?_set_self a2, he, fun hb => absurd hb (by decide), fun _ => Nat.lt_succ_self _⟩
    · rw [List.getElem?_set_ne e] at hb'
      obtain ⟨j', q', g, hj, he', h1, h2⟩ := h.each k' nm' b' hk' hb'
      by_cases ej : j = j'
      · subst ej
        rw [hq] at hj
        cases hj
        refine ⟨j, _, g, List.getElem?_set_self a2, he', fun hbf => ?_, fun hbt => by have := h2 hbt; dsimp only; omega⟩
        obtain ⟨_, rfl⟩ := h1 hbf
        rw [he', ← he] at hk'
        exact absurd (h.apart _ _ _ hk hk') e
      · exact ⟨j', q', g, by rw [List.getElem?_set_ne ej]; exact hj, he', h1, h2⟩
  · have := cnt_set (q' := ⟨q.gen + 1, false, v⟩) hq L.length a2
    rw [ho] at this
    have hc : (G.set k true).countP (fun b => !b) + 1 = G.countP (fun b => !b) := by
      have hl := get_lt hb
      have hg : G[k] = false := by rw [List.getElem?_eq_getElem hl] at hb; simpa using hb
      rw [List.countP_set (h := hl), hg]
      have hpos : 0 < G.countP (fun b => !b) := List.countP_pos_iff.2 ⟨false, get_mem hb, rfl⟩
      simp
      omega
    rw [List.length_set]
    have := h.count
    simp at *
    omega
end
def bools (l : List Bool) : List Value := l.map Value.bool
@[simp] theorem bools_len (l : List Bool) : (bools l).length = l.length := by simp [bools]
theorem bools_get (l : List Bool) (i : Nat) : (bools l)[i]? = (l[i]?).map Value.bool := by simp [bools]
theorem bools_append (a b : List Bool) : bools (a ++ b) = bools a ++ bools b := by simp [bools]
theorem bools_set (l : List Bool) (i : Nat) (b : Bool) : (bools l).set i (.bool b) = bools (l.set i b) := by simp [bools, List.map_set]
theorem Vec.at1 {w : World} {e n cap : Nat} {A : Option Addr} {xs : List Value} (h : Vec w e 1 A n cap xs) {k : Nat} (hk : k < n) : ∃ g, A = some ⟨g, 0, none⟩ ∧ w.cell? ⟨g, k, none⟩ = xs[k]? ∧ ∀ j, w.frozen? ⟨g, j, none⟩ = false := by
  obtain ⟨g, cur, rfl, hb, _, _, ht⟩ := h.at_ (by omega)
  refine ⟨g, rfl, ?_, fun j => hb.frozen j⟩
  rw [hb.cell, ← ht, List.getElem?_take, if_pos (by omega)]
theorem Hist.of_new (n : Nat) (hn : n ≤ 256) (v : List Value) : Hist 0 (List.replicate n ⟨1, false, v⟩) [] [] := by
  refine ⟨rfl, by simp, fun q hq => by rw [List.eq_of_mem_replicate hq]; exact Nat.le_refl _, by simpa using hn, fun k nm b hk => by simp at hk, fun k k' nm hk => by simp at hk, ?_⟩
  have : ∀ k, cnt (List.replicate n ⟨1, false, v⟩) k = 0 := by
    intro k
    induction k with
    | zero => rfl
    | succ k ih =>
      unfold cnt
      rw [ih]
      by_cases hk : k < n
      · simp [hk]
      · simp [hk]
  rw [this]
  rfl
open TabI in
set_option maxRecDepth 100000 in
set_option maxHeartbeats 4000000 in
theorem TableOnce_core (w : World) (a0 : Int) (A1 : Option Addr) (n1 c1 : Nat) (x1 : List Int) (w1 : Holds w (.sl 8 (.int .i64)) x1 [.slice A1 n1 c1]) (m0 n : Nat) (hm : bits .and .i64 a0 255 = m0) (hn : m0 % 20 + 1 = n) :
    Calls Try.prog 5 #[.int .i64 a0, .slice A1 n1 c1] w fun e w' => e = .returned (.bool true) ∧ Below w.heap.size w w' := by
  have hn20 : n ≤ 20 := by omega
  have hsz : (m0 : Int) % 20 + 1 = n := by omega
  clear hn
  go_enter Try.func5, Try.ntmps5
  go_wp2_with fail
  refine (new_is _ n (by omega) _).mono ?_; rintro e wa ⟨p, r, rfl, h1, hp, hr, k1⟩
  have K1 := (Keep.refl (From w.heap.size) w).nob k1
  have H0 := Hist.of_new n (by omega) [.int .i64 0]
  generalize List.replicate n (⟨1, false, [.int .i64 0]⟩ : Pl) = L0 at h1 H0
  go_wp2
  go_loopw [6, 7, 8] (fun s6 s7 s8 wx => ∃ (i : Nat) (L : List Pl) (all : List Int) (G : List Bool) (A B : Option Addr) (cA cB : Nat), i ≤ n1 ∧ i ≤ 120 ∧ s8 = .int .i64 i ∧ s6 = .slice A all.length cA ∧ s7 = .slice B all.length cB ∧ Vec wx 3 1 A all.length cA (ints all) ∧ Vec wx 4 1 B all.length cB (bools G) ∧ Tab wx p r L ∧ Hist i L all G ∧ Keep (From w.heap.size) w wx ∧ (∀ g, Own A g → w.heap.size ≤ g) ∧ (∀ g, Own B g → w.heap.size ≤ g)) (fun _ _ t _ => 120 - (intOf t).toNat)
  case atStart => exact ⟨0, L0, [], [], none, none, 0, 0, Nat.zero_le _, Nat.zero_le _, rfl, rfl, rfl, Vec.nil _ _ _, Vec.nil _ _ _, h1, H0, K1, (fun g ⟨a, ha, _⟩ => by cases ha), (fun g ⟨a, ha, _⟩ => by cases ha)⟩
  case round =>
    obtain ⟨i, L, all, G, A, B, cA, cB, hi1, hi2, rfl, rfl, rfl, hvA, hvB, ht, H, hK, hA, hB⟩ := hrel
    have hN : all.length ≤ 120 := by have := H.few; omega
    by_cases hend : i < n1 ∧ i < 120
    · obtain ⟨hi1, hi2⟩ := hend
      obtain ⟨b, off, rfl, x, hx⟩ := holds_int_at w1 hi1
      have hxr := hK.cell_from hx
      obtain ⟨m, hm'⟩ : ∃ m : Nat, bits .and .i64 x 65535 = m := ⟨(x % 65536).toNat, by rw [i64_and65535]; omega⟩
      by_cases hc : m % 2 = 0 ∨ all.length = 0
      · have hc' : ((m : Int) % 2 == 0) = true ∨ (((m : Int) % 2 == 0) = false ∧ ((all.length : Int) == 0) = true) := by
          by_cases h2 : m % 2 = 0
          · left; simp; omega
          · right; exact ⟨by rw [beq_eq_false_iff_ne]; omega, by rw [beq_iff_eq]; omega⟩
        rcases hc' with hc1 | ⟨hc1, hc2⟩
        all_goals
          rcases first_free L with ⟨j, q, hq, hf, hb⟩ | hb
          · go_wp2_with fail
            refine (addI i j q (j + 256 * (q.gen : Int)) (L.set j ⟨q.gen, true, [.int .i64 i]⟩) ht hq hf hb rfl rfl).mono ?_; rintro e wb ⟨rfl, h2, k2, -⟩
            have hfr : ∀ {k : Nat} {nm : Int}, all[k]? = some nm → nm ≠ j + 256 * (q.gen : Int) := fun hk => H.fresh hq hf hk
            have H2 := H.add [.int .i64 (i : Int)] hq hf
            have hvA2 := hvA.far ht.row (by decide) k2
            have hvB2 := hvB.far ht.row (by decide) k2
            have hK2 := hK.at_ k2 hr
            generalize (j : Int) + 256 * (q.gen : Int) = nm at hfr H2
            go_wp2_with fail
            go_loop [12] (fun s => ∃ k : Nat, k ≤ all.length ∧ s = .int .i64 k) (fun s => all.length - (intOf s).toNat)
            case atStart => exact ⟨0, Nat.zero_le _, rfl⟩
            case round =>
              obtain ⟨k, hk, rfl⟩ := hrel
              by_cases hlt : k < all.length
              · obtain ⟨ga, rfl, hca, _⟩ := hvA2.at1 hlt
                obtain ⟨v, hv⟩ : ∃ v, all[k]? = some v := ⟨_, List.getElem?_eq_getElem hlt⟩
                rw [ints_get, hv] at hca
                have hca' : wb.cell? ⟨ga, k, none⟩ = some (.int .i64 v) := hca
                have hne : (v == nm) = false := by rw [beq_eq_false_iff_ne]; exact hfr hv
                clear hca hvA hvB hvA2 hvB2 H H2 ht h2
                go_wp2_with fail
                go_round
                case rel => exact ⟨k + 1, by omega, by go_num⟩
                case measure => simp [intOf]; omega
              · obtain rfl : k = all.length := by omega
                go_wp2_with (first | (at_builtin; refine wpList_ap rfl _ _ 22 rfl 3 1 8 (.int .i64 0) Try.underlying22 infoint rfl (by decide) A all.length cA _ rfl (hvA2.nob ((Keep.refl Nob wb).alloc _)) (some ⟨wb.heap.size, 0, none⟩) 1 1 [.int .i64 nm] rfl _ (Nat.mul_one _) (reads_all (Blk.new wb 3 [.int .i64 nm]) rfl) (by simp [Value.oneCell']) (by unfold maxLen; omega) (by omega) ?_; intro A' cA' wc hvc hkc hoc; have hvBc := (hvB2.nob ((Keep.refl Nob wb).alloc (.cells #[.int .i64 nm] 3))).farV (hvA2.nob ((Keep.refl Nob wb).alloc _)) (by decide) hkc) | (at_builtin; refine wpList_ap rfl _ _ 61 rfl 4 1 1 (.bool false) Try.underlying61 infobool rfl (by decide) B all.length cB _ rfl (hvBc.nob ((Keep.refl Nob wc).alloc _)) (some ⟨wc.heap.size, 0, none⟩) 1 1 [.bool false] rfl _ (Nat.mul_one _) (reads_all (Blk.new wc 4 [.bool false]) rfl) (by simp [Value.oneCell']) (by unfold maxLen; omega) (by omega) ?_; intro B' cB' wd hvd hkd hod))
                have a1 := (Keep.refl Nob wb).alloc (.cells #[.int .i64 nm] 3)
                have a2 := (Keep.refl Nob wc).alloc (.cells #[.bool false] 4)
                have hKc : Keep (From w.heap.size) w wc := (hK2.alloc (.cells #[.int .i64 nm] 3)).trans hkc (fun b hb ho => hA b ho)
                have hKd : Keep (From w.heap.size) w wd := (hKc.alloc (.cells #[.bool false] 4)).trans hkd (fun b hb ho => hB b ho)
                have hvd1 := (hvc.nob a2).farV (hvBc.nob a2) (by decide) hkd
                have h2d := (((h2.nob a1).farV (hvA2.nob a1) (by decide) (by decide) hkc).nob a2).farV (hvBc.nob a2) (by decide) (by decide) hkd
                have hl1 : (all ++ [nm]).length = all.length + 1 := by rw [List.length_append]; rfl
                have hA' : ∀ g, Own A' g → w.heap.size ≤ g := fun g hg => by
                  rcases hoc g hg with h1 | h1
                  · exact hA g h1
                  · rw [h1]; have := hK2.size; simp; omega
                have hB' : ∀ g, Own B' g → w.heap.size ≤ g := fun g hg => by
                  rcases hod g hg with h1 | h1
                  · exact hB g h1
                  · rw [h1]; have := hKc.size; simp; omega
                go_roundw
                case rel => exact ⟨i + 1, _, all ++ [nm], G ++ [false], A', B', cA', cB', by omega, by omega, by go_num, by rw [hl1], by rw [hl1], by rw [hl1, ints_append]; exact hvd1, by rw [hl1, bools_append]; exact hvd, h2d, H2, hKd, hA', hB'⟩
                case measure => simp [intOf]; omega
          · go_wp2_with fail
            refine (add_no i ht hb).mono ?_; rintro e wb ⟨rfl, rfl⟩
            go_wp2_with fail
            go_loop [12] (fun s => s = .int .i64 0) (fun s => 0)
            case atStart => rfl
            case round =>
              obtain rfl := hrel
              go_wp2_with fail
              go_roundw
              case rel => exact ⟨i + 1, L, all, G, A, B, cA, cB, by omega, by omega, by go_num, rfl, rfl, hvA, hvB, ht, H.more, hK, hA, hB⟩
              case measure => simp [intOf]; omega
      · have hl0 : 0 < all.length := by omega
        have hc1 : ((m : Int) % 2 == 0) = false := by rw [beq_eq_false_iff_ne]; omega
        have hc2 : ((all.length : Int) == 0) = false := by rw [beq_eq_false_iff_ne]; omega
        obtain ⟨d, hd⟩ : ∃ d : Nat, m / 2 % all.length = d := ⟨_, rfl⟩
        have hdl : d < all.length := by rw [← hd]; exact Nat.mod_lt _ hl0
        have hd1 : ((m : Int) / 2) % (all.length : Int) = d := by rw [← hd, Int.natCast_emod, Int.natCast_ediv]; rfl
        have hd2 : ((m : Int) / 2).tmod (all.length : Int) = d := by rw [Int.tmod_eq_emod_of_nonneg (by omega)]; exact hd1
        clear hd hc
        obtain ⟨nm, hnm⟩ : ∃ nm, all[d]? = some nm := ⟨_, List.getElem?_eq_getElem hdl⟩
        obtain ⟨bb, hbb⟩ : ∃ bb, G[d]? = some bb := ⟨_, List.getElem?_eq_getElem (by rw [H.len]; exact hdl)⟩
        obtain ⟨ga, rfl, _, _⟩ := hvA.at1 hdl
        obtain ⟨gb, rfl, _, _⟩ := hvB.at1 hdl
        have hgb : w.heap.size ≤ gb := hB gb ⟨_, rfl, rfl⟩
        have sf : ∀ W1 : World, Vec W1 3 1 (some ⟨ga, 0, none⟩) all.length cA (ints all) → Vec W1 4 1 (some ⟨gb, 0, none⟩) all.length cB (bools G) → (W1.cell? ⟨ga, d, none⟩ = some (.int .i64 nm) ∧ W1.cell? ⟨gb, d, none⟩ = some (.bool bb)) := fun W1 b1 b2 => by
          obtain ⟨g1, e1, h1, _⟩ := b1.at1 hdl
          obtain ⟨g2, e2, h2, _⟩ := b2.at1 hdl
          cases e1
          cases e2
          rw [ints_get, hnm] at h1
          rw [bools_get, hbb] at h2
          exact ⟨h1, h2⟩
        have hfr : ∀ W1 : World, Vec W1 4 1 (some ⟨gb, 0, none⟩) all.length cB (bools G) → W1.frozen? ⟨gb, d, none⟩ = false := fun W1 b2 => by
          obtain ⟨g2, e2, _, h2⟩ := b2.at1 hdl
          cases e2
          exact h2 d
        have vad := hvA.nob (Keep.nobdrew wr)
        have vbd := hvB.nob (Keep.nobdrew wr)
        have htd := ht.nob (Keep.nobdrew wr)
        have hKd := hK.drew
        cases bb with
        | false =>
          obtain ⟨j, q, hq, ho, he⟩ := H.there hnm hbb
          have H2 := H.drop hnm hbb [.int .i64 0] hq ho he
          have hgl : q.gen ≤ 1000000 := by have := H.young q (get_mem hq); omega
          have HE := Lib.hid he
          clear he
          go_wp2_with fail
          go_region_held3 (fun w' => w'.cell? ⟨ga, d, none⟩ = some (.int .i64 nm) ∧ w'.cell? ⟨gb, d, none⟩ = some (.bool false))
            (first | exact sf _ vad vbd | exact sf _ va2 vb2)
            (first | (go_at_call 30; refine (dropI _ j q (L.set j ⟨q.gen + 1, false, [.int .i64 0]⟩) htd hq ho HE.out hgl rfl).mono ?_; rintro e wb ⟨rfl, h2, k2, -⟩; have va2 := vad.far htd.row (by decide) k2; have vb2 := vbd.far htd.row (by decide) k2))
          have g1 := (sf _ va2 vb2).2
          have g2 := hfr _ vb2
          have v2 := vb2.setCell d (.bool true)
          have kf : Keep (Own (some ⟨gb, 0, none⟩)) wb (wb.setCell ⟨gb, d, none⟩ (.bool true)) := (Keep.refl _ wb).setCell _ _ (fun _ => ⟨_, rfl, rfl⟩)
          rw [bools_set] at v2
          go_wp2_with fail
          go_roundw
          case rel => exact ⟨i + 1, _, all, G.set d true, _, _, cA, cB, by omega, by omega, by go_num, rfl, rfl, va2.farV vb2 (by decide) kf, v2, h2.farV vb2 (by decide) (by decide) kf, H2, (hKd.at_ k2 hr).trans kf (fun b hb ho => hB b ho), hA, hB⟩
          case measure => simp [intOf]; omega
        | true =>
          have hno := H.gone hnm hbb
          go_wp2_with fail
          go_region_held3 (fun w' => w'.cell? ⟨ga, d, none⟩ = some (.int .i64 nm) ∧ w'.cell? ⟨gb, d, none⟩ = some (.bool true))
            (first | exact sf _ vad vbd)
            (first | (go_at_call 30; refine (drop_no htd hno).mono ?_; rintro e wb ⟨rfl, rfl⟩))
          have g1 := (sf _ vad vbd).2
          have g2 := hfr _ vbd
          have v2 := vbd.setCell d (.bool true)
          have kf : Keep (Own (some ⟨gb, 0, none⟩)) wr.drew (wr.drew.setCell ⟨gb, d, none⟩ (.bool true)) := (Keep.refl _ _).setCell _ _ (fun _ => ⟨_, rfl, rfl⟩)
          rw [bools_set, set_same hbb] at v2
          go_wp2_with fail
          go_roundw
          case rel => exact ⟨i + 1, L, all, G, _, _, cA, cB, by omega, by omega, by go_num, rfl, rfl, vad.farV vbd (by decide) kf, v2, htd.farV vbd (by decide) (by decide) kf, H.more, hKd.trans kf (fun b hb ho => hB b ho), hA, hB⟩
          case measure => simp [intOf]; omega
    · have hout : n1 ≤ i ∨ (i < n1 ∧ 120 ≤ i) := by omega
      have hcnt := H.count
      rcases hout with h1 | ⟨h1, h2⟩
      all_goals
        go_wp2_with fail
        go_loop [14, 15] (fun s t => ∃ k : Nat, k ≤ all.length ∧ t = .int .i64 k ∧ s = .int .i64 (((G.take k).countP (fun b => !b) : Nat) : Int)) (fun _ t => all.length - (intOf t).toNat)
        case atStart => exact ⟨0, Nat.zero_le _, rfl, rfl⟩
        case round =>
          obtain ⟨k, hk, rfl, rfl⟩ := hrel
          by_cases hlt : k < all.length
          · obtain ⟨nm, hnm⟩ : ∃ nm, all[k]? = some nm := ⟨_, List.getElem?_eq_getElem hlt⟩
            obtain ⟨bb, hbb⟩ : ∃ bb, G[k]? = some bb := ⟨_, List.getElem?_eq_getElem (by rw [H.len]; exact hlt)⟩
            obtain ⟨ga, rfl, hca, _⟩ := hvA.at1 hlt
            obtain ⟨gb, rfl, hcb, _⟩ := hvB.at1 hlt
            rw [ints_get, hnm] at hca
            rw [bools_get, hbb] at hcb
            have hca' : wr.cell? ⟨ga, k, none⟩ = some (.int .i64 nm) := hca
            have hcb' : wr.cell? ⟨gb, k, none⟩ = some (.bool bb) := hcb
            have hle : (G.take k).countP (fun b => !b) ≤ k := Nat.le_trans List.countP_le_length (by rw [List.length_take]; omega)
            have hst : (G.take (k + 1)).countP (fun b => !b) = (G.take k).countP (fun b => !b) + (if bb then 0 else 1) := by
              rw [List.take_add_one, hbb, List.countP_append]
              cases bb <;> rfl
            clear hca hcb
            cases bb with
            | false =>
              obtain ⟨j, q, hq, ho, he⟩ := H.there hnm hbb
              obtain ⟨u, hu⟩ := one_cell ht hq
              have HE := Lib.hid he
              clear he
              go_wp2_with fail
              refine (get_yes u ht hq ho HE.out hu).mono ?_; rintro e wb ⟨rfl, rfl⟩
              generalize (G.take k).countP (fun b => !b) = c at hle hst
              go_wp2_with fail
              go_round
              case rel => exact ⟨k + 1, by omega, by go_num, by rw [hst]; go_num⟩
              case measure => simp [intOf]; omega
            | true =>
              go_wp2_with fail
              refine (get_no ht (H.gone hnm hbb)).mono ?_; rintro e wb ⟨rfl, rfl⟩
              generalize (G.take k).countP (fun b => !b) = c at hle hst
              go_wp2_with fail
              go_round
              case rel => exact ⟨k + 1, by omega, by go_num, by rw [hst]; go_num⟩
              case measure => simp [intOf]; omega
          · obtain rfl : k = all.length := by omega
            have htk : (G.take all.length).countP (fun b => !b) = (names L L.length).length := by rw [names_cnt, hcnt, List.take_of_length_le (by rw [H.len]; exact Nat.le_refl _)]
            rw [htk]
            go_wp2_with fail
            refine (len_is _ ht rfl).mono ?_; rintro e wb ⟨rfl, rfl⟩
            go_wp2_with fail
            refine (awake_true _).mono ?_; rintro e wb ⟨rfl, k9⟩
            go_wp2
            go_ret
            exact ⟨rfl, (hK.nob k9).done⟩
theorem TableOnce_walk (w : World) (a0 : Int) (w0 : (Lit.int .i64 a0).wf = true) (A1 : Option Addr) (n1 c1 : Nat) (x1 : Ty.den (.sl 8 (.int .i64))) (w1 : Holds w (.sl 8 (.int .i64)) x1 [.slice A1 n1 c1]) :
    Calls Try.prog 5 #[.int .i64 a0, .slice A1 n1 c1] w fun e w' => e = .returned (.bool true) ∧ Below w.heap.size w w' :=
  TableOnce_core w a0 A1 n1 c1 x1 w1 (a0 % 256).toNat _ (by rw [i64_and255]; omega) rfl
end Go.Proofs.Ytkokcamplhekaaa
