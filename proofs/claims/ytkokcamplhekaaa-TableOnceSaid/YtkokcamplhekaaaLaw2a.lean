/- The walks of the statements of layer 2 (names): what each needs of awake; TableLeast. -/
import Derived.Test.YtkokcamplhekaaaTabI
import Derived.Test.YtkokcamplhekaaaTab1
import Derived.Test.YtkokcamplhekaaaRead
import Derived.Deep.RegionHeld3
namespace Go.Proofs.Ytkokcamplhekaaa
open Go.RowKit
theorem Keep.atr {w0 w w' : World} {r : Nat} (h : Keep (From w0.heap.size) w0 w) (k : Keep (· = r) w w') (hr : w0.heap.size ≤ r) : Keep (From w0.heap.size) w0 w' := h.at_ k hr
section
open TabI
variable {p r : Nat} {w : World}
theorem addI {L : List Pl} (x : Int) (i : Nat) (q : Pl) (v : Int) (L' : List Pl) (h : Tab w p r L) (hq : L[i]? = some q) (hf : q.free = true) (hb : ∀ (j : Nat) (q : Pl), j < i → L[j]? = some q → q.free = false) (hv : (i : Int) + 256 * (q.gen : Int) = v) (hL : L.set i ⟨q.gen, true, [.int .i64 x]⟩ = L') :
    Calls Try.prog 23 #[.pointer (some ⟨p, 0, none⟩), .int .i64 x] w fun e w' => e = .returned (.tuple #[.int .i64 v, .bool true]) ∧ Tab w' p r L' ∧ Keep (· = r) w w' ∧ w'.heap.size = w.heap.size := by
  subst hv hL
  exact add_yes x h hq hf hb
theorem dropI {L : List Pl} (a : Int) (i : Nat) (q : Pl) (L' : List Pl) (h : Tab w p r L) (hq : L[i]? = some q) (ho : q.on = true) (ha : a = i + 256 * (q.gen : Int)) (hg : q.gen ≤ 1000000) (hL : L.set i ⟨q.gen + 1, false, [.int .i64 0]⟩ = L') :
    Calls Try.prog 30 #[.pointer (some ⟨p, 0, none⟩), .int .i64 a] w fun e w' => e = .returned (.bool true) ∧ Tab w' p r L' ∧ Keep (· = r) w w' ∧ w'.heap.size = w.heap.size := by
  subst hL
  exact drop_yes h hq ho ha hg
end
open TabI in
set_option maxHeartbeats 1000000 in
theorem awake_true (w : World) : Calls Try.prog 9 #[] w fun e w' => e = .returned (.bool true) ∧ Keep Nob w w' := by
  go_enter Try.func9, Try.ntmps9
  go_wp2_with fail
  refine (new_is _ 2 (by omega) _).mono ?_; rintro e w1 ⟨p, r, rfl, h1, hp, hr, k1⟩
  go_wp2_with fail
  refine (addI 5 0 ⟨1, false, [.int .i64 0]⟩ 256 [⟨1, true, [.int .i64 5]⟩, ⟨1, false, [.int .i64 0]⟩] h1 rfl rfl (fun j q hj => absurd hj (by omega)) (by decide) rfl).mono ?_; rintro e w2 ⟨rfl, h2, k2, s2⟩
  go_wp2_with fail
  refine (dropI 256 0 ⟨1, true, [.int .i64 5]⟩ [⟨2, false, [.int .i64 0]⟩, ⟨1, false, [.int .i64 0]⟩] h2 rfl rfl (by decide) (by decide) rfl).mono ?_; rintro e w3 ⟨rfl, h3, k3, s3⟩
  go_wp2_with fail
  refine (addI 6 0 ⟨2, false, [.int .i64 0]⟩ 512 [⟨2, true, [.int .i64 6]⟩, ⟨1, false, [.int .i64 0]⟩] h3 rfl rfl (fun j q hj => absurd hj (by omega)) (by decide) rfl).mono ?_; rintro e w4 ⟨rfl, h4, k4, s4⟩
  go_wp2_with fail
  refine (get_yes (i := 0) (q := ⟨2, true, [.int .i64 6]⟩) (.int .i64 6) h4 rfl rfl (by decide) rfl).mono ?_; rintro e w5 ⟨rfl, rfl⟩
  go_wp2_with fail
  refine (len_is 1 h4 (by decide)).mono ?_; rintro e w6 ⟨rfl, rfl⟩
  go_wp2
  go_ret
  exact ⟨rfl, k1.trans (((k2.trans k3 (fun _ _ e => e)).trans k4 (fun _ _ e => e))) (fun b hb e => by omega)⟩
/-- One number of a slice of numbers that came in. -/
theorem holds_int_at {w : World} {wd : Nat} {A : Option Addr} {n c : Nat} {xs : List Int} (h : Holds w (.sl wd (.int .i64)) xs [.slice A n c]) {k : Nat} (hk : k < n) :
    ∃ b off, A = some ⟨b, off, none⟩ ∧ ∃ x, w.cell? ⟨b, off + k, none⟩ = some (.int .i64 x) := by
  obtain ⟨b, off, cs', rfl, hl, hc, hk', hh⟩ := holds_at (e := .int .i64) h (by decide) hk
  obtain ⟨rfl, _⟩ := hh
  have := hc 0 _ rfl
  rw [show (Ty.int .i64).size = 1 from rfl, Nat.mul_one, Nat.add_zero] at this
  exact ⟨b, off, rfl, _, this⟩
/-- TableLeast: the places behind i adds; behind drops; behind adds anew. -/
def fl1 (i j : Nat) : Pl := if j < i then ⟨1, true, [.int .i64 (j : Int)]⟩ else ⟨1, false, [.int .i64 0]⟩
def fl2 (F : Nat → Bool) (j : Nat) : Pl := if F j then ⟨2, false, [.int .i64 0]⟩ else ⟨1, true, [.int .i64 (j : Int)]⟩
def fl3 (F : Nat → Bool) (k j : Nat) : Pl := if F j then (if j < k then ⟨2, true, [.int .i64 (j : Int)]⟩ else ⟨2, false, [.int .i64 0]⟩) else ⟨1, true, [.int .i64 (j : Int)]⟩
theorem fl2_no {F : Nat → Bool} {n d : Nat} (hd : F d = true) (j : Nat) (q : Pl) (hq : (mk n (fl2 F))[j]? = some q) (ho : q.on = true) : 256 + (d : Int) ≠ j + 256 * (q.gen : Int) := by
  obtain ⟨hj, rfl⟩ := mk_some hq
  unfold fl2 at ho ⊢
  cases hFj : F j with
  | true => rw [hFj] at ho; simp at ho
  | false =>
    simp
    intro e
    have : j = d := by omega
    subst this
    rw [hd] at hFj
    cases hFj
theorem fl3_next {F : Nat → Bool} {j d : Nat} (h : d ≠ j ∨ F j = false) : fl3 F j d = fl3 F (j + 1) d := by
  unfold fl3
  by_cases e : d = j
  · subst e
    rcases h with h | h
    · exact absurd rfl h
    · simp [h]
  · have : (d < j) = (d < j + 1) := by simp; omega
    simp only [this]
theorem fl3_set {F : Nat → Bool} {n j : Nat} (h : F j = true) : (mk n (fl3 F j)).set j ⟨2, true, [.int .i64 (j : Int)]⟩ = mk n (fl3 F (j + 1)) := by
  refine mk_set _ (fun d hd => ?_)
  by_cases e : d = j
  · subst e
    simp [fl3, h]
  · rw [if_neg e]
    exact fl3_next (.inl e)
theorem infobool : (Try.prog.info? 4).map (fun i => (i.zero, i.size, i.bytes)) = some (some (.bool false), 1, 1) := by kernel_rfl
theorem infoint : (Try.prog.info? 3).map (fun i => (i.zero, i.size, i.bytes)) = some (some (.int .i64 0), 1, 8) := by kernel_rfl
open TabI in
set_option maxRecDepth 100000 in
set_option maxHeartbeats 4000000 in
theorem TableLeast_core (w : World) (a0 : Int) (A1 : Option Addr) (n1 c1 : Nat) (x1 : List Int) (w1 : Holds w (.sl 8 (.int .i64)) x1 [.slice A1 n1 c1]) (m n : Nat) (hm : bits .and .i64 a0 255 = m) (hn : m % 40 + 1 = n) :
    Calls Try.prog 6 #[.int .i64 a0, .slice A1 n1 c1] w fun e w' => e = .returned (.bool true) ∧ Below w.heap.size w w' := by
  have hn40 : n ≤ 40 := by omega
  have hn1 : 1 ≤ n := by omega
  have hsz : (m : Int) % 40 + 1 = n := by omega
  clear hn
  go_enter Try.func6, Try.ntmps6
  go_wp2_with fail
  refine (new_is _ n (by omega) _).mono ?_; rintro e wa ⟨p, r, rfl, h1, hp, hr, k1⟩
  have K1 := (Keep.refl (From w.heap.size) w).nob k1
  rw [mk_rep, show (fun _ : Nat => (⟨1, false, [.int .i64 0]⟩ : Pl)) = fl1 0 from by funext j; simp [fl1]] at h1
  go_wp2
  go_loopw [6, 7] (fun s t wx => ∃ (i : Nat) (A : Option Addr) (cap : Nat), i ≤ n ∧ t = .int .i64 i ∧ s = .slice A i cap ∧ Vec wx 3 1 A i cap (ints (mk i (fun j => 256 + (j : Int)))) ∧ Tab wx p r (mk n (fl1 i)) ∧ Keep (From w.heap.size) w wx ∧ (∀ g, Own A g → w.heap.size ≤ g)) (fun _ t _ => n - (intOf t).toNat)
  case atStart => exact ⟨0, none, 0, Nat.zero_le _, rfl, rfl, Vec.nil _ _ _, h1, K1, fun g ⟨a, ha, _⟩ => by cases ha⟩
  case round =>
    obtain ⟨i, A, cap, hi, rfl, rfl, hv, ht, hK, hA⟩ := hrel
    by_cases hlt : i < n
    · go_wp2_with fail
      refine (addI i i ⟨1, false, [.int .i64 0]⟩ (256 + (i : Int)) (mk n (fl1 (i + 1))) ht (by rw [mk_get hlt]; simp [fl1]) rfl (fun j q hj hq => by obtain ⟨_, rfl⟩ := mk_some hq; simp [fl1, hj, Pl.free]) (by simp; omega) (mk_set _ (fun j hj => by unfold fl1; by_cases e : j = i <;> simp [e] <;> (congr 1; simp; omega)))).mono ?_
      rintro e wb ⟨rfl, h2, k2, -⟩
      have hvb := hv.far ht.row (by decide) k2
      have hKb := hK.at_ k2 hr
      go_wp2_with (at_builtin; go_loud (refine wpList_ap rfl _ _ 22 rfl 3 1 8 (.int .i64 0) Try.underlying22 infoint rfl (by decide) A i cap _ rfl (hvb.keep ((Keep.refl Nob wb).alloc _) (fun _ _ f => f)) (some ⟨wb.heap.size, 0, none⟩) 1 1 [.int .i64 (256 + (i : Int))] rfl _ (Nat.mul_one _) (reads_all (Blk.new wb 3 [.int .i64 (256 + (i : Int))]) rfl) (by simp [Value.oneCell']) (by unfold maxLen; omega) (by omega) ?_); intro A' cap' wc hvc hkc hoc)
      have e1 : ints (mk i (fun j => 256 + (j : Int))) ++ [.int .i64 (256 + (i : Int))] = ints (mk (i + 1) (fun j => 256 + (j : Int))) := by rw [← mk_succ, ints_append]; rfl
      rw [e1] at hvc
      go_roundw
      case rel => exact ⟨i + 1, A', cap', by omega, by go_num, rfl, hvc, (h2.nob ((Keep.refl Nob wb).alloc _)).farV (hvb.keep ((Keep.refl Nob wb).alloc _) (fun _ _ f => f)) (by decide) (by decide) hkc, (hKb.alloc _).trans hkc (fun b hb ho => hA b ho), fun g hg => by
        rcases hoc g hg with h1 | h1
        · exact hA g h1
        · rw [h1]; have := hKb.size; simp; omega⟩
      case measure => simp [intOf]; omega
    · obtain rfl : i = n := by omega
      obtain ⟨ga, cur, rfl, hcur, _, _, hct⟩ := hv.at_ (by omega)
      have hga : w.heap.size ≤ ga := hA ga ⟨_, rfl, rfl⟩
      have hnm : ∀ d, d < i → cur[d]? = some (.int .i64 (256 + (d : Int))) := fun d hd => by
        have := congrArg (·[d]?) hct
        simp only [Nat.mul_one] at this
        rw [List.getElem?_take, if_pos hd, ints_get, mk_get hd] at this
        exact this
      clear hv hct hA
      go_wp2_with fail
      refine (add_no 7 ht (fun j q hq => by obtain ⟨hj, rfl⟩ := mk_some hq; simp [fl1, hj, Pl.free])).mono ?_; rintro e w' ⟨rfl, rfl⟩
      go_wp2_with (refine wpList_mk rfl _ _ 61 rfl 4 (.bool false) 1 Try.underlying61 infobool rfl .i64 .i64 i _ rfl rfl rfl (by omega) (by omega) ?_; intro wb hbb hkb hsb)
      have hgf : w.heap.size ≤ wr.heap.size := hK.size
      have hne : wr.heap.size ≠ ga := by have := hcur.lt; omega
      have Kb := hK.nob hkb
      have tb := ht.nob hkb
      have cb := hcur.nob hkb
      rw [mk_rep] at hbb
      rw [show mk i (fl1 i) = mk i (fl2 (fun _ => false)) from mk_congr (fun j hj => by simp [fl1, fl2, hj])] at tb
      clear ht hcur hK hkb hsb K1 h1 k1
      generalize wr.heap.size = gf at *
      go_loopw [13] (fun t wx => ∃ (k : Nat) (F : Nat → Bool), k ≤ n1 ∧ k ≤ 30 ∧ t = .int .i64 k ∧ Blk wx gf 4 (mk i (fun j => .bool (F j))) ∧ Blk wx ga 3 cur ∧ Tab wx p r (mk i (fl2 F)) ∧ Keep (From w.heap.size) w wx) (fun t _ => 30 - (intOf t).toNat)
      case atStart => exact ⟨0, fun _ => false, Nat.zero_le _, Nat.zero_le _, rfl, hbb, cb, tb, Kb⟩
      case round =>
        obtain ⟨k, F, hk1, hk2, rfl, hf, hc, ht, hK⟩ := hrel
        by_cases hend : k < n1 ∧ k < 30
        · obtain ⟨hk1, hk2⟩ := hend
          obtain ⟨b, off, rfl, x, hx⟩ := holds_int_at w1 hk1
          have hxr := hK.cell_from hx
          obtain ⟨q, hq⟩ : ∃ q : Nat, bits .and .i64 x 65535 = q := ⟨(x % 65536).toNat, by rw [i64_and65535]; omega⟩
          obtain ⟨d, hd⟩ : ∃ d : Nat, q % i = d := ⟨_, rfl⟩
          have hdi : d < i := by rw [← hd]; exact Nat.mod_lt _ (by omega)
          have hd1 : (q : Int) % (i : Int) = d := by rw [← hd]; exact (Int.natCast_emod q i).symm
          have hd2 : (q : Int).tmod (i : Int) = d := by rw [Int.tmod_eq_emod_of_nonneg (by omega)]; exact hd1
          clear hd
          have sf : ∀ W1 : World, Blk W1 gf 4 (mk i (fun j => .bool (F j))) → Blk W1 ga 3 cur → (W1.cell? ⟨ga, d, none⟩ = some (.int .i64 (256 + (d : Int))) ∧ W1.cell? ⟨gf, d, none⟩ = some (.bool (F d))) :=
            fun W1 b1 b2 => ⟨by rw [b2.cell]; exact hnm d hdi, by rw [b1.cell]; exact mk_get hdi⟩
          have hfd := hf.drew
          have hcd := hc.drew
          have htd := ht.nob (Keep.nobdrew _)
          have hKd := hK.drew
          have hnr : gf ≠ r := hf.ne_ ht.row (by decide)
          have hnc : ga ≠ r := hc.ne_ ht.row (by decide)
          obtain ⟨F', hF'⟩ : ∃ F' : Nat → Bool, F' = fun j => if j = d then true else F j := ⟨_, rfl⟩
          have hset : (mk i (fun j => Value.bool (F j))).set d (.bool true) = mk i (fun j => .bool (F' j)) := mk_set _ (fun j hj => by rw [hF']; dsimp only; split <;> simp [*])
          cases hFd : F d with
          | false =>
            rw [hFd] at sf
            go_wp2_with fail
            go_region_held3 (fun w' => w'.cell? ⟨ga, d, none⟩ = some (.int .i64 (256 + (d : Int))) ∧ w'.cell? ⟨gf, d, none⟩ = some (.bool false))
              (first | exact sf _ hfd hcd | exact sf _ f1 c1)
              (first | (go_at_call 30; refine (dropI _ d ⟨1, true, [.int .i64 (d : Int)]⟩ (mk i (fl2 F')) htd (by rw [mk_get hdi]; simp [fl2, hFd]) rfl (by simp; omega) (show 1 ≤ 1000000 by decide) (mk_set _ (fun j hj => by rw [hF']; unfold fl2; by_cases e : j = d <;> simp [e]))).mono ?_; rintro e wb ⟨rfl, h2, k2, -⟩; have f1 := hfd.keep k2 hnr; have c1 := hcd.keep k2 hnc))
            have g1 := (sf _ f1 c1).2
            have g2 := f1.frozen d
            have f2 := f1.setCell d (.bool true)
            have kf : Keep (· = gf) wb (wb.setCell ⟨gf, d, none⟩ (.bool true)) := (Keep.refl _ wb).setCell _ _ (fun _ => rfl)
            rw [hset] at f2
            go_wp2_with fail
            go_roundw
            case rel => exact ⟨k + 1, F', by omega, by omega, by go_num, f2, c1.keep kf (fun e => hne e.symm), h2.far f1 (by decide) (by decide) kf, (hKd.at_ k2 hr).at_ kf hgf⟩
            case measure => simp [intOf]; omega
          | true =>
            rw [hFd] at sf
            go_wp2_with fail
            go_region_held3 (fun w' => w'.cell? ⟨ga, d, none⟩ = some (.int .i64 (256 + (d : Int))) ∧ w'.cell? ⟨gf, d, none⟩ = some (.bool true))
              (first | exact sf _ hfd hcd)
              (first | (go_at_call 30; refine (drop_no htd (fl2_no hFd)).mono ?_; rintro e wb ⟨rfl, rfl⟩))
            have g1 := (sf _ hfd hcd).2
            have g2 := hfd.frozen d
            have f2 := hfd.setCell d (.bool true)
            have kf : Keep (· = gf) wr.drew (wr.drew.setCell ⟨gf, d, none⟩ (.bool true)) := (Keep.refl _ _).setCell _ _ (fun _ => rfl)
            rw [hset] at f2
            have hFF : mk i (fl2 F) = mk i (fl2 F') := mk_congr (fun j hj => by rw [hF']; unfold fl2; by_cases e : j = d <;> simp [e, hFd])
            rw [hFF] at htd
            go_wp2_with fail
            go_roundw
            case rel => exact ⟨k + 1, F', by omega, by omega, by go_num, f2, hcd.keep kf (fun e => hne e.symm), htd.far hfd (by decide) (by decide) kf, hKd.at_ kf hgf⟩
            case measure => simp [intOf]; omega
        · have hout : n1 ≤ k ∨ (k < n1 ∧ 30 ≤ k) := by omega
          rw [show mk i (fl2 F) = mk i (fl3 F 0) from mk_congr (fun j hj => by simp [fl2, fl3])] at ht
          rcases hout with h1 | ⟨h1, h2⟩
          all_goals
            go_wp2_with fail
            go_loopw [15] (fun t wx => ∃ j : Nat, j ≤ i ∧ t = .int .i64 j ∧ Blk wx gf 4 (mk i (fun j => .bool (F j))) ∧ Tab wx p r (mk i (fl3 F j)) ∧ Keep (From w.heap.size) w wx) (fun t _ => i - (intOf t).toNat)
            case atStart => exact ⟨0, Nat.zero_le _, rfl, hf, ht, hK⟩
            case round =>
              obtain ⟨j, hj, rfl, hf, ht, hK⟩ := hrel
              by_cases hlt : j < i
              · have g1 : wr.cell? ⟨gf, j, none⟩ = some (.bool (F j)) := by rw [hf.cell]; exact mk_get hlt
                cases hFj : F j with
                | false =>
                  rw [hFj] at g1
                  rw [show mk i (fl3 F j) = mk i (fl3 F (j + 1)) from mk_congr (fun d hd => fl3_next (.inr hFj))] at ht
                  go_wp2_with fail
                  go_roundw
                  case rel => exact ⟨j + 1, by omega, by go_num, hf, ht, hK⟩
                  case measure => simp [intOf]; omega
                | true =>
                  rw [hFj] at g1
                  go_wp2_with fail
                  refine (addI j j ⟨2, false, [.int .i64 0]⟩ (512 + (j : Int)) (mk i (fl3 F (j + 1))) ht (by rw [mk_get hlt]; simp [fl3, hFj]) rfl (fun d q hd hq => by obtain ⟨_, rfl⟩ := mk_some hq; unfold fl3; cases F d <;> simp [hd, Pl.free]) (by simp; omega) (fl3_set hFj)).mono ?_
                  rintro e wb ⟨rfl, h2, k2, -⟩
                  go_wp2_with fail
                  go_roundw
                  case rel => exact ⟨j + 1, by omega, by go_num, hf.farB ht.row (by decide) k2, h2, hK.at_ k2 hr⟩
                  case measure => simp [intOf]; omega
              · obtain rfl : j = i := by omega
                have hon : ∀ d, d < j → (fl3 F j d).on = true := fun d hd => by unfold fl3; cases F d <;> simp [hd]
                go_wp2_with fail
                refine (add_no 7 ht (fun d q hq => by obtain ⟨hd, rfl⟩ := mk_some hq; exact free_is_off (hon d hd))).mono ?_; rintro e w' ⟨rfl, rfl⟩
                go_wp2_with fail
                refine (len_is j ht (by rw [mk_len, names_all j (Nat.le_refl _) hon, mk_len])).mono ?_; rintro e w' ⟨rfl, rfl⟩
                go_wp2_with fail
                refine (awake_true _).mono ?_; rintro e w' ⟨rfl, k9⟩
                go_wp2
                go_ret
                exact ⟨rfl, (hK.nob k9).done⟩
theorem TableLeast_walk (w : World) (a0 : Int) (w0 : (Lit.int .i64 a0).wf = true) (A1 : Option Addr) (n1 c1 : Nat) (x1 : Ty.den (.sl 8 (.int .i64))) (w1 : Holds w (.sl 8 (.int .i64)) x1 [.slice A1 n1 c1]) :
    Calls Try.prog 6 #[.int .i64 a0, .slice A1 n1 c1] w fun e w' => e = .returned (.bool true) ∧ Below w.heap.size w w' :=
  TableLeast_core w a0 A1 n1 c1 x1 w1 (a0 % 256).toNat _ (by rw [i64_and255]; omega) rfl
end Go.Proofs.Ytkokcamplhekaaa
