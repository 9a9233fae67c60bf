/- The walk of TableValues: what is set is got, under that name alone, of whatever type it is. -/
import Derived.Test.YtkokcamplhekaaaLaw2b
import Derived.Test.YtkokcamplhekaaaTabP
import Derived.Test.YtkokcamplhekaaaTabF
import Derived.Deep.DeepCutAuto
import Derived.Laws.StructEq
import Derived.Deep.CutBlock
namespace Go.Proofs.Ytkokcamplhekaaa
open Go.RowKit
theorem holds_int {w : World} {wd : Nat} {A : Option Addr} {n c : Nat} {xs : List Int} (h : Holds w (.sl wd (.int .i64)) xs [.slice A n c]) {k : Nat} (hk : k < n) :
    ∃ b off, A = some ⟨b, off, none⟩ ∧ w.cell? ⟨b, off + k, none⟩ = some (.int .i64 (xs.getD k 0)) := by
  obtain ⟨b, off, cs', rfl, hl, hc, hk', hh⟩ := holds_at (e := .int .i64) h (by decide) hk
  obtain ⟨rfl, _⟩ := hh
  have := hc 0 _ rfl
  rw [show (Ty.int .i64).size = 1 from rfl, Nat.mul_one, Nat.add_zero] at this
  refine ⟨b, off, rfl, ?_⟩
  rw [this]
  have e : List.get (α := Int) xs ⟨k, hk'⟩ = xs.getD k 0 := by
    have hk2 : k < List.length (α := Int) xs := hk'
    simp [List.getD_eq_getElem?_getD, hk2]
  exact congrArg (fun z => some (Value.int .i64 z)) e
/-- The closure that captured the variable in block c. -/
def clo (c : Nat) : Value := .func (.func 12) #[] #[.pointer (some ⟨c, 0, none⟩)]
theorem clo_call (c : Nat) (x : Int) (w : World) (h : w.cell? ⟨c, 0, none⟩ = some (.int .i64 x)) : Calls Try.prog 12 #[.pointer (some ⟨c, 0, none⟩)] w fun e w' => e = .returned (.int .i64 x) ∧ w = w' := by
  go_enter Try.func12, Try.ntmps12
  go_wp2
  go_ret
  exact ⟨rfl, rfl⟩
theorem clo_quiet (c : Nat) (x : Int) (w : World) (n : Nat) (h : w.cell? ⟨c, 0, none⟩ = some (.int .i64 x)) : Calls Try.prog 12 #[.pointer (some ⟨c, 0, none⟩)] (w.drewN n) fun e w' => e = .returned (.int .i64 x) ∧ ∃ m, w' = w.drewN m :=
  (clo_call c x (w.drewN n) h).mono fun e w' ⟨h1, h2⟩ => ⟨h1, n, h2.symm⟩
/-- The places of the pairs, and those of the functions, behind i adds. -/
def fp1 (l : List Int) (i j : Nat) : Pl := if j < i then ⟨1, true, [.int .i64 (j : Int), .int .i64 (l.getD j 0)]⟩ else ⟨1, false, [.int .i64 0, .int .i64 0]⟩
def ff1 (c : Nat → Nat) (i j : Nat) : Pl := if j < i then ⟨1, true, [clo (c j)]⟩ else ⟨1, false, [.nilFunc]⟩
theorem addP {p r : Nat} {w : World} {L : List Pl} (x y : Int) (i : Nat) (q : Pl) (v : Int) (L' : List Pl) (h : TabP.Tab w p r L) (hq : L[i]? = some q) (hf : q.free = true) (hb : ∀ (j : Nat) (q : Pl), j < i → L[j]? = some q → q.free = false) (hv : (i : Int) + 256 * (q.gen : Int) = v) (hL : L.set i ⟨q.gen, true, [.int .i64 x, .int .i64 y]⟩ = L') :
    Calls Try.prog 10 #[.pointer (some ⟨p, 0, none⟩), .agg #[.int .i64 x, .int .i64 y]] w fun e w' => e = .returned (.tuple #[.int .i64 v, .bool true]) ∧ TabP.Tab w' p r L' ∧ Keep (· = r) w w' := by
  subst hv hL
  exact TabP.add_yes x y h hq hf hb
theorem addF {p r : Nat} {w : World} {L : List Pl} (c i : Nat) (q : Pl) (v : Int) (L' : List Pl) (h : TabF.Tab w p r L) (hq : L[i]? = some q) (hf : q.free = true) (hb : ∀ (j : Nat) (q : Pl), j < i → L[j]? = some q → q.free = false) (hv : (i : Int) + 256 * (q.gen : Int) = v) (hL : L.set i ⟨q.gen, true, [clo c]⟩ = L') :
    Calls Try.prog 11 #[.pointer (some ⟨p, 0, none⟩), .func (.func 12) #[] #[.pointer (some ⟨c, 0, none⟩)]] w fun e w' => e = .returned (.tuple #[.int .i64 v, .bool true]) ∧ TabF.Tab w' p r L' ∧ Keep (· = r) w w' := by
  subst hv hL
  exact (TabF.add_yes (.func 12) #[] #[.pointer (some ⟨c, 0, none⟩)] h hq hf hb).mono fun e w' ⟨h1, h2, h3, _⟩ => ⟨h1, h2, h3⟩
theorem fp1_set (l : List Int) {i : Nat} : (mk 50 (fp1 l i)).set i ⟨1, true, [.int .i64 (i : Int), .int .i64 (l.getD i 0)]⟩ = mk 50 (fp1 l (i + 1)) := by
  refine mk_set _ (fun j hj => ?_)
  unfold fp1
  by_cases e : j = i
  · subst e; simp
  · have : (j < i) = (j < i + 1) := by simp; omega
    simp [e, this]
theorem ff1_set (c : Nat → Nat) {i g : Nat} : (mk 50 (ff1 c i)).set i ⟨1, true, [clo g]⟩ = mk 50 (ff1 (fun j => if j = i then g else c j) (i + 1)) := by
  refine mk_set _ (fun j hj => ?_)
  unfold ff1
  by_cases e : j = i
  · subst e; simp
  · have : (j < i) = (j < i + 1) := by simp; omega
    simp [e, this]
/-- Two pairs are the same where both numbers are. -/
theorem pair_eq (x y x' y' : Int) (b : Bool) (hb : (x == x' && y == y') = b) (w : World) : (Op.equalIn 10000 25 (.agg #[.int .i64 x, .int .i64 y]) (.agg #[.int .i64 x', .int .i64 y'])).run Try.prog w = .ok b w := by
  have hi := Try.underlying3
  have hg := Try.isAgg3
  have hs := Try.sizeOf3
  subst hb
  show (Op.equalIn (9999 + 1) _ _ _).run Try.prog w = _
  unfold Op.equalIn
  simp only [run_underlying Try.underlying25, Sem.run_bind, Result.andThen_ok, Std.Legacy.Range.forIn_eq_forIn_range', Nat.sub_zero, Std.Legacy.Range.size, Nat.div_one, Nat.add_sub_cancel, List.range'_zero, List.range'_succ, List.forIn_nil, List.forIn_cons]
  go_simp
  rcases Decidable.em (x = x') with h | h <;> rcases Decidable.em (y = y') with h' | h' <;> simp [h, h']
theorem fnil (f : Fn) (a b : Array Value) (w : World) : (binOp .eql 28 (.func f a b) .nilFunc).run Try.prog w = .ok (.bool false) w := by
  have := Try.underlying28
  first
  | (rfl; done)
  | (go_simp; done)
/-- .. behind the set and the drop. -/
def fp2 (l : List Int) (n a : Nat) (v : Int) (j : Nat) : Pl := if j < n then ⟨1, true, if j = a then [.int .i64 (-1), .int .i64 v] else [.int .i64 (j : Int), .int .i64 (l.getD j 0)]⟩ else ⟨1, false, [.int .i64 0, .int .i64 0]⟩
def fp3 (l : List Int) (n a : Nat) (v : Int) (d j : Nat) : Pl := if j = d then ⟨2, false, [.int .i64 0, .int .i64 0]⟩ else fp2 l n a v j
theorem fp2_set (l : List Int) {n a : Nat} (v : Int) (h : a < n) : (mk 50 (fp1 l n)).set a ⟨1, true, [.int .i64 (-1), .int .i64 v]⟩ = mk 50 (fp2 l n a v) := by
  refine mk_set _ (fun j hj => ?_)
  unfold fp1 fp2
  by_cases e : j = a
  · subst e; simp [h]
  · simp [e]
theorem fp3_set (l : List Int) {n a d : Nat} (v : Int) : (mk 50 (fp2 l n a v)).set d ⟨2, false, [.int .i64 0, .int .i64 0]⟩ = mk 50 (fp3 l n a v d) := mk_set _ (fun j hj => rfl)
theorem cnt_mk {N : Nat} (f : Nat → Pl) {k : Nat} (h : k < N) (b : Bool) (hb : (f k).on = b) : cnt (mk N f) (k + 1) = cnt (mk N f) k + (if b then 1 else 0) := by
  subst hb
  rw [cnt, mk_get h]
theorem fp3_cnt (l : List Int) {n a d : Nat} (v : Int) (h0 : 0 < n) (hn : n ≤ 40) (hd : d < n) : (((names (mk 50 (fp3 l n a v d)) (mk 50 (fp3 l n a v d)).length).length : Nat) : Int) = (n : Int) - 1 := by
  have h : ∀ k, k ≤ 50 → (k ≤ d → cnt (mk 50 (fp3 l n a v d)) k = k) ∧ (d < k → k ≤ n → cnt (mk 50 (fp3 l n a v d)) k + 1 = k) ∧ (n ≤ k → cnt (mk 50 (fp3 l n a v d)) k + 1 = n) := by
    intro k
    induction k with
    | zero => intro _; exact ⟨fun _ => rfl, fun h => absurd h (by omega), fun h => absurd h (by omega)⟩
    | succ k ih =>
      intro hk
      obtain ⟨h1, h2, h3⟩ := ih (by omega)
      by_cases e : k = d
      · rw [cnt_mk _ (by omega) false (by unfold fp3; rw [if_pos e])]
        have := h1 (by omega)
        refine ⟨fun h => absurd h (by omega), fun _ _ => ?_, fun _ => ?_⟩ <;> (simp; omega)
      · by_cases hkn : k < n
        · rw [cnt_mk _ (by omega) true (by unfold fp3 fp2; rw [if_neg e, if_pos hkn])]
          simp only [if_true]
          refine ⟨fun h => by have := h1 (by omega); omega, fun h h' => by have := h2 (by omega) (by omega); omega, fun h => by have := h2 (by omega) (by omega); omega⟩
        · rw [cnt_mk _ (by omega) false (by unfold fp3 fp2; rw [if_neg e, if_neg hkn])]
          simp only [Bool.false_eq_true, if_false]
          refine ⟨fun h => by omega, fun h h' => by omega, fun h => by have := h3 (by omega); omega⟩
  rw [names_cnt, mk_len]
  have := (h 50 (Nat.le_refl _)).2.2 (by omega)
  omega
theorem ff1_cnt (c : Nat → Nat) {n : Nat} (hn : n ≤ 40) : (((names (mk 50 (ff1 c n)) (mk 50 (ff1 c n)).length).length : Nat) : Int) = n := by
  have h : ∀ k, k ≤ 50 → (k ≤ n → cnt (mk 50 (ff1 c n)) k = k) ∧ (n ≤ k → cnt (mk 50 (ff1 c n)) k = n) := by
    intro k
    induction k with
    | zero => intro _; exact ⟨fun _ => rfl, fun h => by rw [show n = 0 from by omega]; rfl⟩
    | succ k ih =>
      intro hk
      obtain ⟨h1, h2⟩ := ih (by omega)
      by_cases hkn : k < n
      · rw [cnt_mk _ (by omega) true (by unfold ff1; rw [if_pos hkn])]
        simp only [if_true]
        exact ⟨fun h => by have := h1 (by omega); omega, fun h => by have := h1 (by omega); omega⟩
      · rw [cnt_mk _ (by omega) false (by unfold ff1; rw [if_neg hkn])]
        simp only [Bool.false_eq_true, if_false]
        exact ⟨fun h => by omega, fun h => by have := h2 (by omega); omega⟩
  rw [names_cnt, mk_len, (h 50 (Nat.le_refl _)).2 (by omega)]
theorem fp3_no (l : List Int) {n a d : Nat} (v : Int) (hd : d < 50) (i : Nat) (q : Pl) (hq : (mk 50 (fp3 l n a v d))[i]? = some q) (ho : q.on = true) : 256 + (d : Int) ≠ i + 256 * (q.gen : Int) := by
  obtain ⟨hi, rfl⟩ := mk_some hq
  unfold fp3 fp2 at ho ⊢
  by_cases e : i = d
  · rw [if_pos e] at ho; cases ho
  · rw [if_neg e] at ho ⊢
    split at ho
    · rename_i h
      rw [if_pos h]
      simp
      omega
    · cases ho
set_option maxRecDepth 100000 in
set_option maxHeartbeats 32000000 in
theorem TableValues_core (w : World) (A0 : Option Addr) (n0 c0 : Nat) (x0 : List Int) (w0 : Holds w (.sl 8 (.int .i64)) x0 [.slice A0 n0 c0]) (at' v drop : Int) (n : Nat) (hn : min n0 40 = n) (h0 : 0 < n) (m1 m2 : Nat) (hm1 : bits .and .i64 at' 65535 = m1) (hm2 : bits .and .i64 drop 65535 = m2) :
    Calls Try.prog 3 #[.slice A0 n0 c0, .int .i64 at', .int .i64 v, .int .i64 drop] w fun e w' => e = .returned (.bool true) ∧ Below w.heap.size w w' := by
  have hn40 : n ≤ 40 := by omega
  have hnn : n ≤ n0 := by omega
  have hmin : (n0 ≤ 40 ∧ n = n0) ∨ (40 < n0 ∧ n = 40) := by omega
  have hz : ((n : Int) == 0) = false := by rw [beq_eq_false_iff_ne]; omega
  clear hn
  go_enter Try.func3, Try.ntmps3
  go_upto_region 1 with fail
  go_cut [9] (fun s9 wx => s9 = .int .i64 n ∧ wx = w)
  case first =>
    clear hz hnn hn40
    rcases hmin with ⟨h, rfl⟩ | ⟨h, rfl⟩
    all_goals
      go_wp2_with fail
      go_meet
      exact ⟨rfl, rfl⟩
  case rest =>
  obtain ⟨rfl, hw⟩ := hcut
  have hw := hw.symm
  subst hw
  clear hmin
  go_wp2_with fail
  refine (TabP.new_is _ 50 (by omega) _).mono ?_; rintro e wa ⟨p, r, rfl, h1, hp, hr, k1⟩
  have K1 := (Keep.refl (From w.heap.size) w).nob k1
  go_wp2_with fail
  refine (TabF.new_is _ 50 (by omega) _).mono ?_; rintro e wb ⟨p2, r2, rfl, h2, hp2, hr2, k2⟩
  have K2 := K1.nob k2
  have h1b := h1.nob k2
  have hr2' : w.heap.size ≤ r2 := by have := K1.size; omega
  rw [mk_rep, show (fun _ : Nat => (⟨1, false, [.int .i64 0, .int .i64 0]⟩ : Pl)) = fp1 x0 0 from by funext j; simp [fp1]] at h1b
  rw [mk_rep, show (fun _ : Nat => (⟨1, false, [.nilFunc]⟩ : Pl)) = ff1 (fun _ => 0) 0 from by funext j; simp [ff1]] at h2
  go_wp2_with fail
  go_loopw [12, 13] (fun s t wx => ∃ (i : Nat) (c : Nat → Nat) (A : Option Addr) (cap : Nat), i ≤ n ∧ t = .int .i64 i ∧ s = .slice A i cap ∧ Vec wx 3 1 A i cap (ints (mk i (fun j => 256 + (j : Int)))) ∧ TabP.Tab wx p r (mk 50 (fp1 x0 i)) ∧ TabF.Tab wx p2 r2 (mk 50 (ff1 c i)) ∧ (∀ j, j < i → Blk wx (c j) 3 [.int .i64 (x0.getD j 0)] ∧ w.heap.size ≤ c j ∧ ¬ Own A (c j)) ∧ Keep (From w.heap.size) w wx ∧ (∀ g, Own A g → w.heap.size ≤ g)) (fun _ t _ => n - (intOf t).toNat)
  case atStart => exact ⟨0, fun _ => 0, none, 0, Nat.zero_le _, rfl, rfl, Vec.nil _ _ _, h1b, h2, fun j hj => absurd hj (by omega), K2, fun g ⟨a, ha, _⟩ => by cases ha⟩
  case round =>
    obtain ⟨i, c, A, cap, hi, rfl, rfl, hv, ht, hu, hc, hK, hA⟩ := hrel
    by_cases hlt : i < n
    · obtain ⟨b, off, rfl, hx⟩ := holds_int w0 (show i < n0 by omega)
      have hxr := hK.cell_from hx
      have i50 : i < 50 := by omega
      go_wp2_with fail
      refine (addP i (x0.getD i 0) i ⟨1, false, [.int .i64 0, .int .i64 0]⟩ (256 + (i : Int)) (mk 50 (fp1 x0 (i + 1))) ht (by rw [mk_get i50]; simp [fp1]) rfl (fun j q hj hq => by obtain ⟨_, rfl⟩ := mk_some hq; simp [fp1, hj, Pl.free]) (by simp; omega) (fp1_set x0)).mono ?_
      rintro e wc ⟨rfl, h3, k3⟩
      have hK3 := hK.at_ k3 hr
      have hxc := hK3.cell_from hx
      have hv3 := hv.far ht.row (by decide) k3
      have hu3 := hu.far ht.row (by decide) (by decide) k3
      have a4 := (Keep.refl Nob wc).alloc (.cells #[.int .i64 (x0.getD i 0)] 3)
      have hgc : ∃ gc, Hid (wc.heap.size = gc) := ⟨_, rfl⟩
      obtain ⟨gc, hgc⟩ := hgc
      have hb4 := Blk.new wc 3 [.int .i64 (x0.getD i 0)]
      rw [hgc.out] at hb4
      go_wp2_with fail
      rw [hgc.out]
      refine (addF gc i ⟨1, false, [.nilFunc]⟩ (256 + (i : Int)) (mk 50 (ff1 (fun j => if j = i then gc else c j) (i + 1))) (hu3.nob a4) (by rw [mk_get i50]; simp [ff1]) rfl (fun j q hj hq => by obtain ⟨_, rfl⟩ := mk_some hq; simp [ff1, hj, Pl.free]) (by simp; omega) (ff1_set c)).mono ?_
      rintro e wd ⟨rfl, h4, k4⟩
      have hK4 := (hK3.alloc (.cells #[.int .i64 (x0.getD i 0)] 3)).at_ k4 hr2'
      have hv4 := (hv3.nob a4).far (hu3.nob a4).row (by decide) k4
      have hp4 := (h3.nob a4).far (hu3.nob a4).row (by decide) (by decide) k4
      have hb4 := hb4.farB (hu3.nob a4).row (by decide) k4
      have hgw : w.heap.size ≤ gc := by rw [← hgc.out]; exact hK3.size
      have hlt4 := hb4.lt
      have hcA : ∀ g, Own A g → g < gc := fun g hg => by rw [← hgc.out]; exact hv3.lt g hg
      have hc4 : ∀ j, j < i → Blk wd (c j) 3 [.int .i64 (x0.getD j 0)] := fun j hj => (((hc j hj).1.farB ht.row (by decide) k3).nob a4).farB (hu3.nob a4).row (by decide) k4
      go_wp2_with (at_builtin; go_loud (refine wpList_ap rfl _ _ 22 rfl 3 1 8 (.int .i64 0) Try.underlying22 infoint rfl (by decide) A i cap _ rfl (hv4.nob ((Keep.refl Nob wd).alloc _)) (some ⟨wd.heap.size, 0, none⟩) 1 1 [.int .i64 (256 + (i : Int))] rfl _ (Nat.mul_one _) (reads_all (Blk.new wd 3 [.int .i64 (256 + (i : Int))]) rfl) (by simp [Value.oneCell']) (by unfold maxLen; omega) (by omega) ?_); intro A' cap' we hve hke hoe)
      have e1 : ints (mk i (fun j => 256 + (j : Int))) ++ [.int .i64 (256 + (i : Int))] = ints (mk (i + 1) (fun j => 256 + (j : Int))) := by rw [← mk_succ, ints_append]; rfl
      rw [e1] at hve
      have a5 := (Keep.refl Nob wd).alloc (.cells #[.int .i64 (256 + (i : Int))] 3)
      have hv5 := hv4.nob a5
      go_roundw
      case rel =>
        refine ⟨i + 1, _, A', cap', by omega, by go_num, rfl, hve, (hp4.nob a5).farV hv5 (by decide) (by decide) hke, (h4.nob a5).farV hv5 (by decide) (by decide) hke, fun j hj => ?_, (hK4.alloc _).trans hke (fun b hb ho => hA b ho), fun g hg => ?_⟩
        · by_cases e : j = i
          · subst e
            rw [if_pos rfl]
            refine ⟨(hb4.nob a5).keep hke (fun ho => by have := hcA _ ho; omega), hgw, fun ho => ?_⟩
            rcases hoe _ ho with h1 | h1
            · have := hcA _ h1; omega
            · simp at h1; omega
          · rw [if_neg e]
            obtain ⟨hj1, hj2, hj3⟩ := hc j (by omega)
            refine ⟨((hc4 j (by omega)).nob a5).keep hke hj3, hj2, fun ho => ?_⟩
            rcases hoe _ ho with h1 | h1
            · exact hj3 h1
            · have := (hc4 j (by omega)).lt; simp at h1; omega
        · rcases hoe g hg with h1 | h1
          · exact hA g h1
          · rw [h1]; have := hK4.size; simp; omega
      case measure => simp [intOf]; omega
    · obtain rfl : i = n := by omega
      obtain ⟨ga, cur, rfl, hcur, _, _, hct⟩ := hv.at_ (by omega)
      have hga : w.heap.size ≤ ga := hA ga ⟨_, rfl, rfl⟩
      have hnm : ∀ d, d < i → cur[d]? = some (.int .i64 (256 + (d : Int))) := fun d hd => by
        have := congrArg (·[d]?) hct
        simp only [Nat.mul_one] at this
        rw [List.getElem?_take, if_pos hd, ints_get, mk_get hd] at this
        exact this
      obtain ⟨a, ha⟩ : ∃ a : Nat, m1 % i = a := ⟨_, rfl⟩
      obtain ⟨d, hd⟩ : ∃ d : Nat, m2 % i = d := ⟨_, rfl⟩
      have hai : a < i := by rw [← ha]; exact Nat.mod_lt _ h0
      have hdi : d < i := by rw [← hd]; exact Nat.mod_lt _ h0
      have ha1 : (m1 : Int) % (i : Int) = a := by rw [← ha]; exact (Int.natCast_emod m1 i).symm
      have ha2 : (m1 : Int).tmod (i : Int) = a := by rw [Int.tmod_eq_emod_of_nonneg (by omega)]; exact ha1
      have hd1 : (m2 : Int) % (i : Int) = d := by rw [← hd]; exact (Int.natCast_emod m2 i).symm
      have hd2 : (m2 : Int).tmod (i : Int) = d := by rw [Int.tmod_eq_emod_of_nonneg (by omega)]; exact hd1
      clear ha hd hct hA hv
      have n0' : ((i : Int) == 0) = false := by rw [beq_eq_false_iff_ne]; omega
      go_wp2_with fail
      go_region
      have cu1 : wr.drew.cell? ⟨ga, a, none⟩ = some (.int .i64 (256 + (a : Int))) := by rw [hcur.drew.cell]; exact hnm a hai
      have hpd := ht.nob (Keep.nobdrew wr)
      have hud := hu.nob (Keep.nobdrew wr)
      have hKd := hK.drew
      have hcd := hcur.drew
      have hcw : ∀ j, j < i → Blk wr.drew (c j) 3 [.int .i64 (x0.getD j 0)] := fun j hj => (hc j hj).1.drew
      clear hc
      generalize wr.drew = wf at *
      go_wp2_with fail
      refine (TabP.set_yes (i := a) (q := fp1 x0 i a) (-1) v hpd (mk_get (by omega)) (by simp [fp1, hai]) (by simp [fp1, hai]; omega)).mono ?_; rintro e wg ⟨rfl, h5, k5⟩
      rw [show (fp1 x0 i a).gen = 1 from by simp [fp1, hai], fp2_set x0 v hai] at h5
      have hcg := hcd.farB hpd.row (by decide) k5
      have cu2 : wg.cell? ⟨ga, d, none⟩ = some (.int .i64 (256 + (d : Int))) := by rw [hcg.cell]; exact hnm d hdi
      go_wp2_with fail
      refine (TabP.drop_yes (i := d) (q := fp2 x0 i a v d) h5 (mk_get (by omega)) (by simp [fp2, hdi]) (by simp [fp2, hdi]; omega) (by simp [fp2, hdi])).mono ?_; rintro e wh ⟨rfl, h6, k6, -⟩
      rw [show (fp2 x0 i a v d).gen + 1 = 2 from by simp [fp2, hdi], fp3_set x0 v] at h6
      have hch := hcg.farB h5.row (by decide) k6
      have cu3 : wh.cell? ⟨ga, d, none⟩ = some (.int .i64 (256 + (d : Int))) := by rw [hch.cell]; exact hnm d hdi
      go_wp2_with fail
      refine (TabP.set_no 0 0 h6 (fp3_no x0 v (by omega))).mono ?_; rintro e wi ⟨rfl, k7⟩
      have h7 := h6.nob k7
      have hci := hch.nob k7
      have hKi := ((hKd.at_ k5 hr).at_ k6 hr).nob k7
      have hui := ((hud.far hpd.row (by decide) (by decide) k5).far h5.row (by decide) (by decide) k6).nob k7
      have hcc : ∀ j, j < i → Blk wi (c j) 3 [.int .i64 (x0.getD j 0)] := fun j hj => (((hcw j hj).farB hpd.row (by decide) k5).farB h5.row (by decide) k6).nob k7
      clear hcw hpd hud hKd hcd h5 k5 hcg cu1 cu2 cu3 k6 hch h6 k7 ht hu hcur
      go_wp2_with fail
      go_loopw [19] (fun t wx => ∃ k : Nat, k ≤ i ∧ t = .int .i64 k ∧ Keep Nob wi wx) (fun t _ => i - (intOf t).toNat)
      case atStart => exact ⟨0, Nat.zero_le _, rfl, Keep.refl _ _⟩
      case round =>
        obtain ⟨k, hk, rfl, kw⟩ := hrel
        have h8 := h7.nob kw
        have hc8 := hci.nob kw
        have hK8 := hKi.nob kw
        have hu8 := hui.nob kw
        by_cases hlt : k < i
        · have cu : wr.cell? ⟨ga, k, none⟩ = some (.int .i64 (256 + (k : Int))) := by rw [hc8.cell]; exact hnm k hlt
          obtain ⟨b, off, rfl, hx⟩ := holds_int w0 (show k < n0 by omega)
          have hck := (hcc k hlt).nob kw
          have hgk : (mk 50 (ff1 c i))[k]? = some ⟨1, true, [clo (c k)]⟩ := by rw [mk_get (by omega)]; simp [ff1, hlt]
          have hpk : (mk 50 (fp3 x0 i a v d))[k]? = some (if k = d then ⟨2, false, [.int .i64 0, .int .i64 0]⟩ else ⟨1, true, if k = a then [.int .i64 (-1), .int .i64 v] else [.int .i64 (k : Int), .int .i64 (x0.getD k 0)]⟩) := by rw [mk_get (by omega)]; simp [fp3, fp2, hlt]
          have hno := fp3_no x0 (n := i) (a := a) (d := d) v (by omega)
          generalize hL : mk 50 (fp3 x0 i a v d) = LP at h8 hpk hno
          generalize x0.getD k 0 = lv at hx hck hpk
          clear hL
          by_cases hkd : k = d
          · subst hkd
            by_cases hka : k = a
            · subst hka
              go_wp2_with fail
              refine (TabP.get_no h8 hno).mono ?_; rintro e wj ⟨rfl, kj⟩
              obtain ⟨gj, hgj⟩ : ∃ gj, Hid (wj.heap.size = gj) := ⟨_, rfl⟩
              have a6 := (Keep.refl Nob wj).alloc (.cells #[.int .i64 0, .int .i64 0] 25)
              have cu2 : (wj.alloc (.cells #[.int .i64 0, .int .i64 0] 25)).cell? ⟨ga, k, none⟩ = some (.int .i64 (256 + (k : Int))) := by rw [((hc8.nob kj).nob a6).cell]; exact hnm k hlt
              have hx2 : (wj.alloc (.cells #[.int .i64 0, .int .i64 0] 25)).cell? ⟨b, off + k, none⟩ = some (.int .i64 lv) := ((hK8.nob kj).nob a6).cell_from hx
              go_wp2_with fail
              rw [hgj.out]
              refine (TabF.get_yes (i := k) (a := 256 + (k : Int)) (q := ⟨1, true, [clo (c k)]⟩) (.func (.func 12) #[] #[.pointer (some ⟨c k, 0, none⟩)]) ((hu8.nob kj).nob a6) hgk rfl (by simp; omega) rfl).mono ?_; rintro e w' ⟨rfl, rfl⟩
              go_wp2_with fail
              have b20 : Blk ((wj.alloc (.cells #[.int .i64 0, .int .i64 0] 25)).alloc (.cells #[.int .i64 (-1), .int .i64 v] 25)) gj 25 [.int .i64 0, .int .i64 0] := by rw [← hgj.out]; exact (Blk.new wj _ [.int .i64 0, .int .i64 0]).alloc _
              have b24 := Blk.new (wj.alloc (.cells #[.int .i64 0, .int .i64 0] 25)) 25 [.int .i64 (-1), .int .i64 v]
              rw [show (wj.alloc (.cells #[.int .i64 0, .int .i64 0] 25)).heap.size = wj.heap.size + 1 from by simp] at b24
              have a7 := ((Keep.refl Nob wj).alloc (.cells #[.int .i64 0, .int .i64 0] 25)).alloc (.cells #[.int .i64 (-1), .int .i64 v] 25)
              generalize hwz : (wj.alloc (.cells #[.int .i64 0, .int .i64 0] 25)).alloc (.cells #[.int .i64 (-1), .int .i64 v] 25) = wz at b20 b24 a7 ⊢
              generalize wj.heap.size + 1 = g24 at b24 ⊢
              clear cu2 hx2 a6 hwz hgj
              have kz := (kw.nobt (kj.nobt a7))
              have hxz : wz.cell? ⟨b, off + k, none⟩ = some (.int .i64 lv) := (hKi.nob kz).cell_from hx
              have hcz : wz.cell? ⟨c k, 0, none⟩ = some (.int .i64 lv) := ((hck.nob kj).nob a7).cell 0
              have d0 : wz.cell? ⟨gj, 0, none⟩ = some (.int .i64 0) := b20.cell 0
              have d1 : wz.cell? ⟨gj, 1, none⟩ = some (.int .i64 0) := b20.cell 1
              have e0 : wz.cell? ⟨g24, 0, none⟩ = some (.int .i64 (-1)) := b24.cell 0
              have e1 : wz.cell? ⟨g24, 1, none⟩ = some (.int .i64 v) := b24.cell 1
              have pe := pair_eq 0 0 0 0 true (by simp)
              have fe := fnil (.func 12) #[] #[.pointer (some ⟨c k, 0, none⟩)]
              clear b20 b24 hck hcc hx cu hno
              go_quiet (first | (go_at_call 12; exact clo_quiet (c k) lv wz _ hcz))
              go_wp2_with fail
              go_roundw
              case rel => exact ⟨k + 1, by omega, by go_num, kz.drewN _⟩
              case measure => simp [intOf]; omega
            · have t2 : ((k : Int) == (a : Int)) = false := by rw [beq_eq_false_iff_ne]; omega
              go_wp2_with fail
              refine (TabP.get_no h8 hno).mono ?_; rintro e wj ⟨rfl, kj⟩
              obtain ⟨gj, hgj⟩ : ∃ gj, Hid (wj.heap.size = gj) := ⟨_, rfl⟩
              have a6 := (Keep.refl Nob wj).alloc (.cells #[.int .i64 0, .int .i64 0] 25)
              have cu2 : (wj.alloc (.cells #[.int .i64 0, .int .i64 0] 25)).cell? ⟨ga, k, none⟩ = some (.int .i64 (256 + (k : Int))) := by rw [((hc8.nob kj).nob a6).cell]; exact hnm k hlt
              have hx2 : (wj.alloc (.cells #[.int .i64 0, .int .i64 0] 25)).cell? ⟨b, off + k, none⟩ = some (.int .i64 lv) := ((hK8.nob kj).nob a6).cell_from hx
              go_wp2_with fail
              rw [hgj.out]
              refine (TabF.get_yes (i := k) (a := 256 + (k : Int)) (q := ⟨1, true, [clo (c k)]⟩) (.func (.func 12) #[] #[.pointer (some ⟨c k, 0, none⟩)]) ((hu8.nob kj).nob a6) hgk rfl (by simp; omega) rfl).mono ?_; rintro e w' ⟨rfl, rfl⟩
              go_wp2_with fail
              have b20 : Blk ((wj.alloc (.cells #[.int .i64 0, .int .i64 0] 25)).alloc (.cells #[.int .i64 (k : Int), .int .i64 lv] 25)) gj 25 [.int .i64 0, .int .i64 0] := by rw [← hgj.out]; exact (Blk.new wj _ [.int .i64 0, .int .i64 0]).alloc _
              have b24 := Blk.new (wj.alloc (.cells #[.int .i64 0, .int .i64 0] 25)) 25 [.int .i64 (k : Int), .int .i64 lv]
              rw [show (wj.alloc (.cells #[.int .i64 0, .int .i64 0] 25)).heap.size = wj.heap.size + 1 from by simp] at b24
              have a7 := ((Keep.refl Nob wj).alloc (.cells #[.int .i64 0, .int .i64 0] 25)).alloc (.cells #[.int .i64 (k : Int), .int .i64 lv] 25)
              generalize hwz : (wj.alloc (.cells #[.int .i64 0, .int .i64 0] 25)).alloc (.cells #[.int .i64 (k : Int), .int .i64 lv] 25) = wz at b20 b24 a7 ⊢
              generalize wj.heap.size + 1 = g24 at b24 ⊢
              clear cu2 hx2 a6 hwz hgj
              have kz := (kw.nobt (kj.nobt a7))
              have hxz : wz.cell? ⟨b, off + k, none⟩ = some (.int .i64 lv) := (hKi.nob kz).cell_from hx
              have hcz : wz.cell? ⟨c k, 0, none⟩ = some (.int .i64 lv) := ((hck.nob kj).nob a7).cell 0
              have d0 : wz.cell? ⟨gj, 0, none⟩ = some (.int .i64 0) := b20.cell 0
              have d1 : wz.cell? ⟨gj, 1, none⟩ = some (.int .i64 0) := b20.cell 1
              have e0 : wz.cell? ⟨g24, 0, none⟩ = some (.int .i64 (k : Int)) := b24.cell 0
              have e1 : wz.cell? ⟨g24, 1, none⟩ = some (.int .i64 lv) := b24.cell 1
              have pe := pair_eq 0 0 0 0 true (by simp)
              have fe := fnil (.func 12) #[] #[.pointer (some ⟨c k, 0, none⟩)]
              clear b20 b24 hck hcc hx cu hno
              go_quiet (first | (go_at_call 12; exact clo_quiet (c k) lv wz _ hcz))
              go_wp2_with fail
              go_roundw
              case rel => exact ⟨k + 1, by omega, by go_num, kz.drewN _⟩
              case measure => simp [intOf]; omega
          · rw [if_neg hkd] at hpk
            have t0 : ((k : Int) == (d : Int)) = false := by rw [beq_eq_false_iff_ne]; omega
            have t1 : ((k : Int) != (d : Int)) = true := by rw [bne, t0]; rfl
            by_cases hka : k = a
            · subst hka
              rw [if_pos rfl] at hpk
              go_wp2_with fail
              refine (TabP.get_yes (i := k) (a := 256 + (k : Int)) _ _ h8 hpk rfl (by simp; omega) rfl).mono ?_; rintro e wj ⟨rfl, kj⟩
              obtain ⟨gj, hgj⟩ : ∃ gj, Hid (wj.heap.size = gj) := ⟨_, rfl⟩
              have a6 := (Keep.refl Nob wj).alloc (.cells #[.int .i64 (-1), .int .i64 v] 25)
              have cu2 : (wj.alloc (.cells #[.int .i64 (-1), .int .i64 v] 25)).cell? ⟨ga, k, none⟩ = some (.int .i64 (256 + (k : Int))) := by rw [((hc8.nob kj).nob a6).cell]; exact hnm k hlt
              have hx2 : (wj.alloc (.cells #[.int .i64 (-1), .int .i64 v] 25)).cell? ⟨b, off + k, none⟩ = some (.int .i64 lv) := ((hK8.nob kj).nob a6).cell_from hx
              go_wp2_with fail
              rw [hgj.out]
              refine (TabF.get_yes (i := k) (a := 256 + (k : Int)) (q := ⟨1, true, [clo (c k)]⟩) (.func (.func 12) #[] #[.pointer (some ⟨c k, 0, none⟩)]) ((hu8.nob kj).nob a6) hgk rfl (by simp; omega) rfl).mono ?_; rintro e w' ⟨rfl, rfl⟩
              go_wp2_with fail
              have b20 : Blk ((wj.alloc (.cells #[.int .i64 (-1), .int .i64 v] 25)).alloc (.cells #[.int .i64 (-1), .int .i64 v] 25)) gj 25 [.int .i64 (-1), .int .i64 v] := by rw [← hgj.out]; exact (Blk.new wj _ [.int .i64 (-1), .int .i64 v]).alloc _
              have b24 := Blk.new (wj.alloc (.cells #[.int .i64 (-1), .int .i64 v] 25)) 25 [.int .i64 (-1), .int .i64 v]
              rw [show (wj.alloc (.cells #[.int .i64 (-1), .int .i64 v] 25)).heap.size = wj.heap.size + 1 from by simp] at b24
              have a7 := ((Keep.refl Nob wj).alloc (.cells #[.int .i64 (-1), .int .i64 v] 25)).alloc (.cells #[.int .i64 (-1), .int .i64 v] 25)
              generalize hwz : (wj.alloc (.cells #[.int .i64 (-1), .int .i64 v] 25)).alloc (.cells #[.int .i64 (-1), .int .i64 v] 25) = wz at b20 b24 a7 ⊢
              generalize wj.heap.size + 1 = g24 at b24 ⊢
              clear cu2 hx2 a6 hwz hgj
              have kz := (kw.nobt (kj.nobt a7))
              have hxz : wz.cell? ⟨b, off + k, none⟩ = some (.int .i64 lv) := (hKi.nob kz).cell_from hx
              have hcz : wz.cell? ⟨c k, 0, none⟩ = some (.int .i64 lv) := ((hck.nob kj).nob a7).cell 0
              have d0 : wz.cell? ⟨gj, 0, none⟩ = some (.int .i64 (-1)) := b20.cell 0
              have d1 : wz.cell? ⟨gj, 1, none⟩ = some (.int .i64 v) := b20.cell 1
              have e0 : wz.cell? ⟨g24, 0, none⟩ = some (.int .i64 (-1)) := b24.cell 0
              have e1 : wz.cell? ⟨g24, 1, none⟩ = some (.int .i64 v) := b24.cell 1
              have pe := pair_eq (-1) v (-1) v true (by simp)
              have fe := fnil (.func 12) #[] #[.pointer (some ⟨c k, 0, none⟩)]
              clear b20 b24 hck hcc hx cu hno
              go_quiet (first | (go_at_call 12; exact clo_quiet (c k) lv wz _ hcz))
              go_wp2_with fail
              go_roundw
              case rel => exact ⟨k + 1, by omega, by go_num, kz.drewN _⟩
              case measure => simp [intOf]; omega
            · have t2 : ((k : Int) == (a : Int)) = false := by rw [beq_eq_false_iff_ne]; omega
              rw [if_neg hka] at hpk
              go_wp2_with fail
              refine (TabP.get_yes (i := k) (a := 256 + (k : Int)) _ _ h8 hpk rfl (by simp; omega) rfl).mono ?_; rintro e wj ⟨rfl, kj⟩
              obtain ⟨gj, hgj⟩ : ∃ gj, Hid (wj.heap.size = gj) := ⟨_, rfl⟩
              have a6 := (Keep.refl Nob wj).alloc (.cells #[.int .i64 (k : Int), .int .i64 lv] 25)
              have cu2 : (wj.alloc (.cells #[.int .i64 (k : Int), .int .i64 lv] 25)).cell? ⟨ga, k, none⟩ = some (.int .i64 (256 + (k : Int))) := by rw [((hc8.nob kj).nob a6).cell]; exact hnm k hlt
              have hx2 : (wj.alloc (.cells #[.int .i64 (k : Int), .int .i64 lv] 25)).cell? ⟨b, off + k, none⟩ = some (.int .i64 lv) := ((hK8.nob kj).nob a6).cell_from hx
              go_wp2_with fail
              rw [hgj.out]
              refine (TabF.get_yes (i := k) (a := 256 + (k : Int)) (q := ⟨1, true, [clo (c k)]⟩) (.func (.func 12) #[] #[.pointer (some ⟨c k, 0, none⟩)]) ((hu8.nob kj).nob a6) hgk rfl (by simp; omega) rfl).mono ?_; rintro e w' ⟨rfl, rfl⟩
              go_wp2_with fail
              have b20 : Blk ((wj.alloc (.cells #[.int .i64 (k : Int), .int .i64 lv] 25)).alloc (.cells #[.int .i64 (k : Int), .int .i64 lv] 25)) gj 25 [.int .i64 (k : Int), .int .i64 lv] := by rw [← hgj.out]; exact (Blk.new wj _ [.int .i64 (k : Int), .int .i64 lv]).alloc _
              have b24 := Blk.new (wj.alloc (.cells #[.int .i64 (k : Int), .int .i64 lv] 25)) 25 [.int .i64 (k : Int), .int .i64 lv]
              rw [show (wj.alloc (.cells #[.int .i64 (k : Int), .int .i64 lv] 25)).heap.size = wj.heap.size + 1 from by simp] at b24
              have a7 := ((Keep.refl Nob wj).alloc (.cells #[.int .i64 (k : Int), .int .i64 lv] 25)).alloc (.cells #[.int .i64 (k : Int), .int .i64 lv] 25)
              generalize hwz : (wj.alloc (.cells #[.int .i64 (k : Int), .int .i64 lv] 25)).alloc (.cells #[.int .i64 (k : Int), .int .i64 lv] 25) = wz at b20 b24 a7 ⊢
              generalize wj.heap.size + 1 = g24 at b24 ⊢
              clear cu2 hx2 a6 hwz hgj
              have kz := (kw.nobt (kj.nobt a7))
              have hxz : wz.cell? ⟨b, off + k, none⟩ = some (.int .i64 lv) := (hKi.nob kz).cell_from hx
              have hcz : wz.cell? ⟨c k, 0, none⟩ = some (.int .i64 lv) := ((hck.nob kj).nob a7).cell 0
              have d0 : wz.cell? ⟨gj, 0, none⟩ = some (.int .i64 (k : Int)) := b20.cell 0
              have d1 : wz.cell? ⟨gj, 1, none⟩ = some (.int .i64 lv) := b20.cell 1
              have e0 : wz.cell? ⟨g24, 0, none⟩ = some (.int .i64 (k : Int)) := b24.cell 0
              have e1 : wz.cell? ⟨g24, 1, none⟩ = some (.int .i64 lv) := b24.cell 1
              have pe := pair_eq (k : Int) lv (k : Int) lv true (by simp)
              have fe := fnil (.func 12) #[] #[.pointer (some ⟨c k, 0, none⟩)]
              clear b20 b24 hck hcc hx cu hno
              go_quiet (first | (go_at_call 12; exact clo_quiet (c k) lv wz _ hcz))
              go_wp2_with fail
              go_roundw
              case rel => exact ⟨k + 1, by omega, by go_num, kz.drewN _⟩
              case measure => simp [intOf]; omega
        · obtain rfl : k = i := by omega
          go_wp2_with fail
          refine (TabP.len_is ((k : Int) - 1) h8 (fp3_cnt x0 v h0 hn40 hdi)).mono ?_; rintro e w' ⟨rfl, rfl⟩
          go_wp2_with fail
          refine (TabF.len_is (k : Int) hu8 (ff1_cnt c hn40)).mono ?_; rintro e w' ⟨rfl, rfl⟩
          go_wp2_with fail
          refine (awake_true _).mono ?_; rintro e w' ⟨rfl, k9⟩
          go_wp2
          go_ret
          exact ⟨rfl, (hK8.nob k9).done⟩
set_option maxRecDepth 100000 in
set_option maxHeartbeats 4000000 in
theorem TableValues_none (w : World) (A0 : Option Addr) (c0 : Nat) (at' v drop : Int) :
    Calls Try.prog 3 #[.slice A0 0 c0, .int .i64 at', .int .i64 v, .int .i64 drop] w fun e w' => e = .returned (.bool true) ∧ Below w.heap.size w w' := by
  go_enter Try.func3, Try.ntmps3
  go_wp2_with fail
  refine (TabP.new_is _ 50 (by omega) _).mono ?_; rintro e wa ⟨p, r, rfl, h1, hp, hr, k1⟩
  have K1 := (Keep.refl (From w.heap.size) w).nob k1
  go_wp2_with fail
  refine (TabF.new_is _ 50 (by omega) _).mono ?_; rintro e wb ⟨p2, r2, rfl, h2, hp2, hr2, k2⟩
  have K2 := K1.nob k2
  go_wp2_with fail
  refine (awake_true _).mono ?_; rintro e w' ⟨rfl, k9⟩
  go_wp2
  go_ret
  exact ⟨rfl, (K2.nob k9).done⟩
theorem TableValues_walk (w : World) (A0 : Option Addr) (n0 c0 : Nat) (x0 : Ty.den (.sl 8 (.int .i64))) (w0 : Holds w (.sl 8 (.int .i64)) x0 [.slice A0 n0 c0]) (a1 : Int) (_ : (Lit.int .i64 a1).wf = true) (a2 : Int) (_ : (Lit.int .i64 a2).wf = true) (a3 : Int) (_ : (Lit.int .i64 a3).wf = true) :
    Calls Try.prog 3 #[.slice A0 n0 c0, .int .i64 a1, .int .i64 a2, .int .i64 a3] w fun e w' => e = .returned (.bool true) ∧ Below w.heap.size w w' := by
  rcases Nat.eq_zero_or_pos n0 with rfl | h
  · exact TableValues_none w A0 c0 a1 a2 a3
  · exact TableValues_core w A0 n0 c0 x0 w0 a1 a2 a3 (min n0 40) rfl (by omega) (a1 % 65536).toNat (a3 % 65536).toNat (by rw [i64_and65535]; omega) (by rw [i64_and65535]; omega)
end Go.Proofs.Ytkokcamplhekaaa
