import Derived.Test.YtgcikpgcoemfnaaGreatRows
import Derived.BigQuiet
import Derived.WalkLawsBesides
import Derived.Deep.DeepCutAuto
import Derived.Deep.CutBlock
import Derived.Test.YtgcikpgcoemfnaaGreatPs3
set_option linter.unusedVariables false
set_option linter.unusedSimpArgs false
namespace Go.Proofs.YtgcikpgcoemfnaaGreat.Se
open Go.RowKit
structure Sec where
 lease : Int
 now : Int
 stamps : Int
 who : Int
 stamp : Int
 since : Int
 q : List Int
 first : Int
namespace Sec
def new (lease : Int) : Sec := ⟨min (max lease 1) 1000, -9223372036854775808, 0, 0, 0, 0, [], 0⟩
structure Ok (s : Sec) : Prop where
 l1 : 1 ≤ s.lease
 l2 : s.lease ≤ 1000
 n1 : -9223372036854775808 ≤ s.now
 n2 : s.now ≤ 9223372036854775807
 p0 : 0 ≤ s.stamps
 s0 : 0 ≤ s.stamp
 s1 : s.stamp ≤ s.stamps
 h1 : -9223372036854775808 ≤ s.since
 h2 : 0 < s.stamp → s.since ≤ s.now
 h3 : 0 < s.stamp → s.who ∉ s.q
 w1 : -9223372036854775808 ≤ s.first
 w2 : s.q ≠ [] → s.first ≤ s.now
 w3 : s.first ≤ 9223372036854775807
 h4 : s.since ≤ 9223372036854775807
 nd : s.q.Nodup
 rg : ∀ x ∈ s.q, 0 ≤ x ∧ x ≤ 99
 wr : 0 ≤ s.who ∧ s.who ≤ 99
end Sec
namespace Sec
variable {s : Sec}
theorem Ok.new (lease : Int) : (Sec.new lease).Ok :=
 ⟨by show 1 ≤ min (max lease 1) 1000; omega, by show min (max lease 1) 1000 ≤ 1000; omega, by simp [Sec.new], by simp [Sec.new], by simp [Sec.new], by simp [Sec.new], by simp [Sec.new], by simp [Sec.new], by simp [Sec.new], by simp [Sec.new], by simp [Sec.new], by simp [Sec.new], by simp [Sec.new], by simp [Sec.new], by simp [Sec.new], by simp [Sec.new], by simp [Sec.new]⟩
end Sec
structure IsSec (w : World) (p : Nat) (A : Option Addr) (cap : Nat) (s : Sec) : Prop where
 obj : Blk w p 360 [.int .i64 s.lease, .int .i64 s.now, .int .i64 s.stamps, .int .i64 s.who, .int .i64 s.stamp, .int .i64 s.since, .slice A s.q.length cap, .int .i64 s.first]
 row : Vec w 3 1 A s.q.length cap (ab s.q)
def SecB (p : Nat) (A : Option Addr) : Nat → Prop := fun k => k = p ∨ Own A k
section
variable {w w' : World} {p : Nat} {A : Option Addr} {cap : Nat} {s : Sec}
theorem IsSec.keep {M : Nat → Prop} (h : IsSec w p A cap s) (k : Keep M w w') (hp : ¬ M p) (hA : ∀ x, Own A x → ¬ M x) : IsSec w' p A cap s := ⟨h.obj.keep k hp, h.row.keep k hA⟩
theorem IsSec.nob (h : IsSec w p A cap s) (k : Keep Nob w w') : IsSec w' p A cap s := h.keep k (fun f => f) (fun _ _ f => f)
end
end Go.Proofs.YtgcikpgcoemfnaaGreat.Se
namespace Go.Proofs.YtgcikpgcoemfnaaGreat.Se
open Go.RowKit
theorem infointS : (Tryz.prog.info? 3).map (fun i => (i.zero, i.size, i.bytes)) = some (some (.int .i64 0), 1, 8) := by kernel_rfl
section
variable {w : World} {p : Nat} {A : Option Addr} {cap : Nat} {s : Sec}
theorem idx_bef {x : Int} {l : List Int} {k : Nat} (h : k < l.idxOf x) : (x == l.getD k 0) = false := by
 induction l generalizing k with
 | nil => simp at h
 | cons y l ih =>
  rw [List.idxOf_cons] at h
  by_cases e : y = x
  ·simp [e] at h
  ·have e2 : (y == x) = false := by simpa using e
   rw [e2] at h
   cases k with
   | zero => simp; exact fun e' => e e'.symm
   | succ k =>
    simp at h
    simpa using ih (k := k) (by omega)
theorem index_is {n c : Nat} {xs : List Int} {B : Option Addr} (hr : ae w B n (ab xs)) (hn : n ≤ 1000000) (x v : Int) (hv : (if x ∈ xs then ((xs.idxOf x : Nat) : Int) else -1) = v) :
  Calls Tryz.prog 321 #[.slice B n c, .int .i64 x] w fun e w' => e = .returned (.int .i64 v) ∧ w = w' := by
 have hl : xs.length = n := by have := hr.1; rwa [dd] at this
 rcases Nat.eq_zero_or_pos n with rfl | h0
 ·obtain rfl : xs = [] := List.eq_nil_of_length_eq_zero hl
  simp at hv
  subst hv
  go_enter Tryz.func321, Tryz.ntmps321
  go_wp2
  go_loop [8] (fun s => s = .int .i64 0) (fun _ => 0)
  case atStart => rfl
  case round =>
   subst hrel
   go_wp2
   go_ret
   exact ⟨rfl, rfl⟩
 ·obtain ⟨b, off, rfl, hc⟩ := hr.lit h0
  have hcell : ∀ j, j < n → w.cell? ⟨b, off + j, none⟩ = some (.int .i64 (xs.getD j 0)) := fun j hj => hc j _ (by rw [bg, List.getD_eq_getElem?_getD, List.getElem?_eq_getElem (by omega)]; rfl)
  have hbef : ∀ j, j < xs.idxOf x → (x == xs.getD j 0) = false := fun j hj => idx_bef hj
  have hle : xs.idxOf x ≤ n := by rw [← hl]; exact List.idxOf_le_length
  have hat : xs.idxOf x < n → (x == xs.getD (xs.idxOf x) 0) = true := fun hlt => by
   rw [List.getD_eq_getElem?_getD, List.getElem?_eq_getElem (by omega)]
   simp
  have hv2 : v = if xs.idxOf x < n then ((xs.idxOf x : Nat) : Int) else -1 := by
   rw [← hv]
   by_cases hm : x ∈ xs
   ·rw [if_pos hm, if_pos (by rw [← hl]; exact List.idxOf_lt_length_of_mem hm)]
   ·rw [if_neg hm, if_neg (by rw [← hl]; exact fun h => hm (by
     have := List.getElem_idxOf h
     rw [← this]
     exact List.getElem_mem _))]
  generalize xs.idxOf x = k at *
  have HV := aa hv2
  have HC := aa hcell
  have HB := aa hbef
  have HA := aa hat
  clear hv2 hv hcell hbef hat hc hr
  go_enter Tryz.func321, Tryz.ntmps321
  go_wp2
  go_loop [8] (fun s => ∃ j : Nat, j ≤ k ∧ s = .int .i64 j) (fun s => k - (intOf s).toNat)
  case atStart => exact ⟨0, Nat.zero_le _, rfl⟩
  case round =>
   obtain ⟨j, hj, rfl⟩ := hrel
   by_cases h : j < k
   ·have hj2 : j < n := by omega
    have hc := HC.out j hj2
    have hb := HB.out j h
    generalize xs.getD j 0 = y at hc hb
    go_wp2
    go_round
    case rel => exact ⟨j + 1, by omega, by go_num⟩
    case measure => simp [intOf]; omega
   ·obtain rfl : j = k := by omega
    by_cases hlt : j < n
    ·have hc := HC.out j hlt
     have hb := HA.out hlt
     generalize xs.getD j 0 = y at hc hb
     have e := HV.out
     rw [if_pos hlt] at e
     subst e
     go_wp2
     go_ret
     exact ⟨rfl, rfl⟩
    ·have e := HV.out
     rw [if_neg hlt] at e
     subst e
     go_wp2
     go_ret
     exact ⟨rfl, rfl⟩
theorem contains_is {n c : Nat} {xs : List Int} {B : Option Addr} (hr : ae w B n (ab xs)) (hn : n ≤ 1000000) (x : Int) (v : Bool) (hv : decide (x ∈ xs) = v) :
  Calls Tryz.prog 264 #[.slice B n c, .int .i64 x] w fun e w' => e = .returned (.bool v) ∧ w = w' := by
 subst hv
 by_cases hm : x ∈ xs
 ·rw [decide_eq_true hm]
  go_enter Tryz.func264, Tryz.ntmps264
  go_wp2_with fail
  refine (index_is hr hn x _ (if_pos hm)).mono ?_; rintro e w' ⟨rfl, rfl⟩
  go_wp2
  go_ret
  exact ⟨rfl, rfl⟩
 ·rw [decide_eq_false hm]
  go_enter Tryz.func264, Tryz.ntmps264
  go_wp2_with fail
  refine (index_is hr hn x _ (if_neg hm)).mono ?_; rintro e w' ⟨rfl, rfl⟩
  go_wp2
  go_ret
  exact ⟨rfl, rfl⟩
theorem _root_.Go.Proofs.YtgcikpgcoemfnaaGreat.Keep.setCells {M : Nat → Prop} {w0 : World} {g : Nat} : ∀ (vs : List Value) (o : Nat) (w : World), Keep M w0 w → (g < w0.heap.size → M g) → Keep M w0 (w.setCells g o vs)
 | [], _, _, h, _ => h
 | v :: r, o, w, h, hm => Keep.setCells r (o + 1) _ (h.setCell _ v hm) hm
end
end Go.Proofs.YtgcikpgcoemfnaaGreat.Se
namespace Go.Proofs.YtgcikpgcoemfnaaGreat.Se
open Go.RowKit
section
variable {w : World} {p : Nat} {A : Option Addr} {cap : Nat} {s : Sec}
theorem new_sec (lease : Int) : Calls Tryz.prog 159 #[.int .i64 lease] w fun e w' => ∃ p, e = .returned (.pointer (some ⟨p, 0, none⟩)) ∧ IsSec w' p none 0 (Sec.new lease) ∧ w.heap.size ≤ p ∧ Keep Nob w w' := by
 have fin : ∀ l, min (max lease 1) 1000 = l → IsSec (w.alloc (.cells #[.int .i64 l, .int .i64 (-9223372036854775808), .int .i64 0, .int .i64 0, .int .i64 0, .int .i64 0, .slice none 0 0, .int .i64 0] 360)) w.heap.size none 0 (Sec.new lease) := fun l hl => by
  unfold Sec.new
  rw [hl]
  exact ⟨Blk.new w 360 _, Vec.nil _ _ _⟩
 by_cases h1 : lease < 1
 ·go_enter Tryz.func159, Tryz.ntmps159
  go_wp2
  go_ret
  exact ⟨_, rfl, fin 1 (by omega), Nat.le_refl _, (Keep.refl Nob w).alloc _⟩
 ·by_cases h2 : 1000 < lease
  ·go_enter Tryz.func159, Tryz.ntmps159
   go_wp2
   go_ret
   exact ⟨_, rfl, fin 1000 (by omega), Nat.le_refl _, (Keep.refl Nob w).alloc _⟩
  ·go_enter Tryz.func159, Tryz.ntmps159
   go_wp2
   go_ret
   exact ⟨_, rfl, fin lease (by omega), Nat.le_refl _, (Keep.refl Nob w).alloc _⟩
end
end Go.Proofs.YtgcikpgcoemfnaaGreat.Se
namespace Go.Proofs.YtgcikpgcoemfnaaGreat.Se
open Go.RowKit
section
variable {w : World} {p : Nat} {A : Option Addr} {cap : Nat} {s : Sec}
theorem clone_is {xs : List Int} {n c : Nat} {B : Option Addr} (hr : ae w B n (ab xs)) (hn : n ≤ 1000000) :
  Calls Tryz.prog 154 #[.slice B n c] w fun e w' => ∃ A' c', e = .returned (.slice A' n c') ∧ Vec w' 3 1 A' n c' (ab xs) ∧ (∀ k, Own A' k → w.heap.size ≤ k) ∧ Keep Nob w w' := by
 have hl : xs.length = n := by have := hr.1; rwa [dd] at this
 have hnil := fun (w : World) (a : Option Addr) (n c n' c' : Nat) => Lib.run_eql_slice_nil (P := Tryz.prog) w 42 3 a n c n' c' Tryz.underlying42
 by_cases hB : B = none
 ·subst hB
  have h0 : n = 0 := by
   rcases Nat.eq_zero_or_pos n with h | h
   ·exact h
   ·obtain ⟨ad, e, _⟩ := hr.2 h
    cases e
  subst h0
  obtain rfl : xs = [] := List.eq_nil_of_length_eq_zero hl
  go_enter Tryz.func154, Tryz.ntmps154
  go_wp2
  go_ret
  exact ⟨none, 0, rfl, Vec.nil _ _ _, (fun k ⟨a, ha, _⟩ => by cases ha), Keep.refl _ _⟩
 ·obtain ⟨ad, rfl⟩ := Option.ne_none_iff_exists'.1 hB
  have hv1 : Vec (w.alloc (.cells #[] 3)) 3 1 (some ⟨w.heap.size, 0, none⟩) 0 0 [] := Vec.of_blk (Blk.new w 3 []) rfl (by decide)
  have hr1 := hr.nob ((Keep.refl Nob w).alloc (.cells #[] 3))
  go_enter Tryz.func154, Tryz.ntmps154
  go_wp2_with (at_builtin; go_loud (refine aN rfl _ _ 42 rfl 3 1 8 (.int .i64 0) Tryz.underlying42 infointS rfl (by decide) (some ⟨w.heap.size, 0, none⟩) 0 0 [] rfl hv1 (some ad) n c (ab xs) rfl _ (Nat.mul_one _) hr1 (dz xs) (by unfold maxLen; omega) (by omega) ?_; intro A2 c2 w2 hv2 hk2 ho2))
  go_wp2
  go_ret
  refine ⟨A2, c2, by simp, by simpa using hv2, fun k hk => ?_, ?_⟩
  ·rcases ho2 k hk with ⟨a, ha, hb⟩ | m
   ·cases ha; exact Nat.le_of_eq hb
   ·rw [m]; simp
  ·exact (((Keep.refl Nob w).alloc _).trans hk2 (fun x hx ⟨a, ha, hb⟩ => by cases ha; dsimp only at hb; omega))
section
variable {w0 w' : World}
end
end
end Go.Proofs.YtgcikpgcoemfnaaGreat.Se
