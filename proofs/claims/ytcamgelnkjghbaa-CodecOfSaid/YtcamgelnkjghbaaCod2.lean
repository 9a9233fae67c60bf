/- Package codec: Decode by the functions that the laws hand over; what a closure keeps of what is encoded. -/
import Derived.Test.YtcamgelnkjghbaaCod1
import Derived.Deep.DeepCutAuto
import Derived.Deep.RegionHeld3
namespace Go.Proofs.Ytcamgelnkjghbaa
open Go.RowKit
set_option linter.unusedVariables false
set_option linter.unusedSimpArgs false
theorem sizei_is (p k : Nat) (u v : Value) (w : World) (hb : Blk w p 51 [.int .i64 k, u, v]) : Calls Try.prog 23 #[.pointer (some ⟨p, 0, none⟩)] w fun e w' => e = .returned (.int .i64 k) ∧ w = w' := by
  have c0 : w.cell? ⟨p, 0, none⟩ = some (.int .i64 k) := hb.cell 0
  go_enter Try.func23, Try.ntmps23
  go_wp2
  go_ret
  exact ⟨rfl, rfl⟩
theorem sizes_is (p k : Nat) (u v : Value) (w : World) (hb : Blk w p 53 [.int .i64 k, u, v]) : Calls Try.prog 24 #[.pointer (some ⟨p, 0, none⟩)] w fun e w' => e = .returned (.int .i64 k) ∧ w = w' := by
  have c0 : w.cell? ⟨p, 0, none⟩ = some (.int .i64 k) := hb.cell 0
  go_enter Try.func24, Try.ntmps24
  go_wp2
  go_ret
  exact ⟨rfl, rfl⟩
set_option maxHeartbeats 1000000 in
theorem deci_yes (p k : Nat) (F : Fn) (a b : Array Value) (A : Option Addr) (n cap : Nat) (l : List UInt8) (w : World) (hb : Blk w p 51 [.int .i64 k, .func F a b, .func (.func 19) #[] #[]]) (hn : n = k) (hk : k ≤ 64) (h2 : 2 ≤ k) (hr : Reads w A n (bytes l)) (v : Int) (hv : num l 0 = v) :
    Calls Try.prog 26 #[.pointer (some ⟨p, 0, none⟩), .slice A n cap] w fun e w' => e = .returned (.tuple #[.int .i64 v, .bool true]) ∧ Keep Nob w w' := by
  subst hn
  have c2 : w.cell? ⟨p, 2, none⟩ = some (.func (.func 19) #[] #[]) := hb.cell 2
  have c0 : w.cell? ⟨p, 0, none⟩ = some (.int .i64 n) := hb.cell 0
  have hnil := fnil2
  have HV := Lib.hid hv
  clear hv
  go_enter Try.func26, Try.ntmps26
  go_wp2_with fail
  have kd : Keep Nob w w.drew := Keep.nobdrew w
  have cd : w.drew.cell? ⟨p, 2, none⟩ = some (.func (.func 19) #[] #[]) := c2
  have HB := Lib.hid hb
  go_region_held3 (fun w' => w'.cell? ⟨p, 2, none⟩ = some (.func (.func 19) #[] #[]) ∧ w'.cell? ⟨p, 2, none⟩ = some (.func (.func 19) #[] #[])) (first | exact ⟨cd, cd⟩ | exact ⟨(HB.out.nob (kd.nobt k1)).cell 2, (HB.out.nob (kd.nobt k1)).cell 2⟩ | exact ⟨(HB.out.nob ((kd.nobt k1).nobt k2)).cell 2, (HB.out.nob ((kd.nobt k1).nobt k2)).cell 2⟩)
    (first | (go_at_call 34; refine (clone_is A n cap l _ (hr.nob kd) (by omega)).mono ?_; rintro e w1 ⟨A', c', rfl, v1, k1, o1⟩) | (go_at_call 19; refine (of2_is _ _ _ l _ (by have := v1.reads; rwa [Nat.mul_one] at this) (by omega) true (by simp; omega) v (by rw [if_pos rfl]; exact HV.out)).mono ?_; rintro e w2 ⟨rfl, k2⟩))
  have fin := (kd.nobt k1).nobt k2
  go_wp2
  go_ret2
  exact ⟨rfl, fin⟩
theorem of4_is (A : Option Addr) (n c : Nat) (l : List UInt8) (w : World) (hr : Reads w A n (bytes l)) (hn : n ≤ 1000) (v : Bool) (hv : (decide (0 < n) && !(l.getD 0 0 == 9)) = v) :
    Calls Try.prog 22 #[.slice A n c] w fun e w' => e = .returned (.tuple #[.string (str l), .bool v]) ∧ Keep Nob w w' := by
  have s0 := fun m c => run_str (P := Try.prog) (w.drewN m) 22 9 5 A n c l Try.underlying22 Try.underlying5 Try.underlying9 (hr.nob ((Keep.refl Nob w).drewN m))
  have s1 := fun c => run_str (P := Try.prog) w 22 9 5 A n c l Try.underlying22 Try.underlying5 Try.underlying9 hr
  have hl : l.length = n := by simpa using hr.1
  rcases Nat.eq_zero_or_pos n with rfl | h0
  · obtain rfl : v = false := by rw [← hv]; rfl
    clear hv hr
    generalize str l = V at *
    go_enter Try.func22, Try.ntmps22
    go_wp2_with fail
    go_quiet (fail)
    go_wp2
    go_ret2
    exact ⟨rfl, (Keep.refl Nob w).drewN _⟩
  · obtain ⟨b, off, rfl, hc⟩ := hr.lit h0
    have hc0 := hc 0 _ (bytes_getD (by omega))
    rw [Nat.add_zero] at hc0
    have hn0 : (0 : Int) < (n : Int) := by omega
    have hd : ((((l.getD 0 0).toNat : Int)) != 9) = v := by
      rw [← hv, decide_eq_true h0, Bool.true_and, Bool.eq_iff_iff]
      simp only [bne_iff_ne, ne_eq, Bool.not_eq_true', beq_eq_false_iff_ne]
      exact not_congr ⟨fun e => UInt8.toNat_inj.1 (by rw [show (l.getD 0 0).toNat = 9 from by omega]; rfl), fun e => by rw [e]; rfl⟩
    clear hv hr hc
    generalize str l = V at *
    generalize l.getD 0 0 = x at *
    go_enter Try.func22, Try.ntmps22
    go_wp2_with fail
    go_quiet (fail)
    go_wp2
    go_ret2
    exact ⟨rfl, (Keep.refl Nob w).drewN _⟩
set_option maxHeartbeats 1000000 in
theorem decs_is (p k : Nat) (F : Fn) (a b : Array Value) (A : Option Addr) (n cap : Nat) (l : List UInt8) (w : World) (hb : Blk w p 53 [.int .i64 k, .func F a b, .func (.func 22) #[] #[]]) (hn : n = k) (hk : k ≤ 64) (hr : Reads w A n (bytes l)) (v : Bool) (hv : (decide (0 < n) && !(l.getD 0 0 == 9)) = v) (s : List UInt8) (hs : (if v then l else []) = s) :
    Calls Try.prog 28 #[.pointer (some ⟨p, 0, none⟩), .slice A n cap] w fun e w' => e = .returned (.tuple #[.string (str s), .bool v]) ∧ Keep Nob w w' := by
  subst hn
  have c2 : w.cell? ⟨p, 2, none⟩ = some (.func (.func 22) #[] #[]) := hb.cell 2
  have c0 : w.cell? ⟨p, 0, none⟩ = some (.int .i64 n) := hb.cell 0
  have hnil := fnil4
  have HV := Lib.hid hv
  have HS := Lib.hid hs
  clear hv hs
  go_enter Try.func28, Try.ntmps28
  go_wp2_with fail
  have kd : Keep Nob w w.drew := Keep.nobdrew w
  have cd : w.drew.cell? ⟨p, 2, none⟩ = some (.func (.func 22) #[] #[]) := c2
  have HB := Lib.hid hb
  go_region_held3 (fun w' => w'.cell? ⟨p, 2, none⟩ = some (.func (.func 22) #[] #[]) ∧ w'.cell? ⟨p, 2, none⟩ = some (.func (.func 22) #[] #[])) (first | exact ⟨cd, cd⟩ | exact ⟨(HB.out.nob (kd.nobt k1)).cell 2, (HB.out.nob (kd.nobt k1)).cell 2⟩ | exact ⟨(HB.out.nob ((kd.nobt k1).nobt k2)).cell 2, (HB.out.nob ((kd.nobt k1).nobt k2)).cell 2⟩)
    (first | (go_at_call 34; refine (clone_is A n cap l _ (hr.nob kd) (by omega)).mono ?_; rintro e w1 ⟨A', c', rfl, v1, k1, o1⟩) | (go_at_call 22; refine (of4_is _ _ _ l _ (by have := v1.reads; rwa [Nat.mul_one] at this) (by omega) v HV.out).mono ?_; rintro e w2 ⟨rfl, k2⟩))
  have fin := (kd.nobt k1).nobt k2
  cases v with
  | true =>
    rw [if_pos rfl] at HS
    obtain rfl := HS.out
    go_wp2
    go_ret2
    exact ⟨rfl, fin⟩
  | false =>
    rw [if_neg (by simp)] at HS
    obtain rfl := HS.out
    go_wp2
    go_ret2
    exact ⟨rfl, fin⟩
end Go.Proofs.Ytcamgelnkjghbaa
