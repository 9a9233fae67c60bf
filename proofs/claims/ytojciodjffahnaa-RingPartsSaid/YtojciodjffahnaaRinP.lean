/- Package ring: ahead, Bytes, Put. -/
import Derived.Test.YtojciodjffahnaaRinQ
import Derived.BigRegion
import Derived.Deep.RegionHeld3
import Derived.Deep.CutBlock
namespace Go.Proofs.Ytojciodjffahnaa.Ri
open Go.RowKit
set_option linter.unusedVariables false
set_option linter.unusedSimpArgs false
/-- A row of bytes that a call has made. -/
def Row (w : World) (A : Option Addr) (l : List UInt8) : Prop := Reads w A l.length (bytes l) ∧ ∀ ad, A = some ad → ∃ cs, Blk w ad.block 5 cs
theorem Row.nob {w w' : World} {A : Option Addr} {l : List UInt8} (h : Row w A l) (k : Keep Nob w w') : Row w' A l :=
  ⟨h.1.nob k, fun ad e => by obtain ⟨cs, hc⟩ := h.2 ad e; exact ⟨cs, hc.nob k⟩⟩
/-- A pipe that is turned does not turn it. -/
theorem Row.far {w w' : World} {A : Option Addr} {l : List UInt8} {g : Nat} {cs : List Value} (h : Row w A l) (k : Keep (· = g) w w') (hg : Blk w g 26 cs) : Row w' A l := by
  have hm : ∀ ad, A = some ad → ad.block ≠ g := fun ad e => by
    obtain ⟨cs, hc⟩ := h.2 ad e
    exact hc.ne_ hg (by decide)
  exact ⟨h.1.keep k hm, fun ad e => by obtain ⟨cs, hc⟩ := h.2 ad e; exact ⟨cs, hc.keep k (hm ad e)⟩⟩
theorem Row.fresh {w w' : World} {A : Option Addr} {l : List UInt8} (h : Row w A l) (k : Keep (· = w.heap.size) w w') : Row w' A l := by
  have hm : ∀ ad, A = some ad → ad.block ≠ w.heap.size := fun ad e => by
    obtain ⟨cs, hc⟩ := h.2 ad e
    exact Nat.ne_of_lt hc.lt
  exact ⟨h.1.keep k hm, fun ad e => by obtain ⟨cs, hc⟩ := h.2 ad e; exact ⟨cs, hc.keep k (hm ad e)⟩⟩
/-- What a call tells: a row of bytes, wherever it lies. -/
def Gives (w : World) (l : List UInt8) (x : Value) : Prop := ∃ A c, x = .slice A l.length c ∧ l.length ≤ c ∧ Row w A l
theorem Gives.nob {w w' : World} {l : List UInt8} {x : Value} (h : Gives w l x) (k : Keep Nob w w') : Gives w' l x := by
  obtain ⟨A, c, h1, h2, h3⟩ := h
  exact ⟨A, c, h1, h2, h3.nob k⟩
theorem Gives.nil_ (w : World) : Gives w [] (.slice none 0 0) := ⟨none, 0, rfl, Nat.le_refl _, Reads.nil_ w none, fun ad e => by cases e⟩
/-- The rows of ahead: the first k bytes are there, the others noughts. -/
def part_ (d : List UInt8) (s n k : Nat) : List UInt8 := ahd d s k ++ List.replicate (n - k) 0
theorem part_len {d : List UInt8} {s n k : Nat} (h : k ≤ n) : (part_ d s n k).length = n := by simp [part_, ahd_len]; omega
theorem part_zero (d : List UInt8) (s n : Nat) : part_ d s n 0 = List.replicate n 0 := by simp [part_, ahd]
theorem part_all (d : List UInt8) (s n : Nat) : part_ d s n n = ahd d s n := by simp [part_]
theorem part_set {d : List UInt8} {s n k : Nat} (h : k < n) : (part_ d s n k).set k (d.getD ((s + k) % 32) 0) = part_ d s n (k + 1) := by
  unfold part_
  rw [List.set_append_right _ _ (by rw [ahd_len]; exact Nat.le_refl _), ahd_len, Nat.sub_self, ahd_succ, show n - k = (n - (k + 1)) + 1 from by omega, List.replicate_succ, List.set_cons_zero, List.append_assoc]
  rfl
set_option maxHeartbeats 4000000 in
theorem ahead_is (p : Pp) (hl : p.d.length = 32) (hh : 0 ≤ p.h ∧ p.h ≤ 31) (n : Nat) (hn : n ≤ 32) (w : World) :
    Calls Try.prog 22 #[pv p, .int .i64 (n : Int)] w fun e w' => ∃ g, e = .returned (.slice (some ⟨g, 0, none⟩) n n) ∧ Blk w' g 5 (bytes (ahd p.d p.h.toNat n)) ∧ Keep Nob w w' := by
  have HL := Lib.hid hl
  have HP := Lib.hid (fun (k : Nat) (m : Int) (hk : k ≤ 32) (hm : (p.h + (k : Int)) % 32 = m) w => place_is p k m hh (by omega) hm w)
  have HH := Lib.hid hh
  unfold pv at HP ⊢
  clear hl hh
  go_enter Try.func22, Try.ntmps22
  go_wp2_with (first | (refine wpList_box rfl 26 _ rfl _ rfl ?_; intro w1 hb hk hs; clear hs; have hb : Blk w1 w.heap.size 26 (pc p) := hb) | (refine wpList_mk rfl _ _ 22 rfl 5 (.int .u8 0) 1 Try.underlying22 Try.info5 rfl .i64 .i64 n _ rfl rfl rfl (by omega) (by omega) ?_; intro w2 hr2 hk2 hs2; clear hs2))
  have hb2 := hb.nob hk2
  have hK2 := hk.nobt hk2
  have hne : w.heap.size ≠ w1.heap.size := by have := hb.lt; omega
  have hge : w.heap.size ≤ w1.heap.size := hk.size
  rw [← bytes_replicate, ← part_zero p.d p.h.toNat n] at hr2
  clear hb hk hk2
  generalize w1.heap.size = g at *
  go_loopw [11] (fun s11 wx => ∃ k : Nat, k ≤ n ∧ s11 = .int .i64 k ∧ Blk wx g 5 (bytes (part_ p.d p.h.toNat n k)) ∧ Blk wx w.heap.size 26 (pc p) ∧ Keep Nob w wx) (fun s11 _ => n - (intOf s11).toNat)
  case atStart => exact ⟨0, Nat.zero_le _, rfl, hr2, hb2, hK2⟩
  case round =>
    obtain ⟨k, hk, rfl, hr3, hb3, hK3⟩ := hrel
    clear hr2 hb2 hK2
    by_cases hlt : k < n
    · obtain ⟨m, hm⟩ : ∃ m : Int, (p.h + (k : Int)) % 32 = m := ⟨_, rfl⟩
      obtain ⟨j, hj⟩ : ∃ j : Nat, m = (j : Int) := ⟨m.toNat, by omega⟩
      have hh := HH.out
      have hj2 : (p.h.toNat + k) % 32 = j := by omega
      have hset := part_set (d := p.d) (s := p.h.toNat) hlt
      rw [hj2] at hset
      subst hj
      have hj3 : j < 32 := by omega
      have HPk := Lib.hid (HP.out k j (by omega) hm)
      have HSET := Lib.hid hset
      clear hset hm hh hj2
      go_wp2_with (refine wpList_ld rfl (.tmp 2) rfl w.heap.size p rfl HL.out hb3 ?_)
      refine (HPk.out _).mono ?_; rintro e w4 ⟨rfl, k4⟩
      have hb4 := hb3.nob k4
      have hr4 := hr3.nob k4
      have hK4 := hK3.nobt k4
      clear hb3 hr3 hK3 k4
      have cD := cellD hb4 (k := j) (by rw [HL.out]; exact hj3)
      have hq : ((p.d.getD j 0).toNat : Int) = ((p.d.getD j 0).toNat : Int) := rfl
      have fr := hr4.frozen k
      have cc : ∃ x, _ = some x := ⟨_, (hr4.cell k).trans (bytes_getD (by rw [part_len hk]; exact hlt))⟩
      obtain ⟨x, cc⟩ := cc
      generalize hu : ((p.d.getD j 0).toNat : Int) = u at *
      have hr5 : Blk (w4.setCell ⟨g, k, none⟩ (.int .u8 u)) g 5 (bytes (part_ p.d p.h.toNat n (k + 1))) := by
        have := hr4.setCell k (.int .u8 u)
        rw [bytes_set _ k (p.d.getD j 0) u hu, HSET.out] at this
        exact this
      have hb5 := hb4.far (p := ⟨g, k, none⟩) hne (.int .u8 u)
      have hK5 := hK4.setCell ⟨g, k, none⟩ (.int .u8 u) (fun h => absurd h (by show ¬ g < _; omega))
      clear hr4 hb4 hK4 HPk HSET hu hq
      go_wp2_with fail
      go_round
      case rel => exact ⟨k + 1, by omega, by go_num, hr5, hb5, hK5⟩
      case measure => simp [intOf]; omega
    · obtain rfl : k = n := by omega
      rw [part_all] at hr3
      go_wp2
      go_ret
      exact ⟨g, rfl, hr3, hK3⟩
theorem gives_blk {w : World} {g n : Nat} {l : List UInt8} (hb : Blk w g 5 (bytes l)) (hn : l.length = n) : Gives w l (.slice (some ⟨g, 0, none⟩) n n) := by
  subst hn
  exact ⟨_, _, rfl, Nat.le_refl _, reads_all hb (bytes_length l), fun ad e => by cases e; exact ⟨_, hb⟩⟩
set_option maxHeartbeats 4000000 in
theorem bytes_is (p : Pp) (hl : p.d.length = 32) (w : World) :
    Calls Try.prog 20 #[pv p] w fun e w' => ∃ x, e = .returned x ∧ Gives w' (has p) x ∧ Keep Nob w w' := by
  have HL := Lib.hid hl
  have hO := fun w v h => ok_is p w v h
  unfold pv at hO ⊢
  have HO := Lib.hid hO
  clear hl hO
  go_enter Try.func20, Try.ntmps20
  go_wp2_with (first | (refine wpList_box rfl 26 _ rfl _ rfl ?_; intro w1 hb hk hs; clear hs; have hb : Blk w1 w.heap.size 26 (pc p) := hb) | (refine wpList_ld rfl (.tmp 1) rfl w.heap.size p rfl HL.out hb ?_))
  cases hv : okd p with
  | false =>
    refine (HO.out _ _ hv).mono ?_; rintro e w2 ⟨rfl, k2⟩
    have hK := hk.nobt k2
    go_wp2
    go_ret
    exact ⟨_, rfl, by rw [has, hv]; exact Gives.nil_ _, hK⟩
  | true =>
    refine (HO.out _ _ hv).mono ?_; rintro e w2 ⟨rfl, k2⟩
    have hb2 := hb.nob k2
    have hK := hk.nobt k2
    clear hb hk k2
    have B := okd_bounds hv
    have hB1 := B.c
    obtain ⟨m, hm⟩ : ∃ m : Nat, p.c = (m : Int) := ⟨p.c.toNat, by omega⟩
    have c1 := (cells4 hb2).2.1
    rw [hm] at c1
    have ha := fun w => ahead_is p HL.out B.h m (by omega) w
    unfold pv at ha
    have HA := Lib.hid ha
    have hhas : has p = ahd p.d p.h.toNat m := by rw [has, hv, if_pos rfl, hm]; rfl
    have HS := Lib.hid hhas
    clear B hB1 hm ha hhas hv
    go_wp2_with (refine wpList_ld rfl (.tmp 1) rfl w.heap.size p rfl HL.out hb2 ?_)
    refine (HA.out _).mono ?_; rintro e w3 ⟨g, rfl, hb3, k3⟩
    have hK3 := hK.nobt k3
    go_wp2
    go_ret
    exact ⟨_, rfl, by rw [HS.out]; exact gives_blk hb3 (ahd_len _ _ _), hK3⟩
theorem Reads.takes_ {w w' : World} {A : Option Addr} {n k : Nat} {l : List UInt8} (h : Reads w A n (bytes l)) (hk : k ≤ n) (K : Keep Nob w w') : Reads w' A k (bytes (l.take k)) := by
  have h2 := h.nob K
  refine ⟨by have := h.1; simp at this ⊢; omega, fun h0 => ?_⟩
  obtain ⟨ad, e, hc⟩ := h2.2 (by omega)
  refine ⟨ad, e, fun j u hu => hc j u ?_⟩
  rw [bytes_take, List.getElem?_take] at hu
  split at hu
  · exact hu
  · cases hu
/-- The head of x[l:]. -/
def cutA (A : Option Addr) (cap l : Nat) : Option Addr := if cap = l then A else A.map (·.add l)
theorem cutA_lt {A : Option Addr} {cap l : Nat} (h : l < cap) : cutA A cap l = A.map (·.add l) := by rw [cutA, if_neg (by omega)]
theorem exec_cut {ρ : Operand → Value} {o : Oper} {x lo : Operand} {w : World} (ho : o.op = .slice 22 x (some lo) none none) (A : Option Addr) (len cap l : Nat) (hx : ρ x = .slice A len cap) (hlo : ρ lo = .int .i64 (l : Int)) (hl : l ≤ len) :
    (execOp ρ o).run Try.prog w = .ok (.value (.slice (cutA A cap l) (len - l) (cap - l))) w := by
  have hu := Try.underlying22
  have hel : Try.prog.elem 22 = 5 := by simp [Program.elem, hu]
  have hu' : Try.prog.underlying 22 = some (.slice (Try.prog.elem 22)) := by rw [hel]; exact hu
  have hrun := run_slice_l (P := Try.prog) w 22 A len cap hu' .i64 (l : Int) (by omega) (by omega)
  rw [hel, run_sizeOf' w 5 1 Try.size5] at hrun
  simp only [Result.andThen, sliced, Int.toNat_natCast, Nat.mul_one] at hrun
  have hr2 := run_sliceAt_slice (P := Try.prog) w 22 (.slice A len cap) (some (.int .i64 l)) none none hu'
  rw [hrun] at hr2
  simp only [execOp, ho, hx, hlo, Option.map_some, Option.map_none]
  simp [hr2, Result.andThen, cutA]
theorem Reads.drops_ {w w' : World} {A A' : Option Addr} {n k : Nat} {l : List UInt8} (h : Reads w A n (bytes l)) (hk : k ≤ n) (K : Keep Nob w w') (hA : k < n → A' = A.map (·.add k)) : Reads w' A' (n - k) (bytes (l.drop k)) := by
  have h2 := h.nob K
  refine ⟨by have := h.1; simp at this ⊢; omega, fun h0 => ?_⟩
  obtain ⟨ad, e, hc⟩ := h2.2 (by omega)
  refine ⟨ad.add k, by rw [hA (by omega), e]; rfl, fun j u hu => ?_⟩
  rw [add_of_add]
  refine hc (k + j) u ?_
  rw [bytes_drop, List.getElem?_drop] at hu
  exact hu
end Go.Proofs.Ytojciodjffahnaa.Ri
