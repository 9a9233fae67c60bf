/- A pipe made of numbers: the laws' Pipe, and what it makes. -/
import Derived.Test.YtojciodjffahnaaRinQ
import Derived.BigRegion
namespace Go.Proofs.Ytojciodjffahnaa.Ri
open Go.RowKit
set_option linter.unusedVariables false
set_option linter.unusedSimpArgs false
/-- What is made of a number and bytes. -/
def laidD (l : List UInt8) : List UInt8 := splice nod 0 (l.take 32)
def made (n : Int) (l : List UInt8) : Pp :=
  ⟨n % 16777216 % 32, n % 16777216 / 32 % 64 % 33, n % 16777216 / 2048 % 16 % 9, n % 16777216 / 32768 % 16 % 9, laidD l⟩
theorem laidD_len (l : List UInt8) : (laidD l).length = 32 := by
  rw [laidD, length_splice _ _ _ (by simp [nod]; omega)]; rfl
theorem made_len (n : Int) (l : List UInt8) : (made n l).d.length = 32 := laidD_len l
theorem made_ok (n : Int) (l : List UInt8) : okd (made n l) = true := by
  refine Bounds.ok ⟨?_, ?_, ?_, ?_⟩ <;> simp only [made] <;> omega
theorem pc_laid (a b c d : Int) (l : List UInt8) : splice (pc ⟨a, b, c, d, nod⟩) 4 ((bytes l).take 32) = pc ⟨a, b, c, d, laidD l⟩ := by
  rw [← bytes_take]
  have h : (l.take 32).length ≤ 32 := by rw [List.length_take]; omega
  unfold laidD
  generalize l.take 32 = m at *
  have e : bytes (splice nod 0 m) = splice (bytes nod) 0 (bytes m) := (splice_bytes _ _ _).symm
  unfold pc
  simp only
  rw [e]
  simp [splice]
  rw [show 4 + m.length = m.length + 1 + 1 + 1 + 1 from by omega]
  simp
set_option maxHeartbeats 4000000 in
theorem made_is (n : Int) (A : Option Addr) (m c : Nat) (l : List UInt8) (w : World) (hr : Reads w A m (bytes l)) (R : Pp) (hR : made n l = R) :
    Calls Try.prog 16 #[.int .i64 n, .slice A m c] w fun e w' => e = .returned (pv R) ∧ Keep Nob w w' := by
  have hm : bits .and .i64 n 16777215 = n % 16777216 := i64_mask n 24 (by decide)
  have x0 : 0 ≤ n % 16777216 := by omega
  have x1 : n % 16777216 < 16777216 := by omega
  have HRL := Lib.hid (show R.d.length = 32 from by rw [← hR]; exact made_len n l)
  unfold made at hR
  generalize n % 16777216 = x at *
  obtain ⟨a1, ha1⟩ : ∃ a, x / 32 % 64 = a := ⟨_, rfl⟩
  obtain ⟨a2, ha2⟩ : ∃ a, x / 2048 % 16 = a := ⟨_, rfl⟩
  obtain ⟨a3, ha3⟩ : ∃ a, x / 32768 % 16 = a := ⟨_, rfl⟩
  obtain ⟨b0, hb0⟩ : ∃ a, x % 32 = a := ⟨_, rfl⟩
  obtain ⟨b1, hb1⟩ : ∃ a, a1 % 33 = a := ⟨_, rfl⟩
  obtain ⟨b2, hb2⟩ : ∃ a, a2 % 9 = a := ⟨_, rfl⟩
  obtain ⟨b3, hb3⟩ : ∃ a, a3 % 9 = a := ⟨_, rfl⟩
  have t1 : a1.tmod 33 = b1 := by rw [Int.tmod_eq_emod_of_nonneg (by omega)]; exact hb1
  have t2 : a2.tmod 9 = b2 := by rw [Int.tmod_eq_emod_of_nonneg (by omega)]; exact hb2
  have t3 : a3.tmod 9 = b3 := by rw [Int.tmod_eq_emod_of_nonneg (by omega)]; exact hb3
  have w1 : IntKind.i64.wrap b1 = b1 := wrap_small_i64 _ (by omega) (by omega)
  have w2 : IntKind.i64.wrap b2 = b2 := wrap_small_i64 _ (by omega) (by omega)
  have w3 : IntKind.i64.wrap b3 = b3 := wrap_small_i64 _ (by omega) (by omega)
  rw [hb0, ha1, ha2, ha3, hb1, hb2, hb3] at hR
  have HRR := Lib.hid hR
  have HR := Lib.hid hr
  clear hR hb1 hb2 hb3 hr
  go_enter Try.func16, Try.ntmps16
  go_upto_region 1 with (refine wpList_al rfl rfl ?_; intro v0 hz0 kz hs0; clear hs0)
  go_upto_region 3 with (first | (refine wpList_bu rfl _ _ _ _ rfl b0 b1 b2 b3 rfl rfl rfl rfl ?_) | (refine wpList_al rfl rfl ?_; intro v1 hp1 k1 hs1; clear hs1; have hz1 := hz0.nob k1; have kz1 := kz.nobt k1) | (refine wpList_st rfl (.tmp 5) _ rfl v0.heap.size ⟨b0, b1, b2, b3, nod⟩ noP rfl rfl rfl rfl hp1 ?_; intro v2 hp2 k2 hs2; clear hs2))
  have hne : w.heap.size ≠ v0.heap.size := by have := hz0.lt; omega
  have hge : w.heap.size ≤ v0.heap.size := kz.size
  have hz2 := hz1.keep k2 hne
  have kz2 : Keep Nob w v2 := kz1.trans k2 (fun b hb e => by have h3 : b = v0.heap.size := e; omega)
  have hr2 := HR.out.nob kz2
  clear hz0 kz hp1 k1 hz1 kz1 k2 x0 x1 hm ha1 ha2 ha3 hb0 t1 t2 t3 w1 w2 w3
  generalize v0.heap.size = gp at *
  go_wp2_with (first | (refine wpList_cp rfl _ _ 22 22 rfl 5 Try.underlying22 Try.size5 (some ⟨gp, 4, none⟩) A 32 32 m c rfl rfl gp 4 _ 26 hp2 (bytes l) hr2 (fun _ => rfl) (by rw [pc_len (by rfl)]; exact Nat.le_refl _) (bytes_one _) ?_; intro v3 hp3 k3 hs3; clear hs3; rw [pc_laid, HRR.out] at hp3; have hz3 := hz2.keep k3 hne; have kz3 : Keep Nob w v3 := kz2.trans k3 (fun b hb e => by have h3 : b = gp := e; omega)) | (refine wpList_ld rfl (.tmp 5) rfl gp R rfl HRL.out hp3 ?_) | (refine wpList_st rfl (.tmp 4) _ rfl w.heap.size R noP rfl rfl HRL.out rfl hz3 ?_; intro v4 hr4 hk4 hs4; clear hs4))
  (try simp only [Exit.inBlock, Exit.then])
  refine bodyPost_ret (v := pv R) (results_one rfl _ _ w.heap.size R HRL.out rfl hr4) rfl ?_
  exact ⟨rfl, kz3.trans hk4 (fun b hb e => by have h4 : b = w.heap.size := e; omega)⟩
end Go.Proofs.Ytojciodjffahnaa.Ri
