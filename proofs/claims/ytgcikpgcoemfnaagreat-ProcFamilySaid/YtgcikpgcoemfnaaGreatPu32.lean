/- Texts PrT, packed. -/
import Derived.ProofKit
import Derived.SizedLaws
import Derived.ChangeArms
import Derived.Test.YtgcikpgcoemfnaaGreatRows
import Derived.BigQuiet
import Derived.Lib.TrailingZeros
import Derived.Laws.ResultCell
import Derived.Shelf.Spec.TrailingZeros
import Derived.Deep.QuietTactic
import Derived.BigRegion
import Derived.Deep.RegionHeld3
import Derived.Test.YtgcikpgcoemfnaaGreatPu0
import Derived.Test.YtgcikpgcoemfnaaGreatPu4
import Derived.Test.YtgcikpgcoemfnaaGreatPu18
import Derived.Test.YtgcikpgcoemfnaaGreatPu19
import Derived.Test.YtgcikpgcoemfnaaGreatPu1
import Derived.Test.YtgcikpgcoemfnaaGreatPu7
import Derived.Test.YtgcikpgcoemfnaaGreatPu11
import Derived.Test.YtgcikpgcoemfnaaGreatPu21
import Derived.Test.YtgcikpgcoemfnaaGreatPu22
import Derived.Test.YtgcikpgcoemfnaaGreatPu12
import Derived.Test.YtgcikpgcoemfnaaGreatPu14
import Derived.Test.YtgcikpgcoemfnaaGreatPu13
import Derived.Test.YtgcikpgcoemfnaaGreatPu15
import Derived.Test.YtgcikpgcoemfnaaGreatPu16
import Derived.Test.YtgcikpgcoemfnaaGreatPu24
import Derived.Test.YtgcikpgcoemfnaaGreatPu23
import Derived.Test.YtgcikpgcoemfnaaGreatPu5
import Derived.Test.YtgcikpgcoemfnaaGreatPu8
import Derived.Test.YtgcikpgcoemfnaaGreatPu20
import Derived.Test.YtgcikpgcoemfnaaGreatPu2
import Derived.Test.YtgcikpgcoemfnaaGreatPu9
import Derived.Test.YtgcikpgcoemfnaaGreatPu25
import Derived.Test.YtgcikpgcoemfnaaGreatPu10
import Derived.Test.YtgcikpgcoemfnaaGreatPu27
import Derived.Test.YtgcikpgcoemfnaaGreatPu30
import Derived.Test.YtgcikpgcoemfnaaGreatPu3
namespace Go.Proofs.YtgcikpgcoemfnaaGreat.Pr
open Go.RowKit Co
set_option linter.unusedVariables false
set_option linter.unusedSimpArgs false
def forkT (T : Sd) (i : Int) : Sd × Int × Int := (toT (forkS (stOf T) i).1, (forkS (stOf T) i).2)
def exitT (T : Sd) (i c : Int) : Sd × Int := (toT (exitS (stOf T) i c).1, (exitS (stOf T) i c).2)
def waitT (T : Sd) (i : Int) : Sd × Int × Int × Bool := (toT (waitS (stOf T) i).1, (waitS (stOf T) i).2)
section
variable {F : List UInt8 → Prop} {n : Nat} {w w1 : World} {K : Kn} {C : Cm} {src : Src} {T T' : Sd}
theorem tfork_is (t : Kt F n w K C src (stOf T) w1) (hb : C.brs.length = 2) (i : Int) (hi : -9223372036854775808 ≤ i ∧ i + 1 ≤ 9223372036854775807) (N E : Int) (h : forkT T i = (T', N, E)) :
    Calls Tryz.prog 11 #[.pointer (some ⟨C.p, 0, none⟩), .int .i64 i] w1 fun e w' => e = .returned (.agg (rv N E false).toArray) ∧ Kt F n w K C src (stOf T') w' ∧ Kp K C w1 w' := by
  unfold forkT at h
  obtain ⟨h1, h2⟩ := Prod.mk.inj h
  refine (t.go (fun K' hK => fork_is hK i hi _ N E (Prod.ext rfl h2))).mono ?_
  rintro e w' ⟨rfl, t2, kp⟩
  exact ⟨rfl, t2.eq hb h1, kp⟩
theorem texit_is (t : Kt F n w K C src (stOf T) w1) (hb : C.brs.length = 2) (i : Int) (hi : -9223372036854775808 ≤ i ∧ i + 1 ≤ 9223372036854775807) (c E : Int) (h : exitT T i c = (T', E)) :
    Calls Tryz.prog 12 #[.pointer (some ⟨C.p, 0, none⟩), .int .i64 i, .int .i64 c] w1 fun e w' => e = .returned (.agg (rv 0 E false).toArray) ∧ Kt F n w K C src (stOf T') w' ∧ Kp K C w1 w' := by
  unfold exitT at h
  obtain ⟨h1, h2⟩ := Prod.mk.inj h
  refine (t.go (fun K' hK => exit_is hK i hi c _ E (Prod.ext rfl h2))).mono ?_
  rintro e w' ⟨rfl, t2, kp⟩
  exact ⟨rfl, t2.eq hb h1, kp⟩
theorem twait_is (t : Kt F n w K C src (stOf T) w1) (hb : C.brs.length = 2) (i : Int) (hi : -9223372036854775808 ≤ i ∧ i + 1 ≤ 9223372036854775807) (N E : Int) (bl : Bool) (h : waitT T i = (T', N, E, bl)) :
    Calls Tryz.prog 14 #[.pointer (some ⟨C.p, 0, none⟩), .int .i64 i] w1 fun e w' => e = .returned (.agg (rv N E bl).toArray) ∧ Kt F n w K C src (stOf T') w' ∧ Kp K C w1 w' := by
  unfold waitT at h
  obtain ⟨h1, h2⟩ := Prod.mk.inj h
  refine (t.go (fun K' hK => wait_is hK i hi _ N E bl (Prod.ext rfl h2))).mono ?_
  rintro e w' ⟨rfl, t2, kp⟩
  exact ⟨rfl, t2.eq hb h1, kp⟩
theorem tself_is (t : Kt F n w K C src (stOf T) w1) (i : Int) (hi : Cd.Wf i) (R : List Int) (er : Int) (hr : selfR ((stOf T).p i).1 ((stOf T).p i).2 = (R, er)) :
    Calls Tryz.prog 20 #[.pointer (some ⟨C.p, 0, none⟩), .int .i64 i] w1 fun e w' => e = .returned (.tuple #[.agg (ints R).toArray, .int .i64 er]) ∧ Kt F n w K C src (stOf T) w' ∧ Kp K C w1 w' :=
  t.go (fun K' hK => self_is hK i hi _ _ rfl R er hr)
theorem tproc_is (t : Kt F n w K C src (stOf T) w1) (i : Int) (hi : Cd.Wf i) (v : List Int) (d : Int) (hv : (stOf T).p i = (v, d)) :
    Calls Tryz.prog 13 #[.pointer (some ⟨C.p, 0, none⟩), .int .i64 i] w1 fun e w' => e = .returned (.tuple #[.agg (ints v).toArray, .int .i64 d]) ∧ Kt F n w K C src (stOf T) w' ∧ Kp K C w1 w' :=
  t.go (fun K' hK => sproc_is hK i hi v d hv)
end
/-- What a code is told as is what counts of it. -/
theorem code8_nat (c : Int) : ∃ k : Fin 256, code8 c = ((k : Nat) : Int) := by
  obtain ⟨_, h0, h1⟩ := code8_in c
  exact ⟨⟨(code8 c).toNat, by omega⟩, by simp; omega⟩
theorem code8_self {c : Int} (h0 : 0 ≤ c) (h1 : c ≤ 255) : code8 c = c := by
  unfold code8
  rw [Int.tmod_eq_emod_of_nonneg h0, Int.emod_eq_of_lt h0 (by omega), Int.tmod_eq_emod_of_nonneg (by omega)]
  omega
theorem exitS_code (S : Stt) (i c : Int) : exitS S i c = exitS S i (code8 c) := by
  obtain ⟨_, h0, h1⟩ := code8_in c
  unfold exitS
  rw [code8_self h0 h1]
theorem exitT_code (T : Sd) (i c : Int) : exitT T i c = exitT T i (code8 c) := by
  unfold exitT
  rw [exitS_code]
end Go.Proofs.YtgcikpgcoemfnaaGreat.Pr
