/- Texts CoM, packed. -/
import Derived.Test.YtifigjccokpcfaaGreatPk0
import Derived.Test.YtifigjccokpcfaaGreatPk3
import Derived.Test.YtifigjccokpcfaaGreatPk5
import Derived.Test.YtifigjccokpcfaaGreatPax0
import Derived.Test.YtifigjccokpcfaaGreatPk18
import Derived.Test.YtifigjccokpcfaaGreatPk19
import Derived.Test.YtifigjccokpcfaaGreatPk1
import Derived.Test.YtifigjccokpcfaaGreatPk8
import Derived.Test.YtifigjccokpcfaaGreatPk12
import Derived.Test.YtifigjccokpcfaaGreatPk21
import Derived.Test.YtifigjccokpcfaaGreatPk22
import Derived.Test.YtifigjccokpcfaaGreatPk13
import Derived.Test.YtifigjccokpcfaaGreatPax2
import Derived.Test.YtifigjccokpcfaaGreatPk15
import Derived.Test.YtifigjccokpcfaaGreatPk14
import Derived.Test.YtifigjccokpcfaaGreatPk16
import Derived.Test.YtifigjccokpcfaaGreatPk17
import Derived.Test.YtifigjccokpcfaaGreatPk24
import Derived.Test.YtifigjccokpcfaaGreatPk23
import Derived.Test.YtifigjccokpcfaaGreatPk6
import Derived.Test.YtifigjccokpcfaaGreatPk9
import Derived.Test.YtifigjccokpcfaaGreatPk20
import Derived.Test.YtifigjccokpcfaaGreatPk2
import Derived.Test.YtifigjccokpcfaaGreatPax1
import Derived.Test.YtifigjccokpcfaaGreatPk26
import Derived.Test.YtifigjccokpcfaaGreatPk10
import Derived.Test.YtifigjccokpcfaaGreatPk11
namespace Go.Proofs.YtifigjccokpcfaaGreat.Co
open Go.RowKit
set_option linter.unusedVariables false
set_option linter.unusedSimpArgs false
section
variable {w : World} {K : Kn} {C : Cm} {src : Src}
set_option maxRecDepth 100000 in
set_option maxHeartbeats 2000000 in
theorem freeProc_is (h : Kc w K C src) (i : Int) (hi : Cd.Wf i) (ok : Bool) (ys : List UInt8) (hv : pwrite K.xs src C.brs.length C.bad (1, i) (List.replicate 24 0) = (ok, ys)) :
    Calls Tryz.prog 30 #[.pointer (some ⟨C.p, 0, none⟩), .int .i64 i] w fun e w' => e = .returned (.bool ok) ∧ To w K { K with xs := ys } w' := by
  have hcall := fun W (kk : Keep Nob w W) A hb => store_is (h.nob kk) (1, i) (rec_i (by omega) hi) A 24 24 (List.replicate 24 0) rfl (fun x hx => by rw [wsize1 x hx]; rfl) hb ok ys hv
  clear hv h
  dsimp only at hcall
  go_enter Tryz.func30, Tryz.ntmps30
  go_wp2_with (refine wpList_mk rfl _ _ 34 rfl 5 (.int .u8 0) 1 Tryz.underlying34 Cd.Tryz.info5 rfl .i64 .i64 24 _ rfl rfl rfl (by omega) (by omega) ?_; intro w1 hb1 hk1 hs1; clear hs1)
  rw [← bytes_replicate] at hb1
  refine (hcall _ hk1 _ (reads_all hb1 (by simp))).mono ?_; rintro e w2 ⟨rfl, t⟩
  go_wp2
  go_ret
  exact ⟨rfl, t.pre hk1⟩
end
end Go.Proofs.YtifigjccokpcfaaGreat.Co
