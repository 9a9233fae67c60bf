/- Refs and Caps that are the same are told so by ==. -/
import Derived.Test.YtjkmbffcmgeknaaCaps2
namespace Go.Proofs.Ytjkmbffcmgeknaa
open Go.RowKit
set_option linter.unusedVariables false
set_option linter.unusedSimpArgs false
theorem stood_ref : Try.prog.stoodInHeld 27 = false := by kernel_rfl
theorem stood_cap : Try.prog.stoodInHeld 29 = false := by kernel_rfl
theorem ref_same (n : Nat) (x y : Int) (w : World) : (Op.equalIn (n + 2) 27 (.agg #[.int .i64 x, .int .i64 y]) (.agg #[.int .i64 x, .int .i64 y])).run Try.prog w = .ok true w := by
  have hi := Try.underlying3
  have hg := Try.isAgg3
  have hs := Try.sizeOf3
  have st := stood_ref
  unfold Op.equalIn
  simp only [run_underlying Try.underlying27, Sem.run_bind, Result.andThen_ok, List.forIn_toArray, List.forIn_nil, List.forIn_cons]
  go_simp
theorem cap_same (n : Nat) (a b c d x y : Int) (w : World) : (Op.equalIn (n + 3) 29 (.agg #[.int .i64 a, .int .i64 b, .int .i64 c, .int .i64 d, .int .i64 x, .int .i64 y]) (.agg #[.int .i64 a, .int .i64 b, .int .i64 c, .int .i64 d, .int .i64 x, .int .i64 y])).run Try.prog w = .ok true w := by
  have hi := Try.underlying3
  have hg := Try.isAgg3
  have hs := Try.sizeOf3
  have hg2 := Try.isAgg27
  have hs2 := Try.sizeOf27
  have st := stood_cap
  have hr := ref_same n x y
  unfold Op.equalIn
  simp only [run_underlying Try.underlying29, Sem.run_bind, Result.andThen_ok, List.forIn_toArray, List.forIn_nil, List.forIn_cons]
  go_simp
end Go.Proofs.Ytjkmbffcmgeknaa
