/- Refs and Caps that are the same are told so by ==. -/
import Derived.Test.YtompckcnpidbdaaGreatCaps2
namespace Go.Proofs.YtompckcnpidbdaaGreat
open Go.RowKit
set_option linter.unusedVariables false
set_option linter.unusedSimpArgs false
theorem stood_ref : Tryz.prog.stoodInHeld 59 = false := by kernel_rfl
theorem stood_cap : Tryz.prog.stoodInHeld 61 = false := by kernel_rfl
theorem ref_same (n : Nat) (x y : Int) (w : World) : (Op.equalIn (n + 2) 59 (.agg #[.int .i64 x, .int .i64 y]) (.agg #[.int .i64 x, .int .i64 y])).run Tryz.prog w = .ok true w := by
  have hi := Tryz.underlying3
  have hg := Tryz.isAgg3
  have hs := Tryz.sizeOf3
  have st := stood_ref
  unfold Op.equalIn
  simp only [run_underlying Tryz.underlying59, Sem.run_bind, Result.andThen_ok, List.forIn_toArray, List.forIn_nil, List.forIn_cons]
  go_simp
theorem cap_same (n : Nat) (a b c d x y : Int) (w : World) : (Op.equalIn (n + 3) 61 (.agg #[.int .i64 a, .int .i64 b, .int .i64 c, .int .i64 d, .int .i64 x, .int .i64 y]) (.agg #[.int .i64 a, .int .i64 b, .int .i64 c, .int .i64 d, .int .i64 x, .int .i64 y])).run Tryz.prog w = .ok true w := by
  have hi := Tryz.underlying3
  have hg := Tryz.isAgg3
  have hs := Tryz.sizeOf3
  have hg2 := Tryz.isAgg59
  have hs2 := Tryz.sizeOf59
  have st := stood_cap
  have hr := ref_same n x y
  unfold Op.equalIn
  simp only [run_underlying Tryz.underlying61, Sem.run_bind, Result.andThen_ok, List.forIn_toArray, List.forIn_nil, List.forIn_cons]
  go_simp
end Go.Proofs.YtompckcnpidbdaaGreat
