/-
  No cell of these rows narrows 'for every input' (looked for: loops, veiled, ifaces, maps, wideKeys, modest, calm, conditions, laid).
  DERIVED. THE GIVEN ROWS OF THIS SEAT. 5 by the template 'for every input the law returns true; each argument reads behind the call as it read before'; 0 by the template 'total and deterministic' (their statements: YtlkknmbdikoldaaTotals.lean).
  GIVEN WITH THE SEED: the statements are not yours to turn. If you find one false, say at which input.
  Laid BY PROGRAM, IN A SANDBOX (cutbox-rows.mjs): the forced cells as the released guide's own fill.sh prints them over the translation f7b03d7e464ff028… (all of the seat's roots in one cut). By AI agents, Wed Nov 11 2026. No macro, syntax, notation, axiom, sorry.
-/
import Derived.Test.YtlkknmbdikoldaaChecked
import GoSem.Claim
import GoSem.ClaimJoined
import GoSem.ClaimMapViews
import Derived.JoinedTies
import Derived.KernelRfl
namespace Go.Proofs.Ytlkknmbdikoldaa
/- THE CELL 'sum', in the pinned program and in every row, IS THE sha256 OF THE DUMP (.gsa) THAT YtlkknmbdikoldaaProg.lean LOADS. Nothing in Lean hashes anything: it is a label: what it is worth is what the hold of that sum in a sandbox is worth. -/
noncomputable def Try.pinned : Pinned := { name := "ytlkknmbdikoldaa", sum := "f7b03d7e464ff028a1844aab0c66d6b05ca210e2c266006c53b1c6bcadc22fe5", checked := Try.checked }
namespace Rows
def none {H : Type} : Left H := { results := [], args := [] }

/-- 'commonagelaw7.PredSkips': WHATEVER THE INPUT: true; the input reads as it did. -/
def predSkipsSpec : ChangeSpec := { name := "predSkips", fn := fun _ => fun
  | [d1, d2, d3] => { results := [.lit (.bool true)], args := [d1, d2, d3] }
  | _ => none }
def predSkipsRow : OpenClaim := { program := "ytlkknmbdikoldaa", sum := "f7b03d7e464ff028a1844aab0c66d6b05ca210e2c266006c53b1c6bcadc22fe5", func := "commonage/commonagelaw7.PredSkips", spec := "predSkips", apart := false }
def PredSkipsSaid : Prop := predSkipsRow.holds Try.pinned (OpenSpec.ofChange predSkipsSpec)

/-- ITS FALSE NEIGHBOUR: 'it returns false'. Refute it at one input. -/
def predSkipsWrong : ChangeSpec := { name := "predSkips", fn := fun _ => fun
  | [d1, d2, d3] => { results := [.lit (.bool false)], args := [d1, d2, d3] }
  | _ => none }
def PredSkipsWrongFalsely : Prop := predSkipsRow.holds Try.pinned (OpenSpec.ofChange predSkipsWrong)

/-- 'commonagelaw7.PredTells': WHATEVER THE INPUT: true; the input reads as it did. -/
def predTellsSpec : ChangeSpec := { name := "predTells", fn := fun _ => fun
  | [d1, d2, d3, d4] => { results := [.lit (.bool true)], args := [d1, d2, d3, d4] }
  | _ => none }
def predTellsRow : OpenClaim := { program := "ytlkknmbdikoldaa", sum := "f7b03d7e464ff028a1844aab0c66d6b05ca210e2c266006c53b1c6bcadc22fe5", func := "commonage/commonagelaw7.PredTells", spec := "predTells", apart := false }
def PredTellsSaid : Prop := predTellsRow.holds Try.pinned (OpenSpec.ofChange predTellsSpec)

/-- ITS FALSE NEIGHBOUR: 'it returns false'. Refute it at one input. -/
def predTellsWrong : ChangeSpec := { name := "predTells", fn := fun _ => fun
  | [d1, d2, d3, d4] => { results := [.lit (.bool false)], args := [d1, d2, d3, d4] }
  | _ => none }
def PredTellsWrongFalsely : Prop := predTellsRow.holds Try.pinned (OpenSpec.ofChange predTellsWrong)

/-- 'commonagelaw7.PredEnds': WHATEVER THE INPUT: true; the input reads as it did. -/
def predEndsSpec : ChangeSpec := { name := "predEnds", fn := fun _ => fun
  | [d1, d2, d3] => { results := [.lit (.bool true)], args := [d1, d2, d3] }
  | _ => none }
def predEndsRow : OpenClaim := { program := "ytlkknmbdikoldaa", sum := "f7b03d7e464ff028a1844aab0c66d6b05ca210e2c266006c53b1c6bcadc22fe5", func := "commonage/commonagelaw7.PredEnds", spec := "predEnds", apart := false }
def PredEndsSaid : Prop := predEndsRow.holds Try.pinned (OpenSpec.ofChange predEndsSpec)

/-- ITS FALSE NEIGHBOUR: 'it returns false'. Refute it at one input. -/
def predEndsWrong : ChangeSpec := { name := "predEnds", fn := fun _ => fun
  | [d1, d2, d3] => { results := [.lit (.bool false)], args := [d1, d2, d3] }
  | _ => none }
def PredEndsWrongFalsely : Prop := predEndsRow.holds Try.pinned (OpenSpec.ofChange predEndsWrong)

/-- 'commonagelaw7.PredMakes': WHATEVER THE INPUT: true; the input reads as it did. -/
def predMakesSpec : ChangeSpec := { name := "predMakes", fn := fun _ => fun
  | [d1, d2, d3, d4, d5] => { results := [.lit (.bool true)], args := [d1, d2, d3, d4, d5] }
  | _ => none }
def predMakesRow : OpenClaim := { program := "ytlkknmbdikoldaa", sum := "f7b03d7e464ff028a1844aab0c66d6b05ca210e2c266006c53b1c6bcadc22fe5", func := "commonage/commonagelaw7.PredMakes", spec := "predMakes", apart := false }
def PredMakesSaid : Prop := predMakesRow.holds Try.pinned (OpenSpec.ofChange predMakesSpec)

/-- ITS FALSE NEIGHBOUR: 'it returns false'. Refute it at one input. -/
def predMakesWrong : ChangeSpec := { name := "predMakes", fn := fun _ => fun
  | [d1, d2, d3, d4, d5] => { results := [.lit (.bool false)], args := [d1, d2, d3, d4, d5] }
  | _ => none }
def PredMakesWrongFalsely : Prop := predMakesRow.holds Try.pinned (OpenSpec.ofChange predMakesWrong)

/-- 'commonagelaw7.PredEither': WHATEVER THE INPUT: true; the input reads as it did. -/
def predEitherSpec : ChangeSpec := { name := "predEither", fn := fun _ => fun
  | [d1, d2, d3, d4] => { results := [.lit (.bool true)], args := [d1, d2, d3, d4] }
  | _ => none }
def predEitherRow : OpenClaim := { program := "ytlkknmbdikoldaa", sum := "f7b03d7e464ff028a1844aab0c66d6b05ca210e2c266006c53b1c6bcadc22fe5", func := "commonage/commonagelaw7.PredEither", spec := "predEither", apart := false }
def PredEitherSaid : Prop := predEitherRow.holds Try.pinned (OpenSpec.ofChange predEitherSpec)

/-- ITS FALSE NEIGHBOUR: 'it returns false'. Refute it at one input. -/
def predEitherWrong : ChangeSpec := { name := "predEither", fn := fun _ => fun
  | [d1, d2, d3, d4] => { results := [.lit (.bool false)], args := [d1, d2, d3, d4] }
  | _ => none }
def PredEitherWrongFalsely : Prop := predEitherRow.holds Try.pinned (OpenSpec.ofChange predEitherWrong)

/- THE SECOND FORM. 'bulk': how many values and letters a reading holds, each counted each time it is reached (what is shared counts as often as it is met; a slice's spare places count too). A statement '..UptoSaid' is the law's where the arguments, and the package variables that the reading takes, are together of bulk at most 1048576: NARROWER than '..Said'. Prove '..Said' where nothing that the law and all that it calls make is longer than what came in: it says more and counts as full. Else prove '..UptoSaid'. A law counts once. -/
mutual
def uptoBulk {H : Type} : DataW H → Nat
  | .lit (.string bytes) => bytes.length + 1
  | .lit _ => 1
  | .nil => 1
  | .ptr d => uptoBulk d + 1
  | .slice elems spare => uptoBulkAll elems + uptoBulkAll spare + 1
  | .agg parts => uptoBulkAll parts + 1
  | .iface _ d => uptoBulk d + 1
  | .map entries => uptoBulkEntries entries + 1
  | .held _ => 1
def uptoBulkAll {H : Type} : List (DataW H) → Nat
  | [] => 0
  | d :: r => uptoBulk d + uptoBulkAll r
def uptoBulkEntries {H : Type} : List (Lit × DataW H) → Nat
  | [] => 0
  | x :: r => uptoBulkEntry x + uptoBulkEntries r
def uptoBulkEntry {H : Type} : Lit × DataW H → Nat
  | (.string bytes, d) => bytes.length + uptoBulk d + 1
  | (_, d) => uptoBulk d + 1
 end
def uptoSmall : (H : Type) → List (DataW H) → Bool := fun _ ds => decide (uptoBulkAll ds ≤ 1048576)
def OpenSpec.upto (s : _root_.Go.ChangeSpec) : _root_.Go.OpenSpec := { _root_.Go.OpenSpec.ofChange s with cond := some uptoSmall }

/-- 'commonagelaw7.PredSkips', WHERE WHAT IT READS IS OF BULK AT MOST 1048576: true; the input reads as it did. -/
def predSkipsUptoRow : OpenClaim := { program := "ytlkknmbdikoldaa", sum := "f7b03d7e464ff028a1844aab0c66d6b05ca210e2c266006c53b1c6bcadc22fe5", func := "commonage/commonagelaw7.PredSkips", spec := "predSkips", apart := false, narrowed := true }
def PredSkipsUptoSaid : Prop := predSkipsUptoRow.holds Try.pinned (OpenSpec.upto predSkipsSpec)

/-- 'commonagelaw7.PredTells', WHERE WHAT IT READS IS OF BULK AT MOST 1048576: true; the input reads as it did. -/
def predTellsUptoRow : OpenClaim := { program := "ytlkknmbdikoldaa", sum := "f7b03d7e464ff028a1844aab0c66d6b05ca210e2c266006c53b1c6bcadc22fe5", func := "commonage/commonagelaw7.PredTells", spec := "predTells", apart := false, narrowed := true }
def PredTellsUptoSaid : Prop := predTellsUptoRow.holds Try.pinned (OpenSpec.upto predTellsSpec)

/-- 'commonagelaw7.PredEnds', WHERE WHAT IT READS IS OF BULK AT MOST 1048576: true; the input reads as it did. -/
def predEndsUptoRow : OpenClaim := { program := "ytlkknmbdikoldaa", sum := "f7b03d7e464ff028a1844aab0c66d6b05ca210e2c266006c53b1c6bcadc22fe5", func := "commonage/commonagelaw7.PredEnds", spec := "predEnds", apart := false, narrowed := true }
def PredEndsUptoSaid : Prop := predEndsUptoRow.holds Try.pinned (OpenSpec.upto predEndsSpec)

/-- 'commonagelaw7.PredMakes', WHERE WHAT IT READS IS OF BULK AT MOST 1048576: true; the input reads as it did. -/
def predMakesUptoRow : OpenClaim := { program := "ytlkknmbdikoldaa", sum := "f7b03d7e464ff028a1844aab0c66d6b05ca210e2c266006c53b1c6bcadc22fe5", func := "commonage/commonagelaw7.PredMakes", spec := "predMakes", apart := false, narrowed := true }
def PredMakesUptoSaid : Prop := predMakesUptoRow.holds Try.pinned (OpenSpec.upto predMakesSpec)

/-- 'commonagelaw7.PredEither', WHERE WHAT IT READS IS OF BULK AT MOST 1048576: true; the input reads as it did. -/
def predEitherUptoRow : OpenClaim := { program := "ytlkknmbdikoldaa", sum := "f7b03d7e464ff028a1844aab0c66d6b05ca210e2c266006c53b1c6bcadc22fe5", func := "commonage/commonagelaw7.PredEither", spec := "predEither", apart := false, narrowed := true }
def PredEitherUptoSaid : Prop := predEitherUptoRow.holds Try.pinned (OpenSpec.upto predEitherSpec)

end Rows
end Go.Proofs.Ytlkknmbdikoldaa
