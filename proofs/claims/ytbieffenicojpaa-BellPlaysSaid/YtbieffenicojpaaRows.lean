/-
  No cell of these rows narrows 'for every input' (looked for: loops, veiled, ifaces, maps, wideKeys, modest, calm, conditions, laid).
  DERIVED. THE GIVEN ROWS OF THIS SEAT. 3 by the template 'for every input the law returns true; each argument reads behind the call as it read before'; 0 by the template 'total and deterministic' (their statements: YtbieffenicojpaaTotals.lean).
  GIVEN WITH THE SEED: the statements are not yours to turn. If you find one false, say at which input.
  Laid BY PROGRAM, IN A SANDBOX (cutbox-rows.mjs): the forced cells as the released guide's own fill.sh prints them over the translation be18112bfbf231b0… (all of the seat's roots in one cut). By AI agents, Wed Nov 11 2026. No macro, syntax, notation, axiom, sorry.
-/
import Derived.Test.YtbieffenicojpaaChecked
import GoSem.Claim
import GoSem.ClaimJoined
import GoSem.ClaimMapViews
import Derived.JoinedTies
import Derived.KernelRfl
namespace Go.Proofs.Ytbieffenicojpaa
/- THE CELL 'sum', in the pinned program and in every row, IS THE sha256 OF THE DUMP (.gsa) THAT YtbieffenicojpaaProg.lean LOADS. Nothing in Lean hashes anything: it is a label: what it is worth is what the hold of that sum in a sandbox is worth. -/
noncomputable def Try.pinned : Pinned := { name := "ytbieffenicojpaa", sum := "be18112bfbf231b0b9dce325e0a027457e651aeb17ba28f0d1deec8d1a8070b3", checked := Try.checked }
namespace Rows
def none {H : Type} : Left H := { results := [], args := [] }

/-- 'commonagelaw9.BellPlays': WHATEVER THE INPUT: true; the input reads as it did. -/
def bellPlaysSpec : ChangeSpec := { name := "bellPlays", fn := fun _ => fun
  | [d1, d2, d3] => { results := [.lit (.bool true)], args := [d1, d2, d3] }
  | _ => none }
def bellPlaysRow : OpenClaim := { program := "ytbieffenicojpaa", sum := "be18112bfbf231b0b9dce325e0a027457e651aeb17ba28f0d1deec8d1a8070b3", func := "commonage/commonagelaw9.BellPlays", spec := "bellPlays", apart := false }
def BellPlaysSaid : Prop := bellPlaysRow.holds Try.pinned (OpenSpec.ofChange bellPlaysSpec)

/-- ITS FALSE NEIGHBOUR: 'it returns false'. Refute it at one input. -/
def bellPlaysWrong : ChangeSpec := { name := "bellPlays", fn := fun _ => fun
  | [d1, d2, d3] => { results := [.lit (.bool false)], args := [d1, d2, d3] }
  | _ => none }
def BellPlaysWrongFalsely : Prop := bellPlaysRow.holds Try.pinned (OpenSpec.ofChange bellPlaysWrong)

/-- 'commonagelaw9.BellOrder': WHATEVER THE INPUT: true; the input reads as it did. -/
def bellOrderSpec : ChangeSpec := { name := "bellOrder", fn := fun _ => fun
  | [d1, d2] => { results := [.lit (.bool true)], args := [d1, d2] }
  | _ => none }
def bellOrderRow : OpenClaim := { program := "ytbieffenicojpaa", sum := "be18112bfbf231b0b9dce325e0a027457e651aeb17ba28f0d1deec8d1a8070b3", func := "commonage/commonagelaw9.BellOrder", spec := "bellOrder", apart := false }
def BellOrderSaid : Prop := bellOrderRow.holds Try.pinned (OpenSpec.ofChange bellOrderSpec)

/-- ITS FALSE NEIGHBOUR: 'it returns false'. Refute it at one input. -/
def bellOrderWrong : ChangeSpec := { name := "bellOrder", fn := fun _ => fun
  | [d1, d2] => { results := [.lit (.bool false)], args := [d1, d2] }
  | _ => none }
def BellOrderWrongFalsely : Prop := bellOrderRow.holds Try.pinned (OpenSpec.ofChange bellOrderWrong)

/-- 'commonagelaw9.BellNone': WHATEVER THE INPUT: true; the input reads as it did. -/
def bellNoneSpec : ChangeSpec := { name := "bellNone", fn := fun _ => fun
  | [d1, d2] => { results := [.lit (.bool true)], args := [d1, d2] }
  | _ => none }
def bellNoneRow : OpenClaim := { program := "ytbieffenicojpaa", sum := "be18112bfbf231b0b9dce325e0a027457e651aeb17ba28f0d1deec8d1a8070b3", func := "commonage/commonagelaw9.BellNone", spec := "bellNone", apart := false }
def BellNoneSaid : Prop := bellNoneRow.holds Try.pinned (OpenSpec.ofChange bellNoneSpec)

/-- ITS FALSE NEIGHBOUR: 'it returns false'. Refute it at one input. -/
def bellNoneWrong : ChangeSpec := { name := "bellNone", fn := fun _ => fun
  | [d1, d2] => { results := [.lit (.bool false)], args := [d1, d2] }
  | _ => none }
def BellNoneWrongFalsely : Prop := bellNoneRow.holds Try.pinned (OpenSpec.ofChange bellNoneWrong)

/- THE SECOND FORM. 'bulk': how many values and letters a reading holds, each counted each time it is reached (what is shared counts as often as it is met; a slice's spare places count too). A statement '..UptoSaid' is the law's where the arguments, and the package variables that the reading takes, are together of bulk at most 1048576: NARROWER than '..Said'. Prove '..Said' where nothing that the law and all that it calls make is longer than what came in: it says more and counts as full. Else prove '..UptoSaid'. A law counts once. -/
mutual
def uptoBulk {H : Type} : DataW H → Nat
  | .lit (.string bytes) => bytes.length + 1
  | .lit _ => 1
  | .nil => 1
  | .ptr d => uptoBulk d + 1
  | .slice elems spare => uptoBulkAll elems + uptoBulkAll spare + 1
  | .agg parts => uptoBulkAll parts + 1
  | .iface _ d => uptoBulk d + 1
  | .map entries => uptoBulkEntries entries + 1
  | .held _ => 1
def uptoBulkAll {H : Type} : List (DataW H) → Nat
  | [] => 0
  | d :: r => uptoBulk d + uptoBulkAll r
def uptoBulkEntries {H : Type} : List (Lit × DataW H) → Nat
  | [] => 0
  | x :: r => uptoBulkEntry x + uptoBulkEntries r
def uptoBulkEntry {H : Type} : Lit × DataW H → Nat
  | (.string bytes, d) => bytes.length + uptoBulk d + 1
  | (_, d) => uptoBulk d + 1
 end
def uptoSmall : (H : Type) → List (DataW H) → Bool := fun _ ds => decide (uptoBulkAll ds ≤ 1048576)
def OpenSpec.upto (s : _root_.Go.ChangeSpec) : _root_.Go.OpenSpec := { _root_.Go.OpenSpec.ofChange s with cond := some uptoSmall }

/-- 'commonagelaw9.BellPlays', WHERE WHAT IT READS IS OF BULK AT MOST 1048576: true; the input reads as it did. -/
def bellPlaysUptoRow : OpenClaim := { program := "ytbieffenicojpaa", sum := "be18112bfbf231b0b9dce325e0a027457e651aeb17ba28f0d1deec8d1a8070b3", func := "commonage/commonagelaw9.BellPlays", spec := "bellPlays", apart := false, narrowed := true }
def BellPlaysUptoSaid : Prop := bellPlaysUptoRow.holds Try.pinned (OpenSpec.upto bellPlaysSpec)

/-- 'commonagelaw9.BellOrder', WHERE WHAT IT READS IS OF BULK AT MOST 1048576: true; the input reads as it did. -/
def bellOrderUptoRow : OpenClaim := { program := "ytbieffenicojpaa", sum := "be18112bfbf231b0b9dce325e0a027457e651aeb17ba28f0d1deec8d1a8070b3", func := "commonage/commonagelaw9.BellOrder", spec := "bellOrder", apart := false, narrowed := true }
def BellOrderUptoSaid : Prop := bellOrderUptoRow.holds Try.pinned (OpenSpec.upto bellOrderSpec)

/-- 'commonagelaw9.BellNone', WHERE WHAT IT READS IS OF BULK AT MOST 1048576: true; the input reads as it did. -/
def bellNoneUptoRow : OpenClaim := { program := "ytbieffenicojpaa", sum := "be18112bfbf231b0b9dce325e0a027457e651aeb17ba28f0d1deec8d1a8070b3", func := "commonage/commonagelaw9.BellNone", spec := "bellNone", apart := false, narrowed := true }
def BellNoneUptoSaid : Prop := bellNoneUptoRow.holds Try.pinned (OpenSpec.upto bellNoneSpec)

end Rows
end Go.Proofs.Ytbieffenicojpaa
