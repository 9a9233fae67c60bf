/-
  No cell of these rows narrows 'for every input' (looked for: loops, veiled, ifaces, maps, wideKeys, modest, calm, conditions, laid).
  DERIVED. THE GIVEN ROWS OF THIS SEAT. 4 by the template 'for every input the law returns true; each argument reads behind the call as it read before'; 0 by the template 'total and deterministic' (their statements: YtjkmbffcmgeknaaTotals.lean).
  GIVEN WITH THE SEED: the statements are not yours to turn. If you find one false, say at which input.
  Laid BY PROGRAM, IN A SANDBOX (cutbox-rows.mjs): the forced cells as the released guide's own fill.sh prints them over the translation fe80eac4757dfd00… (all of the seat's roots in one cut). By AI agents, Wed Nov 11 2026. No macro, syntax, notation, axiom, sorry.
-/
import Derived.Test.YtjkmbffcmgeknaaChecked
import GoSem.Claim
import GoSem.ClaimJoined
import GoSem.ClaimMapViews
import Derived.JoinedTies
import Derived.KernelRfl
namespace Go.Proofs.Ytjkmbffcmgeknaa
/- THE CELL 'sum', in the pinned program and in every row, IS THE sha256 OF THE DUMP (.gsa) THAT YtjkmbffcmgeknaaProg.lean LOADS. Nothing in Lean hashes anything: it is a label: what it is worth is what the hold of that sum in a sandbox is worth. -/
noncomputable def Try.pinned : Pinned := { name := "ytjkmbffcmgeknaa", sum := "fe80eac4757dfd006121027460f65fda8003b11ed6a8327070ff4c7dd4201960", checked := Try.checked }
namespace Rows
def none {H : Type} : Left H := { results := [], args := [] }

/-- 'commonagelaw3.CapsAlone': WHATEVER THE INPUT: true; the input reads as it did. -/
def capsAloneSpec : ChangeSpec := { name := "capsAlone", fn := fun _ => fun
  | [d] => { results := [.lit (.bool true)], args := [d] }
  | _ => none }
def capsAloneRow : OpenClaim := { program := "ytjkmbffcmgeknaa", sum := "fe80eac4757dfd006121027460f65fda8003b11ed6a8327070ff4c7dd4201960", func := "commonage/commonagelaw3.CapsAlone", spec := "capsAlone", unfollowed := true, recurses := true, plainKeys := false, apart := false }
def CapsAloneSaid : Prop := capsAloneRow.holds Try.pinned (OpenSpec.ofChange capsAloneSpec)

/-- ITS FALSE NEIGHBOUR: 'it returns false'. Refute it at one input. -/
def capsAloneWrong : ChangeSpec := { name := "capsAlone", fn := fun _ => fun
  | [d] => { results := [.lit (.bool false)], args := [d] }
  | _ => none }
def CapsAloneWrongFalsely : Prop := capsAloneRow.holds Try.pinned (OpenSpec.ofChange capsAloneWrong)

/-- 'commonagelaw3.CapsParts': WHATEVER THE INPUT: true; the input reads as it did. -/
def capsPartsSpec : ChangeSpec := { name := "capsParts", fn := fun _ => fun
  | [d1, d2, d3, d4, d5] => { results := [.lit (.bool true)], args := [d1, d2, d3, d4, d5] }
  | _ => none }
def capsPartsRow : OpenClaim := { program := "ytjkmbffcmgeknaa", sum := "fe80eac4757dfd006121027460f65fda8003b11ed6a8327070ff4c7dd4201960", func := "commonage/commonagelaw3.CapsParts", spec := "capsParts", unfollowed := true, recurses := true, plainKeys := false, apart := false }
def CapsPartsSaid : Prop := capsPartsRow.holds Try.pinned (OpenSpec.ofChange capsPartsSpec)

/-- ITS FALSE NEIGHBOUR: 'it returns false'. Refute it at one input. -/
def capsPartsWrong : ChangeSpec := { name := "capsParts", fn := fun _ => fun
  | [d1, d2, d3, d4, d5] => { results := [.lit (.bool false)], args := [d1, d2, d3, d4, d5] }
  | _ => none }
def CapsPartsWrongFalsely : Prop := capsPartsRow.holds Try.pinned (OpenSpec.ofChange capsPartsWrong)

/-- 'commonagelaw3.CapsLess': WHATEVER THE INPUT: true; the input reads as it did. -/
def capsLessSpec : ChangeSpec := { name := "capsLess", fn := fun _ => fun
  | [d1, d2] => { results := [.lit (.bool true)], args := [d1, d2] }
  | _ => none }
def capsLessRow : OpenClaim := { program := "ytjkmbffcmgeknaa", sum := "fe80eac4757dfd006121027460f65fda8003b11ed6a8327070ff4c7dd4201960", func := "commonage/commonagelaw3.CapsLess", spec := "capsLess", unfollowed := true, recurses := true, plainKeys := false, apart := false }
def CapsLessSaid : Prop := capsLessRow.holds Try.pinned (OpenSpec.ofChange capsLessSpec)

/-- ITS FALSE NEIGHBOUR: 'it returns false'. Refute it at one input. -/
def capsLessWrong : ChangeSpec := { name := "capsLess", fn := fun _ => fun
  | [d1, d2] => { results := [.lit (.bool false)], args := [d1, d2] }
  | _ => none }
def CapsLessWrongFalsely : Prop := capsLessRow.holds Try.pinned (OpenSpec.ofChange capsLessWrong)

/-- 'commonagelaw3.CapsFull': WHATEVER THE INPUT: true; the input reads as it did. -/
def capsFullSpec : ChangeSpec := { name := "capsFull", fn := fun _ => fun
  | [d1, d2] => { results := [.lit (.bool true)], args := [d1, d2] }
  | _ => none }
def capsFullRow : OpenClaim := { program := "ytjkmbffcmgeknaa", sum := "fe80eac4757dfd006121027460f65fda8003b11ed6a8327070ff4c7dd4201960", func := "commonage/commonagelaw3.CapsFull", spec := "capsFull", unfollowed := true, recurses := true, plainKeys := false, apart := false }
def CapsFullSaid : Prop := capsFullRow.holds Try.pinned (OpenSpec.ofChange capsFullSpec)

/-- ITS FALSE NEIGHBOUR: 'it returns false'. Refute it at one input. -/
def capsFullWrong : ChangeSpec := { name := "capsFull", fn := fun _ => fun
  | [d1, d2] => { results := [.lit (.bool false)], args := [d1, d2] }
  | _ => none }
def CapsFullWrongFalsely : Prop := capsFullRow.holds Try.pinned (OpenSpec.ofChange capsFullWrong)

/- THE SECOND FORM. 'bulk': how many values and letters a reading holds, each counted each time it is reached (what is shared counts as often as it is met; a slice's spare places count too). A statement '..UptoSaid' is the law's where the arguments, and the package variables that the reading takes, are together of bulk at most 1048576: NARROWER than '..Said'. Prove '..Said' where nothing that the law and all that it calls make is longer than what came in: it says more and counts as full. Else prove '..UptoSaid'. A law counts once. -/
mutual
def uptoBulk {H : Type} : DataW H → Nat
  | .lit (.string bytes) => bytes.length + 1
  | .lit _ => 1
  | .nil => 1
  | .ptr d => uptoBulk d + 1
  | .slice elems spare => uptoBulkAll elems + uptoBulkAll spare + 1
  | .agg parts => uptoBulkAll parts + 1
  | .iface _ d => uptoBulk d + 1
  | .map entries => uptoBulkEntries entries + 1
  | .held _ => 1
def uptoBulkAll {H : Type} : List (DataW H) → Nat
  | [] => 0
  | d :: r => uptoBulk d + uptoBulkAll r
def uptoBulkEntries {H : Type} : List (Lit × DataW H) → Nat
  | [] => 0
  | x :: r => uptoBulkEntry x + uptoBulkEntries r
def uptoBulkEntry {H : Type} : Lit × DataW H → Nat
  | (.string bytes, d) => bytes.length + uptoBulk d + 1
  | (_, d) => uptoBulk d + 1
 end
def uptoSmall : (H : Type) → List (DataW H) → Bool := fun _ ds => decide (uptoBulkAll ds ≤ 1048576)
def OpenSpec.upto (s : _root_.Go.ChangeSpec) : _root_.Go.OpenSpec := { _root_.Go.OpenSpec.ofChange s with cond := some uptoSmall }

/-- 'commonagelaw3.CapsAlone', WHERE WHAT IT READS IS OF BULK AT MOST 1048576: true; the input reads as it did. -/
def capsAloneUptoRow : OpenClaim := { program := "ytjkmbffcmgeknaa", sum := "fe80eac4757dfd006121027460f65fda8003b11ed6a8327070ff4c7dd4201960", func := "commonage/commonagelaw3.CapsAlone", spec := "capsAlone", unfollowed := true, recurses := true, plainKeys := false, apart := false, narrowed := true }
def CapsAloneUptoSaid : Prop := capsAloneUptoRow.holds Try.pinned (OpenSpec.upto capsAloneSpec)

/-- 'commonagelaw3.CapsParts', WHERE WHAT IT READS IS OF BULK AT MOST 1048576: true; the input reads as it did. -/
def capsPartsUptoRow : OpenClaim := { program := "ytjkmbffcmgeknaa", sum := "fe80eac4757dfd006121027460f65fda8003b11ed6a8327070ff4c7dd4201960", func := "commonage/commonagelaw3.CapsParts", spec := "capsParts", unfollowed := true, recurses := true, plainKeys := false, apart := false, narrowed := true }
def CapsPartsUptoSaid : Prop := capsPartsUptoRow.holds Try.pinned (OpenSpec.upto capsPartsSpec)

/-- 'commonagelaw3.CapsLess', WHERE WHAT IT READS IS OF BULK AT MOST 1048576: true; the input reads as it did. -/
def capsLessUptoRow : OpenClaim := { program := "ytjkmbffcmgeknaa", sum := "fe80eac4757dfd006121027460f65fda8003b11ed6a8327070ff4c7dd4201960", func := "commonage/commonagelaw3.CapsLess", spec := "capsLess", unfollowed := true, recurses := true, plainKeys := false, apart := false, narrowed := true }
def CapsLessUptoSaid : Prop := capsLessUptoRow.holds Try.pinned (OpenSpec.upto capsLessSpec)

/-- 'commonagelaw3.CapsFull', WHERE WHAT IT READS IS OF BULK AT MOST 1048576: true; the input reads as it did. -/
def capsFullUptoRow : OpenClaim := { program := "ytjkmbffcmgeknaa", sum := "fe80eac4757dfd006121027460f65fda8003b11ed6a8327070ff4c7dd4201960", func := "commonage/commonagelaw3.CapsFull", spec := "capsFull", unfollowed := true, recurses := true, plainKeys := false, apart := false, narrowed := true }
def CapsFullUptoSaid : Prop := capsFullUptoRow.holds Try.pinned (OpenSpec.upto capsFullSpec)

end Rows
end Go.Proofs.Ytjkmbffcmgeknaa
