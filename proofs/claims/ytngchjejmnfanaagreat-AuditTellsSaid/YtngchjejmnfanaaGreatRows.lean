/-
  No cell of these rows narrows 'for every input' (looked for: loops, veiled, ifaces, maps, wideKeys, modest, calm, conditions, laid).
  DERIVED. THE GIVEN ROWS OF THIS SEAT. 4 by the template 'for every input the law returns true; each argument reads behind the call as it read before'; 0 by the template 'total and deterministic' (their statements: YtngchjejmnfanaaGreatTotals.lean).
  GIVEN WITH THE SEED: the statements are not yours to turn. If you find one false, say at which input.
  Laid BY PROGRAM, IN A SANDBOX (cutbox-rows.mjs): the forced cells as the released guide's own fill.sh prints them over the translation 1ae3e3c8cf397f1c… (all of the seat's roots in one cut). By AI agents, Wed Nov 11 2026. No macro, syntax, notation, axiom, sorry.
-/
import Derived.Test.YtngchjejmnfanaaGreatChecked
import GoSem.Claim
import GoSem.ClaimJoined
import GoSem.ClaimMapViews
import Derived.JoinedTies
import Derived.KernelRfl
namespace Go.Proofs.YtngchjejmnfanaaGreat
/- THE CELL 'sum', in the pinned program and in every row, IS THE sha256 OF THE DUMP (.gsa) THAT YtngchjejmnfanaaGreatProg.lean LOADS. Nothing in Lean hashes anything: it is a label: what it is worth is what the hold of that sum in a sandbox is worth. -/
noncomputable def Tryz.pinned : Pinned := { name := "ytngchjejmnfanaagreat", sum := "1ae3e3c8cf397f1c2493f6a8c08bb6810e7ccdafa5a48734f159cecd00db60f2", checked := Tryz.checked }
namespace Rows
def none {H : Type} : Left H := { results := [], args := [] }

/-- 'commonagelaw15.CommonsPlays': WHATEVER THE INPUT: true; the input reads as it did. -/
def commonsPlaysSpec : ChangeSpec := { name := "commonsPlays", fn := fun _ => fun
  | [d] => { results := [.lit (.bool true)], args := [d] }
  | _ => none }
def commonsPlaysRow : OpenClaim := { program := "ytngchjejmnfanaagreat", sum := "1ae3e3c8cf397f1c2493f6a8c08bb6810e7ccdafa5a48734f159cecd00db60f2", func := "commonage/commonagelaw15.CommonsPlays", spec := "commonsPlays", unfollowed := true, recurses := true, plainKeys := false, apart := false }
def CommonsPlaysSaid : Prop := commonsPlaysRow.holds Tryz.pinned (OpenSpec.ofChange commonsPlaysSpec)

/-- ITS FALSE NEIGHBOUR: 'it returns false'. Refute it at one input. -/
def commonsPlaysWrong : ChangeSpec := { name := "commonsPlays", fn := fun _ => fun
  | [d] => { results := [.lit (.bool false)], args := [d] }
  | _ => none }
def CommonsPlaysWrongFalsely : Prop := commonsPlaysRow.holds Tryz.pinned (OpenSpec.ofChange commonsPlaysWrong)

/-- 'commonagelaw16.AuditLinks': WHATEVER THE INPUT: true; the input reads as it did. -/
def auditLinksSpec : ChangeSpec := { name := "auditLinks", fn := fun _ => fun
  | [d1, d2] => { results := [.lit (.bool true)], args := [d1, d2] }
  | _ => none }
def auditLinksRow : OpenClaim := { program := "ytngchjejmnfanaagreat", sum := "1ae3e3c8cf397f1c2493f6a8c08bb6810e7ccdafa5a48734f159cecd00db60f2", func := "commonage/commonagelaw16.AuditLinks", spec := "auditLinks", unfollowed := true, recurses := true, plainKeys := false, apart := false }
def AuditLinksSaid : Prop := auditLinksRow.holds Tryz.pinned (OpenSpec.ofChange auditLinksSpec)

/-- ITS FALSE NEIGHBOUR: 'it returns false'. Refute it at one input. -/
def auditLinksWrong : ChangeSpec := { name := "auditLinks", fn := fun _ => fun
  | [d1, d2] => { results := [.lit (.bool false)], args := [d1, d2] }
  | _ => none }
def AuditLinksWrongFalsely : Prop := auditLinksRow.holds Tryz.pinned (OpenSpec.ofChange auditLinksWrong)

/-- 'commonagelaw16.AuditTells': WHATEVER THE INPUT: true; the input reads as it did. -/
def auditTellsSpec : ChangeSpec := { name := "auditTells", fn := fun _ => fun
  | [d1, d2] => { results := [.lit (.bool true)], args := [d1, d2] }
  | _ => none }
def auditTellsRow : OpenClaim := { program := "ytngchjejmnfanaagreat", sum := "1ae3e3c8cf397f1c2493f6a8c08bb6810e7ccdafa5a48734f159cecd00db60f2", func := "commonage/commonagelaw16.AuditTells", spec := "auditTells", unfollowed := true, recurses := true, plainKeys := false, apart := false }
def AuditTellsSaid : Prop := auditTellsRow.holds Tryz.pinned (OpenSpec.ofChange auditTellsSpec)

/-- ITS FALSE NEIGHBOUR: 'it returns false'. Refute it at one input. -/
def auditTellsWrong : ChangeSpec := { name := "auditTells", fn := fun _ => fun
  | [d1, d2] => { results := [.lit (.bool false)], args := [d1, d2] }
  | _ => none }
def AuditTellsWrongFalsely : Prop := auditTellsRow.holds Tryz.pinned (OpenSpec.ofChange auditTellsWrong)

/-- 'commonagelaw16.AuditOne': WHATEVER THE INPUT: true; the input reads as it did. -/
def auditOneSpec : ChangeSpec := { name := "auditOne", fn := fun _ => fun
  | [d1, d2, d3] => { results := [.lit (.bool true)], args := [d1, d2, d3] }
  | _ => none }
def auditOneRow : OpenClaim := { program := "ytngchjejmnfanaagreat", sum := "1ae3e3c8cf397f1c2493f6a8c08bb6810e7ccdafa5a48734f159cecd00db60f2", func := "commonage/commonagelaw16.AuditOne", spec := "auditOne", unfollowed := true, recurses := true, plainKeys := false, apart := false }
def AuditOneSaid : Prop := auditOneRow.holds Tryz.pinned (OpenSpec.ofChange auditOneSpec)

/-- ITS FALSE NEIGHBOUR: 'it returns false'. Refute it at one input. -/
def auditOneWrong : ChangeSpec := { name := "auditOne", fn := fun _ => fun
  | [d1, d2, d3] => { results := [.lit (.bool false)], args := [d1, d2, d3] }
  | _ => none }
def AuditOneWrongFalsely : Prop := auditOneRow.holds Tryz.pinned (OpenSpec.ofChange auditOneWrong)

/- THE SECOND FORM. 'bulk': how many values and letters a reading holds, each counted each time it is reached (what is shared counts as often as it is met; a slice's spare places count too). A statement '..UptoSaid' is the law's where the arguments, and the package variables that the reading takes, are together of bulk at most 1048576: NARROWER than '..Said'. Prove '..Said' where nothing that the law and all that it calls make is longer than what came in: it says more and counts as full. Else prove '..UptoSaid'. A law counts once. -/
mutual
def uptoBulk {H : Type} : DataW H → Nat
  | .lit (.string bytes) => bytes.length + 1
  | .lit _ => 1
  | .nil => 1
  | .ptr d => uptoBulk d + 1
  | .slice elems spare => uptoBulkAll elems + uptoBulkAll spare + 1
  | .agg parts => uptoBulkAll parts + 1
  | .iface _ d => uptoBulk d + 1
  | .map entries => uptoBulkEntries entries + 1
  | .held _ => 1
def uptoBulkAll {H : Type} : List (DataW H) → Nat
  | [] => 0
  | d :: r => uptoBulk d + uptoBulkAll r
def uptoBulkEntries {H : Type} : List (Lit × DataW H) → Nat
  | [] => 0
  | x :: r => uptoBulkEntry x + uptoBulkEntries r
def uptoBulkEntry {H : Type} : Lit × DataW H → Nat
  | (.string bytes, d) => bytes.length + uptoBulk d + 1
  | (_, d) => uptoBulk d + 1
 end
def uptoSmall : (H : Type) → List (DataW H) → Bool := fun _ ds => decide (uptoBulkAll ds ≤ 1048576)
def OpenSpec.upto (s : _root_.Go.ChangeSpec) : _root_.Go.OpenSpec := { _root_.Go.OpenSpec.ofChange s with cond := some uptoSmall }

/-- 'commonagelaw15.CommonsPlays', WHERE WHAT IT READS IS OF BULK AT MOST 1048576: true; the input reads as it did. -/
def commonsPlaysUptoRow : OpenClaim := { program := "ytngchjejmnfanaagreat", sum := "1ae3e3c8cf397f1c2493f6a8c08bb6810e7ccdafa5a48734f159cecd00db60f2", func := "commonage/commonagelaw15.CommonsPlays", spec := "commonsPlays", unfollowed := true, recurses := true, plainKeys := false, apart := false, narrowed := true }
def CommonsPlaysUptoSaid : Prop := commonsPlaysUptoRow.holds Tryz.pinned (OpenSpec.upto commonsPlaysSpec)

/-- 'commonagelaw16.AuditLinks', WHERE WHAT IT READS IS OF BULK AT MOST 1048576: true; the input reads as it did. -/
def auditLinksUptoRow : OpenClaim := { program := "ytngchjejmnfanaagreat", sum := "1ae3e3c8cf397f1c2493f6a8c08bb6810e7ccdafa5a48734f159cecd00db60f2", func := "commonage/commonagelaw16.AuditLinks", spec := "auditLinks", unfollowed := true, recurses := true, plainKeys := false, apart := false, narrowed := true }
def AuditLinksUptoSaid : Prop := auditLinksUptoRow.holds Tryz.pinned (OpenSpec.upto auditLinksSpec)

/-- 'commonagelaw16.AuditTells', WHERE WHAT IT READS IS OF BULK AT MOST 1048576: true; the input reads as it did. -/
def auditTellsUptoRow : OpenClaim := { program := "ytngchjejmnfanaagreat", sum := "1ae3e3c8cf397f1c2493f6a8c08bb6810e7ccdafa5a48734f159cecd00db60f2", func := "commonage/commonagelaw16.AuditTells", spec := "auditTells", unfollowed := true, recurses := true, plainKeys := false, apart := false, narrowed := true }
def AuditTellsUptoSaid : Prop := auditTellsUptoRow.holds Tryz.pinned (OpenSpec.upto auditTellsSpec)

/-- 'commonagelaw16.AuditOne', WHERE WHAT IT READS IS OF BULK AT MOST 1048576: true; the input reads as it did. -/
def auditOneUptoRow : OpenClaim := { program := "ytngchjejmnfanaagreat", sum := "1ae3e3c8cf397f1c2493f6a8c08bb6810e7ccdafa5a48734f159cecd00db60f2", func := "commonage/commonagelaw16.AuditOne", spec := "auditOne", unfollowed := true, recurses := true, plainKeys := false, apart := false, narrowed := true }
def AuditOneUptoSaid : Prop := auditOneUptoRow.holds Tryz.pinned (OpenSpec.upto auditOneSpec)

end Rows
end Go.Proofs.YtngchjejmnfanaaGreat
