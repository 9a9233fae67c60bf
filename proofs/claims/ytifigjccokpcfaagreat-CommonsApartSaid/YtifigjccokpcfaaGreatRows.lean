/-
  No cell of these rows narrows 'for every input' (looked for: loops, veiled, ifaces, maps, wideKeys, modest, calm, conditions, laid).
  DERIVED. THE GIVEN ROWS OF THIS SEAT. 5 by the template 'for every input the law returns true; each argument reads behind the call as it read before'; 0 by the template 'total and deterministic' (their statements: YtifigjccokpcfaaGreatTotals.lean).
  GIVEN WITH THE SEED: the statements are not yours to turn. If you find one false, say at which input.
  Laid BY PROGRAM, IN A SANDBOX (cutbox-rows.mjs): the forced cells as the released guide's own fill.sh prints them over the translation c35ae61800cbd808… (all of the seat's roots in one cut). By AI agents, Wed Nov 11 2026. No macro, syntax, notation, axiom, sorry.
-/
import Derived.Test.YtifigjccokpcfaaGreatChecked
import GoSem.Claim
import GoSem.ClaimJoined
import GoSem.ClaimMapViews
import Derived.JoinedTies
import Derived.KernelRfl
namespace Go.Proofs.YtifigjccokpcfaaGreat
/- THE CELL 'sum', in the pinned program and in every row, IS THE sha256 OF THE DUMP (.gsa) THAT YtifigjccokpcfaaGreatProg.lean LOADS. Nothing in Lean hashes anything: it is a label: what it is worth is what the hold of that sum in a sandbox is worth. -/
noncomputable def Tryz.pinned : Pinned := { name := "ytifigjccokpcfaagreat", sum := "c35ae61800cbd8089193588122a6ddefe89ff3d0212df28495e75da1ead1ee41", checked := Tryz.checked }
namespace Rows
def none {H : Type} : Left H := { results := [], args := [] }

/-- 'commonagelaw15.CommonsBytes': WHATEVER THE INPUT: true; the input reads as it did. -/
def commonsBytesSpec : ChangeSpec := { name := "commonsBytes", fn := fun _ => fun
  | [d1, d2, d3, d4] => { results := [.lit (.bool true)], args := [d1, d2, d3, d4] }
  | _ => none }
def commonsBytesRow : OpenClaim := { program := "ytifigjccokpcfaagreat", sum := "c35ae61800cbd8089193588122a6ddefe89ff3d0212df28495e75da1ead1ee41", func := "commonage/commonagelaw15.CommonsBytes", spec := "commonsBytes", unfollowed := true, recurses := true, plainKeys := false, apart := false }
def CommonsBytesSaid : Prop := commonsBytesRow.holds Tryz.pinned (OpenSpec.ofChange commonsBytesSpec)

/-- ITS FALSE NEIGHBOUR: 'it returns false'. Refute it at one input. -/
def commonsBytesWrong : ChangeSpec := { name := "commonsBytes", fn := fun _ => fun
  | [d1, d2, d3, d4] => { results := [.lit (.bool false)], args := [d1, d2, d3, d4] }
  | _ => none }
def CommonsBytesWrongFalsely : Prop := commonsBytesRow.holds Tryz.pinned (OpenSpec.ofChange commonsBytesWrong)

/-- 'commonagelaw15.CommonsPlays': WHATEVER THE INPUT: true; the input reads as it did. -/
def commonsPlaysSpec : ChangeSpec := { name := "commonsPlays", fn := fun _ => fun
  | [d] => { results := [.lit (.bool true)], args := [d] }
  | _ => none }
def commonsPlaysRow : OpenClaim := { program := "ytifigjccokpcfaagreat", sum := "c35ae61800cbd8089193588122a6ddefe89ff3d0212df28495e75da1ead1ee41", func := "commonage/commonagelaw15.CommonsPlays", spec := "commonsPlays", unfollowed := true, recurses := true, plainKeys := false, apart := false }
def CommonsPlaysSaid : Prop := commonsPlaysRow.holds Tryz.pinned (OpenSpec.ofChange commonsPlaysSpec)

/-- ITS FALSE NEIGHBOUR: 'it returns false'. Refute it at one input. -/
def commonsPlaysWrong : ChangeSpec := { name := "commonsPlays", fn := fun _ => fun
  | [d] => { results := [.lit (.bool false)], args := [d] }
  | _ => none }
def CommonsPlaysWrongFalsely : Prop := commonsPlaysRow.holds Tryz.pinned (OpenSpec.ofChange commonsPlaysWrong)

/-- 'commonagelaw15.CommonsApart': WHATEVER THE INPUT: true; the input reads as it did. -/
def commonsApartSpec : ChangeSpec := { name := "commonsApart", fn := fun _ => fun
  | [d1, d2, d3] => { results := [.lit (.bool true)], args := [d1, d2, d3] }
  | _ => none }
def commonsApartRow : OpenClaim := { program := "ytifigjccokpcfaagreat", sum := "c35ae61800cbd8089193588122a6ddefe89ff3d0212df28495e75da1ead1ee41", func := "commonage/commonagelaw15.CommonsApart", spec := "commonsApart", unfollowed := true, recurses := true, plainKeys := false, apart := false }
def CommonsApartSaid : Prop := commonsApartRow.holds Tryz.pinned (OpenSpec.ofChange commonsApartSpec)

/-- ITS FALSE NEIGHBOUR: 'it returns false'. Refute it at one input. -/
def commonsApartWrong : ChangeSpec := { name := "commonsApart", fn := fun _ => fun
  | [d1, d2, d3] => { results := [.lit (.bool false)], args := [d1, d2, d3] }
  | _ => none }
def CommonsApartWrongFalsely : Prop := commonsApartRow.holds Tryz.pinned (OpenSpec.ofChange commonsApartWrong)

/-- 'commonagelaw15.CommonsBridges': WHATEVER THE INPUT: true; the input reads as it did. -/
def commonsBridgesSpec : ChangeSpec := { name := "commonsBridges", fn := fun _ => fun
  | [d1, d2, d3] => { results := [.lit (.bool true)], args := [d1, d2, d3] }
  | _ => none }
def commonsBridgesRow : OpenClaim := { program := "ytifigjccokpcfaagreat", sum := "c35ae61800cbd8089193588122a6ddefe89ff3d0212df28495e75da1ead1ee41", func := "commonage/commonagelaw15.CommonsBridges", spec := "commonsBridges", unfollowed := true, recurses := true, plainKeys := false, apart := false }
def CommonsBridgesSaid : Prop := commonsBridgesRow.holds Tryz.pinned (OpenSpec.ofChange commonsBridgesSpec)

/-- ITS FALSE NEIGHBOUR: 'it returns false'. Refute it at one input. -/
def commonsBridgesWrong : ChangeSpec := { name := "commonsBridges", fn := fun _ => fun
  | [d1, d2, d3] => { results := [.lit (.bool false)], args := [d1, d2, d3] }
  | _ => none }
def CommonsBridgesWrongFalsely : Prop := commonsBridgesRow.holds Tryz.pinned (OpenSpec.ofChange commonsBridgesWrong)

/-- 'commonagelaw15.CommonsGone': WHATEVER THE INPUT: true; the input reads as it did. -/
def commonsGoneSpec : ChangeSpec := { name := "commonsGone", fn := fun _ => fun
  | [d1, d2] => { results := [.lit (.bool true)], args := [d1, d2] }
  | _ => none }
def commonsGoneRow : OpenClaim := { program := "ytifigjccokpcfaagreat", sum := "c35ae61800cbd8089193588122a6ddefe89ff3d0212df28495e75da1ead1ee41", func := "commonage/commonagelaw15.CommonsGone", spec := "commonsGone", unfollowed := true, recurses := true, plainKeys := false, apart := false }
def CommonsGoneSaid : Prop := commonsGoneRow.holds Tryz.pinned (OpenSpec.ofChange commonsGoneSpec)

/-- ITS FALSE NEIGHBOUR: 'it returns false'. Refute it at one input. -/
def commonsGoneWrong : ChangeSpec := { name := "commonsGone", fn := fun _ => fun
  | [d1, d2] => { results := [.lit (.bool false)], args := [d1, d2] }
  | _ => none }
def CommonsGoneWrongFalsely : Prop := commonsGoneRow.holds Tryz.pinned (OpenSpec.ofChange commonsGoneWrong)

/- THE SECOND FORM. 'bulk': how many values and letters a reading holds, each counted each time it is reached (what is shared counts as often as it is met; a slice's spare places count too). A statement '..UptoSaid' is the law's where the arguments, and the package variables that the reading takes, are together of bulk at most 1048576: NARROWER than '..Said'. Prove '..Said' where nothing that the law and all that it calls make is longer than what came in: it says more and counts as full. Else prove '..UptoSaid'. A law counts once. -/
mutual
def uptoBulk {H : Type} : DataW H → Nat
  | .lit (.string bytes) => bytes.length + 1
  | .lit _ => 1
  | .nil => 1
  | .ptr d => uptoBulk d + 1
  | .slice elems spare => uptoBulkAll elems + uptoBulkAll spare + 1
  | .agg parts => uptoBulkAll parts + 1
  | .iface _ d => uptoBulk d + 1
  | .map entries => uptoBulkEntries entries + 1
  | .held _ => 1
def uptoBulkAll {H : Type} : List (DataW H) → Nat
  | [] => 0
  | d :: r => uptoBulk d + uptoBulkAll r
def uptoBulkEntries {H : Type} : List (Lit × DataW H) → Nat
  | [] => 0
  | x :: r => uptoBulkEntry x + uptoBulkEntries r
def uptoBulkEntry {H : Type} : Lit × DataW H → Nat
  | (.string bytes, d) => bytes.length + uptoBulk d + 1
  | (_, d) => uptoBulk d + 1
 end
def uptoSmall : (H : Type) → List (DataW H) → Bool := fun _ ds => decide (uptoBulkAll ds ≤ 1048576)
def OpenSpec.upto (s : _root_.Go.ChangeSpec) : _root_.Go.OpenSpec := { _root_.Go.OpenSpec.ofChange s with cond := some uptoSmall }

/-- 'commonagelaw15.CommonsBytes', WHERE WHAT IT READS IS OF BULK AT MOST 1048576: true; the input reads as it did. -/
def commonsBytesUptoRow : OpenClaim := { program := "ytifigjccokpcfaagreat", sum := "c35ae61800cbd8089193588122a6ddefe89ff3d0212df28495e75da1ead1ee41", func := "commonage/commonagelaw15.CommonsBytes", spec := "commonsBytes", unfollowed := true, recurses := true, plainKeys := false, apart := false, narrowed := true }
def CommonsBytesUptoSaid : Prop := commonsBytesUptoRow.holds Tryz.pinned (OpenSpec.upto commonsBytesSpec)

/-- 'commonagelaw15.CommonsPlays', WHERE WHAT IT READS IS OF BULK AT MOST 1048576: true; the input reads as it did. -/
def commonsPlaysUptoRow : OpenClaim := { program := "ytifigjccokpcfaagreat", sum := "c35ae61800cbd8089193588122a6ddefe89ff3d0212df28495e75da1ead1ee41", func := "commonage/commonagelaw15.CommonsPlays", spec := "commonsPlays", unfollowed := true, recurses := true, plainKeys := false, apart := false, narrowed := true }
def CommonsPlaysUptoSaid : Prop := commonsPlaysUptoRow.holds Tryz.pinned (OpenSpec.upto commonsPlaysSpec)

/-- 'commonagelaw15.CommonsApart', WHERE WHAT IT READS IS OF BULK AT MOST 1048576: true; the input reads as it did. -/
def commonsApartUptoRow : OpenClaim := { program := "ytifigjccokpcfaagreat", sum := "c35ae61800cbd8089193588122a6ddefe89ff3d0212df28495e75da1ead1ee41", func := "commonage/commonagelaw15.CommonsApart", spec := "commonsApart", unfollowed := true, recurses := true, plainKeys := false, apart := false, narrowed := true }
def CommonsApartUptoSaid : Prop := commonsApartUptoRow.holds Tryz.pinned (OpenSpec.upto commonsApartSpec)

/-- 'commonagelaw15.CommonsBridges', WHERE WHAT IT READS IS OF BULK AT MOST 1048576: true; the input reads as it did. -/
def commonsBridgesUptoRow : OpenClaim := { program := "ytifigjccokpcfaagreat", sum := "c35ae61800cbd8089193588122a6ddefe89ff3d0212df28495e75da1ead1ee41", func := "commonage/commonagelaw15.CommonsBridges", spec := "commonsBridges", unfollowed := true, recurses := true, plainKeys := false, apart := false, narrowed := true }
def CommonsBridgesUptoSaid : Prop := commonsBridgesUptoRow.holds Tryz.pinned (OpenSpec.upto commonsBridgesSpec)

/-- 'commonagelaw15.CommonsGone', WHERE WHAT IT READS IS OF BULK AT MOST 1048576: true; the input reads as it did. -/
def commonsGoneUptoRow : OpenClaim := { program := "ytifigjccokpcfaagreat", sum := "c35ae61800cbd8089193588122a6ddefe89ff3d0212df28495e75da1ead1ee41", func := "commonage/commonagelaw15.CommonsGone", spec := "commonsGone", unfollowed := true, recurses := true, plainKeys := false, apart := false, narrowed := true }
def CommonsGoneUptoSaid : Prop := commonsGoneUptoRow.holds Tryz.pinned (OpenSpec.upto commonsGoneSpec)

end Rows
end Go.Proofs.YtifigjccokpcfaaGreat
