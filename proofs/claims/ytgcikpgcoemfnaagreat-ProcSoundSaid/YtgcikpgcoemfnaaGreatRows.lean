/-
  No cell of these rows narrows 'for every input' (looked for: loops, veiled, ifaces, maps, wideKeys, modest, calm, conditions, laid).
  DERIVED. THE GIVEN ROWS OF THIS SEAT. 6 by the template 'for every input the law returns true; each argument reads behind the call as it read before'; 0 by the template 'total and deterministic' (their statements: YtgcikpgcoemfnaaGreatTotals.lean).
  GIVEN WITH THE SEED: the statements are not yours to turn. If you find one false, say at which input.
  Laid BY PROGRAM, IN A SANDBOX (cutbox-rows.mjs): the forced cells as the released guide's own fill.sh prints them over the translation 951bf976e0ce5cf4… (all of the seat's roots in one cut). By AI agents, Wed Nov 11 2026. No macro, syntax, notation, axiom, sorry.
-/
import Derived.Test.YtgcikpgcoemfnaaGreatChecked
import GoSem.Claim
import GoSem.ClaimJoined
import GoSem.ClaimMapViews
import Derived.JoinedTies
import Derived.KernelRfl
namespace Go.Proofs.YtgcikpgcoemfnaaGreat
/- THE CELL 'sum', in the pinned program and in every row, IS THE sha256 OF THE DUMP (.gsa) THAT YtgcikpgcoemfnaaGreatProg.lean LOADS. Nothing in Lean hashes anything: it is a label: what it is worth is what the hold of that sum in a sandbox is worth. -/
noncomputable def Tryz.pinned : Pinned := { name := "ytgcikpgcoemfnaagreat", sum := "951bf976e0ce5cf4768c3964531bf5b2fada4d78895327e0d1b5487073ac20be", checked := Tryz.checked }
namespace Rows
def none {H : Type} : Left H := { results := [], args := [] }

/-- 'commonagelaw17.ProcOrphans': WHATEVER THE INPUT: true; the input reads as it did. -/
def procOrphansSpec : ChangeSpec := { name := "procOrphans", fn := fun _ => fun
  | [d1, d2] => { results := [.lit (.bool true)], args := [d1, d2] }
  | _ => none }
def procOrphansRow : OpenClaim := { program := "ytgcikpgcoemfnaagreat", sum := "951bf976e0ce5cf4768c3964531bf5b2fada4d78895327e0d1b5487073ac20be", func := "commonage/commonagelaw17.ProcOrphans", spec := "procOrphans", unfollowed := true, recurses := true, plainKeys := false, apart := false }
def ProcOrphansSaid : Prop := procOrphansRow.holds Tryz.pinned (OpenSpec.ofChange procOrphansSpec)

/-- ITS FALSE NEIGHBOUR: 'it returns false'. Refute it at one input. -/
def procOrphansWrong : ChangeSpec := { name := "procOrphans", fn := fun _ => fun
  | [d1, d2] => { results := [.lit (.bool false)], args := [d1, d2] }
  | _ => none }
def ProcOrphansWrongFalsely : Prop := procOrphansRow.holds Tryz.pinned (OpenSpec.ofChange procOrphansWrong)

/-- 'commonagelaw17.ProcBad': WHATEVER THE INPUT: true; the input reads as it did. -/
def procBadSpec : ChangeSpec := { name := "procBad", fn := fun _ => fun
  | [d1, d2, d3, d4] => { results := [.lit (.bool true)], args := [d1, d2, d3, d4] }
  | _ => none }
def procBadRow : OpenClaim := { program := "ytgcikpgcoemfnaagreat", sum := "951bf976e0ce5cf4768c3964531bf5b2fada4d78895327e0d1b5487073ac20be", func := "commonage/commonagelaw17.ProcBad", spec := "procBad", unfollowed := true, recurses := true, plainKeys := false, apart := false }
def ProcBadSaid : Prop := procBadRow.holds Tryz.pinned (OpenSpec.ofChange procBadSpec)

/-- ITS FALSE NEIGHBOUR: 'it returns false'. Refute it at one input. -/
def procBadWrong : ChangeSpec := { name := "procBad", fn := fun _ => fun
  | [d1, d2, d3, d4] => { results := [.lit (.bool false)], args := [d1, d2, d3, d4] }
  | _ => none }
def ProcBadWrongFalsely : Prop := procBadRow.holds Tryz.pinned (OpenSpec.ofChange procBadWrong)

/-- 'commonagelaw17.ProcSound': WHATEVER THE INPUT: true; the input reads as it did. -/
def procSoundSpec : ChangeSpec := { name := "procSound", fn := fun _ => fun
  | [d] => { results := [.lit (.bool true)], args := [d] }
  | _ => none }
def procSoundRow : OpenClaim := { program := "ytgcikpgcoemfnaagreat", sum := "951bf976e0ce5cf4768c3964531bf5b2fada4d78895327e0d1b5487073ac20be", func := "commonage/commonagelaw17.ProcSound", spec := "procSound", unfollowed := true, recurses := true, plainKeys := false, apart := false }
def ProcSoundSaid : Prop := procSoundRow.holds Tryz.pinned (OpenSpec.ofChange procSoundSpec)

/-- ITS FALSE NEIGHBOUR: 'it returns false'. Refute it at one input. -/
def procSoundWrong : ChangeSpec := { name := "procSound", fn := fun _ => fun
  | [d] => { results := [.lit (.bool false)], args := [d] }
  | _ => none }
def ProcSoundWrongFalsely : Prop := procSoundRow.holds Tryz.pinned (OpenSpec.ofChange procSoundWrong)

/-- 'commonagelaw17.ProcFamily': WHATEVER THE INPUT: true; the input reads as it did. -/
def procFamilySpec : ChangeSpec := { name := "procFamily", fn := fun _ => fun
  | [d1, d2, d3, d4] => { results := [.lit (.bool true)], args := [d1, d2, d3, d4] }
  | _ => none }
def procFamilyRow : OpenClaim := { program := "ytgcikpgcoemfnaagreat", sum := "951bf976e0ce5cf4768c3964531bf5b2fada4d78895327e0d1b5487073ac20be", func := "commonage/commonagelaw17.ProcFamily", spec := "procFamily", unfollowed := true, recurses := true, plainKeys := false, apart := false }
def ProcFamilySaid : Prop := procFamilyRow.holds Tryz.pinned (OpenSpec.ofChange procFamilySpec)

/-- ITS FALSE NEIGHBOUR: 'it returns false'. Refute it at one input. -/
def procFamilyWrong : ChangeSpec := { name := "procFamily", fn := fun _ => fun
  | [d1, d2, d3, d4] => { results := [.lit (.bool false)], args := [d1, d2, d3, d4] }
  | _ => none }
def ProcFamilyWrongFalsely : Prop := procFamilyRow.holds Tryz.pinned (OpenSpec.ofChange procFamilyWrong)

/-- 'commonagelaw17.ProcFull': WHATEVER THE INPUT: true; the input reads as it did. -/
def procFullSpec : ChangeSpec := { name := "procFull", fn := fun _ => fun
  | [d] => { results := [.lit (.bool true)], args := [d] }
  | _ => none }
def procFullRow : OpenClaim := { program := "ytgcikpgcoemfnaagreat", sum := "951bf976e0ce5cf4768c3964531bf5b2fada4d78895327e0d1b5487073ac20be", func := "commonage/commonagelaw17.ProcFull", spec := "procFull", unfollowed := true, recurses := true, plainKeys := false, apart := false }
def ProcFullSaid : Prop := procFullRow.holds Tryz.pinned (OpenSpec.ofChange procFullSpec)

/-- ITS FALSE NEIGHBOUR: 'it returns false'. Refute it at one input. -/
def procFullWrong : ChangeSpec := { name := "procFull", fn := fun _ => fun
  | [d] => { results := [.lit (.bool false)], args := [d] }
  | _ => none }
def ProcFullWrongFalsely : Prop := procFullRow.holds Tryz.pinned (OpenSpec.ofChange procFullWrong)

/-- 'commonagelaw17.ProcGroups': WHATEVER THE INPUT: true; the input reads as it did. -/
def procGroupsSpec : ChangeSpec := { name := "procGroups", fn := fun _ => fun
  | [d1, d2, d3] => { results := [.lit (.bool true)], args := [d1, d2, d3] }
  | _ => none }
def procGroupsRow : OpenClaim := { program := "ytgcikpgcoemfnaagreat", sum := "951bf976e0ce5cf4768c3964531bf5b2fada4d78895327e0d1b5487073ac20be", func := "commonage/commonagelaw17.ProcGroups", spec := "procGroups", unfollowed := true, recurses := true, plainKeys := false, apart := false }
def ProcGroupsSaid : Prop := procGroupsRow.holds Tryz.pinned (OpenSpec.ofChange procGroupsSpec)

/-- ITS FALSE NEIGHBOUR: 'it returns false'. Refute it at one input. -/
def procGroupsWrong : ChangeSpec := { name := "procGroups", fn := fun _ => fun
  | [d1, d2, d3] => { results := [.lit (.bool false)], args := [d1, d2, d3] }
  | _ => none }
def ProcGroupsWrongFalsely : Prop := procGroupsRow.holds Tryz.pinned (OpenSpec.ofChange procGroupsWrong)

/- THE SECOND FORM. 'bulk': how many values and letters a reading holds, each counted each time it is reached (what is shared counts as often as it is met; a slice's spare places count too). A statement '..UptoSaid' is the law's where the arguments, and the package variables that the reading takes, are together of bulk at most 1048576: NARROWER than '..Said'. Prove '..Said' where nothing that the law and all that it calls make is longer than what came in: it says more and counts as full. Else prove '..UptoSaid'. A law counts once. -/
mutual
def uptoBulk {H : Type} : DataW H → Nat
  | .lit (.string bytes) => bytes.length + 1
  | .lit _ => 1
  | .nil => 1
  | .ptr d => uptoBulk d + 1
  | .slice elems spare => uptoBulkAll elems + uptoBulkAll spare + 1
  | .agg parts => uptoBulkAll parts + 1
  | .iface _ d => uptoBulk d + 1
  | .map entries => uptoBulkEntries entries + 1
  | .held _ => 1
def uptoBulkAll {H : Type} : List (DataW H) → Nat
  | [] => 0
  | d :: r => uptoBulk d + uptoBulkAll r
def uptoBulkEntries {H : Type} : List (Lit × DataW H) → Nat
  | [] => 0
  | x :: r => uptoBulkEntry x + uptoBulkEntries r
def uptoBulkEntry {H : Type} : Lit × DataW H → Nat
  | (.string bytes, d) => bytes.length + uptoBulk d + 1
  | (_, d) => uptoBulk d + 1
 end
def uptoSmall : (H : Type) → List (DataW H) → Bool := fun _ ds => decide (uptoBulkAll ds ≤ 1048576)
def OpenSpec.upto (s : _root_.Go.ChangeSpec) : _root_.Go.OpenSpec := { _root_.Go.OpenSpec.ofChange s with cond := some uptoSmall }

/-- 'commonagelaw17.ProcOrphans', WHERE WHAT IT READS IS OF BULK AT MOST 1048576: true; the input reads as it did. -/
def procOrphansUptoRow : OpenClaim := { program := "ytgcikpgcoemfnaagreat", sum := "951bf976e0ce5cf4768c3964531bf5b2fada4d78895327e0d1b5487073ac20be", func := "commonage/commonagelaw17.ProcOrphans", spec := "procOrphans", unfollowed := true, recurses := true, plainKeys := false, apart := false, narrowed := true }
def ProcOrphansUptoSaid : Prop := procOrphansUptoRow.holds Tryz.pinned (OpenSpec.upto procOrphansSpec)

/-- 'commonagelaw17.ProcBad', WHERE WHAT IT READS IS OF BULK AT MOST 1048576: true; the input reads as it did. -/
def procBadUptoRow : OpenClaim := { program := "ytgcikpgcoemfnaagreat", sum := "951bf976e0ce5cf4768c3964531bf5b2fada4d78895327e0d1b5487073ac20be", func := "commonage/commonagelaw17.ProcBad", spec := "procBad", unfollowed := true, recurses := true, plainKeys := false, apart := false, narrowed := true }
def ProcBadUptoSaid : Prop := procBadUptoRow.holds Tryz.pinned (OpenSpec.upto procBadSpec)

/-- 'commonagelaw17.ProcSound', WHERE WHAT IT READS IS OF BULK AT MOST 1048576: true; the input reads as it did. -/
def procSoundUptoRow : OpenClaim := { program := "ytgcikpgcoemfnaagreat", sum := "951bf976e0ce5cf4768c3964531bf5b2fada4d78895327e0d1b5487073ac20be", func := "commonage/commonagelaw17.ProcSound", spec := "procSound", unfollowed := true, recurses := true, plainKeys := false, apart := false, narrowed := true }
def ProcSoundUptoSaid : Prop := procSoundUptoRow.holds Tryz.pinned (OpenSpec.upto procSoundSpec)

/-- 'commonagelaw17.ProcFamily', WHERE WHAT IT READS IS OF BULK AT MOST 1048576: true; the input reads as it did. -/
def procFamilyUptoRow : OpenClaim := { program := "ytgcikpgcoemfnaagreat", sum := "951bf976e0ce5cf4768c3964531bf5b2fada4d78895327e0d1b5487073ac20be", func := "commonage/commonagelaw17.ProcFamily", spec := "procFamily", unfollowed := true, recurses := true, plainKeys := false, apart := false, narrowed := true }
def ProcFamilyUptoSaid : Prop := procFamilyUptoRow.holds Tryz.pinned (OpenSpec.upto procFamilySpec)

/-- 'commonagelaw17.ProcFull', WHERE WHAT IT READS IS OF BULK AT MOST 1048576: true; the input reads as it did. -/
def procFullUptoRow : OpenClaim := { program := "ytgcikpgcoemfnaagreat", sum := "951bf976e0ce5cf4768c3964531bf5b2fada4d78895327e0d1b5487073ac20be", func := "commonage/commonagelaw17.ProcFull", spec := "procFull", unfollowed := true, recurses := true, plainKeys := false, apart := false, narrowed := true }
def ProcFullUptoSaid : Prop := procFullUptoRow.holds Tryz.pinned (OpenSpec.upto procFullSpec)

/-- 'commonagelaw17.ProcGroups', WHERE WHAT IT READS IS OF BULK AT MOST 1048576: true; the input reads as it did. -/
def procGroupsUptoRow : OpenClaim := { program := "ytgcikpgcoemfnaagreat", sum := "951bf976e0ce5cf4768c3964531bf5b2fada4d78895327e0d1b5487073ac20be", func := "commonage/commonagelaw17.ProcGroups", spec := "procGroups", unfollowed := true, recurses := true, plainKeys := false, apart := false, narrowed := true }
def ProcGroupsUptoSaid : Prop := procGroupsUptoRow.holds Tryz.pinned (OpenSpec.upto procGroupsSpec)

end Rows
end Go.Proofs.YtgcikpgcoemfnaaGreat
