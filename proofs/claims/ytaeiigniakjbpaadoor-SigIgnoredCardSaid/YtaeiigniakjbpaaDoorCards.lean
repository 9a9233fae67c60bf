/-
  DERIVED. GIVEN WITH THE SEED: THE CARDS: each row of YtaeiigniakjbpaaDoorRows.lean that lists a variable, with what it lists TIED to the program's text (the seventh form; the later family's looks); each row that meets fmt, with fmt's text TOLD by the authors' own Lean function (tested against real Go, not proved from fmt's source: count such statements apart). THE CARD IS WHAT COUNTS. Prove the row's statement (the work); the ties are given (YtaeiigniakjbpaaDoorTie.lean); close each card by the builder's one call (the guide's Derived/Test/ToyasCard.lean, 'card_holds'). Laid BY PROGRAM, IN A SANDBOX (cutbox-door.mjs). By AI agents, Wed Nov 11 2026. No macro, syntax, notation, axiom, sorry.
-/
import Derived.Test.YtaeiigniakjbpaaDoorRows
import GoSem.ClaimSeven
namespace Go.Proofs.YtaeiigniakjbpaaDoor
namespace Rows

/-- THE TIED CARD OF 'commonagelaw14.SigIgnored'. -/
def sigIgnoredCard : Claim7 := { stood := { row := sigIgnoredRow, standIns := [], harness := (true, "104cc56f50dc7336519614196cef6f96320e778d6d1e453c3774b92c7dc0cb07"), looks := false }, kinds := [], alts := [], laidByText := true, laidKinds := [.data, .data], laidTests := true, laidLooks := .later }
def SigIgnoredCardSaid : Prop := Claim7.holds Tryd.pinned (.plain (OpenSpec.ofChange sigIgnoredSpec)) sigIgnoredCard

/-- THE TIED CARD OF 'commonagelaw14.SigStops'. -/
def sigStopsCard : Claim7 := { stood := { row := sigStopsRow, standIns := [], harness := (true, "104cc56f50dc7336519614196cef6f96320e778d6d1e453c3774b92c7dc0cb07"), looks := false }, kinds := [], alts := [], laidByText := true, laidKinds := [.data, .data], laidTests := true, laidLooks := .later }
def SigStopsCardSaid : Prop := Claim7.holds Tryd.pinned (.plain (OpenSpec.ofChange sigStopsSpec)) sigStopsCard

/-- THE TIED CARD OF 'commonagelaw14.SigPlays'. -/
def sigPlaysCard : Claim7 := { stood := { row := sigPlaysRow, standIns := [], harness := (true, "104cc56f50dc7336519614196cef6f96320e778d6d1e453c3774b92c7dc0cb07"), looks := false }, kinds := [], alts := [], laidByText := true, laidKinds := [.data, .data], laidTests := true, laidLooks := .later }
def SigPlaysCardSaid : Prop := Claim7.holds Tryd.pinned (.plain (OpenSpec.ofChange sigPlaysSpec)) sigPlaysCard

/-- THE TIED CARD OF 'commonagelaw14.SigHard'. -/
def sigHardCard : Claim7 := { stood := { row := sigHardRow, standIns := [], harness := (true, "104cc56f50dc7336519614196cef6f96320e778d6d1e453c3774b92c7dc0cb07"), looks := false }, kinds := [], alts := [], laidByText := true, laidKinds := [.data, .data], laidTests := true, laidLooks := .later }
def SigHardCardSaid : Prop := Claim7.holds Tryd.pinned (.plain (OpenSpec.ofChange sigHardSpec)) sigHardCard

/-- THE TIED CARD OF 'commonagelaw14.SigOnce'. -/
def sigOnceCard : Claim7 := { stood := { row := sigOnceRow, standIns := [], harness := (true, "104cc56f50dc7336519614196cef6f96320e778d6d1e453c3774b92c7dc0cb07"), looks := false }, kinds := [], alts := [], laidByText := true, laidKinds := [.data, .data], laidTests := true, laidLooks := .later }
def SigOnceCardSaid : Prop := Claim7.holds Tryd.pinned (.plain (OpenSpec.ofChange sigOnceSpec)) sigOnceCard

/-- THE SECOND FORM's CARD OF 'commonagelaw14.SigIgnored'. -/
def sigIgnoredUptoCard : Claim7 := { stood := { row := sigIgnoredUptoRow, standIns := [], harness := (true, "104cc56f50dc7336519614196cef6f96320e778d6d1e453c3774b92c7dc0cb07"), looks := false }, kinds := [], alts := [], laidByText := true, laidKinds := [.data, .data], laidTests := true, laidLooks := .later }
def SigIgnoredUptoCardSaid : Prop := Claim7.holds Tryd.pinned (.plain (OpenSpec.upto sigIgnoredSpec)) sigIgnoredUptoCard

/-- THE SECOND FORM's CARD OF 'commonagelaw14.SigStops'. -/
def sigStopsUptoCard : Claim7 := { stood := { row := sigStopsUptoRow, standIns := [], harness := (true, "104cc56f50dc7336519614196cef6f96320e778d6d1e453c3774b92c7dc0cb07"), looks := false }, kinds := [], alts := [], laidByText := true, laidKinds := [.data, .data], laidTests := true, laidLooks := .later }
def SigStopsUptoCardSaid : Prop := Claim7.holds Tryd.pinned (.plain (OpenSpec.upto sigStopsSpec)) sigStopsUptoCard

/-- THE SECOND FORM's CARD OF 'commonagelaw14.SigPlays'. -/
def sigPlaysUptoCard : Claim7 := { stood := { row := sigPlaysUptoRow, standIns := [], harness := (true, "104cc56f50dc7336519614196cef6f96320e778d6d1e453c3774b92c7dc0cb07"), looks := false }, kinds := [], alts := [], laidByText := true, laidKinds := [.data, .data], laidTests := true, laidLooks := .later }
def SigPlaysUptoCardSaid : Prop := Claim7.holds Tryd.pinned (.plain (OpenSpec.upto sigPlaysSpec)) sigPlaysUptoCard

/-- THE SECOND FORM's CARD OF 'commonagelaw14.SigHard'. -/
def sigHardUptoCard : Claim7 := { stood := { row := sigHardUptoRow, standIns := [], harness := (true, "104cc56f50dc7336519614196cef6f96320e778d6d1e453c3774b92c7dc0cb07"), looks := false }, kinds := [], alts := [], laidByText := true, laidKinds := [.data, .data], laidTests := true, laidLooks := .later }
def SigHardUptoCardSaid : Prop := Claim7.holds Tryd.pinned (.plain (OpenSpec.upto sigHardSpec)) sigHardUptoCard

/-- THE SECOND FORM's CARD OF 'commonagelaw14.SigOnce'. -/
def sigOnceUptoCard : Claim7 := { stood := { row := sigOnceUptoRow, standIns := [], harness := (true, "104cc56f50dc7336519614196cef6f96320e778d6d1e453c3774b92c7dc0cb07"), looks := false }, kinds := [], alts := [], laidByText := true, laidKinds := [.data, .data], laidTests := true, laidLooks := .later }
def SigOnceUptoCardSaid : Prop := Claim7.holds Tryd.pinned (.plain (OpenSpec.upto sigOnceSpec)) sigOnceUptoCard
end Rows
end Go.Proofs.YtaeiigniakjbpaaDoor
