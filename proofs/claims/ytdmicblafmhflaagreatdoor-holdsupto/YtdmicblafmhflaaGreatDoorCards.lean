/-
  DERIVED. GIVEN WITH THE SEED: THE CARDS: each row of YtdmicblafmhflaaGreatDoorRows.lean that lists a variable, with what it lists TIED to the program's text (the seventh form; the later family's looks); each row that meets fmt, with fmt's text TOLD by the authors' own Lean function (tested against real Go, not proved from fmt's source: count such statements apart). THE CARD IS WHAT COUNTS. Prove the row's statement (the work); the ties are given (YtdmicblafmhflaaGreatDoorTie.lean); close each card by the builder's one call (the guide's Derived/Test/ToyasCard.lean, 'card_holds'). Laid BY PROGRAM, IN A SANDBOX (cutbox-door.mjs). By AI agents, Wed Nov 11 2026. No macro, syntax, notation, axiom, sorry.
-/
import Derived.Test.YtdmicblafmhflaaGreatDoorRows
import GoSem.ClaimSeven
namespace Go.Proofs.YtdmicblafmhflaaGreatDoor
namespace Rows

/-- THE TIED CARD OF 'axiomlaw.Holds'. -/
def holdsCard : Claim7 := { stood := { row := holdsRow, standIns := [], harness := (true, "543559351bddc17737125c21ef57bad3a349a428a159532d9ace798a9c249717"), looks := false }, kinds := [], alts := [], laidByText := true, laidKinds := [.data, .data, .data, .data, .data, .pinned], laidTests := true, laidLooks := .later }
def HoldsCardSaid : Prop := Claim7.holds Tryz.pinned (.plain (OpenSpec.ofChange holdsSpec)) holdsCard

/-- THE TIED CARD OF 'axiomkeep.Least'. -/
def leastCard : Claim7 := { stood := { row := leastRow, standIns := [], harness := (true, "543559351bddc17737125c21ef57bad3a349a428a159532d9ace798a9c249717"), looks := false }, kinds := [], alts := [], laidByText := true, laidKinds := [.data, .data, .pinned], laidTests := true, laidLooks := .later }
def LeastCardSaid : Prop := Claim7.holds Tryz.pinned (.plain (OpenSpec.ofChange leastSpec)) leastCard

/-- THE TIED CARD OF 'axiomkeep.Listed'. -/
def listedCard : Claim7 := { stood := { row := listedRow, standIns := [], harness := (true, "543559351bddc17737125c21ef57bad3a349a428a159532d9ace798a9c249717"), looks := false }, kinds := [], alts := [], laidByText := true, laidKinds := [.data, .data, .pinned], laidTests := true, laidLooks := .later }
def ListedCardSaid : Prop := Claim7.holds Tryz.pinned (.plain (OpenSpec.ofChange listedSpec)) listedCard

/-- THE TIED CARD OF 'axiomlaw.Written'. -/
def writtenCard : Claim7 := { stood := { row := writtenRow, standIns := [], harness := (true, "543559351bddc17737125c21ef57bad3a349a428a159532d9ace798a9c249717"), looks := false }, kinds := [], alts := [], laidByText := true, laidKinds := [.data, .data, .data, .data, .data, .pinned], laidTests := true, laidLooks := .later }
def WrittenCardSaid : Prop := Claim7.holds Tryz.pinned (.plain (OpenSpec.ofChange writtenSpec)) writtenCard

/-- THE TIED CARD OF 'axiomkeep.Resumed'. -/
def resumedCard : Claim7 := { stood := { row := resumedRow, standIns := [], harness := (true, "543559351bddc17737125c21ef57bad3a349a428a159532d9ace798a9c249717"), looks := false }, kinds := [], alts := [], laidByText := true, laidKinds := [.data, .data, .pinned], laidTests := true, laidLooks := .later }
def ResumedCardSaid : Prop := Claim7.holds Tryz.pinned (.plain (OpenSpec.ofChange resumedSpec)) resumedCard

/-- THE TIED CARD OF 'axiomkeep.Canonical'. -/
def canonicalCard : Claim7 := { stood := { row := canonicalRow, standIns := [], harness := (true, "543559351bddc17737125c21ef57bad3a349a428a159532d9ace798a9c249717"), looks := false }, kinds := [], alts := [], laidByText := true, laidKinds := [.data, .data, .pinned], laidTests := true, laidLooks := .later }
def CanonicalCardSaid : Prop := Claim7.holds Tryz.pinned (.plain (OpenSpec.ofChange canonicalSpec)) canonicalCard

/-- THE TIED CARD OF 'axiomkeep.Strict'. -/
def strictCard : Claim7 := { stood := { row := strictRow, standIns := [], harness := (true, "543559351bddc17737125c21ef57bad3a349a428a159532d9ace798a9c249717"), looks := false }, kinds := [], alts := [], laidByText := true, laidKinds := [.data, .data, .pinned], laidTests := true, laidLooks := .later }
def StrictCardSaid : Prop := Claim7.holds Tryz.pinned (.plain (OpenSpec.ofChange strictSpec)) strictCard

/-- THE TIED CARD OF 'axiomkeep.Replayed'. -/
def replayedCard : Claim7 := { stood := { row := replayedRow, standIns := [], harness := (true, "543559351bddc17737125c21ef57bad3a349a428a159532d9ace798a9c249717"), looks := false }, kinds := [], alts := [], laidByText := true, laidKinds := [.data, .data, .pinned], laidTests := true, laidLooks := .later }
def ReplayedCardSaid : Prop := Claim7.holds Tryz.pinned (.plain (OpenSpec.ofChange replayedSpec)) replayedCard

/-- THE TIED CARD OF 'axiomlaw.All'. -/
def allCard : Claim7 := { stood := { row := allRow, standIns := [], harness := (true, "543559351bddc17737125c21ef57bad3a349a428a159532d9ace798a9c249717"), looks := false }, kinds := [], alts := [], laidByText := true, laidKinds := [.data, .data, .data, .data, .data, .pinned], laidTests := true, laidLooks := .later }
def AllCardSaid : Prop := Claim7.holds Tryz.pinned (.plain (OpenSpec.ofChange allSpec)) allCard

/-- THE SECOND FORM's CARD OF 'axiomlaw.Holds'. -/
def holdsUptoCard : Claim7 := { stood := { row := holdsUptoRow, standIns := [], harness := (true, "543559351bddc17737125c21ef57bad3a349a428a159532d9ace798a9c249717"), looks := false }, kinds := [], alts := [], laidByText := true, laidKinds := [.data, .data, .data, .data, .data, .pinned], laidTests := true, laidLooks := .later }
def HoldsUptoCardSaid : Prop := Claim7.holds Tryz.pinned (.plain (OpenSpec.upto holdsSpec)) holdsUptoCard

/-- THE SECOND FORM's CARD OF 'axiomkeep.Least'. -/
def leastUptoCard : Claim7 := { stood := { row := leastUptoRow, standIns := [], harness := (true, "543559351bddc17737125c21ef57bad3a349a428a159532d9ace798a9c249717"), looks := false }, kinds := [], alts := [], laidByText := true, laidKinds := [.data, .data, .pinned], laidTests := true, laidLooks := .later }
def LeastUptoCardSaid : Prop := Claim7.holds Tryz.pinned (.plain (OpenSpec.upto leastSpec)) leastUptoCard

/-- THE SECOND FORM's CARD OF 'axiomkeep.Listed'. -/
def listedUptoCard : Claim7 := { stood := { row := listedUptoRow, standIns := [], harness := (true, "543559351bddc17737125c21ef57bad3a349a428a159532d9ace798a9c249717"), looks := false }, kinds := [], alts := [], laidByText := true, laidKinds := [.data, .data, .pinned], laidTests := true, laidLooks := .later }
def ListedUptoCardSaid : Prop := Claim7.holds Tryz.pinned (.plain (OpenSpec.upto listedSpec)) listedUptoCard

/-- THE SECOND FORM's CARD OF 'axiomlaw.Written'. -/
def writtenUptoCard : Claim7 := { stood := { row := writtenUptoRow, standIns := [], harness := (true, "543559351bddc17737125c21ef57bad3a349a428a159532d9ace798a9c249717"), looks := false }, kinds := [], alts := [], laidByText := true, laidKinds := [.data, .data, .data, .data, .data, .pinned], laidTests := true, laidLooks := .later }
def WrittenUptoCardSaid : Prop := Claim7.holds Tryz.pinned (.plain (OpenSpec.upto writtenSpec)) writtenUptoCard

/-- THE SECOND FORM's CARD OF 'axiomkeep.Resumed'. -/
def resumedUptoCard : Claim7 := { stood := { row := resumedUptoRow, standIns := [], harness := (true, "543559351bddc17737125c21ef57bad3a349a428a159532d9ace798a9c249717"), looks := false }, kinds := [], alts := [], laidByText := true, laidKinds := [.data, .data, .pinned], laidTests := true, laidLooks := .later }
def ResumedUptoCardSaid : Prop := Claim7.holds Tryz.pinned (.plain (OpenSpec.upto resumedSpec)) resumedUptoCard

/-- THE SECOND FORM's CARD OF 'axiomkeep.Canonical'. -/
def canonicalUptoCard : Claim7 := { stood := { row := canonicalUptoRow, standIns := [], harness := (true, "543559351bddc17737125c21ef57bad3a349a428a159532d9ace798a9c249717"), looks := false }, kinds := [], alts := [], laidByText := true, laidKinds := [.data, .data, .pinned], laidTests := true, laidLooks := .later }
def CanonicalUptoCardSaid : Prop := Claim7.holds Tryz.pinned (.plain (OpenSpec.upto canonicalSpec)) canonicalUptoCard

/-- THE SECOND FORM's CARD OF 'axiomkeep.Strict'. -/
def strictUptoCard : Claim7 := { stood := { row := strictUptoRow, standIns := [], harness := (true, "543559351bddc17737125c21ef57bad3a349a428a159532d9ace798a9c249717"), looks := false }, kinds := [], alts := [], laidByText := true, laidKinds := [.data, .data, .pinned], laidTests := true, laidLooks := .later }
def StrictUptoCardSaid : Prop := Claim7.holds Tryz.pinned (.plain (OpenSpec.upto strictSpec)) strictUptoCard

/-- THE SECOND FORM's CARD OF 'axiomkeep.Replayed'. -/
def replayedUptoCard : Claim7 := { stood := { row := replayedUptoRow, standIns := [], harness := (true, "543559351bddc17737125c21ef57bad3a349a428a159532d9ace798a9c249717"), looks := false }, kinds := [], alts := [], laidByText := true, laidKinds := [.data, .data, .pinned], laidTests := true, laidLooks := .later }
def ReplayedUptoCardSaid : Prop := Claim7.holds Tryz.pinned (.plain (OpenSpec.upto replayedSpec)) replayedUptoCard

/-- THE SECOND FORM's CARD OF 'axiomlaw.All'. -/
def allUptoCard : Claim7 := { stood := { row := allUptoRow, standIns := [], harness := (true, "543559351bddc17737125c21ef57bad3a349a428a159532d9ace798a9c249717"), looks := false }, kinds := [], alts := [], laidByText := true, laidKinds := [.data, .data, .data, .data, .data, .pinned], laidTests := true, laidLooks := .later }
def AllUptoCardSaid : Prop := Claim7.holds Tryz.pinned (.plain (OpenSpec.upto allSpec)) allUptoCard
end Rows
end Go.Proofs.YtdmicblafmhflaaGreatDoor
