/-
  DERIVED. GIVEN WITH THE SEED: THE CARDS: each row of YthfjnfcekeknlaaGreatDoorRows.lean that lists a variable, with what it lists TIED to the program's text (the seventh form; the later family's looks); each row that meets fmt, with fmt's text TOLD by the authors' own Lean function (tested against real Go, not proved from fmt's source: count such statements apart). THE CARD IS WHAT COUNTS. Prove the row's statement (the work); the ties are given (YthfjnfcekeknlaaGreatDoorTie.lean); close each card by the builder's one call (the guide's Derived/Test/ToyasCard.lean, 'card_holds'). Laid BY PROGRAM, IN A SANDBOX (cutbox-door.mjs). By AI agents, Wed Nov 11 2026. No macro, syntax, notation, axiom, sorry.
-/
import Derived.Test.YthfjnfcekeknlaaGreatDoorRows
import GoSem.ClaimSeven
namespace Go.Proofs.YthfjnfcekeknlaaGreatDoor
namespace Rows

/-- THE TIED CARD OF 'parleylaw.Checks'. -/
def checksCard : Claim7 := { stood := { row := checksRow, standIns := [], harness := (true, "c9b474d731f2fb1c2a94a115d5146843bfbe006909e95158c92c56722cb8585b"), looks := false }, kinds := [], alts := [], laidByText := true, laidKinds := [.data, .data, .data, .data], laidTests := true, laidLooks := .later }
def ChecksCardSaid : Prop := Claim7.holds Tryz.pinned (.plain (OpenSpec.ofChange checksSpec)) checksCard

/-- THE TIED CARD OF 'parleylaw.Shows'. -/
def showsCard : Claim7 := { stood := { row := showsRow, standIns := [], harness := (true, "c9b474d731f2fb1c2a94a115d5146843bfbe006909e95158c92c56722cb8585b"), looks := false }, kinds := [], alts := [], laidByText := true, laidKinds := [.data, .data, .data, .data], laidTests := true, laidLooks := .later }
def ShowsCardSaid : Prop := Claim7.holds Tryz.pinned (.plain (OpenSpec.ofChange showsSpec)) showsCard

/-- THE TIED CARD OF 'parleylaw.Unifies'. -/
def unifiesCard : Claim7 := { stood := { row := unifiesRow, standIns := [], harness := (true, "c9b474d731f2fb1c2a94a115d5146843bfbe006909e95158c92c56722cb8585b"), looks := false }, kinds := [], alts := [], laidByText := true, laidKinds := [.data, .data, .data, .data], laidTests := true, laidLooks := .later }
def UnifiesCardSaid : Prop := Claim7.holds Tryz.pinned (.plain (OpenSpec.ofChange unifiesSpec)) unifiesCard

/-- THE TIED CARD OF 'parleylaw.Matches'. -/
def matchesCard : Claim7 := { stood := { row := matchesRow, standIns := [], harness := (true, "c9b474d731f2fb1c2a94a115d5146843bfbe006909e95158c92c56722cb8585b"), looks := false }, kinds := [], alts := [], laidByText := true, laidKinds := [.data, .data, .data, .data], laidTests := true, laidLooks := .later }
def MatchesCardSaid : Prop := Claim7.holds Tryz.pinned (.plain (OpenSpec.ofChange matchesSpec)) matchesCard

/-- THE TIED CARD OF 'parleylaw.Runs'. -/
def runsCard : Claim7 := { stood := { row := runsRow, standIns := [], harness := (true, "c9b474d731f2fb1c2a94a115d5146843bfbe006909e95158c92c56722cb8585b"), looks := false }, kinds := [], alts := [], laidByText := true, laidKinds := [.data, .data, .data, .data], laidTests := true, laidLooks := .later }
def RunsCardSaid : Prop := Claim7.holds Tryz.pinned (.plain (OpenSpec.ofChange runsSpec)) runsCard

/-- THE TIED CARD OF 'parleykeep.Appended'. -/
def appendedCard : Claim7 := { stood := { row := appendedRow, standIns := [], harness := (true, "c9b474d731f2fb1c2a94a115d5146843bfbe006909e95158c92c56722cb8585b"), looks := false }, kinds := [], alts := [], laidByText := true, laidKinds := [.data, .data, .data, .data], laidTests := true, laidLooks := .later }
def AppendedCardSaid : Prop := Claim7.holds Tryz.pinned (.plain (OpenSpec.ofChange appendedSpec)) appendedCard

/-- THE TIED CARD OF 'parleykeep.Streamed'. -/
def streamedCard : Claim7 := { stood := { row := streamedRow, standIns := [], harness := (true, "c9b474d731f2fb1c2a94a115d5146843bfbe006909e95158c92c56722cb8585b"), looks := false }, kinds := [], alts := [], laidByText := true, laidKinds := [.data, .data, .data, .data], laidTests := true, laidLooks := .later }
def StreamedCardSaid : Prop := Claim7.holds Tryz.pinned (.plain (OpenSpec.ofChange streamedSpec)) streamedCard

/-- THE TIED CARD OF 'parleykeep.Merged'. -/
def mergedCard : Claim7 := { stood := { row := mergedRow, standIns := [], harness := (true, "c9b474d731f2fb1c2a94a115d5146843bfbe006909e95158c92c56722cb8585b"), looks := false }, kinds := [], alts := [], laidByText := true, laidKinds := [.data, .data, .data, .data], laidTests := true, laidLooks := .later }
def MergedCardSaid : Prop := Claim7.holds Tryz.pinned (.plain (OpenSpec.ofChange mergedSpec)) mergedCard

/-- THE TIED CARD OF 'parleykeep.Summed'. -/
def summedCard : Claim7 := { stood := { row := summedRow, standIns := [], harness := (true, "c9b474d731f2fb1c2a94a115d5146843bfbe006909e95158c92c56722cb8585b"), looks := false }, kinds := [], alts := [], laidByText := true, laidKinds := [.data, .data, .data, .data], laidTests := true, laidLooks := .later }
def SummedCardSaid : Prop := Claim7.holds Tryz.pinned (.plain (OpenSpec.ofChange summedSpec)) summedCard

/-- THE SECOND FORM's CARD OF 'parleylaw.Checks'. -/
def checksUptoCard : Claim7 := { stood := { row := checksUptoRow, standIns := [], harness := (true, "c9b474d731f2fb1c2a94a115d5146843bfbe006909e95158c92c56722cb8585b"), looks := false }, kinds := [], alts := [], laidByText := true, laidKinds := [.data, .data, .data, .data], laidTests := true, laidLooks := .later }
def ChecksUptoCardSaid : Prop := Claim7.holds Tryz.pinned (.plain (OpenSpec.upto checksSpec)) checksUptoCard

/-- THE SECOND FORM's CARD OF 'parleylaw.Shows'. -/
def showsUptoCard : Claim7 := { stood := { row := showsUptoRow, standIns := [], harness := (true, "c9b474d731f2fb1c2a94a115d5146843bfbe006909e95158c92c56722cb8585b"), looks := false }, kinds := [], alts := [], laidByText := true, laidKinds := [.data, .data, .data, .data], laidTests := true, laidLooks := .later }
def ShowsUptoCardSaid : Prop := Claim7.holds Tryz.pinned (.plain (OpenSpec.upto showsSpec)) showsUptoCard

/-- THE SECOND FORM's CARD OF 'parleylaw.Unifies'. -/
def unifiesUptoCard : Claim7 := { stood := { row := unifiesUptoRow, standIns := [], harness := (true, "c9b474d731f2fb1c2a94a115d5146843bfbe006909e95158c92c56722cb8585b"), looks := false }, kinds := [], alts := [], laidByText := true, laidKinds := [.data, .data, .data, .data], laidTests := true, laidLooks := .later }
def UnifiesUptoCardSaid : Prop := Claim7.holds Tryz.pinned (.plain (OpenSpec.upto unifiesSpec)) unifiesUptoCard

/-- THE SECOND FORM's CARD OF 'parleylaw.Matches'. -/
def matchesUptoCard : Claim7 := { stood := { row := matchesUptoRow, standIns := [], harness := (true, "c9b474d731f2fb1c2a94a115d5146843bfbe006909e95158c92c56722cb8585b"), looks := false }, kinds := [], alts := [], laidByText := true, laidKinds := [.data, .data, .data, .data], laidTests := true, laidLooks := .later }
def MatchesUptoCardSaid : Prop := Claim7.holds Tryz.pinned (.plain (OpenSpec.upto matchesSpec)) matchesUptoCard

/-- THE SECOND FORM's CARD OF 'parleylaw.Runs'. -/
def runsUptoCard : Claim7 := { stood := { row := runsUptoRow, standIns := [], harness := (true, "c9b474d731f2fb1c2a94a115d5146843bfbe006909e95158c92c56722cb8585b"), looks := false }, kinds := [], alts := [], laidByText := true, laidKinds := [.data, .data, .data, .data], laidTests := true, laidLooks := .later }
def RunsUptoCardSaid : Prop := Claim7.holds Tryz.pinned (.plain (OpenSpec.upto runsSpec)) runsUptoCard

/-- THE SECOND FORM's CARD OF 'parleykeep.Appended'. -/
def appendedUptoCard : Claim7 := { stood := { row := appendedUptoRow, standIns := [], harness := (true, "c9b474d731f2fb1c2a94a115d5146843bfbe006909e95158c92c56722cb8585b"), looks := false }, kinds := [], alts := [], laidByText := true, laidKinds := [.data, .data, .data, .data], laidTests := true, laidLooks := .later }
def AppendedUptoCardSaid : Prop := Claim7.holds Tryz.pinned (.plain (OpenSpec.upto appendedSpec)) appendedUptoCard

/-- THE SECOND FORM's CARD OF 'parleykeep.Streamed'. -/
def streamedUptoCard : Claim7 := { stood := { row := streamedUptoRow, standIns := [], harness := (true, "c9b474d731f2fb1c2a94a115d5146843bfbe006909e95158c92c56722cb8585b"), looks := false }, kinds := [], alts := [], laidByText := true, laidKinds := [.data, .data, .data, .data], laidTests := true, laidLooks := .later }
def StreamedUptoCardSaid : Prop := Claim7.holds Tryz.pinned (.plain (OpenSpec.upto streamedSpec)) streamedUptoCard

/-- THE SECOND FORM's CARD OF 'parleykeep.Merged'. -/
def mergedUptoCard : Claim7 := { stood := { row := mergedUptoRow, standIns := [], harness := (true, "c9b474d731f2fb1c2a94a115d5146843bfbe006909e95158c92c56722cb8585b"), looks := false }, kinds := [], alts := [], laidByText := true, laidKinds := [.data, .data, .data, .data], laidTests := true, laidLooks := .later }
def MergedUptoCardSaid : Prop := Claim7.holds Tryz.pinned (.plain (OpenSpec.upto mergedSpec)) mergedUptoCard

/-- THE SECOND FORM's CARD OF 'parleykeep.Summed'. -/
def summedUptoCard : Claim7 := { stood := { row := summedUptoRow, standIns := [], harness := (true, "c9b474d731f2fb1c2a94a115d5146843bfbe006909e95158c92c56722cb8585b"), looks := false }, kinds := [], alts := [], laidByText := true, laidKinds := [.data, .data, .data, .data], laidTests := true, laidLooks := .later }
def SummedUptoCardSaid : Prop := Claim7.holds Tryz.pinned (.plain (OpenSpec.upto summedSpec)) summedUptoCard
end Rows
end Go.Proofs.YthfjnfcekeknlaaGreatDoor
