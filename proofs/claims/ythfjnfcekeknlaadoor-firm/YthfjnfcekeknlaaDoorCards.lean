/-
  DERIVED. GIVEN WITH THE SEED: THE CARDS: each row of YthfjnfcekeknlaaDoorRows.lean that lists a variable, with what it lists TIED to the program's text (the seventh form; the later family's looks); each row that meets fmt, with fmt's text TOLD by the authors' own Lean function (tested against real Go, not proved from fmt's source: count such statements apart). THE CARD IS WHAT COUNTS. Prove the row's statement (the work); the ties are given (YthfjnfcekeknlaaDoorTie.lean); close each card by the builder's one call (the guide's Derived/Test/ToyasCard.lean, 'card_holds'). Laid BY PROGRAM, IN A SANDBOX (cutbox-door.mjs). By AI agents, Wed Nov 11 2026. No macro, syntax, notation, axiom, sorry.
-/
import Derived.Test.YthfjnfcekeknlaaDoorRows
import GoSem.ClaimSeven
namespace Go.Proofs.YthfjnfcekeknlaaDoor
namespace Rows

/-- THE TIED CARD OF 'parleykeep.Reshown'. -/
def reshownCard : Claim7 := { stood := { row := reshownRow, standIns := [], harness := (true, "264848a600f78ec2cbbab98e2f01a1f4cf09ff5b467f25a484487b55f9017a7d"), looks := false }, kinds := [], alts := [], laidByText := true, laidKinds := [.data, .data, .data, .data], laidTests := true, laidLooks := .later }
def ReshownCardSaid : Prop := Claim7.holds Tryd.pinned (.plain (OpenSpec.ofChange reshownSpec)) reshownCard

/-- THE TIED CARD OF 'parleykeep.Common'. -/
def commonCard : Claim7 := { stood := { row := commonRow, standIns := [], harness := (true, "264848a600f78ec2cbbab98e2f01a1f4cf09ff5b467f25a484487b55f9017a7d"), looks := false }, kinds := [], alts := [], laidByText := true, laidKinds := [.data, .data, .data, .data], laidTests := true, laidLooks := .later }
def CommonCardSaid : Prop := Claim7.holds Tryd.pinned (.plain (OpenSpec.ofChange commonSpec)) commonCard

/-- THE TIED CARD OF 'parleykeep.Firm'. -/
def firmCard : Claim7 := { stood := { row := firmRow, standIns := [], harness := (true, "264848a600f78ec2cbbab98e2f01a1f4cf09ff5b467f25a484487b55f9017a7d"), looks := false }, kinds := [], alts := [], laidByText := true, laidKinds := [.data, .data, .data, .data], laidTests := true, laidLooks := .later }
def FirmCardSaid : Prop := Claim7.holds Tryd.pinned (.plain (OpenSpec.ofChange firmSpec)) firmCard

/-- THE SECOND FORM's CARD OF 'parleykeep.Reshown'. -/
def reshownUptoCard : Claim7 := { stood := { row := reshownUptoRow, standIns := [], harness := (true, "264848a600f78ec2cbbab98e2f01a1f4cf09ff5b467f25a484487b55f9017a7d"), looks := false }, kinds := [], alts := [], laidByText := true, laidKinds := [.data, .data, .data, .data], laidTests := true, laidLooks := .later }
def ReshownUptoCardSaid : Prop := Claim7.holds Tryd.pinned (.plain (OpenSpec.upto reshownSpec)) reshownUptoCard

/-- THE SECOND FORM's CARD OF 'parleykeep.Common'. -/
def commonUptoCard : Claim7 := { stood := { row := commonUptoRow, standIns := [], harness := (true, "264848a600f78ec2cbbab98e2f01a1f4cf09ff5b467f25a484487b55f9017a7d"), looks := false }, kinds := [], alts := [], laidByText := true, laidKinds := [.data, .data, .data, .data], laidTests := true, laidLooks := .later }
def CommonUptoCardSaid : Prop := Claim7.holds Tryd.pinned (.plain (OpenSpec.upto commonSpec)) commonUptoCard

/-- THE SECOND FORM's CARD OF 'parleykeep.Firm'. -/
def firmUptoCard : Claim7 := { stood := { row := firmUptoRow, standIns := [], harness := (true, "264848a600f78ec2cbbab98e2f01a1f4cf09ff5b467f25a484487b55f9017a7d"), looks := false }, kinds := [], alts := [], laidByText := true, laidKinds := [.data, .data, .data, .data], laidTests := true, laidLooks := .later }
def FirmUptoCardSaid : Prop := Claim7.holds Tryd.pinned (.plain (OpenSpec.upto firmSpec)) firmUptoCard
end Rows
end Go.Proofs.YthfjnfcekeknlaaDoor
