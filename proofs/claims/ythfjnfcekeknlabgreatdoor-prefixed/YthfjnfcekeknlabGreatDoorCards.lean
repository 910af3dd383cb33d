/-
  DERIVED. GIVEN WITH THE SEED: THE CARDS: each row of YthfjnfcekeknlabGreatDoorRows.lean that lists a variable, with what it lists TIED to the program's text (the seventh form; the later family's looks); each row that meets fmt, with fmt's text TOLD by the authors' own Lean function (tested against real Go, not proved from fmt's source: count such statements apart). THE CARD IS WHAT COUNTS. Prove the row's statement (the work); the ties are given (YthfjnfcekeknlabGreatDoorTie.lean); close each card by the builder's one call (the guide's Derived/Test/ToyasCard.lean, 'card_holds'). Laid BY PROGRAM, IN A SANDBOX (cutbox-door.mjs). By AI agents, Wed Nov 11 2026. No macro, syntax, notation, axiom, sorry.
-/
import Derived.Test.YthfjnfcekeknlabGreatDoorRows
import GoSem.ClaimSeven
namespace Go.Proofs.YthfjnfcekeknlabGreatDoor
namespace Rows

/-- THE TIED CARD OF 'parleykeep.Guarded'. -/
def guardedCard : Claim7 := { stood := { row := guardedRow, standIns := [], harness := (true, "b0f7ceb720f348f0294bb30b9996d156ec737355d33980a235ede9dc88cbaf43"), looks := false }, kinds := [], alts := [], laidByText := true, laidKinds := [.data, .data, .data, .data], laidTests := true, laidLooks := .later }
def GuardedCardSaid : Prop := Claim7.holds Tryz.pinned (.plain (OpenSpec.ofChange guardedSpec)) guardedCard

/-- THE TIED CARD OF 'parleykeep.Prefixed'. -/
def prefixedCard : Claim7 := { stood := { row := prefixedRow, standIns := [], harness := (true, "b0f7ceb720f348f0294bb30b9996d156ec737355d33980a235ede9dc88cbaf43"), looks := false }, kinds := [], alts := [], laidByText := true, laidKinds := [.data, .data, .data, .data], laidTests := true, laidLooks := .later }
def PrefixedCardSaid : Prop := Claim7.holds Tryz.pinned (.plain (OpenSpec.ofChange prefixedSpec)) prefixedCard

/-- THE TIED CARD OF 'parleylaw.All'. -/
def allCard : Claim7 := { stood := { row := allRow, standIns := [], harness := (true, "b0f7ceb720f348f0294bb30b9996d156ec737355d33980a235ede9dc88cbaf43"), looks := false }, kinds := [], alts := [], laidByText := true, laidKinds := [.data, .data, .data, .data], laidTests := true, laidLooks := .later }
def AllCardSaid : Prop := Claim7.holds Tryz.pinned (.plain (OpenSpec.ofChange allSpec)) allCard

/-- THE SECOND FORM's CARD OF 'parleykeep.Guarded'. -/
def guardedUptoCard : Claim7 := { stood := { row := guardedUptoRow, standIns := [], harness := (true, "b0f7ceb720f348f0294bb30b9996d156ec737355d33980a235ede9dc88cbaf43"), looks := false }, kinds := [], alts := [], laidByText := true, laidKinds := [.data, .data, .data, .data], laidTests := true, laidLooks := .later }
def GuardedUptoCardSaid : Prop := Claim7.holds Tryz.pinned (.plain (OpenSpec.upto guardedSpec)) guardedUptoCard

/-- THE SECOND FORM's CARD OF 'parleykeep.Prefixed'. -/
def prefixedUptoCard : Claim7 := { stood := { row := prefixedUptoRow, standIns := [], harness := (true, "b0f7ceb720f348f0294bb30b9996d156ec737355d33980a235ede9dc88cbaf43"), looks := false }, kinds := [], alts := [], laidByText := true, laidKinds := [.data, .data, .data, .data], laidTests := true, laidLooks := .later }
def PrefixedUptoCardSaid : Prop := Claim7.holds Tryz.pinned (.plain (OpenSpec.upto prefixedSpec)) prefixedUptoCard

/-- THE SECOND FORM's CARD OF 'parleylaw.All'. -/
def allUptoCard : Claim7 := { stood := { row := allUptoRow, standIns := [], harness := (true, "b0f7ceb720f348f0294bb30b9996d156ec737355d33980a235ede9dc88cbaf43"), looks := false }, kinds := [], alts := [], laidByText := true, laidKinds := [.data, .data, .data, .data], laidTests := true, laidLooks := .later }
def AllUptoCardSaid : Prop := Claim7.holds Tryz.pinned (.plain (OpenSpec.upto allSpec)) allUptoCard
end Rows
end Go.Proofs.YthfjnfcekeknlabGreatDoor
