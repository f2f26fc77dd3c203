/-
  DERIVED. GIVEN WITH THE SEED: THE CARDS: each row of YtloallndnmofnaaGreatDoorRows.lean that lists a variable, with what it lists TIED to the program's text (the seventh form; the later family's looks); each row that meets fmt, with fmt's text TOLD by the authors' own Lean function (tested against real Go, not proved from fmt's source: count such statements apart). THE CARD IS WHAT COUNTS. Prove the row's statement (the work); the ties are given (YtloallndnmofnaaGreatDoorTie.lean); close each card by the builder's one call (the guide's Derived/Test/ToyasCard.lean, 'card_holds'). Laid BY PROGRAM, IN A SANDBOX (cutbox-door.mjs). By AI agents, Wed Nov 11 2026. No macro, syntax, notation, axiom, sorry.
-/
import Derived.Test.YtloallndnmofnaaGreatDoorRows
import GoSem.ClaimSeven
namespace Go.Proofs.YtloallndnmofnaaGreatDoor
namespace Rows

/-- THE TIED CARD OF 'heliographlaw06.LedgerWrites'. -/
def ledgerWritesCard : Claim7 := { stood := { row := ledgerWritesRow, standIns := [], harness := (true, "7845520b668da0dd1fd82c0f86e7f3ded7cb264fc1a2301b954217b9a1b67a74"), looks := true }, kinds := [], alts := [], laidByText := true, laidKinds := [.data, .data, .data, .sentinel, .sentinel, .data, .data], laidTests := true, laidLooks := .later }
def LedgerWritesCardSaid : Prop := Claim7.holds Tryz.pinned (.plain (OpenSpec.ofChange ledgerWritesSpec)) ledgerWritesCard

/-- THE SECOND FORM's CARD OF 'heliographlaw06.LedgerWrites'. -/
def ledgerWritesUptoCard : Claim7 := { stood := { row := ledgerWritesUptoRow, standIns := [], harness := (true, "7845520b668da0dd1fd82c0f86e7f3ded7cb264fc1a2301b954217b9a1b67a74"), looks := true }, kinds := [], alts := [], laidByText := true, laidKinds := [.data, .data, .data, .sentinel, .sentinel, .data, .data], laidTests := true, laidLooks := .later }
def LedgerWritesUptoCardSaid : Prop := Claim7.holds Tryz.pinned (.plain (OpenSpec.upto ledgerWritesSpec)) ledgerWritesUptoCard
end Rows
end Go.Proofs.YtloallndnmofnaaGreatDoor
