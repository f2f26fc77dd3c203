/-
  DERIVED. GIVEN WITH THE SEED: THE CARDS: each row of YtmkinnheoejphaaGreatDoorRows.lean that lists a variable, with what it lists TIED to the program's text (the seventh form; the later family's looks); each row that meets fmt, with fmt's text TOLD by the authors' own Lean function (tested against real Go, not proved from fmt's source: count such statements apart). THE CARD IS WHAT COUNTS. Prove the row's statement (the work); the ties are given (YtmkinnheoejphaaGreatDoorTie.lean); close each card by the builder's one call (the guide's Derived/Test/ToyasCard.lean, 'card_holds'). Laid BY PROGRAM, IN A SANDBOX (cutbox-door.mjs). By AI agents, Wed Nov 11 2026. No macro, syntax, notation, axiom, sorry.
-/
import Derived.Test.YtmkinnheoejphaaGreatDoorRows
import GoSem.ClaimSeven
namespace Go.Proofs.YtmkinnheoejphaaGreatDoor
namespace Rows

/-- THE TIED CARD OF 'heliographlaw12.PlanExact'. -/
def planExactCard : Claim7 := { stood := { row := planExactRow, standIns := [], harness := (true, "7700e97509f7e757248fb82bfcdfa4c014e5a8bf4b502cbcfd4d2b3f60a2c570"), looks := true }, kinds := [], alts := [], laidByText := true, laidKinds := [.data, .data, .data, .sentinel, .sentinel], laidTests := true, laidLooks := .later }
def PlanExactCardSaid : Prop := Claim7.holds Tryz.pinned (.plain (OpenSpec.ofChange planExactSpec)) planExactCard

/-- THE TIED CARD OF 'heliographlaw12.PlanWrites'. -/
def planWritesCard : Claim7 := { stood := { row := planWritesRow, standIns := [], harness := (true, "7700e97509f7e757248fb82bfcdfa4c014e5a8bf4b502cbcfd4d2b3f60a2c570"), looks := true }, kinds := [], alts := [], laidByText := true, laidKinds := [.data, .data, .data, .sentinel, .sentinel], laidTests := true, laidLooks := .later }
def PlanWritesCardSaid : Prop := Claim7.holds Tryz.pinned (.plain (OpenSpec.ofChange planWritesSpec)) planWritesCard

/-- THE SECOND FORM's CARD OF 'heliographlaw12.PlanExact'. -/
def planExactUptoCard : Claim7 := { stood := { row := planExactUptoRow, standIns := [], harness := (true, "7700e97509f7e757248fb82bfcdfa4c014e5a8bf4b502cbcfd4d2b3f60a2c570"), looks := true }, kinds := [], alts := [], laidByText := true, laidKinds := [.data, .data, .data, .sentinel, .sentinel], laidTests := true, laidLooks := .later }
def PlanExactUptoCardSaid : Prop := Claim7.holds Tryz.pinned (.plain (OpenSpec.upto planExactSpec)) planExactUptoCard

/-- THE SECOND FORM's CARD OF 'heliographlaw12.PlanWrites'. -/
def planWritesUptoCard : Claim7 := { stood := { row := planWritesUptoRow, standIns := [], harness := (true, "7700e97509f7e757248fb82bfcdfa4c014e5a8bf4b502cbcfd4d2b3f60a2c570"), looks := true }, kinds := [], alts := [], laidByText := true, laidKinds := [.data, .data, .data, .sentinel, .sentinel], laidTests := true, laidLooks := .later }
def PlanWritesUptoCardSaid : Prop := Claim7.holds Tryz.pinned (.plain (OpenSpec.upto planWritesSpec)) planWritesUptoCard
end Rows
end Go.Proofs.YtmkinnheoejphaaGreatDoor
