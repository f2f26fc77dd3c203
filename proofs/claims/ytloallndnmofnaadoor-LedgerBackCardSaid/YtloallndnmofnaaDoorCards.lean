/-
  DERIVED. GIVEN WITH THE SEED: THE CARDS: each row of YtloallndnmofnaaDoorRows.lean that lists a variable, with what it lists TIED to the program's text (the seventh form; the later family's looks); each row that meets fmt, with fmt's text TOLD by the authors' own Lean function (tested against real Go, not proved from fmt's source: count such statements apart). THE CARD IS WHAT COUNTS. Prove the row's statement (the work); the ties are given (YtloallndnmofnaaDoorTie.lean); close each card by the builder's one call (the guide's Derived/Test/ToyasCard.lean, 'card_holds'). Laid BY PROGRAM, IN A SANDBOX (cutbox-door.mjs). By AI agents, Wed Nov 11 2026. No macro, syntax, notation, axiom, sorry.
-/
import Derived.Test.YtloallndnmofnaaDoorRows
import GoSem.ClaimSeven
namespace Go.Proofs.YtloallndnmofnaaDoor
namespace Rows

/-- THE TIED CARD OF 'heliographlaw06.LedgerExact'. -/
def ledgerExactCard : Claim7 := { stood := { row := ledgerExactRow, standIns := [], harness := (true, "b51be0709818993b90be9a0e17fc7cc3ac37497ab8f1d765c376f9c83cf2ccec"), looks := true }, kinds := [], alts := [], laidByText := true, laidKinds := [.data, .data], laidTests := true, laidLooks := .later }
def LedgerExactCardSaid : Prop := Claim7.holds Tryd.pinned (.plain (OpenSpec.ofChange ledgerExactSpec)) ledgerExactCard

/-- THE TIED CARD OF 'heliographlaw06.LedgerOnce'. -/
def ledgerOnceCard : Claim7 := { stood := { row := ledgerOnceRow, standIns := [], harness := (true, "b51be0709818993b90be9a0e17fc7cc3ac37497ab8f1d765c376f9c83cf2ccec"), looks := true }, kinds := [], alts := [], laidByText := true, laidKinds := [.data, .data], laidTests := true, laidLooks := .later }
def LedgerOnceCardSaid : Prop := Claim7.holds Tryd.pinned (.plain (OpenSpec.ofChange ledgerOnceSpec)) ledgerOnceCard

/-- THE TIED CARD OF 'heliographlaw06.LedgerBack'. -/
def ledgerBackCard : Claim7 := { stood := { row := ledgerBackRow, standIns := [], harness := (true, "b51be0709818993b90be9a0e17fc7cc3ac37497ab8f1d765c376f9c83cf2ccec"), looks := true }, kinds := [], alts := [], laidByText := true, laidKinds := [.data, .data, .data, .sentinel, .sentinel, .data, .data], laidTests := true, laidLooks := .later }
def LedgerBackCardSaid : Prop := Claim7.holds Tryd.pinned (.plain (OpenSpec.ofChange ledgerBackSpec)) ledgerBackCard

/-- THE TIED CARD OF 'heliographlaw06.LedgerApart'. -/
def ledgerApartCard : Claim7 := { stood := { row := ledgerApartRow, standIns := [], harness := (true, "b51be0709818993b90be9a0e17fc7cc3ac37497ab8f1d765c376f9c83cf2ccec"), looks := true }, kinds := [], alts := [], laidByText := true, laidKinds := [.data, .data], laidTests := true, laidLooks := .later }
def LedgerApartCardSaid : Prop := Claim7.holds Tryd.pinned (.plain (OpenSpec.ofChange ledgerApartSpec)) ledgerApartCard

/-- THE TIED CARD OF 'heliographlaw06.LedgerTables'. -/
def ledgerTablesCard : Claim7 := { stood := { row := ledgerTablesRow, standIns := [], harness := (true, "b51be0709818993b90be9a0e17fc7cc3ac37497ab8f1d765c376f9c83cf2ccec"), looks := true }, kinds := [], alts := [], laidByText := true, laidKinds := [.data, .data], laidTests := true, laidLooks := .later }
def LedgerTablesCardSaid : Prop := Claim7.holds Tryd.pinned (.plain (OpenSpec.ofChange ledgerTablesSpec)) ledgerTablesCard

/-- THE SECOND FORM's CARD OF 'heliographlaw06.LedgerExact'. -/
def ledgerExactUptoCard : Claim7 := { stood := { row := ledgerExactUptoRow, standIns := [], harness := (true, "b51be0709818993b90be9a0e17fc7cc3ac37497ab8f1d765c376f9c83cf2ccec"), looks := true }, kinds := [], alts := [], laidByText := true, laidKinds := [.data, .data], laidTests := true, laidLooks := .later }
def LedgerExactUptoCardSaid : Prop := Claim7.holds Tryd.pinned (.plain (OpenSpec.upto ledgerExactSpec)) ledgerExactUptoCard

/-- THE SECOND FORM's CARD OF 'heliographlaw06.LedgerOnce'. -/
def ledgerOnceUptoCard : Claim7 := { stood := { row := ledgerOnceUptoRow, standIns := [], harness := (true, "b51be0709818993b90be9a0e17fc7cc3ac37497ab8f1d765c376f9c83cf2ccec"), looks := true }, kinds := [], alts := [], laidByText := true, laidKinds := [.data, .data], laidTests := true, laidLooks := .later }
def LedgerOnceUptoCardSaid : Prop := Claim7.holds Tryd.pinned (.plain (OpenSpec.upto ledgerOnceSpec)) ledgerOnceUptoCard

/-- THE SECOND FORM's CARD OF 'heliographlaw06.LedgerBack'. -/
def ledgerBackUptoCard : Claim7 := { stood := { row := ledgerBackUptoRow, standIns := [], harness := (true, "b51be0709818993b90be9a0e17fc7cc3ac37497ab8f1d765c376f9c83cf2ccec"), looks := true }, kinds := [], alts := [], laidByText := true, laidKinds := [.data, .data, .data, .sentinel, .sentinel, .data, .data], laidTests := true, laidLooks := .later }
def LedgerBackUptoCardSaid : Prop := Claim7.holds Tryd.pinned (.plain (OpenSpec.upto ledgerBackSpec)) ledgerBackUptoCard

/-- THE SECOND FORM's CARD OF 'heliographlaw06.LedgerApart'. -/
def ledgerApartUptoCard : Claim7 := { stood := { row := ledgerApartUptoRow, standIns := [], harness := (true, "b51be0709818993b90be9a0e17fc7cc3ac37497ab8f1d765c376f9c83cf2ccec"), looks := true }, kinds := [], alts := [], laidByText := true, laidKinds := [.data, .data], laidTests := true, laidLooks := .later }
def LedgerApartUptoCardSaid : Prop := Claim7.holds Tryd.pinned (.plain (OpenSpec.upto ledgerApartSpec)) ledgerApartUptoCard

/-- THE SECOND FORM's CARD OF 'heliographlaw06.LedgerTables'. -/
def ledgerTablesUptoCard : Claim7 := { stood := { row := ledgerTablesUptoRow, standIns := [], harness := (true, "b51be0709818993b90be9a0e17fc7cc3ac37497ab8f1d765c376f9c83cf2ccec"), looks := true }, kinds := [], alts := [], laidByText := true, laidKinds := [.data, .data], laidTests := true, laidLooks := .later }
def LedgerTablesUptoCardSaid : Prop := Claim7.holds Tryd.pinned (.plain (OpenSpec.upto ledgerTablesSpec)) ledgerTablesUptoCard
end Rows
end Go.Proofs.YtloallndnmofnaaDoor
