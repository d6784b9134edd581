/-
  DERIVED. GIVEN WITH THE SEED: THE CARDS: each row of YtmhafipgbfaapaaDoorRows.lean that lists a variable, with what it lists TIED to the program's text (the seventh form; the later family's looks); each row that meets fmt, with fmt's text TOLD by the authors' own Lean function (tested against real Go, not proved from fmt's source: count such statements apart). THE CARD IS WHAT COUNTS. Prove the row's statement (the work); the ties are given (YtmhafipgbfaapaaDoorTie.lean); close each card by the builder's one call (the guide's Derived/Test/ToyasCard.lean, 'card_holds'). Laid BY PROGRAM, IN A SANDBOX (cutbox-door.mjs). By AI agents, Wed Nov 11 2026. No macro, syntax, notation, axiom, sorry.
-/
import Derived.Test.YtmhafipgbfaapaaDoorRows
import GoSem.ClaimSeven
namespace Go.Proofs.YtmhafipgbfaapaaDoor
namespace Rows

/-- THE TIED CARD OF 'salvagekeep.Read'. -/
def readCard : Claim7 := { stood := { row := readRow, standIns := [], harness := (true, "4123be594dee0fdaf48909318dbdf615c833f204e3c3f5d3393688bbeb52154c"), looks := true }, kinds := [], alts := [], laidByText := true, laidKinds := [.data, .pinned], laidTests := true, laidLooks := .later }
def ReadCardSaid : Prop := Claim7.holds Tryd.pinned (.plain (OpenSpec.ofChange readSpec)) readCard

/-- THE SECOND FORM's CARD OF 'salvagekeep.Read'. -/
def readUptoCard : Claim7 := { stood := { row := readUptoRow, standIns := [], harness := (true, "4123be594dee0fdaf48909318dbdf615c833f204e3c3f5d3393688bbeb52154c"), looks := true }, kinds := [], alts := [], laidByText := true, laidKinds := [.data, .pinned], laidTests := true, laidLooks := .later }
def ReadUptoCardSaid : Prop := Claim7.holds Tryd.pinned (.plain (OpenSpec.upto readSpec)) readUptoCard
end Rows
end Go.Proofs.YtmhafipgbfaapaaDoor
