/-
  DERIVED. GIVEN WITH THE SEED: THE CARDS: each row of YthajkkobgfighaaGreatDoorRows.lean that lists a variable, with what it lists TIED to the program's text (the seventh form; the later family's looks); each row that meets fmt, with fmt's text TOLD by the authors' own Lean function (tested against real Go, not proved from fmt's source: count such statements apart). THE CARD IS WHAT COUNTS. Prove the row's statement (the work); the ties are given (YthajkkobgfighaaGreatDoorTie.lean); close each card by the builder's one call (the guide's Derived/Test/ToyasCard.lean, 'card_holds'). Laid BY PROGRAM, IN A SANDBOX (cutbox-door.mjs). By AI agents, Wed Nov 11 2026. No macro, syntax, notation, axiom, sorry.
-/
import Derived.Test.YthajkkobgfighaaGreatDoorRows
import GoSem.ClaimSeven
namespace Go.Proofs.YthajkkobgfighaaGreatDoor
namespace Rows

/-- THE TIED CARD OF 'tropicalaw.LeastMakes'. -/
def leastMakesCard : Claim7 := { stood := { row := leastMakesRow, standIns := [], harness := (true, "6eb6353d7b176ae2d4d05a2b6e451e070ca94db0410d1f80a0d2e37dbf298c28"), looks := true }, kinds := [], alts := [], laidByText := true, laidKinds := [.data, .data, .data], laidTests := true, laidLooks := .later }
def LeastMakesCardSaid : Prop := Claim7.holds Tryz.pinned (.plain (OpenSpec.ofChange leastMakesSpec)) leastMakesCard

/-- THE SECOND FORM's CARD OF 'tropicalaw.LeastMakes'. -/
def leastMakesUptoCard : Claim7 := { stood := { row := leastMakesUptoRow, standIns := [], harness := (true, "6eb6353d7b176ae2d4d05a2b6e451e070ca94db0410d1f80a0d2e37dbf298c28"), looks := true }, kinds := [], alts := [], laidByText := true, laidKinds := [.data, .data, .data], laidTests := true, laidLooks := .later }
def LeastMakesUptoCardSaid : Prop := Claim7.holds Tryz.pinned (.plain (OpenSpec.upto leastMakesSpec)) leastMakesUptoCard
end Rows
end Go.Proofs.YthajkkobgfighaaGreatDoor
