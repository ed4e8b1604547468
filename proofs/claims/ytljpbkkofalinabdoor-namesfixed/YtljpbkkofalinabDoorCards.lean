/-
  DERIVED. GIVEN WITH THE SEED: THE CARDS: each row of YtljpbkkofalinabDoorRows.lean that lists a variable, with what it lists TIED to the program's text (the seventh form; the later family's looks); each row that meets fmt, with fmt's text TOLD by the authors' own Lean function (tested against real Go, not proved from fmt's source: count such statements apart). THE CARD IS WHAT COUNTS. Prove the row's statement (the work); the ties are given (YtljpbkkofalinabDoorTie.lean); close each card by the builder's one call (the guide's Derived/Test/ToyasCard.lean, 'card_holds'). Laid BY PROGRAM, IN A SANDBOX (cutbox-door.mjs). By AI agents, Wed Nov 11 2026. No macro, syntax, notation, axiom, sorry.
-/
import Derived.Test.YtljpbkkofalinabDoorRows
import GoSem.ClaimSeven
namespace Go.Proofs.YtljpbkkofalinabDoor
namespace Rows

/-- THE TIED CARD OF 'tropicakeep.NamesFixed'. -/
def namesFixedCard : Claim7 := { stood := { row := namesFixedRow, standIns := [], harness := (true, "e48611cdec6ae876eeacee97e8846e8ad87f570e7a3b7d38f1700a036326d938"), looks := true }, kinds := [], alts := [], laidByText := true, laidKinds := [.data, .data, .data, .sentinel, .sentinel], laidTests := true, laidLooks := .later }
def NamesFixedCardSaid : Prop := Claim7.holds Tryd.pinned (.plain (OpenSpec.ofChange namesFixedSpec)) namesFixedCard

/-- THE SECOND FORM's CARD OF 'tropicakeep.NamesFixed'. -/
def namesFixedUptoCard : Claim7 := { stood := { row := namesFixedUptoRow, standIns := [], harness := (true, "e48611cdec6ae876eeacee97e8846e8ad87f570e7a3b7d38f1700a036326d938"), looks := true }, kinds := [], alts := [], laidByText := true, laidKinds := [.data, .data, .data, .sentinel, .sentinel], laidTests := true, laidLooks := .later }
def NamesFixedUptoCardSaid : Prop := Claim7.holds Tryd.pinned (.plain (OpenSpec.upto namesFixedSpec)) namesFixedUptoCard
end Rows
end Go.Proofs.YtljpbkkofalinabDoor
