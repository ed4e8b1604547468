/-
  DERIVED. GIVEN WITH THE SEED: THE CARDS: each row of YtfekmlblldhieaaGreatDoorRows.lean that lists a variable, with what it lists TIED to the program's text (the seventh form; the later family's looks); each row that meets fmt, with fmt's text TOLD by the authors' own Lean function (tested against real Go, not proved from fmt's source: count such statements apart). THE CARD IS WHAT COUNTS. Prove the row's statement (the work); the ties are given (YtfekmlblldhieaaGreatDoorTie.lean); close each card by the builder's one call (the guide's Derived/Test/ToyasCard.lean, 'card_holds'). Laid BY PROGRAM, IN A SANDBOX (cutbox-door.mjs). By AI agents, Wed Nov 11 2026. No macro, syntax, notation, axiom, sorry.
-/
import Derived.Test.YtfekmlblldhieaaGreatDoorRows
import GoSem.ClaimSeven
namespace Go.Proofs.YtfekmlblldhieaaGreatDoor
namespace Rows

/-- THE TIED CARD OF 'tropicakeep.CertainAll'. -/
def certainAllCard : Claim7 := { stood := { row := certainAllRow, standIns := [], harness := (true, "619db73f9f6269dfebafd9f6f9c8c7582d0b11535f599977b0815585531f8f76"), looks := true }, kinds := [], alts := [], laidByText := true, laidKinds := [.data, .data, .data], laidTests := true, laidLooks := .later }
def CertainAllCardSaid : Prop := Claim7.holds Tryz.pinned (.plain (OpenSpec.ofChange certainAllSpec)) certainAllCard

/-- THE SECOND FORM's CARD OF 'tropicakeep.CertainAll'. -/
def certainAllUptoCard : Claim7 := { stood := { row := certainAllUptoRow, standIns := [], harness := (true, "619db73f9f6269dfebafd9f6f9c8c7582d0b11535f599977b0815585531f8f76"), looks := true }, kinds := [], alts := [], laidByText := true, laidKinds := [.data, .data, .data], laidTests := true, laidLooks := .later }
def CertainAllUptoCardSaid : Prop := Claim7.holds Tryz.pinned (.plain (OpenSpec.upto certainAllSpec)) certainAllUptoCard
end Rows
end Go.Proofs.YtfekmlblldhieaaGreatDoor
