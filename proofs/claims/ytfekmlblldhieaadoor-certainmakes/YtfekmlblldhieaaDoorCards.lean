/-
  DERIVED. GIVEN WITH THE SEED: THE CARDS: each row of YtfekmlblldhieaaDoorRows.lean that lists a variable, with what it lists TIED to the program's text (the seventh form; the later family's looks); each row that meets fmt, with fmt's text TOLD by the authors' own Lean function (tested against real Go, not proved from fmt's source: count such statements apart). THE CARD IS WHAT COUNTS. Prove the row's statement (the work); the ties are given (YtfekmlblldhieaaDoorTie.lean); close each card by the builder's one call (the guide's Derived/Test/ToyasCard.lean, 'card_holds'). Laid BY PROGRAM, IN A SANDBOX (cutbox-door.mjs). By AI agents, Wed Nov 11 2026. No macro, syntax, notation, axiom, sorry.
-/
import Derived.Test.YtfekmlblldhieaaDoorRows
import GoSem.ClaimSeven
namespace Go.Proofs.YtfekmlblldhieaaDoor
namespace Rows

/-- THE TIED CARD OF 'tropicalaw.CertainMakes'. -/
def certainMakesCard : Claim7 := { stood := { row := certainMakesRow, standIns := [], harness := (true, "09a67d08bc6e11e3d30aa9676dfaf64f241b01e2091d167bd9987bc5eaf0dc79"), looks := true }, kinds := [], alts := [], laidByText := true, laidKinds := [.data, .data, .data], laidTests := true, laidLooks := .later }
def CertainMakesCardSaid : Prop := Claim7.holds Tryd.pinned (.plain (OpenSpec.ofChange certainMakesSpec)) certainMakesCard

/-- THE TIED CARD OF 'tropicakeep.CertainKeeps'. -/
def certainKeepsCard : Claim7 := { stood := { row := certainKeepsRow, standIns := [], harness := (true, "09a67d08bc6e11e3d30aa9676dfaf64f241b01e2091d167bd9987bc5eaf0dc79"), looks := true }, kinds := [], alts := [], laidByText := true, laidKinds := [.data, .data, .data], laidTests := true, laidLooks := .later }
def CertainKeepsCardSaid : Prop := Claim7.holds Tryd.pinned (.plain (OpenSpec.ofChange certainKeepsSpec)) certainKeepsCard

/-- THE TIED CARD OF 'tropicakeep.CertainStays'. -/
def certainStaysCard : Claim7 := { stood := { row := certainStaysRow, standIns := [], harness := (true, "09a67d08bc6e11e3d30aa9676dfaf64f241b01e2091d167bd9987bc5eaf0dc79"), looks := true }, kinds := [], alts := [], laidByText := true, laidKinds := [.data, .data, .data], laidTests := true, laidLooks := .later }
def CertainStaysCardSaid : Prop := Claim7.holds Tryd.pinned (.plain (OpenSpec.ofChange certainStaysSpec)) certainStaysCard

/-- THE SECOND FORM's CARD OF 'tropicalaw.CertainMakes'. -/
def certainMakesUptoCard : Claim7 := { stood := { row := certainMakesUptoRow, standIns := [], harness := (true, "09a67d08bc6e11e3d30aa9676dfaf64f241b01e2091d167bd9987bc5eaf0dc79"), looks := true }, kinds := [], alts := [], laidByText := true, laidKinds := [.data, .data, .data], laidTests := true, laidLooks := .later }
def CertainMakesUptoCardSaid : Prop := Claim7.holds Tryd.pinned (.plain (OpenSpec.upto certainMakesSpec)) certainMakesUptoCard

/-- THE SECOND FORM's CARD OF 'tropicakeep.CertainKeeps'. -/
def certainKeepsUptoCard : Claim7 := { stood := { row := certainKeepsUptoRow, standIns := [], harness := (true, "09a67d08bc6e11e3d30aa9676dfaf64f241b01e2091d167bd9987bc5eaf0dc79"), looks := true }, kinds := [], alts := [], laidByText := true, laidKinds := [.data, .data, .data], laidTests := true, laidLooks := .later }
def CertainKeepsUptoCardSaid : Prop := Claim7.holds Tryd.pinned (.plain (OpenSpec.upto certainKeepsSpec)) certainKeepsUptoCard

/-- THE SECOND FORM's CARD OF 'tropicakeep.CertainStays'. -/
def certainStaysUptoCard : Claim7 := { stood := { row := certainStaysUptoRow, standIns := [], harness := (true, "09a67d08bc6e11e3d30aa9676dfaf64f241b01e2091d167bd9987bc5eaf0dc79"), looks := true }, kinds := [], alts := [], laidByText := true, laidKinds := [.data, .data, .data], laidTests := true, laidLooks := .later }
def CertainStaysUptoCardSaid : Prop := Claim7.holds Tryd.pinned (.plain (OpenSpec.upto certainStaysSpec)) certainStaysUptoCard
end Rows
end Go.Proofs.YtfekmlblldhieaaDoor
