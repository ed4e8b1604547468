/-
  DERIVED. GIVEN WITH THE SEED: THE CARDS: each row of YtppkiejhhmahcaaGreatDoorRows.lean that lists a variable, with what it lists TIED to the program's text (the seventh form; the later family's looks); each row that meets fmt, with fmt's text TOLD by the authors' own Lean function (tested against real Go, not proved from fmt's source: count such statements apart). THE CARD IS WHAT COUNTS. Prove the row's statement (the work); the ties are given (YtppkiejhhmahcaaGreatDoorTie.lean); close each card by the builder's one call (the guide's Derived/Test/ToyasCard.lean, 'card_holds'). Laid BY PROGRAM, IN A SANDBOX (cutbox-door.mjs). By AI agents, Wed Nov 11 2026. No macro, syntax, notation, axiom, sorry.
-/
import Derived.Test.YtppkiejhhmahcaaGreatDoorRows
import GoSem.ClaimSeven
namespace Go.Proofs.YtppkiejhhmahcaaGreatDoor
namespace Rows

/-- THE TIED CARD OF 'tropicalaw.SameNormals'. -/
def sameNormalsCard : Claim7 := { stood := { row := sameNormalsRow, standIns := [], harness := (true, "a9c9051a9647767927b06a6aad6eb7f6d8ffb5ebace42aae5f3e7d7f5ab0f810"), looks := true }, kinds := [], alts := [], laidByText := true, laidKinds := [.data, .data, .data], laidTests := true, laidLooks := .later }
def SameNormalsCardSaid : Prop := Claim7.holds Tryz.pinned (.plain (OpenSpec.ofChange sameNormalsSpec)) sameNormalsCard

/-- THE TIED CARD OF 'tropicalaw.SameSames'. -/
def sameSamesCard : Claim7 := { stood := { row := sameSamesRow, standIns := [], harness := (true, "a9c9051a9647767927b06a6aad6eb7f6d8ffb5ebace42aae5f3e7d7f5ab0f810"), looks := true }, kinds := [], alts := [], laidByText := true, laidKinds := [.data, .data, .data], laidTests := true, laidLooks := .later }
def SameSamesCardSaid : Prop := Claim7.holds Tryz.pinned (.plain (OpenSpec.ofChange sameSamesSpec)) sameSamesCard

/-- THE TIED CARD OF 'tropicakeep.SameMeans'. -/
def sameMeansCard : Claim7 := { stood := { row := sameMeansRow, standIns := [], harness := (true, "a9c9051a9647767927b06a6aad6eb7f6d8ffb5ebace42aae5f3e7d7f5ab0f810"), looks := true }, kinds := [], alts := [], laidByText := true, laidKinds := [.data, .data, .data], laidTests := true, laidLooks := .later }
def SameMeansCardSaid : Prop := Claim7.holds Tryz.pinned (.plain (OpenSpec.ofChange sameMeansSpec)) sameMeansCard

/-- THE TIED CARD OF 'tropicakeep.SameHeld'. -/
def sameHeldCard : Claim7 := { stood := { row := sameHeldRow, standIns := [], harness := (true, "a9c9051a9647767927b06a6aad6eb7f6d8ffb5ebace42aae5f3e7d7f5ab0f810"), looks := true }, kinds := [], alts := [], laidByText := true, laidKinds := [.data, .data, .data], laidTests := true, laidLooks := .later }
def SameHeldCardSaid : Prop := Claim7.holds Tryz.pinned (.plain (OpenSpec.ofChange sameHeldSpec)) sameHeldCard

/-- THE SECOND FORM's CARD OF 'tropicalaw.SameNormals'. -/
def sameNormalsUptoCard : Claim7 := { stood := { row := sameNormalsUptoRow, standIns := [], harness := (true, "a9c9051a9647767927b06a6aad6eb7f6d8ffb5ebace42aae5f3e7d7f5ab0f810"), looks := true }, kinds := [], alts := [], laidByText := true, laidKinds := [.data, .data, .data], laidTests := true, laidLooks := .later }
def SameNormalsUptoCardSaid : Prop := Claim7.holds Tryz.pinned (.plain (OpenSpec.upto sameNormalsSpec)) sameNormalsUptoCard

/-- THE SECOND FORM's CARD OF 'tropicalaw.SameSames'. -/
def sameSamesUptoCard : Claim7 := { stood := { row := sameSamesUptoRow, standIns := [], harness := (true, "a9c9051a9647767927b06a6aad6eb7f6d8ffb5ebace42aae5f3e7d7f5ab0f810"), looks := true }, kinds := [], alts := [], laidByText := true, laidKinds := [.data, .data, .data], laidTests := true, laidLooks := .later }
def SameSamesUptoCardSaid : Prop := Claim7.holds Tryz.pinned (.plain (OpenSpec.upto sameSamesSpec)) sameSamesUptoCard

/-- THE SECOND FORM's CARD OF 'tropicakeep.SameMeans'. -/
def sameMeansUptoCard : Claim7 := { stood := { row := sameMeansUptoRow, standIns := [], harness := (true, "a9c9051a9647767927b06a6aad6eb7f6d8ffb5ebace42aae5f3e7d7f5ab0f810"), looks := true }, kinds := [], alts := [], laidByText := true, laidKinds := [.data, .data, .data], laidTests := true, laidLooks := .later }
def SameMeansUptoCardSaid : Prop := Claim7.holds Tryz.pinned (.plain (OpenSpec.upto sameMeansSpec)) sameMeansUptoCard

/-- THE SECOND FORM's CARD OF 'tropicakeep.SameHeld'. -/
def sameHeldUptoCard : Claim7 := { stood := { row := sameHeldUptoRow, standIns := [], harness := (true, "a9c9051a9647767927b06a6aad6eb7f6d8ffb5ebace42aae5f3e7d7f5ab0f810"), looks := true }, kinds := [], alts := [], laidByText := true, laidKinds := [.data, .data, .data], laidTests := true, laidLooks := .later }
def SameHeldUptoCardSaid : Prop := Claim7.holds Tryz.pinned (.plain (OpenSpec.upto sameHeldSpec)) sameHeldUptoCard
end Rows
end Go.Proofs.YtppkiejhhmahcaaGreatDoor
