/-
  DERIVED. GIVEN WITH THE SEED: THE CARDS: each row of YtfhjncpakgailaaGreatDoorRows.lean that lists a variable, with what it lists TIED to the program's text (the seventh form; the later family's looks); each row that meets fmt, with fmt's text TOLD by the authors' own Lean function (tested against real Go, not proved from fmt's source: count such statements apart). THE CARD IS WHAT COUNTS. Prove the row's statement (the work); the ties are given (YtfhjncpakgailaaGreatDoorTie.lean); close each card by the builder's one call (the guide's Derived/Test/ToyasCard.lean, 'card_holds'). Laid BY PROGRAM, IN A SANDBOX (cutbox-door.mjs). By AI agents, Wed Nov 11 2026. No macro, syntax, notation, axiom, sorry.
-/
import Derived.Test.YtfhjncpakgailaaGreatDoorRows
import GoSem.ClaimSeven
namespace Go.Proofs.YtfhjncpakgailaaGreatDoor
namespace Rows

/-- THE TIED CARD OF 'tropicakeep.LeastKeeps'. -/
def leastKeepsCard : Claim7 := { stood := { row := leastKeepsRow, standIns := [], harness := (true, "6a3632cb8c5ab21829323bf7ef7fcd4d4ca08b42ab55d3c4c9046d467c1591b9"), looks := true }, kinds := [], alts := [], laidByText := true, laidKinds := [.data, .data, .data], laidTests := true, laidLooks := .later }
def LeastKeepsCardSaid : Prop := Claim7.holds Tryz.pinned (.plain (OpenSpec.ofChange leastKeepsSpec)) leastKeepsCard

/-- THE TIED CARD OF 'tropicakeep.LeastAgain'. -/
def leastAgainCard : Claim7 := { stood := { row := leastAgainRow, standIns := [], harness := (true, "6a3632cb8c5ab21829323bf7ef7fcd4d4ca08b42ab55d3c4c9046d467c1591b9"), looks := true }, kinds := [], alts := [], laidByText := true, laidKinds := [.data, .data, .data], laidTests := true, laidLooks := .later }
def LeastAgainCardSaid : Prop := Claim7.holds Tryz.pinned (.plain (OpenSpec.ofChange leastAgainSpec)) leastAgainCard

/-- THE TIED CARD OF 'tropicakeep.LeastOne'. -/
def leastOneCard : Claim7 := { stood := { row := leastOneRow, standIns := [], harness := (true, "6a3632cb8c5ab21829323bf7ef7fcd4d4ca08b42ab55d3c4c9046d467c1591b9"), looks := true }, kinds := [], alts := [], laidByText := true, laidKinds := [.data, .data, .data], laidTests := true, laidLooks := .later }
def LeastOneCardSaid : Prop := Claim7.holds Tryz.pinned (.plain (OpenSpec.ofChange leastOneSpec)) leastOneCard

/-- THE TIED CARD OF 'tropicakeep.LeastApart'. -/
def leastApartCard : Claim7 := { stood := { row := leastApartRow, standIns := [], harness := (true, "6a3632cb8c5ab21829323bf7ef7fcd4d4ca08b42ab55d3c4c9046d467c1591b9"), looks := true }, kinds := [], alts := [], laidByText := true, laidKinds := [.data, .data, .data], laidTests := true, laidLooks := .later }
def LeastApartCardSaid : Prop := Claim7.holds Tryz.pinned (.plain (OpenSpec.ofChange leastApartSpec)) leastApartCard

/-- THE TIED CARD OF 'tropicalaw.SameNormals'. -/
def sameNormalsCard : Claim7 := { stood := { row := sameNormalsRow, standIns := [], harness := (true, "6a3632cb8c5ab21829323bf7ef7fcd4d4ca08b42ab55d3c4c9046d467c1591b9"), looks := true }, kinds := [], alts := [], laidByText := true, laidKinds := [.data, .data, .data], laidTests := true, laidLooks := .later }
def SameNormalsCardSaid : Prop := Claim7.holds Tryz.pinned (.plain (OpenSpec.ofChange sameNormalsSpec)) sameNormalsCard

/-- THE TIED CARD OF 'tropicalaw.SameSames'. -/
def sameSamesCard : Claim7 := { stood := { row := sameSamesRow, standIns := [], harness := (true, "6a3632cb8c5ab21829323bf7ef7fcd4d4ca08b42ab55d3c4c9046d467c1591b9"), looks := true }, kinds := [], alts := [], laidByText := true, laidKinds := [.data, .data, .data], laidTests := true, laidLooks := .later }
def SameSamesCardSaid : Prop := Claim7.holds Tryz.pinned (.plain (OpenSpec.ofChange sameSamesSpec)) sameSamesCard

/-- THE SECOND FORM's CARD OF 'tropicakeep.LeastKeeps'. -/
def leastKeepsUptoCard : Claim7 := { stood := { row := leastKeepsUptoRow, standIns := [], harness := (true, "6a3632cb8c5ab21829323bf7ef7fcd4d4ca08b42ab55d3c4c9046d467c1591b9"), looks := true }, kinds := [], alts := [], laidByText := true, laidKinds := [.data, .data, .data], laidTests := true, laidLooks := .later }
def LeastKeepsUptoCardSaid : Prop := Claim7.holds Tryz.pinned (.plain (OpenSpec.upto leastKeepsSpec)) leastKeepsUptoCard

/-- THE SECOND FORM's CARD OF 'tropicakeep.LeastAgain'. -/
def leastAgainUptoCard : Claim7 := { stood := { row := leastAgainUptoRow, standIns := [], harness := (true, "6a3632cb8c5ab21829323bf7ef7fcd4d4ca08b42ab55d3c4c9046d467c1591b9"), looks := true }, kinds := [], alts := [], laidByText := true, laidKinds := [.data, .data, .data], laidTests := true, laidLooks := .later }
def LeastAgainUptoCardSaid : Prop := Claim7.holds Tryz.pinned (.plain (OpenSpec.upto leastAgainSpec)) leastAgainUptoCard

/-- THE SECOND FORM's CARD OF 'tropicakeep.LeastOne'. -/
def leastOneUptoCard : Claim7 := { stood := { row := leastOneUptoRow, standIns := [], harness := (true, "6a3632cb8c5ab21829323bf7ef7fcd4d4ca08b42ab55d3c4c9046d467c1591b9"), looks := true }, kinds := [], alts := [], laidByText := true, laidKinds := [.data, .data, .data], laidTests := true, laidLooks := .later }
def LeastOneUptoCardSaid : Prop := Claim7.holds Tryz.pinned (.plain (OpenSpec.upto leastOneSpec)) leastOneUptoCard

/-- THE SECOND FORM's CARD OF 'tropicakeep.LeastApart'. -/
def leastApartUptoCard : Claim7 := { stood := { row := leastApartUptoRow, standIns := [], harness := (true, "6a3632cb8c5ab21829323bf7ef7fcd4d4ca08b42ab55d3c4c9046d467c1591b9"), looks := true }, kinds := [], alts := [], laidByText := true, laidKinds := [.data, .data, .data], laidTests := true, laidLooks := .later }
def LeastApartUptoCardSaid : Prop := Claim7.holds Tryz.pinned (.plain (OpenSpec.upto leastApartSpec)) leastApartUptoCard

/-- THE SECOND FORM's CARD OF 'tropicalaw.SameNormals'. -/
def sameNormalsUptoCard : Claim7 := { stood := { row := sameNormalsUptoRow, standIns := [], harness := (true, "6a3632cb8c5ab21829323bf7ef7fcd4d4ca08b42ab55d3c4c9046d467c1591b9"), looks := true }, kinds := [], alts := [], laidByText := true, laidKinds := [.data, .data, .data], laidTests := true, laidLooks := .later }
def SameNormalsUptoCardSaid : Prop := Claim7.holds Tryz.pinned (.plain (OpenSpec.upto sameNormalsSpec)) sameNormalsUptoCard

/-- THE SECOND FORM's CARD OF 'tropicalaw.SameSames'. -/
def sameSamesUptoCard : Claim7 := { stood := { row := sameSamesUptoRow, standIns := [], harness := (true, "6a3632cb8c5ab21829323bf7ef7fcd4d4ca08b42ab55d3c4c9046d467c1591b9"), looks := true }, kinds := [], alts := [], laidByText := true, laidKinds := [.data, .data, .data], laidTests := true, laidLooks := .later }
def SameSamesUptoCardSaid : Prop := Claim7.holds Tryz.pinned (.plain (OpenSpec.upto sameSamesSpec)) sameSamesUptoCard
end Rows
end Go.Proofs.YtfhjncpakgailaaGreatDoor
