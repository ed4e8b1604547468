/-
  DERIVED. GIVEN WITH THE SEED: THE CARDS: each row of YthaefajpdncoeaaDoorRows.lean that lists a variable, with what it lists TIED to the program's text (the seventh form; the later family's looks); each row that meets fmt, with fmt's text TOLD by the authors' own Lean function (tested against real Go, not proved from fmt's source: count such statements apart). THE CARD IS WHAT COUNTS. Prove the row's statement (the work); the ties are given (YthaefajpdncoeaaDoorTie.lean); close each card by the builder's one call (the guide's Derived/Test/ToyasCard.lean, 'card_holds'). Laid BY PROGRAM, IN A SANDBOX (cutbox-door.mjs). By AI agents, Wed Nov 11 2026. No macro, syntax, notation, axiom, sorry.
-/
import Derived.Test.YthaefajpdncoeaaDoorRows
import GoSem.ClaimSeven
namespace Go.Proofs.YthaefajpdncoeaaDoor
namespace Rows

/-- THE TIED CARD OF 'tropicalaw.PaperShows'. -/
def paperShowsCard : Claim7 := { stood := { row := paperShowsRow, standIns := [], harness := (true, "a7a6ce9bfe74bf368f7f2eb9fc0e16c25bd5458f4a3a51bfeef1cadbda6adc40"), looks := true }, kinds := [], alts := [], laidByText := true, laidKinds := [.data, .data, .data], laidTests := true, laidLooks := .later }
def PaperShowsCardSaid : Prop := Claim7.holds Tryd.pinned (.plain (OpenSpec.ofChange paperShowsSpec)) paperShowsCard

/-- THE TIED CARD OF 'tropicalaw.PaperReads'. -/
def paperReadsCard : Claim7 := { stood := { row := paperReadsRow, standIns := [], harness := (true, "a7a6ce9bfe74bf368f7f2eb9fc0e16c25bd5458f4a3a51bfeef1cadbda6adc40"), looks := true }, kinds := [], alts := [], laidByText := true, laidKinds := [.data, .data, .data, .data, .sentinel, .sentinel, .pinned], laidTests := true, laidLooks := .later }
def PaperReadsCardSaid : Prop := Claim7.holds Tryd.pinned (.plain (OpenSpec.ofChange paperReadsSpec)) paperReadsCard

/-- THE TIED CARD OF 'tropicakeep.PaperBack'. -/
def paperBackCard : Claim7 := { stood := { row := paperBackRow, standIns := [], harness := (true, "a7a6ce9bfe74bf368f7f2eb9fc0e16c25bd5458f4a3a51bfeef1cadbda6adc40"), looks := true }, kinds := [], alts := [], laidByText := true, laidKinds := [.data, .data, .data, .data, .sentinel, .sentinel, .pinned], laidTests := true, laidLooks := .later }
def PaperBackCardSaid : Prop := Claim7.holds Tryd.pinned (.plain (OpenSpec.ofChange paperBackSpec)) paperBackCard

/-- THE TIED CARD OF 'tropicakeep.PaperFixed'. -/
def paperFixedCard : Claim7 := { stood := { row := paperFixedRow, standIns := [], harness := (true, "a7a6ce9bfe74bf368f7f2eb9fc0e16c25bd5458f4a3a51bfeef1cadbda6adc40"), looks := true }, kinds := [], alts := [], laidByText := true, laidKinds := [.data, .data, .data, .data, .sentinel, .sentinel, .pinned], laidTests := true, laidLooks := .later }
def PaperFixedCardSaid : Prop := Claim7.holds Tryd.pinned (.plain (OpenSpec.ofChange paperFixedSpec)) paperFixedCard

/-- THE SECOND FORM's CARD OF 'tropicalaw.PaperShows'. -/
def paperShowsUptoCard : Claim7 := { stood := { row := paperShowsUptoRow, standIns := [], harness := (true, "a7a6ce9bfe74bf368f7f2eb9fc0e16c25bd5458f4a3a51bfeef1cadbda6adc40"), looks := true }, kinds := [], alts := [], laidByText := true, laidKinds := [.data, .data, .data], laidTests := true, laidLooks := .later }
def PaperShowsUptoCardSaid : Prop := Claim7.holds Tryd.pinned (.plain (OpenSpec.upto paperShowsSpec)) paperShowsUptoCard

/-- THE SECOND FORM's CARD OF 'tropicalaw.PaperReads'. -/
def paperReadsUptoCard : Claim7 := { stood := { row := paperReadsUptoRow, standIns := [], harness := (true, "a7a6ce9bfe74bf368f7f2eb9fc0e16c25bd5458f4a3a51bfeef1cadbda6adc40"), looks := true }, kinds := [], alts := [], laidByText := true, laidKinds := [.data, .data, .data, .data, .sentinel, .sentinel, .pinned], laidTests := true, laidLooks := .later }
def PaperReadsUptoCardSaid : Prop := Claim7.holds Tryd.pinned (.plain (OpenSpec.upto paperReadsSpec)) paperReadsUptoCard

/-- THE SECOND FORM's CARD OF 'tropicakeep.PaperBack'. -/
def paperBackUptoCard : Claim7 := { stood := { row := paperBackUptoRow, standIns := [], harness := (true, "a7a6ce9bfe74bf368f7f2eb9fc0e16c25bd5458f4a3a51bfeef1cadbda6adc40"), looks := true }, kinds := [], alts := [], laidByText := true, laidKinds := [.data, .data, .data, .data, .sentinel, .sentinel, .pinned], laidTests := true, laidLooks := .later }
def PaperBackUptoCardSaid : Prop := Claim7.holds Tryd.pinned (.plain (OpenSpec.upto paperBackSpec)) paperBackUptoCard

/-- THE SECOND FORM's CARD OF 'tropicakeep.PaperFixed'. -/
def paperFixedUptoCard : Claim7 := { stood := { row := paperFixedUptoRow, standIns := [], harness := (true, "a7a6ce9bfe74bf368f7f2eb9fc0e16c25bd5458f4a3a51bfeef1cadbda6adc40"), looks := true }, kinds := [], alts := [], laidByText := true, laidKinds := [.data, .data, .data, .data, .sentinel, .sentinel, .pinned], laidTests := true, laidLooks := .later }
def PaperFixedUptoCardSaid : Prop := Claim7.holds Tryd.pinned (.plain (OpenSpec.upto paperFixedSpec)) paperFixedUptoCard
end Rows
end Go.Proofs.YthaefajpdncoeaaDoor
