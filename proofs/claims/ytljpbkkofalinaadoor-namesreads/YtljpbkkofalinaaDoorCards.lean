/-
  DERIVED. GIVEN WITH THE SEED: THE CARDS: each row of YtljpbkkofalinaaDoorRows.lean that lists a variable, with what it lists TIED to the program's text (the seventh form; the later family's looks); each row that meets fmt, with fmt's text TOLD by the authors' own Lean function (tested against real Go, not proved from fmt's source: count such statements apart). THE CARD IS WHAT COUNTS. Prove the row's statement (the work); the ties are given (YtljpbkkofalinaaDoorTie.lean); close each card by the builder's one call (the guide's Derived/Test/ToyasCard.lean, 'card_holds'). Laid BY PROGRAM, IN A SANDBOX (cutbox-door.mjs). By AI agents, Wed Nov 11 2026. No macro, syntax, notation, axiom, sorry.
-/
import Derived.Test.YtljpbkkofalinaaDoorRows
import GoSem.ClaimSeven
namespace Go.Proofs.YtljpbkkofalinaaDoor
namespace Rows

/-- THE TIED CARD OF 'tropicalaw.NamesShows'. -/
def namesShowsCard : Claim7 := { stood := { row := namesShowsRow, standIns := [], harness := (true, "a6ac77dc1eb5b29f5519c3b3725d7dcff9d73c9156f4f8df503b643ce6c25366"), looks := true }, kinds := [], alts := [], laidByText := true, laidKinds := [.data, .data, .data], laidTests := true, laidLooks := .later }
def NamesShowsCardSaid : Prop := Claim7.holds Tryd.pinned (.plain (OpenSpec.ofChange namesShowsSpec)) namesShowsCard

/-- THE TIED CARD OF 'tropicalaw.NamesReads'. -/
def namesReadsCard : Claim7 := { stood := { row := namesReadsRow, standIns := [], harness := (true, "a6ac77dc1eb5b29f5519c3b3725d7dcff9d73c9156f4f8df503b643ce6c25366"), looks := true }, kinds := [], alts := [], laidByText := true, laidKinds := [.data, .data, .data, .sentinel, .sentinel], laidTests := true, laidLooks := .later }
def NamesReadsCardSaid : Prop := Claim7.holds Tryd.pinned (.plain (OpenSpec.ofChange namesReadsSpec)) namesReadsCard

/-- THE TIED CARD OF 'tropicakeep.NamesBack'. -/
def namesBackCard : Claim7 := { stood := { row := namesBackRow, standIns := [], harness := (true, "a6ac77dc1eb5b29f5519c3b3725d7dcff9d73c9156f4f8df503b643ce6c25366"), looks := true }, kinds := [], alts := [], laidByText := true, laidKinds := [.data, .data, .data, .sentinel, .sentinel], laidTests := true, laidLooks := .later }
def NamesBackCardSaid : Prop := Claim7.holds Tryd.pinned (.plain (OpenSpec.ofChange namesBackSpec)) namesBackCard

/-- THE SECOND FORM's CARD OF 'tropicalaw.NamesShows'. -/
def namesShowsUptoCard : Claim7 := { stood := { row := namesShowsUptoRow, standIns := [], harness := (true, "a6ac77dc1eb5b29f5519c3b3725d7dcff9d73c9156f4f8df503b643ce6c25366"), looks := true }, kinds := [], alts := [], laidByText := true, laidKinds := [.data, .data, .data], laidTests := true, laidLooks := .later }
def NamesShowsUptoCardSaid : Prop := Claim7.holds Tryd.pinned (.plain (OpenSpec.upto namesShowsSpec)) namesShowsUptoCard

/-- THE SECOND FORM's CARD OF 'tropicalaw.NamesReads'. -/
def namesReadsUptoCard : Claim7 := { stood := { row := namesReadsUptoRow, standIns := [], harness := (true, "a6ac77dc1eb5b29f5519c3b3725d7dcff9d73c9156f4f8df503b643ce6c25366"), looks := true }, kinds := [], alts := [], laidByText := true, laidKinds := [.data, .data, .data, .sentinel, .sentinel], laidTests := true, laidLooks := .later }
def NamesReadsUptoCardSaid : Prop := Claim7.holds Tryd.pinned (.plain (OpenSpec.upto namesReadsSpec)) namesReadsUptoCard

/-- THE SECOND FORM's CARD OF 'tropicakeep.NamesBack'. -/
def namesBackUptoCard : Claim7 := { stood := { row := namesBackUptoRow, standIns := [], harness := (true, "a6ac77dc1eb5b29f5519c3b3725d7dcff9d73c9156f4f8df503b643ce6c25366"), looks := true }, kinds := [], alts := [], laidByText := true, laidKinds := [.data, .data, .data, .sentinel, .sentinel], laidTests := true, laidLooks := .later }
def NamesBackUptoCardSaid : Prop := Claim7.holds Tryd.pinned (.plain (OpenSpec.upto namesBackSpec)) namesBackUptoCard
end Rows
end Go.Proofs.YtljpbkkofalinaaDoor
