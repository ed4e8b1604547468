/-
  DERIVED. GIVEN WITH THE SEED: THE CARDS: each row of YtanibikfhnglkabDoorRows.lean that lists a variable, with what it lists TIED to the program's text (the seventh form; the later family's looks); each row that meets fmt, with fmt's text TOLD by the authors' own Lean function (tested against real Go, not proved from fmt's source: count such statements apart). THE CARD IS WHAT COUNTS. Prove the row's statement (the work); the ties are given (YtanibikfhnglkabDoorTie.lean); close each card by the builder's one call (the guide's Derived/Test/ToyasCard.lean, 'card_holds'). Laid BY PROGRAM, IN A SANDBOX (cutbox-door.mjs). By AI agents, Wed Nov 11 2026. No macro, syntax, notation, axiom, sorry.
-/
import Derived.Test.YtanibikfhnglkabDoorRows
import GoSem.ClaimSeven
namespace Go.Proofs.YtanibikfhnglkabDoor
namespace Rows

/-- THE TIED CARD OF 'tropicakeep.WeightBack'. -/
def weightBackCard : Claim7 := { stood := { row := weightBackRow, standIns := [], harness := (true, "67c250ae98917e065f089be052c8b122f357f6f39cd4e108aab83d47389ef3bc"), looks := false }, kinds := [], alts := [], laidByText := true, laidKinds := [.data, .data, .data], laidTests := true, laidLooks := .later }
def WeightBackCardSaid : Prop := Claim7.holds Tryd.pinned (.plain (OpenSpec.ofChange weightBackSpec)) weightBackCard

/-- THE TIED CARD OF 'tropicakeep.WeightFixed'. -/
def weightFixedCard : Claim7 := { stood := { row := weightFixedRow, standIns := [], harness := (true, "67c250ae98917e065f089be052c8b122f357f6f39cd4e108aab83d47389ef3bc"), looks := false }, kinds := [], alts := [], laidByText := true, laidKinds := [.data, .data, .data], laidTests := true, laidLooks := .later }
def WeightFixedCardSaid : Prop := Claim7.holds Tryd.pinned (.plain (OpenSpec.ofChange weightFixedSpec)) weightFixedCard

/-- THE SECOND FORM's CARD OF 'tropicakeep.WeightBack'. -/
def weightBackUptoCard : Claim7 := { stood := { row := weightBackUptoRow, standIns := [], harness := (true, "67c250ae98917e065f089be052c8b122f357f6f39cd4e108aab83d47389ef3bc"), looks := false }, kinds := [], alts := [], laidByText := true, laidKinds := [.data, .data, .data], laidTests := true, laidLooks := .later }
def WeightBackUptoCardSaid : Prop := Claim7.holds Tryd.pinned (.plain (OpenSpec.upto weightBackSpec)) weightBackUptoCard

/-- THE SECOND FORM's CARD OF 'tropicakeep.WeightFixed'. -/
def weightFixedUptoCard : Claim7 := { stood := { row := weightFixedUptoRow, standIns := [], harness := (true, "67c250ae98917e065f089be052c8b122f357f6f39cd4e108aab83d47389ef3bc"), looks := false }, kinds := [], alts := [], laidByText := true, laidKinds := [.data, .data, .data], laidTests := true, laidLooks := .later }
def WeightFixedUptoCardSaid : Prop := Claim7.holds Tryd.pinned (.plain (OpenSpec.upto weightFixedSpec)) weightFixedUptoCard
end Rows
end Go.Proofs.YtanibikfhnglkabDoor
