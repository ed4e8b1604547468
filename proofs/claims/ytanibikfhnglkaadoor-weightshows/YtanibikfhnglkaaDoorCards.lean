/-
  DERIVED. GIVEN WITH THE SEED: THE CARDS: each row of YtanibikfhnglkaaDoorRows.lean that lists a variable, with what it lists TIED to the program's text (the seventh form; the later family's looks); each row that meets fmt, with fmt's text TOLD by the authors' own Lean function (tested against real Go, not proved from fmt's source: count such statements apart). THE CARD IS WHAT COUNTS. Prove the row's statement (the work); the ties are given (YtanibikfhnglkaaDoorTie.lean); close each card by the builder's one call (the guide's Derived/Test/ToyasCard.lean, 'card_holds'). Laid BY PROGRAM, IN A SANDBOX (cutbox-door.mjs). By AI agents, Wed Nov 11 2026. No macro, syntax, notation, axiom, sorry.
-/
import Derived.Test.YtanibikfhnglkaaDoorRows
import GoSem.ClaimSeven
namespace Go.Proofs.YtanibikfhnglkaaDoor
namespace Rows

/-- THE TIED CARD OF 'tropicalaw.WeightShows'. -/
def weightShowsCard : Claim7 := { stood := { row := weightShowsRow, standIns := [], harness := (true, "1380ab7a14f49baa60774c5a72126b2c87fc77f556428e199ee4a91e94a1114b"), looks := false }, kinds := [], alts := [], laidByText := true, laidKinds := [.data, .data, .data], laidTests := true, laidLooks := .later }
def WeightShowsCardSaid : Prop := Claim7.holds Tryd.pinned (.plain (OpenSpec.ofChange weightShowsSpec)) weightShowsCard

/-- THE SECOND FORM's CARD OF 'tropicalaw.WeightShows'. -/
def weightShowsUptoCard : Claim7 := { stood := { row := weightShowsUptoRow, standIns := [], harness := (true, "1380ab7a14f49baa60774c5a72126b2c87fc77f556428e199ee4a91e94a1114b"), looks := false }, kinds := [], alts := [], laidByText := true, laidKinds := [.data, .data, .data], laidTests := true, laidLooks := .later }
def WeightShowsUptoCardSaid : Prop := Claim7.holds Tryd.pinned (.plain (OpenSpec.upto weightShowsSpec)) weightShowsUptoCard
end Rows
end Go.Proofs.YtanibikfhnglkaaDoor
