/-
  No cell of these rows narrows 'for every input' (looked for: loops, veiled, ifaces, maps, wideKeys, modest, calm, conditions, laid).
  DERIVED. THE GIVEN ROWS OF THIS SEAT. 4 by the template 'for every input the law returns true; each argument reads behind the call as it read before'; 0 by the template 'total and deterministic' (their statements: YthcfkiinjcbajabTotals.lean).
  GIVEN WITH THE SEED: the statements are not yours to turn. If you find one false, say at which input.
  Laid BY PROGRAM, IN A SANDBOX (cutbox-rows.mjs): the forced cells as the released guide's own fill.sh prints them over the translation bbbab7d5edd9c351… (all of the seat's roots in one cut). By AI agents, Wed Nov 11 2026. No macro, syntax, notation, axiom, sorry.
-/
import Derived.Test.YthcfkiinjcbajabChecked
import GoSem.Claim
import GoSem.ClaimJoined
import GoSem.ClaimMapViews
import Derived.JoinedTies
import Derived.KernelRfl
namespace Go.Proofs.Ythcfkiinjcbajab
/- THE CELL 'sum', in the pinned program and in every row, IS THE sha256 OF THE DUMP (.gsa) THAT YthcfkiinjcbajabProg.lean LOADS. Nothing in Lean hashes anything: it is a label: what it is worth is what the hold of that sum in a sandbox is worth. -/
noncomputable def Try.pinned : Pinned := { name := "ythcfkiinjcbajab", sum := "bbbab7d5edd9c3512e0a5e7a6829b69f82ad17c7d745621487cc8b0e403955a0", checked := Try.checked }
namespace Rows
def none {H : Type} : Left H := { results := [], args := [] }

/-- 'tropicakeep.ComposeGroups': WHATEVER THE INPUT: true; the input reads as it did. -/
def composeGroupsSpec : ChangeSpec := { name := "composeGroups", fn := fun _ => fun
  | [d1, d2, d3, d4, d5] => { results := [.lit (.bool true)], args := [d1, d2, d3, d4, d5] }
  | _ => none }
def composeGroupsRow : OpenClaim := { program := "ythcfkiinjcbajab", sum := "bbbab7d5edd9c3512e0a5e7a6829b69f82ad17c7d745621487cc8b0e403955a0", func := "tropica/tropicakeep.ComposeGroups", spec := "composeGroups", unfollowed := true, recurses := true, plainKeys := false, apart := false }
def ComposeGroupsSaid : Prop := composeGroupsRow.holds Try.pinned (OpenSpec.ofChange composeGroupsSpec)

/-- ITS FALSE NEIGHBOUR: 'it returns false'. Refute it at one input. -/
def composeGroupsWrong : ChangeSpec := { name := "composeGroups", fn := fun _ => fun
  | [d1, d2, d3, d4, d5] => { results := [.lit (.bool false)], args := [d1, d2, d3, d4, d5] }
  | _ => none }
def ComposeGroupsWrongFalsely : Prop := composeGroupsRow.holds Try.pinned (OpenSpec.ofChange composeGroupsWrong)

/-- 'tropicakeep.ComposeTurns': WHATEVER THE INPUT: true; the input reads as it did. -/
def composeTurnsSpec : ChangeSpec := { name := "composeTurns", fn := fun _ => fun
  | [d1, d2, d3, d4] => { results := [.lit (.bool true)], args := [d1, d2, d3, d4] }
  | _ => none }
def composeTurnsRow : OpenClaim := { program := "ythcfkiinjcbajab", sum := "bbbab7d5edd9c3512e0a5e7a6829b69f82ad17c7d745621487cc8b0e403955a0", func := "tropica/tropicakeep.ComposeTurns", spec := "composeTurns", unfollowed := true, recurses := true, plainKeys := false, apart := false }
def ComposeTurnsSaid : Prop := composeTurnsRow.holds Try.pinned (OpenSpec.ofChange composeTurnsSpec)

/-- ITS FALSE NEIGHBOUR: 'it returns false'. Refute it at one input. -/
def composeTurnsWrong : ChangeSpec := { name := "composeTurns", fn := fun _ => fun
  | [d1, d2, d3, d4] => { results := [.lit (.bool false)], args := [d1, d2, d3, d4] }
  | _ => none }
def ComposeTurnsWrongFalsely : Prop := composeTurnsRow.holds Try.pinned (OpenSpec.ofChange composeTurnsWrong)

/-- 'tropicakeep.ComposeLines': WHATEVER THE INPUT: true; the input reads as it did. -/
def composeLinesSpec : ChangeSpec := { name := "composeLines", fn := fun _ => fun
  | [d1, d2, d3] => { results := [.lit (.bool true)], args := [d1, d2, d3] }
  | _ => none }
def composeLinesRow : OpenClaim := { program := "ythcfkiinjcbajab", sum := "bbbab7d5edd9c3512e0a5e7a6829b69f82ad17c7d745621487cc8b0e403955a0", func := "tropica/tropicakeep.ComposeLines", spec := "composeLines", unfollowed := true, recurses := true, plainKeys := false, apart := false }
def ComposeLinesSaid : Prop := composeLinesRow.holds Try.pinned (OpenSpec.ofChange composeLinesSpec)

/-- ITS FALSE NEIGHBOUR: 'it returns false'. Refute it at one input. -/
def composeLinesWrong : ChangeSpec := { name := "composeLines", fn := fun _ => fun
  | [d1, d2, d3] => { results := [.lit (.bool false)], args := [d1, d2, d3] }
  | _ => none }
def ComposeLinesWrongFalsely : Prop := composeLinesRow.holds Try.pinned (OpenSpec.ofChange composeLinesWrong)

/-- 'tropicakeep.ComposeOver': WHATEVER THE INPUT: true; the input reads as it did. -/
def composeOverSpec : ChangeSpec := { name := "composeOver", fn := fun _ => fun
  | [d1, d2, d3, d4, d5] => { results := [.lit (.bool true)], args := [d1, d2, d3, d4, d5] }
  | _ => none }
def composeOverRow : OpenClaim := { program := "ythcfkiinjcbajab", sum := "bbbab7d5edd9c3512e0a5e7a6829b69f82ad17c7d745621487cc8b0e403955a0", func := "tropica/tropicakeep.ComposeOver", spec := "composeOver", unfollowed := true, recurses := true, plainKeys := false, apart := false }
def ComposeOverSaid : Prop := composeOverRow.holds Try.pinned (OpenSpec.ofChange composeOverSpec)

/-- ITS FALSE NEIGHBOUR: 'it returns false'. Refute it at one input. -/
def composeOverWrong : ChangeSpec := { name := "composeOver", fn := fun _ => fun
  | [d1, d2, d3, d4, d5] => { results := [.lit (.bool false)], args := [d1, d2, d3, d4, d5] }
  | _ => none }
def ComposeOverWrongFalsely : Prop := composeOverRow.holds Try.pinned (OpenSpec.ofChange composeOverWrong)

/- THE SECOND FORM. 'bulk': how many values and letters a reading holds, each counted each time it is reached (what is shared counts as often as it is met; a slice's spare places count too). A statement '..UptoSaid' is the law's where the arguments, and the package variables that the reading takes, are together of bulk at most 1048576: NARROWER than '..Said'. Prove '..Said' where nothing that the law and all that it calls make is longer than what came in: it says more and counts as full. Else prove '..UptoSaid'. A law counts once. -/
mutual
def uptoBulk {H : Type} : DataW H → Nat
  | .lit (.string bytes) => bytes.length + 1
  | .lit _ => 1
  | .nil => 1
  | .ptr d => uptoBulk d + 1
  | .slice elems spare => uptoBulkAll elems + uptoBulkAll spare + 1
  | .agg parts => uptoBulkAll parts + 1
  | .iface _ d => uptoBulk d + 1
  | .map entries => uptoBulkEntries entries + 1
  | .held _ => 1
def uptoBulkAll {H : Type} : List (DataW H) → Nat
  | [] => 0
  | d :: r => uptoBulk d + uptoBulkAll r
def uptoBulkEntries {H : Type} : List (Lit × DataW H) → Nat
  | [] => 0
  | x :: r => uptoBulkEntry x + uptoBulkEntries r
def uptoBulkEntry {H : Type} : Lit × DataW H → Nat
  | (.string bytes, d) => bytes.length + uptoBulk d + 1
  | (_, d) => uptoBulk d + 1
 end
def uptoSmall : (H : Type) → List (DataW H) → Bool := fun _ ds => decide (uptoBulkAll ds ≤ 1048576)
def OpenSpec.upto (s : _root_.Go.ChangeSpec) : _root_.Go.OpenSpec := { _root_.Go.OpenSpec.ofChange s with cond := some uptoSmall }

/-- 'tropicakeep.ComposeGroups', WHERE WHAT IT READS IS OF BULK AT MOST 1048576: true; the input reads as it did. -/
def composeGroupsUptoRow : OpenClaim := { program := "ythcfkiinjcbajab", sum := "bbbab7d5edd9c3512e0a5e7a6829b69f82ad17c7d745621487cc8b0e403955a0", func := "tropica/tropicakeep.ComposeGroups", spec := "composeGroups", unfollowed := true, recurses := true, plainKeys := false, apart := false, narrowed := true }
def ComposeGroupsUptoSaid : Prop := composeGroupsUptoRow.holds Try.pinned (OpenSpec.upto composeGroupsSpec)

/-- 'tropicakeep.ComposeTurns', WHERE WHAT IT READS IS OF BULK AT MOST 1048576: true; the input reads as it did. -/
def composeTurnsUptoRow : OpenClaim := { program := "ythcfkiinjcbajab", sum := "bbbab7d5edd9c3512e0a5e7a6829b69f82ad17c7d745621487cc8b0e403955a0", func := "tropica/tropicakeep.ComposeTurns", spec := "composeTurns", unfollowed := true, recurses := true, plainKeys := false, apart := false, narrowed := true }
def ComposeTurnsUptoSaid : Prop := composeTurnsUptoRow.holds Try.pinned (OpenSpec.upto composeTurnsSpec)

/-- 'tropicakeep.ComposeLines', WHERE WHAT IT READS IS OF BULK AT MOST 1048576: true; the input reads as it did. -/
def composeLinesUptoRow : OpenClaim := { program := "ythcfkiinjcbajab", sum := "bbbab7d5edd9c3512e0a5e7a6829b69f82ad17c7d745621487cc8b0e403955a0", func := "tropica/tropicakeep.ComposeLines", spec := "composeLines", unfollowed := true, recurses := true, plainKeys := false, apart := false, narrowed := true }
def ComposeLinesUptoSaid : Prop := composeLinesUptoRow.holds Try.pinned (OpenSpec.upto composeLinesSpec)

/-- 'tropicakeep.ComposeOver', WHERE WHAT IT READS IS OF BULK AT MOST 1048576: true; the input reads as it did. -/
def composeOverUptoRow : OpenClaim := { program := "ythcfkiinjcbajab", sum := "bbbab7d5edd9c3512e0a5e7a6829b69f82ad17c7d745621487cc8b0e403955a0", func := "tropica/tropicakeep.ComposeOver", spec := "composeOver", unfollowed := true, recurses := true, plainKeys := false, apart := false, narrowed := true }
def ComposeOverUptoSaid : Prop := composeOverUptoRow.holds Try.pinned (OpenSpec.upto composeOverSpec)

end Rows
end Go.Proofs.Ythcfkiinjcbajab
