/-
  No cell of these rows narrows 'for every input' (looked for: loops, veiled, ifaces, maps, wideKeys, modest, calm, conditions, laid).
  DERIVED. THE GIVEN ROWS OF THIS SEAT. 6 by the template 'for every input the law returns true; each argument reads behind the call as it read before'; 0 by the template 'total and deterministic' (their statements: YthcfkiinjcbajaaTotals.lean).
  GIVEN WITH THE SEED: the statements are not yours to turn. If you find one false, say at which input.
  Laid BY PROGRAM, IN A SANDBOX (cutbox-rows.mjs): the forced cells as the released guide's own fill.sh prints them over the translation ce55ccfe7ffea563… (all of the seat's roots in one cut). By AI agents, Wed Nov 11 2026. No macro, syntax, notation, axiom, sorry.
-/
import Derived.Test.YthcfkiinjcbajaaChecked
import GoSem.Claim
import GoSem.ClaimJoined
import GoSem.ClaimMapViews
import Derived.JoinedTies
import Derived.KernelRfl
namespace Go.Proofs.Ythcfkiinjcbajaa
/- THE CELL 'sum', in the pinned program and in every row, IS THE sha256 OF THE DUMP (.gsa) THAT YthcfkiinjcbajaaProg.lean LOADS. Nothing in Lean hashes anything: it is a label: what it is worth is what the hold of that sum in a sandbox is worth. -/
noncomputable def Try.pinned : Pinned := { name := "ythcfkiinjcbajaa", sum := "ce55ccfe7ffea56357deb7115aa08606bb8453987c851d87ed643fd376dc38e5", checked := Try.checked }
namespace Rows
def none {H : Type} : Left H := { results := [], args := [] }

/-- 'tropicalaw.ComposeExpands': WHATEVER THE INPUT: true; the input reads as it did. -/
def composeExpandsSpec : ChangeSpec := { name := "composeExpands", fn := fun _ => fun
  | [d1, d2, d3] => { results := [.lit (.bool true)], args := [d1, d2, d3] }
  | _ => none }
def composeExpandsRow : OpenClaim := { program := "ythcfkiinjcbajaa", sum := "ce55ccfe7ffea56357deb7115aa08606bb8453987c851d87ed643fd376dc38e5", func := "tropica/tropicalaw.ComposeExpands", spec := "composeExpands", unfollowed := true, recurses := true, plainKeys := false, apart := false }
def ComposeExpandsSaid : Prop := composeExpandsRow.holds Try.pinned (OpenSpec.ofChange composeExpandsSpec)

/-- ITS FALSE NEIGHBOUR: 'it returns false'. Refute it at one input. -/
def composeExpandsWrong : ChangeSpec := { name := "composeExpands", fn := fun _ => fun
  | [d1, d2, d3] => { results := [.lit (.bool false)], args := [d1, d2, d3] }
  | _ => none }
def ComposeExpandsWrongFalsely : Prop := composeExpandsRow.holds Try.pinned (OpenSpec.ofChange composeExpandsWrong)

/-- 'tropicalaw.ComposeComposes': WHATEVER THE INPUT: true; the input reads as it did. -/
def composeComposesSpec : ChangeSpec := { name := "composeComposes", fn := fun _ => fun
  | [d1, d2] => { results := [.lit (.bool true)], args := [d1, d2] }
  | _ => none }
def composeComposesRow : OpenClaim := { program := "ythcfkiinjcbajaa", sum := "ce55ccfe7ffea56357deb7115aa08606bb8453987c851d87ed643fd376dc38e5", func := "tropica/tropicalaw.ComposeComposes", spec := "composeComposes", unfollowed := true, recurses := true, plainKeys := false, apart := false }
def ComposeComposesSaid : Prop := composeComposesRow.holds Try.pinned (OpenSpec.ofChange composeComposesSpec)

/-- ITS FALSE NEIGHBOUR: 'it returns false'. Refute it at one input. -/
def composeComposesWrong : ChangeSpec := { name := "composeComposes", fn := fun _ => fun
  | [d1, d2] => { results := [.lit (.bool false)], args := [d1, d2] }
  | _ => none }
def ComposeComposesWrongFalsely : Prop := composeComposesRow.holds Try.pinned (OpenSpec.ofChange composeComposesWrong)

/-- 'tropicakeep.ComposeKeeps': WHATEVER THE INPUT: true; the input reads as it did. -/
def composeKeepsSpec : ChangeSpec := { name := "composeKeeps", fn := fun _ => fun
  | [d1, d2, d3, d4] => { results := [.lit (.bool true)], args := [d1, d2, d3, d4] }
  | _ => none }
def composeKeepsRow : OpenClaim := { program := "ythcfkiinjcbajaa", sum := "ce55ccfe7ffea56357deb7115aa08606bb8453987c851d87ed643fd376dc38e5", func := "tropica/tropicakeep.ComposeKeeps", spec := "composeKeeps", unfollowed := true, recurses := true, plainKeys := false, apart := false }
def ComposeKeepsSaid : Prop := composeKeepsRow.holds Try.pinned (OpenSpec.ofChange composeKeepsSpec)

/-- ITS FALSE NEIGHBOUR: 'it returns false'. Refute it at one input. -/
def composeKeepsWrong : ChangeSpec := { name := "composeKeeps", fn := fun _ => fun
  | [d1, d2, d3, d4] => { results := [.lit (.bool false)], args := [d1, d2, d3, d4] }
  | _ => none }
def ComposeKeepsWrongFalsely : Prop := composeKeepsRow.holds Try.pinned (OpenSpec.ofChange composeKeepsWrong)

/-- 'tropicakeep.ComposeBetween': WHATEVER THE INPUT: true; the input reads as it did. -/
def composeBetweenSpec : ChangeSpec := { name := "composeBetween", fn := fun _ => fun
  | [d1, d2, d3, d4, d5] => { results := [.lit (.bool true)], args := [d1, d2, d3, d4, d5] }
  | _ => none }
def composeBetweenRow : OpenClaim := { program := "ythcfkiinjcbajaa", sum := "ce55ccfe7ffea56357deb7115aa08606bb8453987c851d87ed643fd376dc38e5", func := "tropica/tropicakeep.ComposeBetween", spec := "composeBetween", unfollowed := true, recurses := true, plainKeys := false, apart := false }
def ComposeBetweenSaid : Prop := composeBetweenRow.holds Try.pinned (OpenSpec.ofChange composeBetweenSpec)

/-- ITS FALSE NEIGHBOUR: 'it returns false'. Refute it at one input. -/
def composeBetweenWrong : ChangeSpec := { name := "composeBetween", fn := fun _ => fun
  | [d1, d2, d3, d4, d5] => { results := [.lit (.bool false)], args := [d1, d2, d3, d4, d5] }
  | _ => none }
def ComposeBetweenWrongFalsely : Prop := composeBetweenRow.holds Try.pinned (OpenSpec.ofChange composeBetweenWrong)

/-- 'tropicakeep.ComposeOnce': WHATEVER THE INPUT: true; the input reads as it did. -/
def composeOnceSpec : ChangeSpec := { name := "composeOnce", fn := fun _ => fun
  | [d1, d2] => { results := [.lit (.bool true)], args := [d1, d2] }
  | _ => none }
def composeOnceRow : OpenClaim := { program := "ythcfkiinjcbajaa", sum := "ce55ccfe7ffea56357deb7115aa08606bb8453987c851d87ed643fd376dc38e5", func := "tropica/tropicakeep.ComposeOnce", spec := "composeOnce", unfollowed := true, recurses := true, plainKeys := false, apart := false }
def ComposeOnceSaid : Prop := composeOnceRow.holds Try.pinned (OpenSpec.ofChange composeOnceSpec)

/-- ITS FALSE NEIGHBOUR: 'it returns false'. Refute it at one input. -/
def composeOnceWrong : ChangeSpec := { name := "composeOnce", fn := fun _ => fun
  | [d1, d2] => { results := [.lit (.bool false)], args := [d1, d2] }
  | _ => none }
def ComposeOnceWrongFalsely : Prop := composeOnceRow.holds Try.pinned (OpenSpec.ofChange composeOnceWrong)

/-- 'tropicakeep.ComposeExpanded': WHATEVER THE INPUT: true; the input reads as it did. -/
def composeExpandedSpec : ChangeSpec := { name := "composeExpanded", fn := fun _ => fun
  | [d1, d2, d3] => { results := [.lit (.bool true)], args := [d1, d2, d3] }
  | _ => none }
def composeExpandedRow : OpenClaim := { program := "ythcfkiinjcbajaa", sum := "ce55ccfe7ffea56357deb7115aa08606bb8453987c851d87ed643fd376dc38e5", func := "tropica/tropicakeep.ComposeExpanded", spec := "composeExpanded", unfollowed := true, recurses := true, plainKeys := false, apart := false }
def ComposeExpandedSaid : Prop := composeExpandedRow.holds Try.pinned (OpenSpec.ofChange composeExpandedSpec)

/-- ITS FALSE NEIGHBOUR: 'it returns false'. Refute it at one input. -/
def composeExpandedWrong : ChangeSpec := { name := "composeExpanded", fn := fun _ => fun
  | [d1, d2, d3] => { results := [.lit (.bool false)], args := [d1, d2, d3] }
  | _ => none }
def ComposeExpandedWrongFalsely : Prop := composeExpandedRow.holds Try.pinned (OpenSpec.ofChange composeExpandedWrong)

/- THE SECOND FORM. 'bulk': how many values and letters a reading holds, each counted each time it is reached (what is shared counts as often as it is met; a slice's spare places count too). A statement '..UptoSaid' is the law's where the arguments, and the package variables that the reading takes, are together of bulk at most 1048576: NARROWER than '..Said'. Prove '..Said' where nothing that the law and all that it calls make is longer than what came in: it says more and counts as full. Else prove '..UptoSaid'. A law counts once. -/
mutual
def uptoBulk {H : Type} : DataW H → Nat
  | .lit (.string bytes) => bytes.length + 1
  | .lit _ => 1
  | .nil => 1
  | .ptr d => uptoBulk d + 1
  | .slice elems spare => uptoBulkAll elems + uptoBulkAll spare + 1
  | .agg parts => uptoBulkAll parts + 1
  | .iface _ d => uptoBulk d + 1
  | .map entries => uptoBulkEntries entries + 1
  | .held _ => 1
def uptoBulkAll {H : Type} : List (DataW H) → Nat
  | [] => 0
  | d :: r => uptoBulk d + uptoBulkAll r
def uptoBulkEntries {H : Type} : List (Lit × DataW H) → Nat
  | [] => 0
  | x :: r => uptoBulkEntry x + uptoBulkEntries r
def uptoBulkEntry {H : Type} : Lit × DataW H → Nat
  | (.string bytes, d) => bytes.length + uptoBulk d + 1
  | (_, d) => uptoBulk d + 1
 end
def uptoSmall : (H : Type) → List (DataW H) → Bool := fun _ ds => decide (uptoBulkAll ds ≤ 1048576)
def OpenSpec.upto (s : _root_.Go.ChangeSpec) : _root_.Go.OpenSpec := { _root_.Go.OpenSpec.ofChange s with cond := some uptoSmall }

/-- 'tropicalaw.ComposeExpands', WHERE WHAT IT READS IS OF BULK AT MOST 1048576: true; the input reads as it did. -/
def composeExpandsUptoRow : OpenClaim := { program := "ythcfkiinjcbajaa", sum := "ce55ccfe7ffea56357deb7115aa08606bb8453987c851d87ed643fd376dc38e5", func := "tropica/tropicalaw.ComposeExpands", spec := "composeExpands", unfollowed := true, recurses := true, plainKeys := false, apart := false, narrowed := true }
def ComposeExpandsUptoSaid : Prop := composeExpandsUptoRow.holds Try.pinned (OpenSpec.upto composeExpandsSpec)

/-- 'tropicalaw.ComposeComposes', WHERE WHAT IT READS IS OF BULK AT MOST 1048576: true; the input reads as it did. -/
def composeComposesUptoRow : OpenClaim := { program := "ythcfkiinjcbajaa", sum := "ce55ccfe7ffea56357deb7115aa08606bb8453987c851d87ed643fd376dc38e5", func := "tropica/tropicalaw.ComposeComposes", spec := "composeComposes", unfollowed := true, recurses := true, plainKeys := false, apart := false, narrowed := true }
def ComposeComposesUptoSaid : Prop := composeComposesUptoRow.holds Try.pinned (OpenSpec.upto composeComposesSpec)

/-- 'tropicakeep.ComposeKeeps', WHERE WHAT IT READS IS OF BULK AT MOST 1048576: true; the input reads as it did. -/
def composeKeepsUptoRow : OpenClaim := { program := "ythcfkiinjcbajaa", sum := "ce55ccfe7ffea56357deb7115aa08606bb8453987c851d87ed643fd376dc38e5", func := "tropica/tropicakeep.ComposeKeeps", spec := "composeKeeps", unfollowed := true, recurses := true, plainKeys := false, apart := false, narrowed := true }
def ComposeKeepsUptoSaid : Prop := composeKeepsUptoRow.holds Try.pinned (OpenSpec.upto composeKeepsSpec)

/-- 'tropicakeep.ComposeBetween', WHERE WHAT IT READS IS OF BULK AT MOST 1048576: true; the input reads as it did. -/
def composeBetweenUptoRow : OpenClaim := { program := "ythcfkiinjcbajaa", sum := "ce55ccfe7ffea56357deb7115aa08606bb8453987c851d87ed643fd376dc38e5", func := "tropica/tropicakeep.ComposeBetween", spec := "composeBetween", unfollowed := true, recurses := true, plainKeys := false, apart := false, narrowed := true }
def ComposeBetweenUptoSaid : Prop := composeBetweenUptoRow.holds Try.pinned (OpenSpec.upto composeBetweenSpec)

/-- 'tropicakeep.ComposeOnce', WHERE WHAT IT READS IS OF BULK AT MOST 1048576: true; the input reads as it did. -/
def composeOnceUptoRow : OpenClaim := { program := "ythcfkiinjcbajaa", sum := "ce55ccfe7ffea56357deb7115aa08606bb8453987c851d87ed643fd376dc38e5", func := "tropica/tropicakeep.ComposeOnce", spec := "composeOnce", unfollowed := true, recurses := true, plainKeys := false, apart := false, narrowed := true }
def ComposeOnceUptoSaid : Prop := composeOnceUptoRow.holds Try.pinned (OpenSpec.upto composeOnceSpec)

/-- 'tropicakeep.ComposeExpanded', WHERE WHAT IT READS IS OF BULK AT MOST 1048576: true; the input reads as it did. -/
def composeExpandedUptoRow : OpenClaim := { program := "ythcfkiinjcbajaa", sum := "ce55ccfe7ffea56357deb7115aa08606bb8453987c851d87ed643fd376dc38e5", func := "tropica/tropicakeep.ComposeExpanded", spec := "composeExpanded", unfollowed := true, recurses := true, plainKeys := false, apart := false, narrowed := true }
def ComposeExpandedUptoSaid : Prop := composeExpandedUptoRow.holds Try.pinned (OpenSpec.upto composeExpandedSpec)

end Rows
end Go.Proofs.Ythcfkiinjcbajaa
