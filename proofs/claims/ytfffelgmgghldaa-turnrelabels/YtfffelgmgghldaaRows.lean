/-
  No cell of these rows narrows 'for every input' (looked for: loops, veiled, ifaces, maps, wideKeys, modest, calm, conditions, laid).
  DERIVED. THE GIVEN ROWS OF THIS SEAT. 6 by the template 'for every input the law returns true; each argument reads behind the call as it read before'; 0 by the template 'total and deterministic' (their statements: YtfffelgmgghldaaTotals.lean).
  GIVEN WITH THE SEED: the statements are not yours to turn. If you find one false, say at which input.
  Laid BY PROGRAM, IN A SANDBOX (cutbox-rows.mjs): the forced cells as the released guide's own fill.sh prints them over the translation 1b8549f17ada00a3… (all of the seat's roots in one cut). By AI agents, Wed Nov 11 2026. No macro, syntax, notation, axiom, sorry.
-/
import Derived.Test.YtfffelgmgghldaaChecked
import GoSem.Claim
import GoSem.ClaimJoined
import GoSem.ClaimMapViews
import Derived.JoinedTies
import Derived.KernelRfl
namespace Go.Proofs.Ytfffelgmgghldaa
/- THE CELL 'sum', in the pinned program and in every row, IS THE sha256 OF THE DUMP (.gsa) THAT YtfffelgmgghldaaProg.lean LOADS. Nothing in Lean hashes anything: it is a label: what it is worth is what the hold of that sum in a sandbox is worth. -/
noncomputable def Try.pinned : Pinned := { name := "ytfffelgmgghldaa", sum := "1b8549f17ada00a3d5e3f918041cfdc526a9d38398dfb4e031e4c10cf477bb43", checked := Try.checked }
namespace Rows
def none {H : Type} : Left H := { results := [], args := [] }

/-- 'tropicalaw.TurnInverts': WHATEVER THE INPUT: true; the input reads as it did. -/
def turnInvertsSpec : ChangeSpec := { name := "turnInverts", fn := fun _ => fun
  | [d] => { results := [.lit (.bool true)], args := [d] }
  | _ => none }
def turnInvertsRow : OpenClaim := { program := "ytfffelgmgghldaa", sum := "1b8549f17ada00a3d5e3f918041cfdc526a9d38398dfb4e031e4c10cf477bb43", func := "tropica/tropicalaw.TurnInverts", spec := "turnInverts", unfollowed := true, recurses := true, apart := false }
def TurnInvertsSaid : Prop := turnInvertsRow.holds Try.pinned (OpenSpec.ofChange turnInvertsSpec)

/-- ITS FALSE NEIGHBOUR: 'it returns false'. Refute it at one input. -/
def turnInvertsWrong : ChangeSpec := { name := "turnInverts", fn := fun _ => fun
  | [d] => { results := [.lit (.bool false)], args := [d] }
  | _ => none }
def TurnInvertsWrongFalsely : Prop := turnInvertsRow.holds Try.pinned (OpenSpec.ofChange turnInvertsWrong)

/-- 'tropicalaw.TurnProjects': WHATEVER THE INPUT: true; the input reads as it did. -/
def turnProjectsSpec : ChangeSpec := { name := "turnProjects", fn := fun _ => fun
  | [d] => { results := [.lit (.bool true)], args := [d] }
  | _ => none }
def turnProjectsRow : OpenClaim := { program := "ytfffelgmgghldaa", sum := "1b8549f17ada00a3d5e3f918041cfdc526a9d38398dfb4e031e4c10cf477bb43", func := "tropica/tropicalaw.TurnProjects", spec := "turnProjects", unfollowed := true, recurses := true, apart := false }
def TurnProjectsSaid : Prop := turnProjectsRow.holds Try.pinned (OpenSpec.ofChange turnProjectsSpec)

/-- ITS FALSE NEIGHBOUR: 'it returns false'. Refute it at one input. -/
def turnProjectsWrong : ChangeSpec := { name := "turnProjects", fn := fun _ => fun
  | [d] => { results := [.lit (.bool false)], args := [d] }
  | _ => none }
def TurnProjectsWrongFalsely : Prop := turnProjectsRow.holds Try.pinned (OpenSpec.ofChange turnProjectsWrong)

/-- 'tropicalaw.TurnWrites': WHATEVER THE INPUT: true; the input reads as it did. -/
def turnWritesSpec : ChangeSpec := { name := "turnWrites", fn := fun _ => fun
  | [d] => { results := [.lit (.bool true)], args := [d] }
  | _ => none }
def turnWritesRow : OpenClaim := { program := "ytfffelgmgghldaa", sum := "1b8549f17ada00a3d5e3f918041cfdc526a9d38398dfb4e031e4c10cf477bb43", func := "tropica/tropicalaw.TurnWrites", spec := "turnWrites", unfollowed := true, recurses := true, apart := false }
def TurnWritesSaid : Prop := turnWritesRow.holds Try.pinned (OpenSpec.ofChange turnWritesSpec)

/-- ITS FALSE NEIGHBOUR: 'it returns false'. Refute it at one input. -/
def turnWritesWrong : ChangeSpec := { name := "turnWrites", fn := fun _ => fun
  | [d] => { results := [.lit (.bool false)], args := [d] }
  | _ => none }
def TurnWritesWrongFalsely : Prop := turnWritesRow.holds Try.pinned (OpenSpec.ofChange turnWritesWrong)

/-- 'tropicalaw.TurnReverses': WHATEVER THE INPUT: true; the input reads as it did. -/
def turnReversesSpec : ChangeSpec := { name := "turnReverses", fn := fun _ => fun
  | [d] => { results := [.lit (.bool true)], args := [d] }
  | _ => none }
def turnReversesRow : OpenClaim := { program := "ytfffelgmgghldaa", sum := "1b8549f17ada00a3d5e3f918041cfdc526a9d38398dfb4e031e4c10cf477bb43", func := "tropica/tropicalaw.TurnReverses", spec := "turnReverses", unfollowed := true, recurses := true, apart := false }
def TurnReversesSaid : Prop := turnReversesRow.holds Try.pinned (OpenSpec.ofChange turnReversesSpec)

/-- ITS FALSE NEIGHBOUR: 'it returns false'. Refute it at one input. -/
def turnReversesWrong : ChangeSpec := { name := "turnReverses", fn := fun _ => fun
  | [d] => { results := [.lit (.bool false)], args := [d] }
  | _ => none }
def TurnReversesWrongFalsely : Prop := turnReversesRow.holds Try.pinned (OpenSpec.ofChange turnReversesWrong)

/-- 'tropicalaw.TurnRelabels': WHATEVER THE INPUT: true; the input reads as it did. -/
def turnRelabelsSpec : ChangeSpec := { name := "turnRelabels", fn := fun _ => fun
  | [d1, d2, d3] => { results := [.lit (.bool true)], args := [d1, d2, d3] }
  | _ => none }
def turnRelabelsRow : OpenClaim := { program := "ytfffelgmgghldaa", sum := "1b8549f17ada00a3d5e3f918041cfdc526a9d38398dfb4e031e4c10cf477bb43", func := "tropica/tropicalaw.TurnRelabels", spec := "turnRelabels", unfollowed := true, recurses := true, apart := false }
def TurnRelabelsSaid : Prop := turnRelabelsRow.holds Try.pinned (OpenSpec.ofChange turnRelabelsSpec)

/-- ITS FALSE NEIGHBOUR: 'it returns false'. Refute it at one input. -/
def turnRelabelsWrong : ChangeSpec := { name := "turnRelabels", fn := fun _ => fun
  | [d1, d2, d3] => { results := [.lit (.bool false)], args := [d1, d2, d3] }
  | _ => none }
def TurnRelabelsWrongFalsely : Prop := turnRelabelsRow.holds Try.pinned (OpenSpec.ofChange turnRelabelsWrong)

/-- 'tropicakeep.InvertTwice': WHATEVER THE INPUT: true; the input reads as it did. -/
def invertTwiceSpec : ChangeSpec := { name := "invertTwice", fn := fun _ => fun
  | [d] => { results := [.lit (.bool true)], args := [d] }
  | _ => none }
def invertTwiceRow : OpenClaim := { program := "ytfffelgmgghldaa", sum := "1b8549f17ada00a3d5e3f918041cfdc526a9d38398dfb4e031e4c10cf477bb43", func := "tropica/tropicakeep.InvertTwice", spec := "invertTwice", unfollowed := true, recurses := true, apart := false }
def InvertTwiceSaid : Prop := invertTwiceRow.holds Try.pinned (OpenSpec.ofChange invertTwiceSpec)

/-- ITS FALSE NEIGHBOUR: 'it returns false'. Refute it at one input. -/
def invertTwiceWrong : ChangeSpec := { name := "invertTwice", fn := fun _ => fun
  | [d] => { results := [.lit (.bool false)], args := [d] }
  | _ => none }
def InvertTwiceWrongFalsely : Prop := invertTwiceRow.holds Try.pinned (OpenSpec.ofChange invertTwiceWrong)

/- THE SECOND FORM. 'bulk': how many values and letters a reading holds, each counted each time it is reached (what is shared counts as often as it is met; a slice's spare places count too). A statement '..UptoSaid' is the law's where the arguments, and the package variables that the reading takes, are together of bulk at most 1048576: NARROWER than '..Said'. Prove '..Said' where nothing that the law and all that it calls make is longer than what came in: it says more and counts as full. Else prove '..UptoSaid'. A law counts once. -/
mutual
def uptoBulk {H : Type} : DataW H → Nat
  | .lit (.string bytes) => bytes.length + 1
  | .lit _ => 1
  | .nil => 1
  | .ptr d => uptoBulk d + 1
  | .slice elems spare => uptoBulkAll elems + uptoBulkAll spare + 1
  | .agg parts => uptoBulkAll parts + 1
  | .iface _ d => uptoBulk d + 1
  | .map entries => uptoBulkEntries entries + 1
  | .held _ => 1
def uptoBulkAll {H : Type} : List (DataW H) → Nat
  | [] => 0
  | d :: r => uptoBulk d + uptoBulkAll r
def uptoBulkEntries {H : Type} : List (Lit × DataW H) → Nat
  | [] => 0
  | x :: r => uptoBulkEntry x + uptoBulkEntries r
def uptoBulkEntry {H : Type} : Lit × DataW H → Nat
  | (.string bytes, d) => bytes.length + uptoBulk d + 1
  | (_, d) => uptoBulk d + 1
 end
def uptoSmall : (H : Type) → List (DataW H) → Bool := fun _ ds => decide (uptoBulkAll ds ≤ 1048576)
def OpenSpec.upto (s : _root_.Go.ChangeSpec) : _root_.Go.OpenSpec := { _root_.Go.OpenSpec.ofChange s with cond := some uptoSmall }

/-- 'tropicalaw.TurnInverts', WHERE WHAT IT READS IS OF BULK AT MOST 1048576: true; the input reads as it did. -/
def turnInvertsUptoRow : OpenClaim := { program := "ytfffelgmgghldaa", sum := "1b8549f17ada00a3d5e3f918041cfdc526a9d38398dfb4e031e4c10cf477bb43", func := "tropica/tropicalaw.TurnInverts", spec := "turnInverts", unfollowed := true, recurses := true, apart := false, narrowed := true }
def TurnInvertsUptoSaid : Prop := turnInvertsUptoRow.holds Try.pinned (OpenSpec.upto turnInvertsSpec)

/-- 'tropicalaw.TurnProjects', WHERE WHAT IT READS IS OF BULK AT MOST 1048576: true; the input reads as it did. -/
def turnProjectsUptoRow : OpenClaim := { program := "ytfffelgmgghldaa", sum := "1b8549f17ada00a3d5e3f918041cfdc526a9d38398dfb4e031e4c10cf477bb43", func := "tropica/tropicalaw.TurnProjects", spec := "turnProjects", unfollowed := true, recurses := true, apart := false, narrowed := true }
def TurnProjectsUptoSaid : Prop := turnProjectsUptoRow.holds Try.pinned (OpenSpec.upto turnProjectsSpec)

/-- 'tropicalaw.TurnWrites', WHERE WHAT IT READS IS OF BULK AT MOST 1048576: true; the input reads as it did. -/
def turnWritesUptoRow : OpenClaim := { program := "ytfffelgmgghldaa", sum := "1b8549f17ada00a3d5e3f918041cfdc526a9d38398dfb4e031e4c10cf477bb43", func := "tropica/tropicalaw.TurnWrites", spec := "turnWrites", unfollowed := true, recurses := true, apart := false, narrowed := true }
def TurnWritesUptoSaid : Prop := turnWritesUptoRow.holds Try.pinned (OpenSpec.upto turnWritesSpec)

/-- 'tropicalaw.TurnReverses', WHERE WHAT IT READS IS OF BULK AT MOST 1048576: true; the input reads as it did. -/
def turnReversesUptoRow : OpenClaim := { program := "ytfffelgmgghldaa", sum := "1b8549f17ada00a3d5e3f918041cfdc526a9d38398dfb4e031e4c10cf477bb43", func := "tropica/tropicalaw.TurnReverses", spec := "turnReverses", unfollowed := true, recurses := true, apart := false, narrowed := true }
def TurnReversesUptoSaid : Prop := turnReversesUptoRow.holds Try.pinned (OpenSpec.upto turnReversesSpec)

/-- 'tropicalaw.TurnRelabels', WHERE WHAT IT READS IS OF BULK AT MOST 1048576: true; the input reads as it did. -/
def turnRelabelsUptoRow : OpenClaim := { program := "ytfffelgmgghldaa", sum := "1b8549f17ada00a3d5e3f918041cfdc526a9d38398dfb4e031e4c10cf477bb43", func := "tropica/tropicalaw.TurnRelabels", spec := "turnRelabels", unfollowed := true, recurses := true, apart := false, narrowed := true }
def TurnRelabelsUptoSaid : Prop := turnRelabelsUptoRow.holds Try.pinned (OpenSpec.upto turnRelabelsSpec)

/-- 'tropicakeep.InvertTwice', WHERE WHAT IT READS IS OF BULK AT MOST 1048576: true; the input reads as it did. -/
def invertTwiceUptoRow : OpenClaim := { program := "ytfffelgmgghldaa", sum := "1b8549f17ada00a3d5e3f918041cfdc526a9d38398dfb4e031e4c10cf477bb43", func := "tropica/tropicakeep.InvertTwice", spec := "invertTwice", unfollowed := true, recurses := true, apart := false, narrowed := true }
def InvertTwiceUptoSaid : Prop := invertTwiceUptoRow.holds Try.pinned (OpenSpec.upto invertTwiceSpec)

end Rows
end Go.Proofs.Ytfffelgmgghldaa
