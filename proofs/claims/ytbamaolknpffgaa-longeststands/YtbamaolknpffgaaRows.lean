/-
  No cell of these rows narrows 'for every input' (looked for: loops, veiled, ifaces, maps, wideKeys, modest, calm, conditions, laid).
  DERIVED. THE GIVEN ROWS OF THIS SEAT. 5 by the template 'for every input the law returns true; each argument reads behind the call as it read before'; 0 by the template 'total and deterministic' (their statements: YtbamaolknpffgaaTotals.lean).
  GIVEN WITH THE SEED: the statements are not yours to turn. If you find one false, say at which input.
  Laid BY PROGRAM, IN A SANDBOX (cutbox-rows.mjs): the forced cells as the released guide's own fill.sh prints them over the translation ad04401b1c06506d… (all of the seat's roots in one cut). By AI agents, Wed Nov 11 2026. No macro, syntax, notation, axiom, sorry.
-/
import Derived.Test.YtbamaolknpffgaaChecked
import GoSem.Claim
import GoSem.ClaimJoined
import GoSem.ClaimMapViews
import Derived.JoinedTies
import Derived.KernelRfl
namespace Go.Proofs.Ytbamaolknpffgaa
/- THE CELL 'sum', in the pinned program and in every row, IS THE sha256 OF THE DUMP (.gsa) THAT YtbamaolknpffgaaProg.lean LOADS. Nothing in Lean hashes anything: it is a label: what it is worth is what the hold of that sum in a sandbox is worth. -/
noncomputable def Try.pinned : Pinned := { name := "ytbamaolknpffgaa", sum := "ad04401b1c06506d8ef44a18850ce9143a568bcf218d815152d13bbecb85c4af", checked := Try.checked }
namespace Rows
def none {H : Type} : Left H := { results := [], args := [] }

/-- 'tropicalaw.TopoOrders': WHATEVER THE INPUT: true; the input reads as it did. -/
def topoOrdersSpec : ChangeSpec := { name := "topoOrders", fn := fun _ => fun
  | [d] => { results := [.lit (.bool true)], args := [d] }
  | _ => none }
def topoOrdersRow : OpenClaim := { program := "ytbamaolknpffgaa", sum := "ad04401b1c06506d8ef44a18850ce9143a568bcf218d815152d13bbecb85c4af", func := "tropica/tropicalaw.TopoOrders", spec := "topoOrders", unfollowed := true, recurses := true, apart := false }
def TopoOrdersSaid : Prop := topoOrdersRow.holds Try.pinned (OpenSpec.ofChange topoOrdersSpec)

/-- ITS FALSE NEIGHBOUR: 'it returns false'. Refute it at one input. -/
def topoOrdersWrong : ChangeSpec := { name := "topoOrders", fn := fun _ => fun
  | [d] => { results := [.lit (.bool false)], args := [d] }
  | _ => none }
def TopoOrdersWrongFalsely : Prop := topoOrdersRow.holds Try.pinned (OpenSpec.ofChange topoOrdersWrong)

/-- 'tropicalaw.TopoPaths': WHATEVER THE INPUT: true; the input reads as it did. -/
def topoPathsSpec : ChangeSpec := { name := "topoPaths", fn := fun _ => fun
  | [d] => { results := [.lit (.bool true)], args := [d] }
  | _ => none }
def topoPathsRow : OpenClaim := { program := "ytbamaolknpffgaa", sum := "ad04401b1c06506d8ef44a18850ce9143a568bcf218d815152d13bbecb85c4af", func := "tropica/tropicalaw.TopoPaths", spec := "topoPaths", unfollowed := true, recurses := true, apart := false }
def TopoPathsSaid : Prop := topoPathsRow.holds Try.pinned (OpenSpec.ofChange topoPathsSpec)

/-- ITS FALSE NEIGHBOUR: 'it returns false'. Refute it at one input. -/
def topoPathsWrong : ChangeSpec := { name := "topoPaths", fn := fun _ => fun
  | [d] => { results := [.lit (.bool false)], args := [d] }
  | _ => none }
def TopoPathsWrongFalsely : Prop := topoPathsRow.holds Try.pinned (OpenSpec.ofChange topoPathsWrong)

/-- 'tropicalaw.TopoLongests': WHATEVER THE INPUT: true; the input reads as it did. -/
def topoLongestsSpec : ChangeSpec := { name := "topoLongests", fn := fun _ => fun
  | [d] => { results := [.lit (.bool true)], args := [d] }
  | _ => none }
def topoLongestsRow : OpenClaim := { program := "ytbamaolknpffgaa", sum := "ad04401b1c06506d8ef44a18850ce9143a568bcf218d815152d13bbecb85c4af", func := "tropica/tropicalaw.TopoLongests", spec := "topoLongests", unfollowed := true, recurses := true, apart := false }
def TopoLongestsSaid : Prop := topoLongestsRow.holds Try.pinned (OpenSpec.ofChange topoLongestsSpec)

/-- ITS FALSE NEIGHBOUR: 'it returns false'. Refute it at one input. -/
def topoLongestsWrong : ChangeSpec := { name := "topoLongests", fn := fun _ => fun
  | [d] => { results := [.lit (.bool false)], args := [d] }
  | _ => none }
def TopoLongestsWrongFalsely : Prop := topoLongestsRow.holds Try.pinned (OpenSpec.ofChange topoLongestsWrong)

/-- 'tropicakeep.OrderForward': WHATEVER THE INPUT: true; the input reads as it did. -/
def orderForwardSpec : ChangeSpec := { name := "orderForward", fn := fun _ => fun
  | [d1, d2] => { results := [.lit (.bool true)], args := [d1, d2] }
  | _ => none }
def orderForwardRow : OpenClaim := { program := "ytbamaolknpffgaa", sum := "ad04401b1c06506d8ef44a18850ce9143a568bcf218d815152d13bbecb85c4af", func := "tropica/tropicakeep.OrderForward", spec := "orderForward", unfollowed := true, recurses := true, apart := false }
def OrderForwardSaid : Prop := orderForwardRow.holds Try.pinned (OpenSpec.ofChange orderForwardSpec)

/-- ITS FALSE NEIGHBOUR: 'it returns false'. Refute it at one input. -/
def orderForwardWrong : ChangeSpec := { name := "orderForward", fn := fun _ => fun
  | [d1, d2] => { results := [.lit (.bool false)], args := [d1, d2] }
  | _ => none }
def OrderForwardWrongFalsely : Prop := orderForwardRow.holds Try.pinned (OpenSpec.ofChange orderForwardWrong)

/-- 'tropicakeep.LongestStands': WHATEVER THE INPUT: true; the input reads as it did. -/
def longestStandsSpec : ChangeSpec := { name := "longestStands", fn := fun _ => fun
  | [d] => { results := [.lit (.bool true)], args := [d] }
  | _ => none }
def longestStandsRow : OpenClaim := { program := "ytbamaolknpffgaa", sum := "ad04401b1c06506d8ef44a18850ce9143a568bcf218d815152d13bbecb85c4af", func := "tropica/tropicakeep.LongestStands", spec := "longestStands", unfollowed := true, recurses := true, apart := false }
def LongestStandsSaid : Prop := longestStandsRow.holds Try.pinned (OpenSpec.ofChange longestStandsSpec)

/-- ITS FALSE NEIGHBOUR: 'it returns false'. Refute it at one input. -/
def longestStandsWrong : ChangeSpec := { name := "longestStands", fn := fun _ => fun
  | [d] => { results := [.lit (.bool false)], args := [d] }
  | _ => none }
def LongestStandsWrongFalsely : Prop := longestStandsRow.holds Try.pinned (OpenSpec.ofChange longestStandsWrong)

/- THE SECOND FORM. 'bulk': how many values and letters a reading holds, each counted each time it is reached (what is shared counts as often as it is met; a slice's spare places count too). A statement '..UptoSaid' is the law's where the arguments, and the package variables that the reading takes, are together of bulk at most 1048576: NARROWER than '..Said'. Prove '..Said' where nothing that the law and all that it calls make is longer than what came in: it says more and counts as full. Else prove '..UptoSaid'. A law counts once. -/
mutual
def uptoBulk {H : Type} : DataW H → Nat
  | .lit (.string bytes) => bytes.length + 1
  | .lit _ => 1
  | .nil => 1
  | .ptr d => uptoBulk d + 1
  | .slice elems spare => uptoBulkAll elems + uptoBulkAll spare + 1
  | .agg parts => uptoBulkAll parts + 1
  | .iface _ d => uptoBulk d + 1
  | .map entries => uptoBulkEntries entries + 1
  | .held _ => 1
def uptoBulkAll {H : Type} : List (DataW H) → Nat
  | [] => 0
  | d :: r => uptoBulk d + uptoBulkAll r
def uptoBulkEntries {H : Type} : List (Lit × DataW H) → Nat
  | [] => 0
  | x :: r => uptoBulkEntry x + uptoBulkEntries r
def uptoBulkEntry {H : Type} : Lit × DataW H → Nat
  | (.string bytes, d) => bytes.length + uptoBulk d + 1
  | (_, d) => uptoBulk d + 1
 end
def uptoSmall : (H : Type) → List (DataW H) → Bool := fun _ ds => decide (uptoBulkAll ds ≤ 1048576)
def OpenSpec.upto (s : _root_.Go.ChangeSpec) : _root_.Go.OpenSpec := { _root_.Go.OpenSpec.ofChange s with cond := some uptoSmall }

/-- 'tropicalaw.TopoOrders', WHERE WHAT IT READS IS OF BULK AT MOST 1048576: true; the input reads as it did. -/
def topoOrdersUptoRow : OpenClaim := { program := "ytbamaolknpffgaa", sum := "ad04401b1c06506d8ef44a18850ce9143a568bcf218d815152d13bbecb85c4af", func := "tropica/tropicalaw.TopoOrders", spec := "topoOrders", unfollowed := true, recurses := true, apart := false, narrowed := true }
def TopoOrdersUptoSaid : Prop := topoOrdersUptoRow.holds Try.pinned (OpenSpec.upto topoOrdersSpec)

/-- 'tropicalaw.TopoPaths', WHERE WHAT IT READS IS OF BULK AT MOST 1048576: true; the input reads as it did. -/
def topoPathsUptoRow : OpenClaim := { program := "ytbamaolknpffgaa", sum := "ad04401b1c06506d8ef44a18850ce9143a568bcf218d815152d13bbecb85c4af", func := "tropica/tropicalaw.TopoPaths", spec := "topoPaths", unfollowed := true, recurses := true, apart := false, narrowed := true }
def TopoPathsUptoSaid : Prop := topoPathsUptoRow.holds Try.pinned (OpenSpec.upto topoPathsSpec)

/-- 'tropicalaw.TopoLongests', WHERE WHAT IT READS IS OF BULK AT MOST 1048576: true; the input reads as it did. -/
def topoLongestsUptoRow : OpenClaim := { program := "ytbamaolknpffgaa", sum := "ad04401b1c06506d8ef44a18850ce9143a568bcf218d815152d13bbecb85c4af", func := "tropica/tropicalaw.TopoLongests", spec := "topoLongests", unfollowed := true, recurses := true, apart := false, narrowed := true }
def TopoLongestsUptoSaid : Prop := topoLongestsUptoRow.holds Try.pinned (OpenSpec.upto topoLongestsSpec)

/-- 'tropicakeep.OrderForward', WHERE WHAT IT READS IS OF BULK AT MOST 1048576: true; the input reads as it did. -/
def orderForwardUptoRow : OpenClaim := { program := "ytbamaolknpffgaa", sum := "ad04401b1c06506d8ef44a18850ce9143a568bcf218d815152d13bbecb85c4af", func := "tropica/tropicakeep.OrderForward", spec := "orderForward", unfollowed := true, recurses := true, apart := false, narrowed := true }
def OrderForwardUptoSaid : Prop := orderForwardUptoRow.holds Try.pinned (OpenSpec.upto orderForwardSpec)

/-- 'tropicakeep.LongestStands', WHERE WHAT IT READS IS OF BULK AT MOST 1048576: true; the input reads as it did. -/
def longestStandsUptoRow : OpenClaim := { program := "ytbamaolknpffgaa", sum := "ad04401b1c06506d8ef44a18850ce9143a568bcf218d815152d13bbecb85c4af", func := "tropica/tropicakeep.LongestStands", spec := "longestStands", unfollowed := true, recurses := true, apart := false, narrowed := true }
def LongestStandsUptoSaid : Prop := longestStandsUptoRow.holds Try.pinned (OpenSpec.upto longestStandsSpec)

end Rows
end Go.Proofs.Ytbamaolknpffgaa
