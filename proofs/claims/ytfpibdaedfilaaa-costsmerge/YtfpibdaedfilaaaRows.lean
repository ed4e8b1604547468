/-
  No cell of these rows narrows 'for every input' (looked for: loops, veiled, ifaces, maps, wideKeys, modest, calm, conditions, laid).
  DERIVED. THE GIVEN ROWS OF THIS SEAT. 5 by the template 'for every input the law returns true; each argument reads behind the call as it read before'; 0 by the template 'total and deterministic' (their statements: YtfpibdaedfilaaaTotals.lean).
  GIVEN WITH THE SEED: the statements are not yours to turn. If you find one false, say at which input.
  Laid BY PROGRAM, IN A SANDBOX (cutbox-rows.mjs): the forced cells as the released guide's own fill.sh prints them over the translation cd1d3886a9da126b… (all of the seat's roots in one cut). By AI agents, Wed Nov 11 2026. No macro, syntax, notation, axiom, sorry.
-/
import Derived.Test.YtfpibdaedfilaaaChecked
import GoSem.Claim
import GoSem.ClaimJoined
import GoSem.ClaimMapViews
import Derived.JoinedTies
import Derived.KernelRfl
namespace Go.Proofs.Ytfpibdaedfilaaa
/- THE CELL 'sum', in the pinned program and in every row, IS THE sha256 OF THE DUMP (.gsa) THAT YtfpibdaedfilaaaProg.lean LOADS. Nothing in Lean hashes anything: it is a label: what it is worth is what the hold of that sum in a sandbox is worth. -/
noncomputable def Try.pinned : Pinned := { name := "ytfpibdaedfilaaa", sum := "cd1d3886a9da126b2e8a26d3cae999f90d1bdc4ac52f5095310618e952045d1d", checked := Try.checked }
namespace Rows
def none {H : Type} : Left H := { results := [], args := [] }

/-- 'tropicakeep.PushPaths': WHATEVER THE INPUT: true; the input reads as it did. -/
def pushPathsSpec : ChangeSpec := { name := "pushPaths", fn := fun _ => fun
  | [d] => { results := [.lit (.bool true)], args := [d] }
  | _ => none }
def pushPathsRow : OpenClaim := { program := "ytfpibdaedfilaaa", sum := "cd1d3886a9da126b2e8a26d3cae999f90d1bdc4ac52f5095310618e952045d1d", func := "tropica/tropicakeep.PushPaths", spec := "pushPaths", unfollowed := true, recurses := true, plainKeys := false, apart := false }
def PushPathsSaid : Prop := pushPathsRow.holds Try.pinned (OpenSpec.ofChange pushPathsSpec)

/-- ITS FALSE NEIGHBOUR: 'it returns false'. Refute it at one input. -/
def pushPathsWrong : ChangeSpec := { name := "pushPaths", fn := fun _ => fun
  | [d] => { results := [.lit (.bool false)], args := [d] }
  | _ => none }
def PushPathsWrongFalsely : Prop := pushPathsRow.holds Try.pinned (OpenSpec.ofChange pushPathsWrong)

/-- 'tropicakeep.BestPays': WHATEVER THE INPUT: true; the input reads as it did. -/
def bestPaysSpec : ChangeSpec := { name := "bestPays", fn := fun _ => fun
  | [d] => { results := [.lit (.bool true)], args := [d] }
  | _ => none }
def bestPaysRow : OpenClaim := { program := "ytfpibdaedfilaaa", sum := "cd1d3886a9da126b2e8a26d3cae999f90d1bdc4ac52f5095310618e952045d1d", func := "tropica/tropicakeep.BestPays", spec := "bestPays", unfollowed := true, recurses := true, plainKeys := false, apart := false }
def BestPaysSaid : Prop := bestPaysRow.holds Try.pinned (OpenSpec.ofChange bestPaysSpec)

/-- ITS FALSE NEIGHBOUR: 'it returns false'. Refute it at one input. -/
def bestPaysWrong : ChangeSpec := { name := "bestPays", fn := fun _ => fun
  | [d] => { results := [.lit (.bool false)], args := [d] }
  | _ => none }
def BestPaysWrongFalsely : Prop := bestPaysRow.holds Try.pinned (OpenSpec.ofChange bestPaysWrong)

/-- 'tropicakeep.BestLeast': WHATEVER THE INPUT: true; the input reads as it did. -/
def bestLeastSpec : ChangeSpec := { name := "bestLeast", fn := fun _ => fun
  | [d1, d2] => { results := [.lit (.bool true)], args := [d1, d2] }
  | _ => none }
def bestLeastRow : OpenClaim := { program := "ytfpibdaedfilaaa", sum := "cd1d3886a9da126b2e8a26d3cae999f90d1bdc4ac52f5095310618e952045d1d", func := "tropica/tropicakeep.BestLeast", spec := "bestLeast", unfollowed := true, recurses := true, plainKeys := false, apart := false }
def BestLeastSaid : Prop := bestLeastRow.holds Try.pinned (OpenSpec.ofChange bestLeastSpec)

/-- ITS FALSE NEIGHBOUR: 'it returns false'. Refute it at one input. -/
def bestLeastWrong : ChangeSpec := { name := "bestLeast", fn := fun _ => fun
  | [d1, d2] => { results := [.lit (.bool false)], args := [d1, d2] }
  | _ => none }
def BestLeastWrongFalsely : Prop := bestLeastRow.holds Try.pinned (OpenSpec.ofChange bestLeastWrong)

/-- 'tropicakeep.CostsRise': WHATEVER THE INPUT: true; the input reads as it did. -/
def costsRiseSpec : ChangeSpec := { name := "costsRise", fn := fun _ => fun
  | [d1, d2] => { results := [.lit (.bool true)], args := [d1, d2] }
  | _ => none }
def costsRiseRow : OpenClaim := { program := "ytfpibdaedfilaaa", sum := "cd1d3886a9da126b2e8a26d3cae999f90d1bdc4ac52f5095310618e952045d1d", func := "tropica/tropicakeep.CostsRise", spec := "costsRise", unfollowed := true, recurses := true, plainKeys := false, apart := false }
def CostsRiseSaid : Prop := costsRiseRow.holds Try.pinned (OpenSpec.ofChange costsRiseSpec)

/-- ITS FALSE NEIGHBOUR: 'it returns false'. Refute it at one input. -/
def costsRiseWrong : ChangeSpec := { name := "costsRise", fn := fun _ => fun
  | [d1, d2] => { results := [.lit (.bool false)], args := [d1, d2] }
  | _ => none }
def CostsRiseWrongFalsely : Prop := costsRiseRow.holds Try.pinned (OpenSpec.ofChange costsRiseWrong)

/-- 'tropicakeep.CostsMerge': WHATEVER THE INPUT: true; the input reads as it did. -/
def costsMergeSpec : ChangeSpec := { name := "costsMerge", fn := fun _ => fun
  | [d1, d2, d3] => { results := [.lit (.bool true)], args := [d1, d2, d3] }
  | _ => none }
def costsMergeRow : OpenClaim := { program := "ytfpibdaedfilaaa", sum := "cd1d3886a9da126b2e8a26d3cae999f90d1bdc4ac52f5095310618e952045d1d", func := "tropica/tropicakeep.CostsMerge", spec := "costsMerge", unfollowed := true, recurses := true, plainKeys := false, apart := false }
def CostsMergeSaid : Prop := costsMergeRow.holds Try.pinned (OpenSpec.ofChange costsMergeSpec)

/-- ITS FALSE NEIGHBOUR: 'it returns false'. Refute it at one input. -/
def costsMergeWrong : ChangeSpec := { name := "costsMerge", fn := fun _ => fun
  | [d1, d2, d3] => { results := [.lit (.bool false)], args := [d1, d2, d3] }
  | _ => none }
def CostsMergeWrongFalsely : Prop := costsMergeRow.holds Try.pinned (OpenSpec.ofChange costsMergeWrong)

/- THE SECOND FORM. 'bulk': how many values and letters a reading holds, each counted each time it is reached (what is shared counts as often as it is met; a slice's spare places count too). A statement '..UptoSaid' is the law's where the arguments, and the package variables that the reading takes, are together of bulk at most 1048576: NARROWER than '..Said'. Prove '..Said' where nothing that the law and all that it calls make is longer than what came in: it says more and counts as full. Else prove '..UptoSaid'. A law counts once. -/
mutual
def uptoBulk {H : Type} : DataW H → Nat
  | .lit (.string bytes) => bytes.length + 1
  | .lit _ => 1
  | .nil => 1
  | .ptr d => uptoBulk d + 1
  | .slice elems spare => uptoBulkAll elems + uptoBulkAll spare + 1
  | .agg parts => uptoBulkAll parts + 1
  | .iface _ d => uptoBulk d + 1
  | .map entries => uptoBulkEntries entries + 1
  | .held _ => 1
def uptoBulkAll {H : Type} : List (DataW H) → Nat
  | [] => 0
  | d :: r => uptoBulk d + uptoBulkAll r
def uptoBulkEntries {H : Type} : List (Lit × DataW H) → Nat
  | [] => 0
  | x :: r => uptoBulkEntry x + uptoBulkEntries r
def uptoBulkEntry {H : Type} : Lit × DataW H → Nat
  | (.string bytes, d) => bytes.length + uptoBulk d + 1
  | (_, d) => uptoBulk d + 1
 end
def uptoSmall : (H : Type) → List (DataW H) → Bool := fun _ ds => decide (uptoBulkAll ds ≤ 1048576)
def OpenSpec.upto (s : _root_.Go.ChangeSpec) : _root_.Go.OpenSpec := { _root_.Go.OpenSpec.ofChange s with cond := some uptoSmall }

/-- 'tropicakeep.PushPaths', WHERE WHAT IT READS IS OF BULK AT MOST 1048576: true; the input reads as it did. -/
def pushPathsUptoRow : OpenClaim := { program := "ytfpibdaedfilaaa", sum := "cd1d3886a9da126b2e8a26d3cae999f90d1bdc4ac52f5095310618e952045d1d", func := "tropica/tropicakeep.PushPaths", spec := "pushPaths", unfollowed := true, recurses := true, plainKeys := false, apart := false, narrowed := true }
def PushPathsUptoSaid : Prop := pushPathsUptoRow.holds Try.pinned (OpenSpec.upto pushPathsSpec)

/-- 'tropicakeep.BestPays', WHERE WHAT IT READS IS OF BULK AT MOST 1048576: true; the input reads as it did. -/
def bestPaysUptoRow : OpenClaim := { program := "ytfpibdaedfilaaa", sum := "cd1d3886a9da126b2e8a26d3cae999f90d1bdc4ac52f5095310618e952045d1d", func := "tropica/tropicakeep.BestPays", spec := "bestPays", unfollowed := true, recurses := true, plainKeys := false, apart := false, narrowed := true }
def BestPaysUptoSaid : Prop := bestPaysUptoRow.holds Try.pinned (OpenSpec.upto bestPaysSpec)

/-- 'tropicakeep.BestLeast', WHERE WHAT IT READS IS OF BULK AT MOST 1048576: true; the input reads as it did. -/
def bestLeastUptoRow : OpenClaim := { program := "ytfpibdaedfilaaa", sum := "cd1d3886a9da126b2e8a26d3cae999f90d1bdc4ac52f5095310618e952045d1d", func := "tropica/tropicakeep.BestLeast", spec := "bestLeast", unfollowed := true, recurses := true, plainKeys := false, apart := false, narrowed := true }
def BestLeastUptoSaid : Prop := bestLeastUptoRow.holds Try.pinned (OpenSpec.upto bestLeastSpec)

/-- 'tropicakeep.CostsRise', WHERE WHAT IT READS IS OF BULK AT MOST 1048576: true; the input reads as it did. -/
def costsRiseUptoRow : OpenClaim := { program := "ytfpibdaedfilaaa", sum := "cd1d3886a9da126b2e8a26d3cae999f90d1bdc4ac52f5095310618e952045d1d", func := "tropica/tropicakeep.CostsRise", spec := "costsRise", unfollowed := true, recurses := true, plainKeys := false, apart := false, narrowed := true }
def CostsRiseUptoSaid : Prop := costsRiseUptoRow.holds Try.pinned (OpenSpec.upto costsRiseSpec)

/-- 'tropicakeep.CostsMerge', WHERE WHAT IT READS IS OF BULK AT MOST 1048576: true; the input reads as it did. -/
def costsMergeUptoRow : OpenClaim := { program := "ytfpibdaedfilaaa", sum := "cd1d3886a9da126b2e8a26d3cae999f90d1bdc4ac52f5095310618e952045d1d", func := "tropica/tropicakeep.CostsMerge", spec := "costsMerge", unfollowed := true, recurses := true, plainKeys := false, apart := false, narrowed := true }
def CostsMergeUptoSaid : Prop := costsMergeUptoRow.holds Try.pinned (OpenSpec.upto costsMergeSpec)

end Rows
end Go.Proofs.Ytfpibdaedfilaaa
