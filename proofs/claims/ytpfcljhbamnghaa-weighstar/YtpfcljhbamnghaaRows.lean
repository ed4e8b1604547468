/-
  No cell of these rows narrows 'for every input' (looked for: loops, veiled, ifaces, maps, wideKeys, modest, calm, conditions, laid).
  DERIVED. THE GIVEN ROWS OF THIS SEAT. 6 by the template 'for every input the law returns true; each argument reads behind the call as it read before'; 0 by the template 'total and deterministic' (their statements: YtpfcljhbamnghaaTotals.lean).
  GIVEN WITH THE SEED: the statements are not yours to turn. If you find one false, say at which input.
  Laid BY PROGRAM, IN A SANDBOX (cutbox-rows.mjs): the forced cells as the released guide's own fill.sh prints them over the translation f6581b54782ebcb3… (all of the seat's roots in one cut). By AI agents, Wed Nov 11 2026. No macro, syntax, notation, axiom, sorry.
-/
import Derived.Test.YtpfcljhbamnghaaChecked
import GoSem.Claim
import GoSem.ClaimJoined
import GoSem.ClaimMapViews
import Derived.JoinedTies
import Derived.KernelRfl
namespace Go.Proofs.Ytpfcljhbamnghaa
/- THE CELL 'sum', in the pinned program and in every row, IS THE sha256 OF THE DUMP (.gsa) THAT YtpfcljhbamnghaaProg.lean LOADS. Nothing in Lean hashes anything: it is a label: what it is worth is what the hold of that sum in a sandbox is worth. -/
noncomputable def Try.pinned : Pinned := { name := "ytpfcljhbamnghaa", sum := "f6581b54782ebcb3804a27320566e4f0a078f1ab1c0215a2860e59a37573c318", checked := Try.checked }
namespace Rows
def none {H : Type} : Left H := { results := [], args := [] }

/-- 'tropicalaw.WeighLines': WHATEVER THE INPUT: true; the input reads as it did. -/
def weighLinesSpec : ChangeSpec := { name := "weighLines", fn := fun _ => fun
  | [d] => { results := [.lit (.bool true)], args := [d] }
  | _ => none }
def weighLinesRow : OpenClaim := { program := "ytpfcljhbamnghaa", sum := "f6581b54782ebcb3804a27320566e4f0a078f1ab1c0215a2860e59a37573c318", func := "tropica/tropicalaw.WeighLines", spec := "weighLines", plainKeys := false, apart := false }
def WeighLinesSaid : Prop := weighLinesRow.holds Try.pinned (OpenSpec.ofChange weighLinesSpec)

/-- ITS FALSE NEIGHBOUR: 'it returns false'. Refute it at one input. -/
def weighLinesWrong : ChangeSpec := { name := "weighLines", fn := fun _ => fun
  | [d] => { results := [.lit (.bool false)], args := [d] }
  | _ => none }
def WeighLinesWrongFalsely : Prop := weighLinesRow.holds Try.pinned (OpenSpec.ofChange weighLinesWrong)

/-- 'tropicalaw.WeighCrosses': WHATEVER THE INPUT: true; the input reads as it did. -/
def weighCrossesSpec : ChangeSpec := { name := "weighCrosses", fn := fun _ => fun
  | [d1, d2] => { results := [.lit (.bool true)], args := [d1, d2] }
  | _ => none }
def weighCrossesRow : OpenClaim := { program := "ytpfcljhbamnghaa", sum := "f6581b54782ebcb3804a27320566e4f0a078f1ab1c0215a2860e59a37573c318", func := "tropica/tropicalaw.WeighCrosses", spec := "weighCrosses", plainKeys := false, apart := false }
def WeighCrossesSaid : Prop := weighCrossesRow.holds Try.pinned (OpenSpec.ofChange weighCrossesSpec)

/-- ITS FALSE NEIGHBOUR: 'it returns false'. Refute it at one input. -/
def weighCrossesWrong : ChangeSpec := { name := "weighCrosses", fn := fun _ => fun
  | [d1, d2] => { results := [.lit (.bool false)], args := [d1, d2] }
  | _ => none }
def WeighCrossesWrongFalsely : Prop := weighCrossesRow.holds Try.pinned (OpenSpec.ofChange weighCrossesWrong)

/-- 'tropicalaw.WeighWeighs': WHATEVER THE INPUT: true; the input reads as it did. -/
def weighWeighsSpec : ChangeSpec := { name := "weighWeighs", fn := fun _ => fun
  | [d1, d2, d3] => { results := [.lit (.bool true)], args := [d1, d2, d3] }
  | _ => none }
def weighWeighsRow : OpenClaim := { program := "ytpfcljhbamnghaa", sum := "f6581b54782ebcb3804a27320566e4f0a078f1ab1c0215a2860e59a37573c318", func := "tropica/tropicalaw.WeighWeighs", spec := "weighWeighs", unfollowed := true, recurses := true, plainKeys := false, apart := false }
def WeighWeighsSaid : Prop := weighWeighsRow.holds Try.pinned (OpenSpec.ofChange weighWeighsSpec)

/-- ITS FALSE NEIGHBOUR: 'it returns false'. Refute it at one input. -/
def weighWeighsWrong : ChangeSpec := { name := "weighWeighs", fn := fun _ => fun
  | [d1, d2, d3] => { results := [.lit (.bool false)], args := [d1, d2, d3] }
  | _ => none }
def WeighWeighsWrongFalsely : Prop := weighWeighsRow.holds Try.pinned (OpenSpec.ofChange weighWeighsWrong)

/-- 'tropicalaw.WeighReads': WHATEVER THE INPUT: true; the input reads as it did. -/
def weighReadsSpec : ChangeSpec := { name := "weighReads", fn := fun _ => fun
  | [d1, d2] => { results := [.lit (.bool true)], args := [d1, d2] }
  | _ => none }
def weighReadsRow : OpenClaim := { program := "ytpfcljhbamnghaa", sum := "f6581b54782ebcb3804a27320566e4f0a078f1ab1c0215a2860e59a37573c318", func := "tropica/tropicalaw.WeighReads", spec := "weighReads", unfollowed := true, recurses := true, plainKeys := false, apart := false }
def WeighReadsSaid : Prop := weighReadsRow.holds Try.pinned (OpenSpec.ofChange weighReadsSpec)

/-- ITS FALSE NEIGHBOUR: 'it returns false'. Refute it at one input. -/
def weighReadsWrong : ChangeSpec := { name := "weighReads", fn := fun _ => fun
  | [d1, d2] => { results := [.lit (.bool false)], args := [d1, d2] }
  | _ => none }
def WeighReadsWrongFalsely : Prop := weighReadsRow.holds Try.pinned (OpenSpec.ofChange weighReadsWrong)

/-- 'tropicakeep.WeighUnion': WHATEVER THE INPUT: true; the input reads as it did. -/
def weighUnionSpec : ChangeSpec := { name := "weighUnion", fn := fun _ => fun
  | [d1, d2, d3, d4] => { results := [.lit (.bool true)], args := [d1, d2, d3, d4] }
  | _ => none }
def weighUnionRow : OpenClaim := { program := "ytpfcljhbamnghaa", sum := "f6581b54782ebcb3804a27320566e4f0a078f1ab1c0215a2860e59a37573c318", func := "tropica/tropicakeep.WeighUnion", spec := "weighUnion", unfollowed := true, recurses := true, plainKeys := false, apart := false }
def WeighUnionSaid : Prop := weighUnionRow.holds Try.pinned (OpenSpec.ofChange weighUnionSpec)

/-- ITS FALSE NEIGHBOUR: 'it returns false'. Refute it at one input. -/
def weighUnionWrong : ChangeSpec := { name := "weighUnion", fn := fun _ => fun
  | [d1, d2, d3, d4] => { results := [.lit (.bool false)], args := [d1, d2, d3, d4] }
  | _ => none }
def WeighUnionWrongFalsely : Prop := weighUnionRow.holds Try.pinned (OpenSpec.ofChange weighUnionWrong)

/-- 'tropicakeep.WeighStar': WHATEVER THE INPUT: true; the input reads as it did. -/
def weighStarSpec : ChangeSpec := { name := "weighStar", fn := fun _ => fun
  | [d1, d2, d3] => { results := [.lit (.bool true)], args := [d1, d2, d3] }
  | _ => none }
def weighStarRow : OpenClaim := { program := "ytpfcljhbamnghaa", sum := "f6581b54782ebcb3804a27320566e4f0a078f1ab1c0215a2860e59a37573c318", func := "tropica/tropicakeep.WeighStar", spec := "weighStar", unfollowed := true, recurses := true, plainKeys := false, apart := false }
def WeighStarSaid : Prop := weighStarRow.holds Try.pinned (OpenSpec.ofChange weighStarSpec)

/-- ITS FALSE NEIGHBOUR: 'it returns false'. Refute it at one input. -/
def weighStarWrong : ChangeSpec := { name := "weighStar", fn := fun _ => fun
  | [d1, d2, d3] => { results := [.lit (.bool false)], args := [d1, d2, d3] }
  | _ => none }
def WeighStarWrongFalsely : Prop := weighStarRow.holds Try.pinned (OpenSpec.ofChange weighStarWrong)

/- THE SECOND FORM. 'bulk': how many values and letters a reading holds, each counted each time it is reached (what is shared counts as often as it is met; a slice's spare places count too). A statement '..UptoSaid' is the law's where the arguments, and the package variables that the reading takes, are together of bulk at most 1048576: NARROWER than '..Said'. Prove '..Said' where nothing that the law and all that it calls make is longer than what came in: it says more and counts as full. Else prove '..UptoSaid'. A law counts once. -/
mutual
def uptoBulk {H : Type} : DataW H → Nat
  | .lit (.string bytes) => bytes.length + 1
  | .lit _ => 1
  | .nil => 1
  | .ptr d => uptoBulk d + 1
  | .slice elems spare => uptoBulkAll elems + uptoBulkAll spare + 1
  | .agg parts => uptoBulkAll parts + 1
  | .iface _ d => uptoBulk d + 1
  | .map entries => uptoBulkEntries entries + 1
  | .held _ => 1
def uptoBulkAll {H : Type} : List (DataW H) → Nat
  | [] => 0
  | d :: r => uptoBulk d + uptoBulkAll r
def uptoBulkEntries {H : Type} : List (Lit × DataW H) → Nat
  | [] => 0
  | x :: r => uptoBulkEntry x + uptoBulkEntries r
def uptoBulkEntry {H : Type} : Lit × DataW H → Nat
  | (.string bytes, d) => bytes.length + uptoBulk d + 1
  | (_, d) => uptoBulk d + 1
 end
def uptoSmall : (H : Type) → List (DataW H) → Bool := fun _ ds => decide (uptoBulkAll ds ≤ 1048576)
def OpenSpec.upto (s : _root_.Go.ChangeSpec) : _root_.Go.OpenSpec := { _root_.Go.OpenSpec.ofChange s with cond := some uptoSmall }

/-- 'tropicalaw.WeighLines', WHERE WHAT IT READS IS OF BULK AT MOST 1048576: true; the input reads as it did. -/
def weighLinesUptoRow : OpenClaim := { program := "ytpfcljhbamnghaa", sum := "f6581b54782ebcb3804a27320566e4f0a078f1ab1c0215a2860e59a37573c318", func := "tropica/tropicalaw.WeighLines", spec := "weighLines", plainKeys := false, apart := false, narrowed := true }
def WeighLinesUptoSaid : Prop := weighLinesUptoRow.holds Try.pinned (OpenSpec.upto weighLinesSpec)

/-- 'tropicalaw.WeighCrosses', WHERE WHAT IT READS IS OF BULK AT MOST 1048576: true; the input reads as it did. -/
def weighCrossesUptoRow : OpenClaim := { program := "ytpfcljhbamnghaa", sum := "f6581b54782ebcb3804a27320566e4f0a078f1ab1c0215a2860e59a37573c318", func := "tropica/tropicalaw.WeighCrosses", spec := "weighCrosses", plainKeys := false, apart := false, narrowed := true }
def WeighCrossesUptoSaid : Prop := weighCrossesUptoRow.holds Try.pinned (OpenSpec.upto weighCrossesSpec)

/-- 'tropicalaw.WeighWeighs', WHERE WHAT IT READS IS OF BULK AT MOST 1048576: true; the input reads as it did. -/
def weighWeighsUptoRow : OpenClaim := { program := "ytpfcljhbamnghaa", sum := "f6581b54782ebcb3804a27320566e4f0a078f1ab1c0215a2860e59a37573c318", func := "tropica/tropicalaw.WeighWeighs", spec := "weighWeighs", unfollowed := true, recurses := true, plainKeys := false, apart := false, narrowed := true }
def WeighWeighsUptoSaid : Prop := weighWeighsUptoRow.holds Try.pinned (OpenSpec.upto weighWeighsSpec)

/-- 'tropicalaw.WeighReads', WHERE WHAT IT READS IS OF BULK AT MOST 1048576: true; the input reads as it did. -/
def weighReadsUptoRow : OpenClaim := { program := "ytpfcljhbamnghaa", sum := "f6581b54782ebcb3804a27320566e4f0a078f1ab1c0215a2860e59a37573c318", func := "tropica/tropicalaw.WeighReads", spec := "weighReads", unfollowed := true, recurses := true, plainKeys := false, apart := false, narrowed := true }
def WeighReadsUptoSaid : Prop := weighReadsUptoRow.holds Try.pinned (OpenSpec.upto weighReadsSpec)

/-- 'tropicakeep.WeighUnion', WHERE WHAT IT READS IS OF BULK AT MOST 1048576: true; the input reads as it did. -/
def weighUnionUptoRow : OpenClaim := { program := "ytpfcljhbamnghaa", sum := "f6581b54782ebcb3804a27320566e4f0a078f1ab1c0215a2860e59a37573c318", func := "tropica/tropicakeep.WeighUnion", spec := "weighUnion", unfollowed := true, recurses := true, plainKeys := false, apart := false, narrowed := true }
def WeighUnionUptoSaid : Prop := weighUnionUptoRow.holds Try.pinned (OpenSpec.upto weighUnionSpec)

/-- 'tropicakeep.WeighStar', WHERE WHAT IT READS IS OF BULK AT MOST 1048576: true; the input reads as it did. -/
def weighStarUptoRow : OpenClaim := { program := "ytpfcljhbamnghaa", sum := "f6581b54782ebcb3804a27320566e4f0a078f1ab1c0215a2860e59a37573c318", func := "tropica/tropicakeep.WeighStar", spec := "weighStar", unfollowed := true, recurses := true, plainKeys := false, apart := false, narrowed := true }
def WeighStarUptoSaid : Prop := weighStarUptoRow.holds Try.pinned (OpenSpec.upto weighStarSpec)

end Rows
end Go.Proofs.Ytpfcljhbamnghaa
