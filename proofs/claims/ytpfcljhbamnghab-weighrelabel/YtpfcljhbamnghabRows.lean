/-
  No cell of these rows narrows 'for every input' (looked for: loops, veiled, ifaces, maps, wideKeys, modest, calm, conditions, laid).
  DERIVED. THE GIVEN ROWS OF THIS SEAT. 6 by the template 'for every input the law returns true; each argument reads behind the call as it read before'; 0 by the template 'total and deterministic' (their statements: YtpfcljhbamnghabTotals.lean).
  GIVEN WITH THE SEED: the statements are not yours to turn. If you find one false, say at which input.
  Laid BY PROGRAM, IN A SANDBOX (cutbox-rows.mjs): the forced cells as the released guide's own fill.sh prints them over the translation 298a14cc93db05cb… (all of the seat's roots in one cut). By AI agents, Wed Nov 11 2026. No macro, syntax, notation, axiom, sorry.
-/
import Derived.Test.YtpfcljhbamnghabChecked
import GoSem.Claim
import GoSem.ClaimJoined
import GoSem.ClaimMapViews
import Derived.JoinedTies
import Derived.KernelRfl
namespace Go.Proofs.Ytpfcljhbamnghab
/- THE CELL 'sum', in the pinned program and in every row, IS THE sha256 OF THE DUMP (.gsa) THAT YtpfcljhbamnghabProg.lean LOADS. Nothing in Lean hashes anything: it is a label: what it is worth is what the hold of that sum in a sandbox is worth. -/
noncomputable def Try.pinned : Pinned := { name := "ytpfcljhbamnghab", sum := "298a14cc93db05cb2cdbfce9e14c6c4936303ae1aa8f69774554c032a435f093", checked := Try.checked }
namespace Rows
def none {H : Type} : Left H := { results := [], args := [] }

/-- 'tropicakeep.WeighInvert': WHATEVER THE INPUT: true; the input reads as it did. -/
def weighInvertSpec : ChangeSpec := { name := "weighInvert", fn := fun _ => fun
  | [d1, d2, d3] => { results := [.lit (.bool true)], args := [d1, d2, d3] }
  | _ => none }
def weighInvertRow : OpenClaim := { program := "ytpfcljhbamnghab", sum := "298a14cc93db05cb2cdbfce9e14c6c4936303ae1aa8f69774554c032a435f093", func := "tropica/tropicakeep.WeighInvert", spec := "weighInvert", unfollowed := true, recurses := true, plainKeys := false, apart := false }
def WeighInvertSaid : Prop := weighInvertRow.holds Try.pinned (OpenSpec.ofChange weighInvertSpec)

/-- ITS FALSE NEIGHBOUR: 'it returns false'. Refute it at one input. -/
def weighInvertWrong : ChangeSpec := { name := "weighInvert", fn := fun _ => fun
  | [d1, d2, d3] => { results := [.lit (.bool false)], args := [d1, d2, d3] }
  | _ => none }
def WeighInvertWrongFalsely : Prop := weighInvertRow.holds Try.pinned (OpenSpec.ofChange weighInvertWrong)

/-- 'tropicakeep.WeighReverse': WHATEVER THE INPUT: true; the input reads as it did. -/
def weighReverseSpec : ChangeSpec := { name := "weighReverse", fn := fun _ => fun
  | [d1, d2, d3] => { results := [.lit (.bool true)], args := [d1, d2, d3] }
  | _ => none }
def weighReverseRow : OpenClaim := { program := "ytpfcljhbamnghab", sum := "298a14cc93db05cb2cdbfce9e14c6c4936303ae1aa8f69774554c032a435f093", func := "tropica/tropicakeep.WeighReverse", spec := "weighReverse", unfollowed := true, recurses := true, plainKeys := false, apart := false }
def WeighReverseSaid : Prop := weighReverseRow.holds Try.pinned (OpenSpec.ofChange weighReverseSpec)

/-- ITS FALSE NEIGHBOUR: 'it returns false'. Refute it at one input. -/
def weighReverseWrong : ChangeSpec := { name := "weighReverse", fn := fun _ => fun
  | [d1, d2, d3] => { results := [.lit (.bool false)], args := [d1, d2, d3] }
  | _ => none }
def WeighReverseWrongFalsely : Prop := weighReverseRow.holds Try.pinned (OpenSpec.ofChange weighReverseWrong)

/-- 'tropicakeep.WeighProject': WHATEVER THE INPUT: true; the input reads as it did. -/
def weighProjectSpec : ChangeSpec := { name := "weighProject", fn := fun _ => fun
  | [d1, d2, d3] => { results := [.lit (.bool true)], args := [d1, d2, d3] }
  | _ => none }
def weighProjectRow : OpenClaim := { program := "ytpfcljhbamnghab", sum := "298a14cc93db05cb2cdbfce9e14c6c4936303ae1aa8f69774554c032a435f093", func := "tropica/tropicakeep.WeighProject", spec := "weighProject", unfollowed := true, recurses := true, plainKeys := false, apart := false }
def WeighProjectSaid : Prop := weighProjectRow.holds Try.pinned (OpenSpec.ofChange weighProjectSpec)

/-- ITS FALSE NEIGHBOUR: 'it returns false'. Refute it at one input. -/
def weighProjectWrong : ChangeSpec := { name := "weighProject", fn := fun _ => fun
  | [d1, d2, d3] => { results := [.lit (.bool false)], args := [d1, d2, d3] }
  | _ => none }
def WeighProjectWrongFalsely : Prop := weighProjectRow.holds Try.pinned (OpenSpec.ofChange weighProjectWrong)

/-- 'tropicakeep.WeighArranged': WHATEVER THE INPUT: true; the input reads as it did. -/
def weighArrangedSpec : ChangeSpec := { name := "weighArranged", fn := fun _ => fun
  | [d1, d2, d3] => { results := [.lit (.bool true)], args := [d1, d2, d3] }
  | _ => none }
def weighArrangedRow : OpenClaim := { program := "ytpfcljhbamnghab", sum := "298a14cc93db05cb2cdbfce9e14c6c4936303ae1aa8f69774554c032a435f093", func := "tropica/tropicakeep.WeighArranged", spec := "weighArranged", unfollowed := true, recurses := true, plainKeys := false, apart := false }
def WeighArrangedSaid : Prop := weighArrangedRow.holds Try.pinned (OpenSpec.ofChange weighArrangedSpec)

/-- ITS FALSE NEIGHBOUR: 'it returns false'. Refute it at one input. -/
def weighArrangedWrong : ChangeSpec := { name := "weighArranged", fn := fun _ => fun
  | [d1, d2, d3] => { results := [.lit (.bool false)], args := [d1, d2, d3] }
  | _ => none }
def WeighArrangedWrongFalsely : Prop := weighArrangedRow.holds Try.pinned (OpenSpec.ofChange weighArrangedWrong)

/-- 'tropicakeep.WeighCross': WHATEVER THE INPUT: true; the input reads as it did. -/
def weighCrossSpec : ChangeSpec := { name := "weighCross", fn := fun _ => fun
  | [d1, d2, d3, d4] => { results := [.lit (.bool true)], args := [d1, d2, d3, d4] }
  | _ => none }
def weighCrossRow : OpenClaim := { program := "ytpfcljhbamnghab", sum := "298a14cc93db05cb2cdbfce9e14c6c4936303ae1aa8f69774554c032a435f093", func := "tropica/tropicakeep.WeighCross", spec := "weighCross", unfollowed := true, recurses := true, plainKeys := false, apart := false }
def WeighCrossSaid : Prop := weighCrossRow.holds Try.pinned (OpenSpec.ofChange weighCrossSpec)

/-- ITS FALSE NEIGHBOUR: 'it returns false'. Refute it at one input. -/
def weighCrossWrong : ChangeSpec := { name := "weighCross", fn := fun _ => fun
  | [d1, d2, d3, d4] => { results := [.lit (.bool false)], args := [d1, d2, d3, d4] }
  | _ => none }
def WeighCrossWrongFalsely : Prop := weighCrossRow.holds Try.pinned (OpenSpec.ofChange weighCrossWrong)

/-- 'tropicakeep.WeighRelabel': WHATEVER THE INPUT: true; the input reads as it did. -/
def weighRelabelSpec : ChangeSpec := { name := "weighRelabel", fn := fun _ => fun
  | [d1, d2, d3] => { results := [.lit (.bool true)], args := [d1, d2, d3] }
  | _ => none }
def weighRelabelRow : OpenClaim := { program := "ytpfcljhbamnghab", sum := "298a14cc93db05cb2cdbfce9e14c6c4936303ae1aa8f69774554c032a435f093", func := "tropica/tropicakeep.WeighRelabel", spec := "weighRelabel", unfollowed := true, recurses := true, plainKeys := false, apart := false }
def WeighRelabelSaid : Prop := weighRelabelRow.holds Try.pinned (OpenSpec.ofChange weighRelabelSpec)

/-- ITS FALSE NEIGHBOUR: 'it returns false'. Refute it at one input. -/
def weighRelabelWrong : ChangeSpec := { name := "weighRelabel", fn := fun _ => fun
  | [d1, d2, d3] => { results := [.lit (.bool false)], args := [d1, d2, d3] }
  | _ => none }
def WeighRelabelWrongFalsely : Prop := weighRelabelRow.holds Try.pinned (OpenSpec.ofChange weighRelabelWrong)

/- THE SECOND FORM. 'bulk': how many values and letters a reading holds, each counted each time it is reached (what is shared counts as often as it is met; a slice's spare places count too). A statement '..UptoSaid' is the law's where the arguments, and the package variables that the reading takes, are together of bulk at most 1048576: NARROWER than '..Said'. Prove '..Said' where nothing that the law and all that it calls make is longer than what came in: it says more and counts as full. Else prove '..UptoSaid'. A law counts once. -/
mutual
def uptoBulk {H : Type} : DataW H → Nat
  | .lit (.string bytes) => bytes.length + 1
  | .lit _ => 1
  | .nil => 1
  | .ptr d => uptoBulk d + 1
  | .slice elems spare => uptoBulkAll elems + uptoBulkAll spare + 1
  | .agg parts => uptoBulkAll parts + 1
  | .iface _ d => uptoBulk d + 1
  | .map entries => uptoBulkEntries entries + 1
  | .held _ => 1
def uptoBulkAll {H : Type} : List (DataW H) → Nat
  | [] => 0
  | d :: r => uptoBulk d + uptoBulkAll r
def uptoBulkEntries {H : Type} : List (Lit × DataW H) → Nat
  | [] => 0
  | x :: r => uptoBulkEntry x + uptoBulkEntries r
def uptoBulkEntry {H : Type} : Lit × DataW H → Nat
  | (.string bytes, d) => bytes.length + uptoBulk d + 1
  | (_, d) => uptoBulk d + 1
 end
def uptoSmall : (H : Type) → List (DataW H) → Bool := fun _ ds => decide (uptoBulkAll ds ≤ 1048576)
def OpenSpec.upto (s : _root_.Go.ChangeSpec) : _root_.Go.OpenSpec := { _root_.Go.OpenSpec.ofChange s with cond := some uptoSmall }

/-- 'tropicakeep.WeighInvert', WHERE WHAT IT READS IS OF BULK AT MOST 1048576: true; the input reads as it did. -/
def weighInvertUptoRow : OpenClaim := { program := "ytpfcljhbamnghab", sum := "298a14cc93db05cb2cdbfce9e14c6c4936303ae1aa8f69774554c032a435f093", func := "tropica/tropicakeep.WeighInvert", spec := "weighInvert", unfollowed := true, recurses := true, plainKeys := false, apart := false, narrowed := true }
def WeighInvertUptoSaid : Prop := weighInvertUptoRow.holds Try.pinned (OpenSpec.upto weighInvertSpec)

/-- 'tropicakeep.WeighReverse', WHERE WHAT IT READS IS OF BULK AT MOST 1048576: true; the input reads as it did. -/
def weighReverseUptoRow : OpenClaim := { program := "ytpfcljhbamnghab", sum := "298a14cc93db05cb2cdbfce9e14c6c4936303ae1aa8f69774554c032a435f093", func := "tropica/tropicakeep.WeighReverse", spec := "weighReverse", unfollowed := true, recurses := true, plainKeys := false, apart := false, narrowed := true }
def WeighReverseUptoSaid : Prop := weighReverseUptoRow.holds Try.pinned (OpenSpec.upto weighReverseSpec)

/-- 'tropicakeep.WeighProject', WHERE WHAT IT READS IS OF BULK AT MOST 1048576: true; the input reads as it did. -/
def weighProjectUptoRow : OpenClaim := { program := "ytpfcljhbamnghab", sum := "298a14cc93db05cb2cdbfce9e14c6c4936303ae1aa8f69774554c032a435f093", func := "tropica/tropicakeep.WeighProject", spec := "weighProject", unfollowed := true, recurses := true, plainKeys := false, apart := false, narrowed := true }
def WeighProjectUptoSaid : Prop := weighProjectUptoRow.holds Try.pinned (OpenSpec.upto weighProjectSpec)

/-- 'tropicakeep.WeighArranged', WHERE WHAT IT READS IS OF BULK AT MOST 1048576: true; the input reads as it did. -/
def weighArrangedUptoRow : OpenClaim := { program := "ytpfcljhbamnghab", sum := "298a14cc93db05cb2cdbfce9e14c6c4936303ae1aa8f69774554c032a435f093", func := "tropica/tropicakeep.WeighArranged", spec := "weighArranged", unfollowed := true, recurses := true, plainKeys := false, apart := false, narrowed := true }
def WeighArrangedUptoSaid : Prop := weighArrangedUptoRow.holds Try.pinned (OpenSpec.upto weighArrangedSpec)

/-- 'tropicakeep.WeighCross', WHERE WHAT IT READS IS OF BULK AT MOST 1048576: true; the input reads as it did. -/
def weighCrossUptoRow : OpenClaim := { program := "ytpfcljhbamnghab", sum := "298a14cc93db05cb2cdbfce9e14c6c4936303ae1aa8f69774554c032a435f093", func := "tropica/tropicakeep.WeighCross", spec := "weighCross", unfollowed := true, recurses := true, plainKeys := false, apart := false, narrowed := true }
def WeighCrossUptoSaid : Prop := weighCrossUptoRow.holds Try.pinned (OpenSpec.upto weighCrossSpec)

/-- 'tropicakeep.WeighRelabel', WHERE WHAT IT READS IS OF BULK AT MOST 1048576: true; the input reads as it did. -/
def weighRelabelUptoRow : OpenClaim := { program := "ytpfcljhbamnghab", sum := "298a14cc93db05cb2cdbfce9e14c6c4936303ae1aa8f69774554c032a435f093", func := "tropica/tropicakeep.WeighRelabel", spec := "weighRelabel", unfollowed := true, recurses := true, plainKeys := false, apart := false, narrowed := true }
def WeighRelabelUptoSaid : Prop := weighRelabelUptoRow.holds Try.pinned (OpenSpec.upto weighRelabelSpec)

end Rows
end Go.Proofs.Ytpfcljhbamnghab
