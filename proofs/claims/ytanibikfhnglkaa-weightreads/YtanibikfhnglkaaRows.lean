/-
  No cell of these rows narrows 'for every input' (looked for: loops, veiled, ifaces, maps, wideKeys, modest, calm, conditions, laid).
  DERIVED. THE GIVEN ROWS OF THIS SEAT. 5 by the template 'for every input the law returns true; each argument reads behind the call as it read before'; 0 by the template 'total and deterministic' (their statements: YtanibikfhnglkaaTotals.lean).
  GIVEN WITH THE SEED: the statements are not yours to turn. If you find one false, say at which input.
  Laid BY PROGRAM, IN A SANDBOX (cutbox-rows.mjs): the forced cells as the released guide's own fill.sh prints them over the translation a4c5a4f91b1a173f… (all of the seat's roots in one cut). By AI agents, Wed Nov 11 2026. No macro, syntax, notation, axiom, sorry.
-/
import Derived.Test.YtanibikfhnglkaaChecked
import GoSem.Claim
import GoSem.ClaimJoined
import GoSem.ClaimMapViews
import Derived.JoinedTies
import Derived.KernelRfl
namespace Go.Proofs.Ytanibikfhnglkaa
/- THE CELL 'sum', in the pinned program and in every row, IS THE sha256 OF THE DUMP (.gsa) THAT YtanibikfhnglkaaProg.lean LOADS. Nothing in Lean hashes anything: it is a label: what it is worth is what the hold of that sum in a sandbox is worth. -/
noncomputable def Try.pinned : Pinned := { name := "ytanibikfhnglkaa", sum := "a4c5a4f91b1a173f58a753a8bd7a86377fd52b7d4a1ec96b6cc0ee6d54ee9208", checked := Try.checked }
namespace Rows
def none {H : Type} : Left H := { results := [], args := [] }

/-- 'tropicalaw.WeightPluses': WHATEVER THE INPUT: true; the input reads as it did. -/
def weightPlusesSpec : ChangeSpec := { name := "weightPluses", fn := fun _ => fun
  | [d1, d2] => { results := [.lit (.bool true)], args := [d1, d2] }
  | _ => none }
def weightPlusesRow : OpenClaim := { program := "ytanibikfhnglkaa", sum := "a4c5a4f91b1a173f58a753a8bd7a86377fd52b7d4a1ec96b6cc0ee6d54ee9208", func := "tropica/tropicalaw.WeightPluses", spec := "weightPluses", apart := false }
def WeightPlusesSaid : Prop := weightPlusesRow.holds Try.pinned (OpenSpec.ofChange weightPlusesSpec)

/-- ITS FALSE NEIGHBOUR: 'it returns false'. Refute it at one input. -/
def weightPlusesWrong : ChangeSpec := { name := "weightPluses", fn := fun _ => fun
  | [d1, d2] => { results := [.lit (.bool false)], args := [d1, d2] }
  | _ => none }
def WeightPlusesWrongFalsely : Prop := weightPlusesRow.holds Try.pinned (OpenSpec.ofChange weightPlusesWrong)

/-- 'tropicalaw.WeightTimes': WHATEVER THE INPUT: true; the input reads as it did. -/
def weightTimesSpec : ChangeSpec := { name := "weightTimes", fn := fun _ => fun
  | [d1, d2] => { results := [.lit (.bool true)], args := [d1, d2] }
  | _ => none }
def weightTimesRow : OpenClaim := { program := "ytanibikfhnglkaa", sum := "a4c5a4f91b1a173f58a753a8bd7a86377fd52b7d4a1ec96b6cc0ee6d54ee9208", func := "tropica/tropicalaw.WeightTimes", spec := "weightTimes", apart := false }
def WeightTimesSaid : Prop := weightTimesRow.holds Try.pinned (OpenSpec.ofChange weightTimesSpec)

/-- ITS FALSE NEIGHBOUR: 'it returns false'. Refute it at one input. -/
def weightTimesWrong : ChangeSpec := { name := "weightTimes", fn := fun _ => fun
  | [d1, d2] => { results := [.lit (.bool false)], args := [d1, d2] }
  | _ => none }
def WeightTimesWrongFalsely : Prop := weightTimesRow.holds Try.pinned (OpenSpec.ofChange weightTimesWrong)

/-- 'tropicalaw.WeightOvers': WHATEVER THE INPUT: true; the input reads as it did. -/
def weightOversSpec : ChangeSpec := { name := "weightOvers", fn := fun _ => fun
  | [d1, d2] => { results := [.lit (.bool true)], args := [d1, d2] }
  | _ => none }
def weightOversRow : OpenClaim := { program := "ytanibikfhnglkaa", sum := "a4c5a4f91b1a173f58a753a8bd7a86377fd52b7d4a1ec96b6cc0ee6d54ee9208", func := "tropica/tropicalaw.WeightOvers", spec := "weightOvers", apart := false }
def WeightOversSaid : Prop := weightOversRow.holds Try.pinned (OpenSpec.ofChange weightOversSpec)

/-- ITS FALSE NEIGHBOUR: 'it returns false'. Refute it at one input. -/
def weightOversWrong : ChangeSpec := { name := "weightOvers", fn := fun _ => fun
  | [d1, d2] => { results := [.lit (.bool false)], args := [d1, d2] }
  | _ => none }
def WeightOversWrongFalsely : Prop := weightOversRow.holds Try.pinned (OpenSpec.ofChange weightOversWrong)

/-- 'tropicalaw.WeightSums': WHATEVER THE INPUT: true; the input reads as it did. -/
def weightSumsSpec : ChangeSpec := { name := "weightSums", fn := fun _ => fun
  | [d] => { results := [.lit (.bool true)], args := [d] }
  | _ => none }
def weightSumsRow : OpenClaim := { program := "ytanibikfhnglkaa", sum := "a4c5a4f91b1a173f58a753a8bd7a86377fd52b7d4a1ec96b6cc0ee6d54ee9208", func := "tropica/tropicalaw.WeightSums", spec := "weightSums", apart := false }
def WeightSumsSaid : Prop := weightSumsRow.holds Try.pinned (OpenSpec.ofChange weightSumsSpec)

/-- ITS FALSE NEIGHBOUR: 'it returns false'. Refute it at one input. -/
def weightSumsWrong : ChangeSpec := { name := "weightSums", fn := fun _ => fun
  | [d] => { results := [.lit (.bool false)], args := [d] }
  | _ => none }
def WeightSumsWrongFalsely : Prop := weightSumsRow.holds Try.pinned (OpenSpec.ofChange weightSumsWrong)

/-- 'tropicalaw.WeightReads': WHATEVER THE INPUT: true; the input reads as it did. -/
def weightReadsSpec : ChangeSpec := { name := "weightReads", fn := fun _ => fun
  | [d] => { results := [.lit (.bool true)], args := [d] }
  | _ => none }
def weightReadsRow : OpenClaim := { program := "ytanibikfhnglkaa", sum := "a4c5a4f91b1a173f58a753a8bd7a86377fd52b7d4a1ec96b6cc0ee6d54ee9208", func := "tropica/tropicalaw.WeightReads", spec := "weightReads", apart := false }
def WeightReadsSaid : Prop := weightReadsRow.holds Try.pinned (OpenSpec.ofChange weightReadsSpec)

/-- ITS FALSE NEIGHBOUR: 'it returns false'. Refute it at one input. -/
def weightReadsWrong : ChangeSpec := { name := "weightReads", fn := fun _ => fun
  | [d] => { results := [.lit (.bool false)], args := [d] }
  | _ => none }
def WeightReadsWrongFalsely : Prop := weightReadsRow.holds Try.pinned (OpenSpec.ofChange weightReadsWrong)

/- THE SECOND FORM. 'bulk': how many values and letters a reading holds, each counted each time it is reached (what is shared counts as often as it is met; a slice's spare places count too). A statement '..UptoSaid' is the law's where the arguments, and the package variables that the reading takes, are together of bulk at most 1048576: NARROWER than '..Said'. Prove '..Said' where nothing that the law and all that it calls make is longer than what came in: it says more and counts as full. Else prove '..UptoSaid'. A law counts once. -/
mutual
def uptoBulk {H : Type} : DataW H → Nat
  | .lit (.string bytes) => bytes.length + 1
  | .lit _ => 1
  | .nil => 1
  | .ptr d => uptoBulk d + 1
  | .slice elems spare => uptoBulkAll elems + uptoBulkAll spare + 1
  | .agg parts => uptoBulkAll parts + 1
  | .iface _ d => uptoBulk d + 1
  | .map entries => uptoBulkEntries entries + 1
  | .held _ => 1
def uptoBulkAll {H : Type} : List (DataW H) → Nat
  | [] => 0
  | d :: r => uptoBulk d + uptoBulkAll r
def uptoBulkEntries {H : Type} : List (Lit × DataW H) → Nat
  | [] => 0
  | x :: r => uptoBulkEntry x + uptoBulkEntries r
def uptoBulkEntry {H : Type} : Lit × DataW H → Nat
  | (.string bytes, d) => bytes.length + uptoBulk d + 1
  | (_, d) => uptoBulk d + 1
 end
def uptoSmall : (H : Type) → List (DataW H) → Bool := fun _ ds => decide (uptoBulkAll ds ≤ 1048576)
def OpenSpec.upto (s : _root_.Go.ChangeSpec) : _root_.Go.OpenSpec := { _root_.Go.OpenSpec.ofChange s with cond := some uptoSmall }

/-- 'tropicalaw.WeightPluses', WHERE WHAT IT READS IS OF BULK AT MOST 1048576: true; the input reads as it did. -/
def weightPlusesUptoRow : OpenClaim := { program := "ytanibikfhnglkaa", sum := "a4c5a4f91b1a173f58a753a8bd7a86377fd52b7d4a1ec96b6cc0ee6d54ee9208", func := "tropica/tropicalaw.WeightPluses", spec := "weightPluses", apart := false, narrowed := true }
def WeightPlusesUptoSaid : Prop := weightPlusesUptoRow.holds Try.pinned (OpenSpec.upto weightPlusesSpec)

/-- 'tropicalaw.WeightTimes', WHERE WHAT IT READS IS OF BULK AT MOST 1048576: true; the input reads as it did. -/
def weightTimesUptoRow : OpenClaim := { program := "ytanibikfhnglkaa", sum := "a4c5a4f91b1a173f58a753a8bd7a86377fd52b7d4a1ec96b6cc0ee6d54ee9208", func := "tropica/tropicalaw.WeightTimes", spec := "weightTimes", apart := false, narrowed := true }
def WeightTimesUptoSaid : Prop := weightTimesUptoRow.holds Try.pinned (OpenSpec.upto weightTimesSpec)

/-- 'tropicalaw.WeightOvers', WHERE WHAT IT READS IS OF BULK AT MOST 1048576: true; the input reads as it did. -/
def weightOversUptoRow : OpenClaim := { program := "ytanibikfhnglkaa", sum := "a4c5a4f91b1a173f58a753a8bd7a86377fd52b7d4a1ec96b6cc0ee6d54ee9208", func := "tropica/tropicalaw.WeightOvers", spec := "weightOvers", apart := false, narrowed := true }
def WeightOversUptoSaid : Prop := weightOversUptoRow.holds Try.pinned (OpenSpec.upto weightOversSpec)

/-- 'tropicalaw.WeightSums', WHERE WHAT IT READS IS OF BULK AT MOST 1048576: true; the input reads as it did. -/
def weightSumsUptoRow : OpenClaim := { program := "ytanibikfhnglkaa", sum := "a4c5a4f91b1a173f58a753a8bd7a86377fd52b7d4a1ec96b6cc0ee6d54ee9208", func := "tropica/tropicalaw.WeightSums", spec := "weightSums", apart := false, narrowed := true }
def WeightSumsUptoSaid : Prop := weightSumsUptoRow.holds Try.pinned (OpenSpec.upto weightSumsSpec)

/-- 'tropicalaw.WeightReads', WHERE WHAT IT READS IS OF BULK AT MOST 1048576: true; the input reads as it did. -/
def weightReadsUptoRow : OpenClaim := { program := "ytanibikfhnglkaa", sum := "a4c5a4f91b1a173f58a753a8bd7a86377fd52b7d4a1ec96b6cc0ee6d54ee9208", func := "tropica/tropicalaw.WeightReads", spec := "weightReads", apart := false, narrowed := true }
def WeightReadsUptoSaid : Prop := weightReadsUptoRow.holds Try.pinned (OpenSpec.upto weightReadsSpec)

end Rows
end Go.Proofs.Ytanibikfhnglkaa
