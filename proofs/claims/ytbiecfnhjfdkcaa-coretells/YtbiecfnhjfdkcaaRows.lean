/-
  No cell of these rows narrows 'for every input' (looked for: loops, veiled, ifaces, maps, wideKeys, modest, calm, conditions, laid).
  DERIVED. THE GIVEN ROWS OF THIS SEAT. 6 by the template 'for every input the law returns true; each argument reads behind the call as it read before'; 0 by the template 'total and deterministic' (their statements: YtbiecfnhjfdkcaaTotals.lean).
  GIVEN WITH THE SEED: the statements are not yours to turn. If you find one false, say at which input.
  Laid BY PROGRAM, IN A SANDBOX (cutbox-rows.mjs): the forced cells as the released guide's own fill.sh prints them over the translation dd40bcf22b3c4b50… (all of the seat's roots in one cut). By AI agents, Wed Nov 11 2026. No macro, syntax, notation, axiom, sorry.
-/
import Derived.Test.YtbiecfnhjfdkcaaChecked
import GoSem.Claim
import GoSem.ClaimJoined
import GoSem.ClaimMapViews
import Derived.JoinedTies
import Derived.KernelRfl
namespace Go.Proofs.Ytbiecfnhjfdkcaa
/- THE CELL 'sum', in the pinned program and in every row, IS THE sha256 OF THE DUMP (.gsa) THAT YtbiecfnhjfdkcaaProg.lean LOADS. Nothing in Lean hashes anything: it is a label: what it is worth is what the hold of that sum in a sandbox is worth. -/
noncomputable def Try.pinned : Pinned := { name := "ytbiecfnhjfdkcaa", sum := "dd40bcf22b3c4b5058a4a8e9cfc3fce4fcb92ea203d1c69b3a86e3e326c18b1e", checked := Try.checked }
namespace Rows
def none {H : Type} : Left H := { results := [], args := [] }

/-- 'tropicakeep.CoreTells': WHATEVER THE INPUT: true; the input reads as it did. -/
def coreTellsSpec : ChangeSpec := { name := "coreTells", fn := fun _ => fun
  | [d1, d2] => { results := [.lit (.bool true)], args := [d1, d2] }
  | _ => none }
def coreTellsRow : OpenClaim := { program := "ytbiecfnhjfdkcaa", sum := "dd40bcf22b3c4b5058a4a8e9cfc3fce4fcb92ea203d1c69b3a86e3e326c18b1e", func := "tropica/tropicakeep.CoreTells", spec := "coreTells", unfollowed := true, recurses := true, plainKeys := false, apart := false }
def CoreTellsSaid : Prop := coreTellsRow.holds Try.pinned (OpenSpec.ofChange coreTellsSpec)

/-- ITS FALSE NEIGHBOUR: 'it returns false'. Refute it at one input. -/
def coreTellsWrong : ChangeSpec := { name := "coreTells", fn := fun _ => fun
  | [d1, d2] => { results := [.lit (.bool false)], args := [d1, d2] }
  | _ => none }
def CoreTellsWrongFalsely : Prop := coreTellsRow.holds Try.pinned (OpenSpec.ofChange coreTellsWrong)

/-- 'tropicalaw.ArrangeSorts': WHATEVER THE INPUT: true; the input reads as it did. -/
def arrangeSortsSpec : ChangeSpec := { name := "arrangeSorts", fn := fun _ => fun
  | [d] => { results := [.lit (.bool true)], args := [d] }
  | _ => none }
def arrangeSortsRow : OpenClaim := { program := "ytbiecfnhjfdkcaa", sum := "dd40bcf22b3c4b5058a4a8e9cfc3fce4fcb92ea203d1c69b3a86e3e326c18b1e", func := "tropica/tropicalaw.ArrangeSorts", spec := "arrangeSorts", unfollowed := true, recurses := true, plainKeys := false, apart := false }
def ArrangeSortsSaid : Prop := arrangeSortsRow.holds Try.pinned (OpenSpec.ofChange arrangeSortsSpec)

/-- ITS FALSE NEIGHBOUR: 'it returns false'. Refute it at one input. -/
def arrangeSortsWrong : ChangeSpec := { name := "arrangeSorts", fn := fun _ => fun
  | [d] => { results := [.lit (.bool false)], args := [d] }
  | _ => none }
def ArrangeSortsWrongFalsely : Prop := arrangeSortsRow.holds Try.pinned (OpenSpec.ofChange arrangeSortsWrong)

/-- 'tropicalaw.ArrangeByOuts': WHATEVER THE INPUT: true; the input reads as it did. -/
def arrangeByOutsSpec : ChangeSpec := { name := "arrangeByOuts", fn := fun _ => fun
  | [d] => { results := [.lit (.bool true)], args := [d] }
  | _ => none }
def arrangeByOutsRow : OpenClaim := { program := "ytbiecfnhjfdkcaa", sum := "dd40bcf22b3c4b5058a4a8e9cfc3fce4fcb92ea203d1c69b3a86e3e326c18b1e", func := "tropica/tropicalaw.ArrangeByOuts", spec := "arrangeByOuts", unfollowed := true, recurses := true, plainKeys := false, apart := false }
def ArrangeByOutsSaid : Prop := arrangeByOutsRow.holds Try.pinned (OpenSpec.ofChange arrangeByOutsSpec)

/-- ITS FALSE NEIGHBOUR: 'it returns false'. Refute it at one input. -/
def arrangeByOutsWrong : ChangeSpec := { name := "arrangeByOuts", fn := fun _ => fun
  | [d] => { results := [.lit (.bool false)], args := [d] }
  | _ => none }
def ArrangeByOutsWrongFalsely : Prop := arrangeByOutsRow.holds Try.pinned (OpenSpec.ofChange arrangeByOutsWrong)

/-- 'tropicalaw.ArrangeMerges': WHATEVER THE INPUT: true; the input reads as it did. -/
def arrangeMergesSpec : ChangeSpec := { name := "arrangeMerges", fn := fun _ => fun
  | [d] => { results := [.lit (.bool true)], args := [d] }
  | _ => none }
def arrangeMergesRow : OpenClaim := { program := "ytbiecfnhjfdkcaa", sum := "dd40bcf22b3c4b5058a4a8e9cfc3fce4fcb92ea203d1c69b3a86e3e326c18b1e", func := "tropica/tropicalaw.ArrangeMerges", spec := "arrangeMerges", unfollowed := true, recurses := true, plainKeys := false, apart := false }
def ArrangeMergesSaid : Prop := arrangeMergesRow.holds Try.pinned (OpenSpec.ofChange arrangeMergesSpec)

/-- ITS FALSE NEIGHBOUR: 'it returns false'. Refute it at one input. -/
def arrangeMergesWrong : ChangeSpec := { name := "arrangeMerges", fn := fun _ => fun
  | [d] => { results := [.lit (.bool false)], args := [d] }
  | _ => none }
def ArrangeMergesWrongFalsely : Prop := arrangeMergesRow.holds Try.pinned (OpenSpec.ofChange arrangeMergesWrong)

/-- 'tropicakeep.SortedKeeps': WHATEVER THE INPUT: true; the input reads as it did. -/
def sortedKeepsSpec : ChangeSpec := { name := "sortedKeeps", fn := fun _ => fun
  | [d] => { results := [.lit (.bool true)], args := [d] }
  | _ => none }
def sortedKeepsRow : OpenClaim := { program := "ytbiecfnhjfdkcaa", sum := "dd40bcf22b3c4b5058a4a8e9cfc3fce4fcb92ea203d1c69b3a86e3e326c18b1e", func := "tropica/tropicakeep.SortedKeeps", spec := "sortedKeeps", unfollowed := true, recurses := true, plainKeys := false, apart := false }
def SortedKeepsSaid : Prop := sortedKeepsRow.holds Try.pinned (OpenSpec.ofChange sortedKeepsSpec)

/-- ITS FALSE NEIGHBOUR: 'it returns false'. Refute it at one input. -/
def sortedKeepsWrong : ChangeSpec := { name := "sortedKeeps", fn := fun _ => fun
  | [d] => { results := [.lit (.bool false)], args := [d] }
  | _ => none }
def SortedKeepsWrongFalsely : Prop := sortedKeepsRow.holds Try.pinned (OpenSpec.ofChange sortedKeepsWrong)

/-- 'tropicakeep.MergedLeast': WHATEVER THE INPUT: true; the input reads as it did. -/
def mergedLeastSpec : ChangeSpec := { name := "mergedLeast", fn := fun _ => fun
  | [d] => { results := [.lit (.bool true)], args := [d] }
  | _ => none }
def mergedLeastRow : OpenClaim := { program := "ytbiecfnhjfdkcaa", sum := "dd40bcf22b3c4b5058a4a8e9cfc3fce4fcb92ea203d1c69b3a86e3e326c18b1e", func := "tropica/tropicakeep.MergedLeast", spec := "mergedLeast", unfollowed := true, recurses := true, plainKeys := false, apart := false }
def MergedLeastSaid : Prop := mergedLeastRow.holds Try.pinned (OpenSpec.ofChange mergedLeastSpec)

/-- ITS FALSE NEIGHBOUR: 'it returns false'. Refute it at one input. -/
def mergedLeastWrong : ChangeSpec := { name := "mergedLeast", fn := fun _ => fun
  | [d] => { results := [.lit (.bool false)], args := [d] }
  | _ => none }
def MergedLeastWrongFalsely : Prop := mergedLeastRow.holds Try.pinned (OpenSpec.ofChange mergedLeastWrong)

/- THE SECOND FORM. 'bulk': how many values and letters a reading holds, each counted each time it is reached (what is shared counts as often as it is met; a slice's spare places count too). A statement '..UptoSaid' is the law's where the arguments, and the package variables that the reading takes, are together of bulk at most 1048576: NARROWER than '..Said'. Prove '..Said' where nothing that the law and all that it calls make is longer than what came in: it says more and counts as full. Else prove '..UptoSaid'. A law counts once. -/
mutual
def uptoBulk {H : Type} : DataW H → Nat
  | .lit (.string bytes) => bytes.length + 1
  | .lit _ => 1
  | .nil => 1
  | .ptr d => uptoBulk d + 1
  | .slice elems spare => uptoBulkAll elems + uptoBulkAll spare + 1
  | .agg parts => uptoBulkAll parts + 1
  | .iface _ d => uptoBulk d + 1
  | .map entries => uptoBulkEntries entries + 1
  | .held _ => 1
def uptoBulkAll {H : Type} : List (DataW H) → Nat
  | [] => 0
  | d :: r => uptoBulk d + uptoBulkAll r
def uptoBulkEntries {H : Type} : List (Lit × DataW H) → Nat
  | [] => 0
  | x :: r => uptoBulkEntry x + uptoBulkEntries r
def uptoBulkEntry {H : Type} : Lit × DataW H → Nat
  | (.string bytes, d) => bytes.length + uptoBulk d + 1
  | (_, d) => uptoBulk d + 1
 end
def uptoSmall : (H : Type) → List (DataW H) → Bool := fun _ ds => decide (uptoBulkAll ds ≤ 1048576)
def OpenSpec.upto (s : _root_.Go.ChangeSpec) : _root_.Go.OpenSpec := { _root_.Go.OpenSpec.ofChange s with cond := some uptoSmall }

/-- 'tropicakeep.CoreTells', WHERE WHAT IT READS IS OF BULK AT MOST 1048576: true; the input reads as it did. -/
def coreTellsUptoRow : OpenClaim := { program := "ytbiecfnhjfdkcaa", sum := "dd40bcf22b3c4b5058a4a8e9cfc3fce4fcb92ea203d1c69b3a86e3e326c18b1e", func := "tropica/tropicakeep.CoreTells", spec := "coreTells", unfollowed := true, recurses := true, plainKeys := false, apart := false, narrowed := true }
def CoreTellsUptoSaid : Prop := coreTellsUptoRow.holds Try.pinned (OpenSpec.upto coreTellsSpec)

/-- 'tropicalaw.ArrangeSorts', WHERE WHAT IT READS IS OF BULK AT MOST 1048576: true; the input reads as it did. -/
def arrangeSortsUptoRow : OpenClaim := { program := "ytbiecfnhjfdkcaa", sum := "dd40bcf22b3c4b5058a4a8e9cfc3fce4fcb92ea203d1c69b3a86e3e326c18b1e", func := "tropica/tropicalaw.ArrangeSorts", spec := "arrangeSorts", unfollowed := true, recurses := true, plainKeys := false, apart := false, narrowed := true }
def ArrangeSortsUptoSaid : Prop := arrangeSortsUptoRow.holds Try.pinned (OpenSpec.upto arrangeSortsSpec)

/-- 'tropicalaw.ArrangeByOuts', WHERE WHAT IT READS IS OF BULK AT MOST 1048576: true; the input reads as it did. -/
def arrangeByOutsUptoRow : OpenClaim := { program := "ytbiecfnhjfdkcaa", sum := "dd40bcf22b3c4b5058a4a8e9cfc3fce4fcb92ea203d1c69b3a86e3e326c18b1e", func := "tropica/tropicalaw.ArrangeByOuts", spec := "arrangeByOuts", unfollowed := true, recurses := true, plainKeys := false, apart := false, narrowed := true }
def ArrangeByOutsUptoSaid : Prop := arrangeByOutsUptoRow.holds Try.pinned (OpenSpec.upto arrangeByOutsSpec)

/-- 'tropicalaw.ArrangeMerges', WHERE WHAT IT READS IS OF BULK AT MOST 1048576: true; the input reads as it did. -/
def arrangeMergesUptoRow : OpenClaim := { program := "ytbiecfnhjfdkcaa", sum := "dd40bcf22b3c4b5058a4a8e9cfc3fce4fcb92ea203d1c69b3a86e3e326c18b1e", func := "tropica/tropicalaw.ArrangeMerges", spec := "arrangeMerges", unfollowed := true, recurses := true, plainKeys := false, apart := false, narrowed := true }
def ArrangeMergesUptoSaid : Prop := arrangeMergesUptoRow.holds Try.pinned (OpenSpec.upto arrangeMergesSpec)

/-- 'tropicakeep.SortedKeeps', WHERE WHAT IT READS IS OF BULK AT MOST 1048576: true; the input reads as it did. -/
def sortedKeepsUptoRow : OpenClaim := { program := "ytbiecfnhjfdkcaa", sum := "dd40bcf22b3c4b5058a4a8e9cfc3fce4fcb92ea203d1c69b3a86e3e326c18b1e", func := "tropica/tropicakeep.SortedKeeps", spec := "sortedKeeps", unfollowed := true, recurses := true, plainKeys := false, apart := false, narrowed := true }
def SortedKeepsUptoSaid : Prop := sortedKeepsUptoRow.holds Try.pinned (OpenSpec.upto sortedKeepsSpec)

/-- 'tropicakeep.MergedLeast', WHERE WHAT IT READS IS OF BULK AT MOST 1048576: true; the input reads as it did. -/
def mergedLeastUptoRow : OpenClaim := { program := "ytbiecfnhjfdkcaa", sum := "dd40bcf22b3c4b5058a4a8e9cfc3fce4fcb92ea203d1c69b3a86e3e326c18b1e", func := "tropica/tropicakeep.MergedLeast", spec := "mergedLeast", unfollowed := true, recurses := true, plainKeys := false, apart := false, narrowed := true }
def MergedLeastUptoSaid : Prop := mergedLeastUptoRow.holds Try.pinned (OpenSpec.upto mergedLeastSpec)

end Rows
end Go.Proofs.Ytbiecfnhjfdkcaa
