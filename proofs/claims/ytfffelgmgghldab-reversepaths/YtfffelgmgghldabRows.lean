/-
  No cell of these rows narrows 'for every input' (looked for: loops, veiled, ifaces, maps, wideKeys, modest, calm, conditions, laid).
  DERIVED. THE GIVEN ROWS OF THIS SEAT. 2 by the template 'for every input the law returns true; each argument reads behind the call as it read before'; 0 by the template 'total and deterministic' (their statements: YtfffelgmgghldabTotals.lean).
  GIVEN WITH THE SEED: the statements are not yours to turn. If you find one false, say at which input.
  Laid BY PROGRAM, IN A SANDBOX (cutbox-rows.mjs): the forced cells as the released guide's own fill.sh prints them over the translation f8b1cc894a15f086… (all of the seat's roots in one cut). By AI agents, Wed Nov 11 2026. No macro, syntax, notation, axiom, sorry.
-/
import Derived.Test.YtfffelgmgghldabChecked
import GoSem.Claim
import GoSem.ClaimJoined
import GoSem.ClaimMapViews
import Derived.JoinedTies
import Derived.KernelRfl
namespace Go.Proofs.Ytfffelgmgghldab
/- THE CELL 'sum', in the pinned program and in every row, IS THE sha256 OF THE DUMP (.gsa) THAT YtfffelgmgghldabProg.lean LOADS. Nothing in Lean hashes anything: it is a label: what it is worth is what the hold of that sum in a sandbox is worth. -/
noncomputable def Try.pinned : Pinned := { name := "ytfffelgmgghldab", sum := "f8b1cc894a15f086c99db09f0a50f41fcf3169bc35d772bde049731a08346733", checked := Try.checked }
namespace Rows
def none {H : Type} : Left H := { results := [], args := [] }

/-- 'tropicakeep.ReadsAccepts': WHATEVER THE INPUT: true; the input reads as it did. -/
def readsAcceptsSpec : ChangeSpec := { name := "readsAccepts", fn := fun _ => fun
  | [d] => { results := [.lit (.bool true)], args := [d] }
  | _ => none }
def readsAcceptsRow : OpenClaim := { program := "ytfffelgmgghldab", sum := "f8b1cc894a15f086c99db09f0a50f41fcf3169bc35d772bde049731a08346733", func := "tropica/tropicakeep.ReadsAccepts", spec := "readsAccepts", unfollowed := true, recurses := true, plainKeys := false, apart := false }
def ReadsAcceptsSaid : Prop := readsAcceptsRow.holds Try.pinned (OpenSpec.ofChange readsAcceptsSpec)

/-- ITS FALSE NEIGHBOUR: 'it returns false'. Refute it at one input. -/
def readsAcceptsWrong : ChangeSpec := { name := "readsAccepts", fn := fun _ => fun
  | [d] => { results := [.lit (.bool false)], args := [d] }
  | _ => none }
def ReadsAcceptsWrongFalsely : Prop := readsAcceptsRow.holds Try.pinned (OpenSpec.ofChange readsAcceptsWrong)

/-- 'tropicakeep.ReversePaths': WHATEVER THE INPUT: true; the input reads as it did. -/
def reversePathsSpec : ChangeSpec := { name := "reversePaths", fn := fun _ => fun
  | [d] => { results := [.lit (.bool true)], args := [d] }
  | _ => none }
def reversePathsRow : OpenClaim := { program := "ytfffelgmgghldab", sum := "f8b1cc894a15f086c99db09f0a50f41fcf3169bc35d772bde049731a08346733", func := "tropica/tropicakeep.ReversePaths", spec := "reversePaths", unfollowed := true, recurses := true, plainKeys := false, apart := false }
def ReversePathsSaid : Prop := reversePathsRow.holds Try.pinned (OpenSpec.ofChange reversePathsSpec)

/-- ITS FALSE NEIGHBOUR: 'it returns false'. Refute it at one input. -/
def reversePathsWrong : ChangeSpec := { name := "reversePaths", fn := fun _ => fun
  | [d] => { results := [.lit (.bool false)], args := [d] }
  | _ => none }
def ReversePathsWrongFalsely : Prop := reversePathsRow.holds Try.pinned (OpenSpec.ofChange reversePathsWrong)

/- THE SECOND FORM. 'bulk': how many values and letters a reading holds, each counted each time it is reached (what is shared counts as often as it is met; a slice's spare places count too). A statement '..UptoSaid' is the law's where the arguments, and the package variables that the reading takes, are together of bulk at most 1048576: NARROWER than '..Said'. Prove '..Said' where nothing that the law and all that it calls make is longer than what came in: it says more and counts as full. Else prove '..UptoSaid'. A law counts once. -/
mutual
def uptoBulk {H : Type} : DataW H → Nat
  | .lit (.string bytes) => bytes.length + 1
  | .lit _ => 1
  | .nil => 1
  | .ptr d => uptoBulk d + 1
  | .slice elems spare => uptoBulkAll elems + uptoBulkAll spare + 1
  | .agg parts => uptoBulkAll parts + 1
  | .iface _ d => uptoBulk d + 1
  | .map entries => uptoBulkEntries entries + 1
  | .held _ => 1
def uptoBulkAll {H : Type} : List (DataW H) → Nat
  | [] => 0
  | d :: r => uptoBulk d + uptoBulkAll r
def uptoBulkEntries {H : Type} : List (Lit × DataW H) → Nat
  | [] => 0
  | x :: r => uptoBulkEntry x + uptoBulkEntries r
def uptoBulkEntry {H : Type} : Lit × DataW H → Nat
  | (.string bytes, d) => bytes.length + uptoBulk d + 1
  | (_, d) => uptoBulk d + 1
 end
def uptoSmall : (H : Type) → List (DataW H) → Bool := fun _ ds => decide (uptoBulkAll ds ≤ 1048576)
def OpenSpec.upto (s : _root_.Go.ChangeSpec) : _root_.Go.OpenSpec := { _root_.Go.OpenSpec.ofChange s with cond := some uptoSmall }

/-- 'tropicakeep.ReadsAccepts', WHERE WHAT IT READS IS OF BULK AT MOST 1048576: true; the input reads as it did. -/
def readsAcceptsUptoRow : OpenClaim := { program := "ytfffelgmgghldab", sum := "f8b1cc894a15f086c99db09f0a50f41fcf3169bc35d772bde049731a08346733", func := "tropica/tropicakeep.ReadsAccepts", spec := "readsAccepts", unfollowed := true, recurses := true, plainKeys := false, apart := false, narrowed := true }
def ReadsAcceptsUptoSaid : Prop := readsAcceptsUptoRow.holds Try.pinned (OpenSpec.upto readsAcceptsSpec)

/-- 'tropicakeep.ReversePaths', WHERE WHAT IT READS IS OF BULK AT MOST 1048576: true; the input reads as it did. -/
def reversePathsUptoRow : OpenClaim := { program := "ytfffelgmgghldab", sum := "f8b1cc894a15f086c99db09f0a50f41fcf3169bc35d772bde049731a08346733", func := "tropica/tropicakeep.ReversePaths", spec := "reversePaths", unfollowed := true, recurses := true, plainKeys := false, apart := false, narrowed := true }
def ReversePathsUptoSaid : Prop := reversePathsUptoRow.holds Try.pinned (OpenSpec.upto reversePathsSpec)

end Rows
end Go.Proofs.Ytfffelgmgghldab
