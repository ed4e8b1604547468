/-
  No cell of these rows narrows 'for every input' (looked for: loops, veiled, ifaces, maps, wideKeys, modest, calm, conditions, laid).
  DERIVED. THE GIVEN ROWS OF THIS SEAT. 6 by the template 'for every input the law returns true; each argument reads behind the call as it read before'; 0 by the template 'total and deterministic' (their statements: YtibafdehgmalgaaTotals.lean).
  GIVEN WITH THE SEED: the statements are not yours to turn. If you find one false, say at which input.
  Laid BY PROGRAM, IN A SANDBOX (cutbox-rows.mjs): the forced cells as the released guide's own fill.sh prints them over the translation 63b5585aa84d4d88… (all of the seat's roots in one cut). By AI agents, Wed Nov 11 2026. No macro, syntax, notation, axiom, sorry.
-/
import Derived.Test.YtibafdehgmalgaaChecked
import GoSem.Claim
import GoSem.ClaimJoined
import GoSem.ClaimMapViews
import Derived.JoinedTies
import Derived.KernelRfl
namespace Go.Proofs.Ytibafdehgmalgaa
/- THE CELL 'sum', in the pinned program and in every row, IS THE sha256 OF THE DUMP (.gsa) THAT YtibafdehgmalgaaProg.lean LOADS. Nothing in Lean hashes anything: it is a label: what it is worth is what the hold of that sum in a sandbox is worth. -/
noncomputable def Try.pinned : Pinned := { name := "ytibafdehgmalgaa", sum := "63b5585aa84d4d8805c63a78edfb3a8991d52f5c2989ec7ba934b40b7259b9c7", checked := Try.checked }
namespace Rows
def none {H : Type} : Left H := { results := [], args := [] }

/-- 'tropicalaw.DistanceFroms': WHATEVER THE INPUT: true; the input reads as it did. -/
def distanceFromsSpec : ChangeSpec := { name := "distanceFroms", fn := fun _ => fun
  | [d] => { results := [.lit (.bool true)], args := [d] }
  | _ => none }
def distanceFromsRow : OpenClaim := { program := "ytibafdehgmalgaa", sum := "63b5585aa84d4d8805c63a78edfb3a8991d52f5c2989ec7ba934b40b7259b9c7", func := "tropica/tropicalaw.DistanceFroms", spec := "distanceFroms", unfollowed := true, recurses := true, apart := false }
def DistanceFromsSaid : Prop := distanceFromsRow.holds Try.pinned (OpenSpec.ofChange distanceFromsSpec)

/-- ITS FALSE NEIGHBOUR: 'it returns false'. Refute it at one input. -/
def distanceFromsWrong : ChangeSpec := { name := "distanceFroms", fn := fun _ => fun
  | [d] => { results := [.lit (.bool false)], args := [d] }
  | _ => none }
def DistanceFromsWrongFalsely : Prop := distanceFromsRow.holds Try.pinned (OpenSpec.ofChange distanceFromsWrong)

/-- 'tropicalaw.DistanceEnds': WHATEVER THE INPUT: true; the input reads as it did. -/
def distanceEndsSpec : ChangeSpec := { name := "distanceEnds", fn := fun _ => fun
  | [d] => { results := [.lit (.bool true)], args := [d] }
  | _ => none }
def distanceEndsRow : OpenClaim := { program := "ytibafdehgmalgaa", sum := "63b5585aa84d4d8805c63a78edfb3a8991d52f5c2989ec7ba934b40b7259b9c7", func := "tropica/tropicalaw.DistanceEnds", spec := "distanceEnds", unfollowed := true, recurses := true, apart := false }
def DistanceEndsSaid : Prop := distanceEndsRow.holds Try.pinned (OpenSpec.ofChange distanceEndsSpec)

/-- ITS FALSE NEIGHBOUR: 'it returns false'. Refute it at one input. -/
def distanceEndsWrong : ChangeSpec := { name := "distanceEnds", fn := fun _ => fun
  | [d] => { results := [.lit (.bool false)], args := [d] }
  | _ => none }
def DistanceEndsWrongFalsely : Prop := distanceEndsRow.holds Try.pinned (OpenSpec.ofChange distanceEndsWrong)

/-- 'tropicalaw.DistanceLeasts': WHATEVER THE INPUT: true; the input reads as it did. -/
def distanceLeastsSpec : ChangeSpec := { name := "distanceLeasts", fn := fun _ => fun
  | [d] => { results := [.lit (.bool true)], args := [d] }
  | _ => none }
def distanceLeastsRow : OpenClaim := { program := "ytibafdehgmalgaa", sum := "63b5585aa84d4d8805c63a78edfb3a8991d52f5c2989ec7ba934b40b7259b9c7", func := "tropica/tropicalaw.DistanceLeasts", spec := "distanceLeasts", unfollowed := true, recurses := true, apart := false }
def DistanceLeastsSaid : Prop := distanceLeastsRow.holds Try.pinned (OpenSpec.ofChange distanceLeastsSpec)

/-- ITS FALSE NEIGHBOUR: 'it returns false'. Refute it at one input. -/
def distanceLeastsWrong : ChangeSpec := { name := "distanceLeasts", fn := fun _ => fun
  | [d] => { results := [.lit (.bool false)], args := [d] }
  | _ => none }
def DistanceLeastsWrongFalsely : Prop := distanceLeastsRow.holds Try.pinned (OpenSpec.ofChange distanceLeastsWrong)

/-- 'tropicakeep.DistanceTight': WHATEVER THE INPUT: true; the input reads as it did. -/
def distanceTightSpec : ChangeSpec := { name := "distanceTight", fn := fun _ => fun
  | [d] => { results := [.lit (.bool true)], args := [d] }
  | _ => none }
def distanceTightRow : OpenClaim := { program := "ytibafdehgmalgaa", sum := "63b5585aa84d4d8805c63a78edfb3a8991d52f5c2989ec7ba934b40b7259b9c7", func := "tropica/tropicakeep.DistanceTight", spec := "distanceTight", unfollowed := true, recurses := true, apart := false }
def DistanceTightSaid : Prop := distanceTightRow.holds Try.pinned (OpenSpec.ofChange distanceTightSpec)

/-- ITS FALSE NEIGHBOUR: 'it returns false'. Refute it at one input. -/
def distanceTightWrong : ChangeSpec := { name := "distanceTight", fn := fun _ => fun
  | [d] => { results := [.lit (.bool false)], args := [d] }
  | _ => none }
def DistanceTightWrongFalsely : Prop := distanceTightRow.holds Try.pinned (OpenSpec.ofChange distanceTightWrong)

/-- 'tropicakeep.DistanceTurned': WHATEVER THE INPUT: true; the input reads as it did. -/
def distanceTurnedSpec : ChangeSpec := { name := "distanceTurned", fn := fun _ => fun
  | [d] => { results := [.lit (.bool true)], args := [d] }
  | _ => none }
def distanceTurnedRow : OpenClaim := { program := "ytibafdehgmalgaa", sum := "63b5585aa84d4d8805c63a78edfb3a8991d52f5c2989ec7ba934b40b7259b9c7", func := "tropica/tropicakeep.DistanceTurned", spec := "distanceTurned", unfollowed := true, recurses := true, apart := false }
def DistanceTurnedSaid : Prop := distanceTurnedRow.holds Try.pinned (OpenSpec.ofChange distanceTurnedSpec)

/-- ITS FALSE NEIGHBOUR: 'it returns false'. Refute it at one input. -/
def distanceTurnedWrong : ChangeSpec := { name := "distanceTurned", fn := fun _ => fun
  | [d] => { results := [.lit (.bool false)], args := [d] }
  | _ => none }
def DistanceTurnedWrongFalsely : Prop := distanceTurnedRow.holds Try.pinned (OpenSpec.ofChange distanceTurnedWrong)

/-- 'tropicakeep.DistanceMeets': WHATEVER THE INPUT: true; the input reads as it did. -/
def distanceMeetsSpec : ChangeSpec := { name := "distanceMeets", fn := fun _ => fun
  | [d] => { results := [.lit (.bool true)], args := [d] }
  | _ => none }
def distanceMeetsRow : OpenClaim := { program := "ytibafdehgmalgaa", sum := "63b5585aa84d4d8805c63a78edfb3a8991d52f5c2989ec7ba934b40b7259b9c7", func := "tropica/tropicakeep.DistanceMeets", spec := "distanceMeets", unfollowed := true, recurses := true, apart := false }
def DistanceMeetsSaid : Prop := distanceMeetsRow.holds Try.pinned (OpenSpec.ofChange distanceMeetsSpec)

/-- ITS FALSE NEIGHBOUR: 'it returns false'. Refute it at one input. -/
def distanceMeetsWrong : ChangeSpec := { name := "distanceMeets", fn := fun _ => fun
  | [d] => { results := [.lit (.bool false)], args := [d] }
  | _ => none }
def DistanceMeetsWrongFalsely : Prop := distanceMeetsRow.holds Try.pinned (OpenSpec.ofChange distanceMeetsWrong)

/- THE SECOND FORM. 'bulk': how many values and letters a reading holds, each counted each time it is reached (what is shared counts as often as it is met; a slice's spare places count too). A statement '..UptoSaid' is the law's where the arguments, and the package variables that the reading takes, are together of bulk at most 1048576: NARROWER than '..Said'. Prove '..Said' where nothing that the law and all that it calls make is longer than what came in: it says more and counts as full. Else prove '..UptoSaid'. A law counts once. -/
mutual
def uptoBulk {H : Type} : DataW H → Nat
  | .lit (.string bytes) => bytes.length + 1
  | .lit _ => 1
  | .nil => 1
  | .ptr d => uptoBulk d + 1
  | .slice elems spare => uptoBulkAll elems + uptoBulkAll spare + 1
  | .agg parts => uptoBulkAll parts + 1
  | .iface _ d => uptoBulk d + 1
  | .map entries => uptoBulkEntries entries + 1
  | .held _ => 1
def uptoBulkAll {H : Type} : List (DataW H) → Nat
  | [] => 0
  | d :: r => uptoBulk d + uptoBulkAll r
def uptoBulkEntries {H : Type} : List (Lit × DataW H) → Nat
  | [] => 0
  | x :: r => uptoBulkEntry x + uptoBulkEntries r
def uptoBulkEntry {H : Type} : Lit × DataW H → Nat
  | (.string bytes, d) => bytes.length + uptoBulk d + 1
  | (_, d) => uptoBulk d + 1
 end
def uptoSmall : (H : Type) → List (DataW H) → Bool := fun _ ds => decide (uptoBulkAll ds ≤ 1048576)
def OpenSpec.upto (s : _root_.Go.ChangeSpec) : _root_.Go.OpenSpec := { _root_.Go.OpenSpec.ofChange s with cond := some uptoSmall }

/-- 'tropicalaw.DistanceFroms', WHERE WHAT IT READS IS OF BULK AT MOST 1048576: true; the input reads as it did. -/
def distanceFromsUptoRow : OpenClaim := { program := "ytibafdehgmalgaa", sum := "63b5585aa84d4d8805c63a78edfb3a8991d52f5c2989ec7ba934b40b7259b9c7", func := "tropica/tropicalaw.DistanceFroms", spec := "distanceFroms", unfollowed := true, recurses := true, apart := false, narrowed := true }
def DistanceFromsUptoSaid : Prop := distanceFromsUptoRow.holds Try.pinned (OpenSpec.upto distanceFromsSpec)

/-- 'tropicalaw.DistanceEnds', WHERE WHAT IT READS IS OF BULK AT MOST 1048576: true; the input reads as it did. -/
def distanceEndsUptoRow : OpenClaim := { program := "ytibafdehgmalgaa", sum := "63b5585aa84d4d8805c63a78edfb3a8991d52f5c2989ec7ba934b40b7259b9c7", func := "tropica/tropicalaw.DistanceEnds", spec := "distanceEnds", unfollowed := true, recurses := true, apart := false, narrowed := true }
def DistanceEndsUptoSaid : Prop := distanceEndsUptoRow.holds Try.pinned (OpenSpec.upto distanceEndsSpec)

/-- 'tropicalaw.DistanceLeasts', WHERE WHAT IT READS IS OF BULK AT MOST 1048576: true; the input reads as it did. -/
def distanceLeastsUptoRow : OpenClaim := { program := "ytibafdehgmalgaa", sum := "63b5585aa84d4d8805c63a78edfb3a8991d52f5c2989ec7ba934b40b7259b9c7", func := "tropica/tropicalaw.DistanceLeasts", spec := "distanceLeasts", unfollowed := true, recurses := true, apart := false, narrowed := true }
def DistanceLeastsUptoSaid : Prop := distanceLeastsUptoRow.holds Try.pinned (OpenSpec.upto distanceLeastsSpec)

/-- 'tropicakeep.DistanceTight', WHERE WHAT IT READS IS OF BULK AT MOST 1048576: true; the input reads as it did. -/
def distanceTightUptoRow : OpenClaim := { program := "ytibafdehgmalgaa", sum := "63b5585aa84d4d8805c63a78edfb3a8991d52f5c2989ec7ba934b40b7259b9c7", func := "tropica/tropicakeep.DistanceTight", spec := "distanceTight", unfollowed := true, recurses := true, apart := false, narrowed := true }
def DistanceTightUptoSaid : Prop := distanceTightUptoRow.holds Try.pinned (OpenSpec.upto distanceTightSpec)

/-- 'tropicakeep.DistanceTurned', WHERE WHAT IT READS IS OF BULK AT MOST 1048576: true; the input reads as it did. -/
def distanceTurnedUptoRow : OpenClaim := { program := "ytibafdehgmalgaa", sum := "63b5585aa84d4d8805c63a78edfb3a8991d52f5c2989ec7ba934b40b7259b9c7", func := "tropica/tropicakeep.DistanceTurned", spec := "distanceTurned", unfollowed := true, recurses := true, apart := false, narrowed := true }
def DistanceTurnedUptoSaid : Prop := distanceTurnedUptoRow.holds Try.pinned (OpenSpec.upto distanceTurnedSpec)

/-- 'tropicakeep.DistanceMeets', WHERE WHAT IT READS IS OF BULK AT MOST 1048576: true; the input reads as it did. -/
def distanceMeetsUptoRow : OpenClaim := { program := "ytibafdehgmalgaa", sum := "63b5585aa84d4d8805c63a78edfb3a8991d52f5c2989ec7ba934b40b7259b9c7", func := "tropica/tropicakeep.DistanceMeets", spec := "distanceMeets", unfollowed := true, recurses := true, apart := false, narrowed := true }
def DistanceMeetsUptoSaid : Prop := distanceMeetsUptoRow.holds Try.pinned (OpenSpec.upto distanceMeetsSpec)

end Rows
end Go.Proofs.Ytibafdehgmalgaa
