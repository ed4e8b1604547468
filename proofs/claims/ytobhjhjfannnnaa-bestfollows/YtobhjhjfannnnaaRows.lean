/-
  No cell of these rows narrows 'for every input' (looked for: loops, veiled, ifaces, maps, wideKeys, modest, calm, conditions, laid).
  DERIVED. THE GIVEN ROWS OF THIS SEAT. 6 by the template 'for every input the law returns true; each argument reads behind the call as it read before'; 0 by the template 'total and deterministic' (their statements: YtobhjhjfannnnaaTotals.lean).
  GIVEN WITH THE SEED: the statements are not yours to turn. If you find one false, say at which input.
  Laid BY PROGRAM, IN A SANDBOX (cutbox-rows.mjs): the forced cells as the released guide's own fill.sh prints them over the translation eaa8cb8be42d1968… (all of the seat's roots in one cut). By AI agents, Wed Nov 11 2026. No macro, syntax, notation, axiom, sorry.
-/
import Derived.Test.YtobhjhjfannnnaaChecked
import GoSem.Claim
import GoSem.ClaimJoined
import GoSem.ClaimMapViews
import Derived.JoinedTies
import Derived.KernelRfl
namespace Go.Proofs.Ytobhjhjfannnnaa
/- THE CELL 'sum', in the pinned program and in every row, IS THE sha256 OF THE DUMP (.gsa) THAT YtobhjhjfannnnaaProg.lean LOADS. Nothing in Lean hashes anything: it is a label: what it is worth is what the hold of that sum in a sandbox is worth. -/
noncomputable def Try.pinned : Pinned := { name := "ytobhjhjfannnnaa", sum := "eaa8cb8be42d19684ef59b0bb2c1c09c4767bd967b4c677124c32f443f494e14", checked := Try.checked }
namespace Rows
def none {H : Type} : Left H := { results := [], args := [] }

/-- 'tropicalaw.BestBests': WHATEVER THE INPUT: true; the input reads as it did. -/
def bestBestsSpec : ChangeSpec := { name := "bestBests", fn := fun _ => fun
  | [d] => { results := [.lit (.bool true)], args := [d] }
  | _ => none }
def bestBestsRow : OpenClaim := { program := "ytobhjhjfannnnaa", sum := "eaa8cb8be42d19684ef59b0bb2c1c09c4767bd967b4c677124c32f443f494e14", func := "tropica/tropicalaw.BestBests", spec := "bestBests", unfollowed := true, recurses := true, plainKeys := false, apart := false }
def BestBestsSaid : Prop := bestBestsRow.holds Try.pinned (OpenSpec.ofChange bestBestsSpec)

/-- ITS FALSE NEIGHBOUR: 'it returns false'. Refute it at one input. -/
def bestBestsWrong : ChangeSpec := { name := "bestBests", fn := fun _ => fun
  | [d] => { results := [.lit (.bool false)], args := [d] }
  | _ => none }
def BestBestsWrongFalsely : Prop := bestBestsRow.holds Try.pinned (OpenSpec.ofChange bestBestsWrong)

/-- 'tropicalaw.BestCosts': WHATEVER THE INPUT: true; the input reads as it did. -/
def bestCostsSpec : ChangeSpec := { name := "bestCosts", fn := fun _ => fun
  | [d1, d2] => { results := [.lit (.bool true)], args := [d1, d2] }
  | _ => none }
def bestCostsRow : OpenClaim := { program := "ytobhjhjfannnnaa", sum := "eaa8cb8be42d19684ef59b0bb2c1c09c4767bd967b4c677124c32f443f494e14", func := "tropica/tropicalaw.BestCosts", spec := "bestCosts", unfollowed := true, recurses := true, plainKeys := false, apart := false }
def BestCostsSaid : Prop := bestCostsRow.holds Try.pinned (OpenSpec.ofChange bestCostsSpec)

/-- ITS FALSE NEIGHBOUR: 'it returns false'. Refute it at one input. -/
def bestCostsWrong : ChangeSpec := { name := "bestCosts", fn := fun _ => fun
  | [d1, d2] => { results := [.lit (.bool false)], args := [d1, d2] }
  | _ => none }
def BestCostsWrongFalsely : Prop := bestCostsRow.holds Try.pinned (OpenSpec.ofChange bestCostsWrong)

/-- 'tropicalaw.BestFollows': WHATEVER THE INPUT: true; the input reads as it did. -/
def bestFollowsSpec : ChangeSpec := { name := "bestFollows", fn := fun _ => fun
  | [d1, d2] => { results := [.lit (.bool true)], args := [d1, d2] }
  | _ => none }
def bestFollowsRow : OpenClaim := { program := "ytobhjhjfannnnaa", sum := "eaa8cb8be42d19684ef59b0bb2c1c09c4767bd967b4c677124c32f443f494e14", func := "tropica/tropicalaw.BestFollows", spec := "bestFollows", unfollowed := true, recurses := true, plainKeys := false, apart := false }
def BestFollowsSaid : Prop := bestFollowsRow.holds Try.pinned (OpenSpec.ofChange bestFollowsSpec)

/-- ITS FALSE NEIGHBOUR: 'it returns false'. Refute it at one input. -/
def bestFollowsWrong : ChangeSpec := { name := "bestFollows", fn := fun _ => fun
  | [d1, d2] => { results := [.lit (.bool false)], args := [d1, d2] }
  | _ => none }
def BestFollowsWrongFalsely : Prop := bestFollowsRow.holds Try.pinned (OpenSpec.ofChange bestFollowsWrong)

/-- 'tropicakeep.PushPaths': WHATEVER THE INPUT: true; the input reads as it did. -/
def pushPathsSpec : ChangeSpec := { name := "pushPaths", fn := fun _ => fun
  | [d] => { results := [.lit (.bool true)], args := [d] }
  | _ => none }
def pushPathsRow : OpenClaim := { program := "ytobhjhjfannnnaa", sum := "eaa8cb8be42d19684ef59b0bb2c1c09c4767bd967b4c677124c32f443f494e14", func := "tropica/tropicakeep.PushPaths", spec := "pushPaths", unfollowed := true, recurses := true, plainKeys := false, apart := false }
def PushPathsSaid : Prop := pushPathsRow.holds Try.pinned (OpenSpec.ofChange pushPathsSpec)

/-- ITS FALSE NEIGHBOUR: 'it returns false'. Refute it at one input. -/
def pushPathsWrong : ChangeSpec := { name := "pushPaths", fn := fun _ => fun
  | [d] => { results := [.lit (.bool false)], args := [d] }
  | _ => none }
def PushPathsWrongFalsely : Prop := pushPathsRow.holds Try.pinned (OpenSpec.ofChange pushPathsWrong)

/-- 'tropicakeep.BestPays': WHATEVER THE INPUT: true; the input reads as it did. -/
def bestPaysSpec : ChangeSpec := { name := "bestPays", fn := fun _ => fun
  | [d] => { results := [.lit (.bool true)], args := [d] }
  | _ => none }
def bestPaysRow : OpenClaim := { program := "ytobhjhjfannnnaa", sum := "eaa8cb8be42d19684ef59b0bb2c1c09c4767bd967b4c677124c32f443f494e14", func := "tropica/tropicakeep.BestPays", spec := "bestPays", unfollowed := true, recurses := true, plainKeys := false, apart := false }
def BestPaysSaid : Prop := bestPaysRow.holds Try.pinned (OpenSpec.ofChange bestPaysSpec)

/-- ITS FALSE NEIGHBOUR: 'it returns false'. Refute it at one input. -/
def bestPaysWrong : ChangeSpec := { name := "bestPays", fn := fun _ => fun
  | [d] => { results := [.lit (.bool false)], args := [d] }
  | _ => none }
def BestPaysWrongFalsely : Prop := bestPaysRow.holds Try.pinned (OpenSpec.ofChange bestPaysWrong)

/-- 'tropicakeep.BestLeast': WHATEVER THE INPUT: true; the input reads as it did. -/
def bestLeastSpec : ChangeSpec := { name := "bestLeast", fn := fun _ => fun
  | [d1, d2] => { results := [.lit (.bool true)], args := [d1, d2] }
  | _ => none }
def bestLeastRow : OpenClaim := { program := "ytobhjhjfannnnaa", sum := "eaa8cb8be42d19684ef59b0bb2c1c09c4767bd967b4c677124c32f443f494e14", func := "tropica/tropicakeep.BestLeast", spec := "bestLeast", unfollowed := true, recurses := true, plainKeys := false, apart := false }
def BestLeastSaid : Prop := bestLeastRow.holds Try.pinned (OpenSpec.ofChange bestLeastSpec)

/-- ITS FALSE NEIGHBOUR: 'it returns false'. Refute it at one input. -/
def bestLeastWrong : ChangeSpec := { name := "bestLeast", fn := fun _ => fun
  | [d1, d2] => { results := [.lit (.bool false)], args := [d1, d2] }
  | _ => none }
def BestLeastWrongFalsely : Prop := bestLeastRow.holds Try.pinned (OpenSpec.ofChange bestLeastWrong)

/- THE SECOND FORM. 'bulk': how many values and letters a reading holds, each counted each time it is reached (what is shared counts as often as it is met; a slice's spare places count too). A statement '..UptoSaid' is the law's where the arguments, and the package variables that the reading takes, are together of bulk at most 1048576: NARROWER than '..Said'. Prove '..Said' where nothing that the law and all that it calls make is longer than what came in: it says more and counts as full. Else prove '..UptoSaid'. A law counts once. -/
mutual
def uptoBulk {H : Type} : DataW H → Nat
  | .lit (.string bytes) => bytes.length + 1
  | .lit _ => 1
  | .nil => 1
  | .ptr d => uptoBulk d + 1
  | .slice elems spare => uptoBulkAll elems + uptoBulkAll spare + 1
  | .agg parts => uptoBulkAll parts + 1
  | .iface _ d => uptoBulk d + 1
  | .map entries => uptoBulkEntries entries + 1
  | .held _ => 1
def uptoBulkAll {H : Type} : List (DataW H) → Nat
  | [] => 0
  | d :: r => uptoBulk d + uptoBulkAll r
def uptoBulkEntries {H : Type} : List (Lit × DataW H) → Nat
  | [] => 0
  | x :: r => uptoBulkEntry x + uptoBulkEntries r
def uptoBulkEntry {H : Type} : Lit × DataW H → Nat
  | (.string bytes, d) => bytes.length + uptoBulk d + 1
  | (_, d) => uptoBulk d + 1
 end
def uptoSmall : (H : Type) → List (DataW H) → Bool := fun _ ds => decide (uptoBulkAll ds ≤ 1048576)
def OpenSpec.upto (s : _root_.Go.ChangeSpec) : _root_.Go.OpenSpec := { _root_.Go.OpenSpec.ofChange s with cond := some uptoSmall }

/-- 'tropicalaw.BestBests', WHERE WHAT IT READS IS OF BULK AT MOST 1048576: true; the input reads as it did. -/
def bestBestsUptoRow : OpenClaim := { program := "ytobhjhjfannnnaa", sum := "eaa8cb8be42d19684ef59b0bb2c1c09c4767bd967b4c677124c32f443f494e14", func := "tropica/tropicalaw.BestBests", spec := "bestBests", unfollowed := true, recurses := true, plainKeys := false, apart := false, narrowed := true }
def BestBestsUptoSaid : Prop := bestBestsUptoRow.holds Try.pinned (OpenSpec.upto bestBestsSpec)

/-- 'tropicalaw.BestCosts', WHERE WHAT IT READS IS OF BULK AT MOST 1048576: true; the input reads as it did. -/
def bestCostsUptoRow : OpenClaim := { program := "ytobhjhjfannnnaa", sum := "eaa8cb8be42d19684ef59b0bb2c1c09c4767bd967b4c677124c32f443f494e14", func := "tropica/tropicalaw.BestCosts", spec := "bestCosts", unfollowed := true, recurses := true, plainKeys := false, apart := false, narrowed := true }
def BestCostsUptoSaid : Prop := bestCostsUptoRow.holds Try.pinned (OpenSpec.upto bestCostsSpec)

/-- 'tropicalaw.BestFollows', WHERE WHAT IT READS IS OF BULK AT MOST 1048576: true; the input reads as it did. -/
def bestFollowsUptoRow : OpenClaim := { program := "ytobhjhjfannnnaa", sum := "eaa8cb8be42d19684ef59b0bb2c1c09c4767bd967b4c677124c32f443f494e14", func := "tropica/tropicalaw.BestFollows", spec := "bestFollows", unfollowed := true, recurses := true, plainKeys := false, apart := false, narrowed := true }
def BestFollowsUptoSaid : Prop := bestFollowsUptoRow.holds Try.pinned (OpenSpec.upto bestFollowsSpec)

/-- 'tropicakeep.PushPaths', WHERE WHAT IT READS IS OF BULK AT MOST 1048576: true; the input reads as it did. -/
def pushPathsUptoRow : OpenClaim := { program := "ytobhjhjfannnnaa", sum := "eaa8cb8be42d19684ef59b0bb2c1c09c4767bd967b4c677124c32f443f494e14", func := "tropica/tropicakeep.PushPaths", spec := "pushPaths", unfollowed := true, recurses := true, plainKeys := false, apart := false, narrowed := true }
def PushPathsUptoSaid : Prop := pushPathsUptoRow.holds Try.pinned (OpenSpec.upto pushPathsSpec)

/-- 'tropicakeep.BestPays', WHERE WHAT IT READS IS OF BULK AT MOST 1048576: true; the input reads as it did. -/
def bestPaysUptoRow : OpenClaim := { program := "ytobhjhjfannnnaa", sum := "eaa8cb8be42d19684ef59b0bb2c1c09c4767bd967b4c677124c32f443f494e14", func := "tropica/tropicakeep.BestPays", spec := "bestPays", unfollowed := true, recurses := true, plainKeys := false, apart := false, narrowed := true }
def BestPaysUptoSaid : Prop := bestPaysUptoRow.holds Try.pinned (OpenSpec.upto bestPaysSpec)

/-- 'tropicakeep.BestLeast', WHERE WHAT IT READS IS OF BULK AT MOST 1048576: true; the input reads as it did. -/
def bestLeastUptoRow : OpenClaim := { program := "ytobhjhjfannnnaa", sum := "eaa8cb8be42d19684ef59b0bb2c1c09c4767bd967b4c677124c32f443f494e14", func := "tropica/tropicakeep.BestLeast", spec := "bestLeast", unfollowed := true, recurses := true, plainKeys := false, apart := false, narrowed := true }
def BestLeastUptoSaid : Prop := bestLeastUptoRow.holds Try.pinned (OpenSpec.upto bestLeastSpec)

end Rows
end Go.Proofs.Ytobhjhjfannnnaa
