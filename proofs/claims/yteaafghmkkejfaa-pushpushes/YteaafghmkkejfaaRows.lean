/-
  No cell of these rows narrows 'for every input' (looked for: loops, veiled, ifaces, maps, wideKeys, modest, calm, conditions, laid).
  DERIVED. THE GIVEN ROWS OF THIS SEAT. 4 by the template 'for every input the law returns true; each argument reads behind the call as it read before'; 0 by the template 'total and deterministic' (their statements: YteaafghmkkejfaaTotals.lean).
  GIVEN WITH THE SEED: the statements are not yours to turn. If you find one false, say at which input.
  Laid BY PROGRAM, IN A SANDBOX (cutbox-rows.mjs): the forced cells as the released guide's own fill.sh prints them over the translation 32c34c38ae87c1a3… (all of the seat's roots in one cut). By AI agents, Wed Nov 11 2026. No macro, syntax, notation, axiom, sorry.
-/
import Derived.Test.YteaafghmkkejfaaChecked
import GoSem.Claim
import GoSem.ClaimJoined
import GoSem.ClaimMapViews
import Derived.JoinedTies
import Derived.KernelRfl
namespace Go.Proofs.Yteaafghmkkejfaa
/- THE CELL 'sum', in the pinned program and in every row, IS THE sha256 OF THE DUMP (.gsa) THAT YteaafghmkkejfaaProg.lean LOADS. Nothing in Lean hashes anything: it is a label: what it is worth is what the hold of that sum in a sandbox is worth. -/
noncomputable def Try.pinned : Pinned := { name := "yteaafghmkkejfaa", sum := "32c34c38ae87c1a316f805b09fe2969453f37725319a725fca72e195f404d4ef", checked := Try.checked }
namespace Rows
def none {H : Type} : Left H := { results := [], args := [] }

/-- 'tropicalaw.PushPushes': WHATEVER THE INPUT: true; the input reads as it did. -/
def pushPushesSpec : ChangeSpec := { name := "pushPushes", fn := fun _ => fun
  | [d] => { results := [.lit (.bool true)], args := [d] }
  | _ => none }
def pushPushesRow : OpenClaim := { program := "yteaafghmkkejfaa", sum := "32c34c38ae87c1a316f805b09fe2969453f37725319a725fca72e195f404d4ef", func := "tropica/tropicalaw.PushPushes", spec := "pushPushes", unfollowed := true, recurses := true, plainKeys := false, apart := false }
def PushPushesSaid : Prop := pushPushesRow.holds Try.pinned (OpenSpec.ofChange pushPushesSpec)

/-- ITS FALSE NEIGHBOUR: 'it returns false'. Refute it at one input. -/
def pushPushesWrong : ChangeSpec := { name := "pushPushes", fn := fun _ => fun
  | [d] => { results := [.lit (.bool false)], args := [d] }
  | _ => none }
def PushPushesWrongFalsely : Prop := pushPushesRow.holds Try.pinned (OpenSpec.ofChange pushPushesWrong)

/-- 'tropicalaw.PushPulls': WHATEVER THE INPUT: true; the input reads as it did. -/
def pushPullsSpec : ChangeSpec := { name := "pushPulls", fn := fun _ => fun
  | [d1, d2] => { results := [.lit (.bool true)], args := [d1, d2] }
  | _ => none }
def pushPullsRow : OpenClaim := { program := "yteaafghmkkejfaa", sum := "32c34c38ae87c1a316f805b09fe2969453f37725319a725fca72e195f404d4ef", func := "tropica/tropicalaw.PushPulls", spec := "pushPulls", unfollowed := true, recurses := true, plainKeys := false, apart := false }
def PushPullsSaid : Prop := pushPullsRow.holds Try.pinned (OpenSpec.ofChange pushPullsSpec)

/-- ITS FALSE NEIGHBOUR: 'it returns false'. Refute it at one input. -/
def pushPullsWrong : ChangeSpec := { name := "pushPulls", fn := fun _ => fun
  | [d1, d2] => { results := [.lit (.bool false)], args := [d1, d2] }
  | _ => none }
def PushPullsWrongFalsely : Prop := pushPullsRow.holds Try.pinned (OpenSpec.ofChange pushPullsWrong)

/-- 'tropicakeep.PushKeeps': WHATEVER THE INPUT: true; the input reads as it did. -/
def pushKeepsSpec : ChangeSpec := { name := "pushKeeps", fn := fun _ => fun
  | [d1, d2, d3] => { results := [.lit (.bool true)], args := [d1, d2, d3] }
  | _ => none }
def pushKeepsRow : OpenClaim := { program := "yteaafghmkkejfaa", sum := "32c34c38ae87c1a316f805b09fe2969453f37725319a725fca72e195f404d4ef", func := "tropica/tropicakeep.PushKeeps", spec := "pushKeeps", unfollowed := true, recurses := true, plainKeys := false, apart := false }
def PushKeepsSaid : Prop := pushKeepsRow.holds Try.pinned (OpenSpec.ofChange pushKeepsSpec)

/-- ITS FALSE NEIGHBOUR: 'it returns false'. Refute it at one input. -/
def pushKeepsWrong : ChangeSpec := { name := "pushKeeps", fn := fun _ => fun
  | [d1, d2, d3] => { results := [.lit (.bool false)], args := [d1, d2, d3] }
  | _ => none }
def PushKeepsWrongFalsely : Prop := pushKeepsRow.holds Try.pinned (OpenSpec.ofChange pushKeepsWrong)

/-- 'tropicakeep.PushZero': WHATEVER THE INPUT: true; the input reads as it did. -/
def pushZeroSpec : ChangeSpec := { name := "pushZero", fn := fun _ => fun
  | [d] => { results := [.lit (.bool true)], args := [d] }
  | _ => none }
def pushZeroRow : OpenClaim := { program := "yteaafghmkkejfaa", sum := "32c34c38ae87c1a316f805b09fe2969453f37725319a725fca72e195f404d4ef", func := "tropica/tropicakeep.PushZero", spec := "pushZero", unfollowed := true, recurses := true, plainKeys := false, apart := false }
def PushZeroSaid : Prop := pushZeroRow.holds Try.pinned (OpenSpec.ofChange pushZeroSpec)

/-- ITS FALSE NEIGHBOUR: 'it returns false'. Refute it at one input. -/
def pushZeroWrong : ChangeSpec := { name := "pushZero", fn := fun _ => fun
  | [d] => { results := [.lit (.bool false)], args := [d] }
  | _ => none }
def PushZeroWrongFalsely : Prop := pushZeroRow.holds Try.pinned (OpenSpec.ofChange pushZeroWrong)

/- THE SECOND FORM. 'bulk': how many values and letters a reading holds, each counted each time it is reached (what is shared counts as often as it is met; a slice's spare places count too). A statement '..UptoSaid' is the law's where the arguments, and the package variables that the reading takes, are together of bulk at most 1048576: NARROWER than '..Said'. Prove '..Said' where nothing that the law and all that it calls make is longer than what came in: it says more and counts as full. Else prove '..UptoSaid'. A law counts once. -/
mutual
def uptoBulk {H : Type} : DataW H → Nat
  | .lit (.string bytes) => bytes.length + 1
  | .lit _ => 1
  | .nil => 1
  | .ptr d => uptoBulk d + 1
  | .slice elems spare => uptoBulkAll elems + uptoBulkAll spare + 1
  | .agg parts => uptoBulkAll parts + 1
  | .iface _ d => uptoBulk d + 1
  | .map entries => uptoBulkEntries entries + 1
  | .held _ => 1
def uptoBulkAll {H : Type} : List (DataW H) → Nat
  | [] => 0
  | d :: r => uptoBulk d + uptoBulkAll r
def uptoBulkEntries {H : Type} : List (Lit × DataW H) → Nat
  | [] => 0
  | x :: r => uptoBulkEntry x + uptoBulkEntries r
def uptoBulkEntry {H : Type} : Lit × DataW H → Nat
  | (.string bytes, d) => bytes.length + uptoBulk d + 1
  | (_, d) => uptoBulk d + 1
 end
def uptoSmall : (H : Type) → List (DataW H) → Bool := fun _ ds => decide (uptoBulkAll ds ≤ 1048576)
def OpenSpec.upto (s : _root_.Go.ChangeSpec) : _root_.Go.OpenSpec := { _root_.Go.OpenSpec.ofChange s with cond := some uptoSmall }

/-- 'tropicalaw.PushPushes', WHERE WHAT IT READS IS OF BULK AT MOST 1048576: true; the input reads as it did. -/
def pushPushesUptoRow : OpenClaim := { program := "yteaafghmkkejfaa", sum := "32c34c38ae87c1a316f805b09fe2969453f37725319a725fca72e195f404d4ef", func := "tropica/tropicalaw.PushPushes", spec := "pushPushes", unfollowed := true, recurses := true, plainKeys := false, apart := false, narrowed := true }
def PushPushesUptoSaid : Prop := pushPushesUptoRow.holds Try.pinned (OpenSpec.upto pushPushesSpec)

/-- 'tropicalaw.PushPulls', WHERE WHAT IT READS IS OF BULK AT MOST 1048576: true; the input reads as it did. -/
def pushPullsUptoRow : OpenClaim := { program := "yteaafghmkkejfaa", sum := "32c34c38ae87c1a316f805b09fe2969453f37725319a725fca72e195f404d4ef", func := "tropica/tropicalaw.PushPulls", spec := "pushPulls", unfollowed := true, recurses := true, plainKeys := false, apart := false, narrowed := true }
def PushPullsUptoSaid : Prop := pushPullsUptoRow.holds Try.pinned (OpenSpec.upto pushPullsSpec)

/-- 'tropicakeep.PushKeeps', WHERE WHAT IT READS IS OF BULK AT MOST 1048576: true; the input reads as it did. -/
def pushKeepsUptoRow : OpenClaim := { program := "yteaafghmkkejfaa", sum := "32c34c38ae87c1a316f805b09fe2969453f37725319a725fca72e195f404d4ef", func := "tropica/tropicakeep.PushKeeps", spec := "pushKeeps", unfollowed := true, recurses := true, plainKeys := false, apart := false, narrowed := true }
def PushKeepsUptoSaid : Prop := pushKeepsUptoRow.holds Try.pinned (OpenSpec.upto pushKeepsSpec)

/-- 'tropicakeep.PushZero', WHERE WHAT IT READS IS OF BULK AT MOST 1048576: true; the input reads as it did. -/
def pushZeroUptoRow : OpenClaim := { program := "yteaafghmkkejfaa", sum := "32c34c38ae87c1a316f805b09fe2969453f37725319a725fca72e195f404d4ef", func := "tropica/tropicakeep.PushZero", spec := "pushZero", unfollowed := true, recurses := true, plainKeys := false, apart := false, narrowed := true }
def PushZeroUptoSaid : Prop := pushZeroUptoRow.holds Try.pinned (OpenSpec.upto pushZeroSpec)

end Rows
end Go.Proofs.Yteaafghmkkejfaa
