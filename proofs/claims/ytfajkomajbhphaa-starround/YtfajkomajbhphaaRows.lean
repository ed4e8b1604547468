/-
  No cell of these rows narrows 'for every input' (looked for: loops, veiled, ifaces, maps, wideKeys, modest, calm, conditions, laid).
  DERIVED. THE GIVEN ROWS OF THIS SEAT. 6 by the template 'for every input the law returns true; each argument reads behind the call as it read before'; 0 by the template 'total and deterministic' (their statements: YtfajkomajbhphaaTotals.lean).
  GIVEN WITH THE SEED: the statements are not yours to turn. If you find one false, say at which input.
  Laid BY PROGRAM, IN A SANDBOX (cutbox-rows.mjs): the forced cells as the released guide's own fill.sh prints them over the translation 2fcee739b0dfd2b7… (all of the seat's roots in one cut). By AI agents, Wed Nov 11 2026. No macro, syntax, notation, axiom, sorry.
-/
import Derived.Test.YtfajkomajbhphaaChecked
import GoSem.Claim
import GoSem.ClaimJoined
import GoSem.ClaimMapViews
import Derived.JoinedTies
import Derived.KernelRfl
namespace Go.Proofs.Ytfajkomajbhphaa
/- THE CELL 'sum', in the pinned program and in every row, IS THE sha256 OF THE DUMP (.gsa) THAT YtfajkomajbhphaaProg.lean LOADS. Nothing in Lean hashes anything: it is a label: what it is worth is what the hold of that sum in a sandbox is worth. -/
noncomputable def Try.pinned : Pinned := { name := "ytfajkomajbhphaa", sum := "2fcee739b0dfd2b7c2304a87dd29782d843f9e9097766733df212259f2bc55d9", checked := Try.checked }
namespace Rows
def none {H : Type} : Left H := { results := [], args := [] }

/-- 'tropicalaw.RationalUnions': WHATEVER THE INPUT: true; the input reads as it did. -/
def rationalUnionsSpec : ChangeSpec := { name := "rationalUnions", fn := fun _ => fun
  | [d1, d2] => { results := [.lit (.bool true)], args := [d1, d2] }
  | _ => none }
def rationalUnionsRow : OpenClaim := { program := "ytfajkomajbhphaa", sum := "2fcee739b0dfd2b7c2304a87dd29782d843f9e9097766733df212259f2bc55d9", func := "tropica/tropicalaw.RationalUnions", spec := "rationalUnions", unfollowed := true, recurses := true, apart := false }
def RationalUnionsSaid : Prop := rationalUnionsRow.holds Try.pinned (OpenSpec.ofChange rationalUnionsSpec)

/-- ITS FALSE NEIGHBOUR: 'it returns false'. Refute it at one input. -/
def rationalUnionsWrong : ChangeSpec := { name := "rationalUnions", fn := fun _ => fun
  | [d1, d2] => { results := [.lit (.bool false)], args := [d1, d2] }
  | _ => none }
def RationalUnionsWrongFalsely : Prop := rationalUnionsRow.holds Try.pinned (OpenSpec.ofChange rationalUnionsWrong)

/-- 'tropicalaw.RationalConcats': WHATEVER THE INPUT: true; the input reads as it did. -/
def rationalConcatsSpec : ChangeSpec := { name := "rationalConcats", fn := fun _ => fun
  | [d1, d2] => { results := [.lit (.bool true)], args := [d1, d2] }
  | _ => none }
def rationalConcatsRow : OpenClaim := { program := "ytfajkomajbhphaa", sum := "2fcee739b0dfd2b7c2304a87dd29782d843f9e9097766733df212259f2bc55d9", func := "tropica/tropicalaw.RationalConcats", spec := "rationalConcats", unfollowed := true, recurses := true, apart := false }
def RationalConcatsSaid : Prop := rationalConcatsRow.holds Try.pinned (OpenSpec.ofChange rationalConcatsSpec)

/-- ITS FALSE NEIGHBOUR: 'it returns false'. Refute it at one input. -/
def rationalConcatsWrong : ChangeSpec := { name := "rationalConcats", fn := fun _ => fun
  | [d1, d2] => { results := [.lit (.bool false)], args := [d1, d2] }
  | _ => none }
def RationalConcatsWrongFalsely : Prop := rationalConcatsRow.holds Try.pinned (OpenSpec.ofChange rationalConcatsWrong)

/-- 'tropicalaw.RationalStars': WHATEVER THE INPUT: true; the input reads as it did. -/
def rationalStarsSpec : ChangeSpec := { name := "rationalStars", fn := fun _ => fun
  | [d] => { results := [.lit (.bool true)], args := [d] }
  | _ => none }
def rationalStarsRow : OpenClaim := { program := "ytfajkomajbhphaa", sum := "2fcee739b0dfd2b7c2304a87dd29782d843f9e9097766733df212259f2bc55d9", func := "tropica/tropicalaw.RationalStars", spec := "rationalStars", unfollowed := true, recurses := true, apart := false }
def RationalStarsSaid : Prop := rationalStarsRow.holds Try.pinned (OpenSpec.ofChange rationalStarsSpec)

/-- ITS FALSE NEIGHBOUR: 'it returns false'. Refute it at one input. -/
def rationalStarsWrong : ChangeSpec := { name := "rationalStars", fn := fun _ => fun
  | [d] => { results := [.lit (.bool false)], args := [d] }
  | _ => none }
def RationalStarsWrongFalsely : Prop := rationalStarsRow.holds Try.pinned (OpenSpec.ofChange rationalStarsWrong)

/-- 'tropicakeep.PathsAdd': WHATEVER THE INPUT: true; the input reads as it did. -/
def pathsAddSpec : ChangeSpec := { name := "pathsAdd", fn := fun _ => fun
  | [d1, d2] => { results := [.lit (.bool true)], args := [d1, d2] }
  | _ => none }
def pathsAddRow : OpenClaim := { program := "ytfajkomajbhphaa", sum := "2fcee739b0dfd2b7c2304a87dd29782d843f9e9097766733df212259f2bc55d9", func := "tropica/tropicakeep.PathsAdd", spec := "pathsAdd", unfollowed := true, recurses := true, apart := false }
def PathsAddSaid : Prop := pathsAddRow.holds Try.pinned (OpenSpec.ofChange pathsAddSpec)

/-- ITS FALSE NEIGHBOUR: 'it returns false'. Refute it at one input. -/
def pathsAddWrong : ChangeSpec := { name := "pathsAdd", fn := fun _ => fun
  | [d1, d2] => { results := [.lit (.bool false)], args := [d1, d2] }
  | _ => none }
def PathsAddWrongFalsely : Prop := pathsAddRow.holds Try.pinned (OpenSpec.ofChange pathsAddWrong)

/-- 'tropicakeep.LongestAdds': WHATEVER THE INPUT: true; the input reads as it did. -/
def longestAddsSpec : ChangeSpec := { name := "longestAdds", fn := fun _ => fun
  | [d1, d2] => { results := [.lit (.bool true)], args := [d1, d2] }
  | _ => none }
def longestAddsRow : OpenClaim := { program := "ytfajkomajbhphaa", sum := "2fcee739b0dfd2b7c2304a87dd29782d843f9e9097766733df212259f2bc55d9", func := "tropica/tropicakeep.LongestAdds", spec := "longestAdds", unfollowed := true, recurses := true, apart := false }
def LongestAddsSaid : Prop := longestAddsRow.holds Try.pinned (OpenSpec.ofChange longestAddsSpec)

/-- ITS FALSE NEIGHBOUR: 'it returns false'. Refute it at one input. -/
def longestAddsWrong : ChangeSpec := { name := "longestAdds", fn := fun _ => fun
  | [d1, d2] => { results := [.lit (.bool false)], args := [d1, d2] }
  | _ => none }
def LongestAddsWrongFalsely : Prop := longestAddsRow.holds Try.pinned (OpenSpec.ofChange longestAddsWrong)

/-- 'tropicakeep.StarRound': WHATEVER THE INPUT: true; the input reads as it did. -/
def starRoundSpec : ChangeSpec := { name := "starRound", fn := fun _ => fun
  | [d] => { results := [.lit (.bool true)], args := [d] }
  | _ => none }
def starRoundRow : OpenClaim := { program := "ytfajkomajbhphaa", sum := "2fcee739b0dfd2b7c2304a87dd29782d843f9e9097766733df212259f2bc55d9", func := "tropica/tropicakeep.StarRound", spec := "starRound", unfollowed := true, recurses := true, apart := false }
def StarRoundSaid : Prop := starRoundRow.holds Try.pinned (OpenSpec.ofChange starRoundSpec)

/-- ITS FALSE NEIGHBOUR: 'it returns false'. Refute it at one input. -/
def starRoundWrong : ChangeSpec := { name := "starRound", fn := fun _ => fun
  | [d] => { results := [.lit (.bool false)], args := [d] }
  | _ => none }
def StarRoundWrongFalsely : Prop := starRoundRow.holds Try.pinned (OpenSpec.ofChange starRoundWrong)

/- THE SECOND FORM. 'bulk': how many values and letters a reading holds, each counted each time it is reached (what is shared counts as often as it is met; a slice's spare places count too). A statement '..UptoSaid' is the law's where the arguments, and the package variables that the reading takes, are together of bulk at most 1048576: NARROWER than '..Said'. Prove '..Said' where nothing that the law and all that it calls make is longer than what came in: it says more and counts as full. Else prove '..UptoSaid'. A law counts once. -/
mutual
def uptoBulk {H : Type} : DataW H → Nat
  | .lit (.string bytes) => bytes.length + 1
  | .lit _ => 1
  | .nil => 1
  | .ptr d => uptoBulk d + 1
  | .slice elems spare => uptoBulkAll elems + uptoBulkAll spare + 1
  | .agg parts => uptoBulkAll parts + 1
  | .iface _ d => uptoBulk d + 1
  | .map entries => uptoBulkEntries entries + 1
  | .held _ => 1
def uptoBulkAll {H : Type} : List (DataW H) → Nat
  | [] => 0
  | d :: r => uptoBulk d + uptoBulkAll r
def uptoBulkEntries {H : Type} : List (Lit × DataW H) → Nat
  | [] => 0
  | x :: r => uptoBulkEntry x + uptoBulkEntries r
def uptoBulkEntry {H : Type} : Lit × DataW H → Nat
  | (.string bytes, d) => bytes.length + uptoBulk d + 1
  | (_, d) => uptoBulk d + 1
 end
def uptoSmall : (H : Type) → List (DataW H) → Bool := fun _ ds => decide (uptoBulkAll ds ≤ 1048576)
def OpenSpec.upto (s : _root_.Go.ChangeSpec) : _root_.Go.OpenSpec := { _root_.Go.OpenSpec.ofChange s with cond := some uptoSmall }

/-- 'tropicalaw.RationalUnions', WHERE WHAT IT READS IS OF BULK AT MOST 1048576: true; the input reads as it did. -/
def rationalUnionsUptoRow : OpenClaim := { program := "ytfajkomajbhphaa", sum := "2fcee739b0dfd2b7c2304a87dd29782d843f9e9097766733df212259f2bc55d9", func := "tropica/tropicalaw.RationalUnions", spec := "rationalUnions", unfollowed := true, recurses := true, apart := false, narrowed := true }
def RationalUnionsUptoSaid : Prop := rationalUnionsUptoRow.holds Try.pinned (OpenSpec.upto rationalUnionsSpec)

/-- 'tropicalaw.RationalConcats', WHERE WHAT IT READS IS OF BULK AT MOST 1048576: true; the input reads as it did. -/
def rationalConcatsUptoRow : OpenClaim := { program := "ytfajkomajbhphaa", sum := "2fcee739b0dfd2b7c2304a87dd29782d843f9e9097766733df212259f2bc55d9", func := "tropica/tropicalaw.RationalConcats", spec := "rationalConcats", unfollowed := true, recurses := true, apart := false, narrowed := true }
def RationalConcatsUptoSaid : Prop := rationalConcatsUptoRow.holds Try.pinned (OpenSpec.upto rationalConcatsSpec)

/-- 'tropicalaw.RationalStars', WHERE WHAT IT READS IS OF BULK AT MOST 1048576: true; the input reads as it did. -/
def rationalStarsUptoRow : OpenClaim := { program := "ytfajkomajbhphaa", sum := "2fcee739b0dfd2b7c2304a87dd29782d843f9e9097766733df212259f2bc55d9", func := "tropica/tropicalaw.RationalStars", spec := "rationalStars", unfollowed := true, recurses := true, apart := false, narrowed := true }
def RationalStarsUptoSaid : Prop := rationalStarsUptoRow.holds Try.pinned (OpenSpec.upto rationalStarsSpec)

/-- 'tropicakeep.PathsAdd', WHERE WHAT IT READS IS OF BULK AT MOST 1048576: true; the input reads as it did. -/
def pathsAddUptoRow : OpenClaim := { program := "ytfajkomajbhphaa", sum := "2fcee739b0dfd2b7c2304a87dd29782d843f9e9097766733df212259f2bc55d9", func := "tropica/tropicakeep.PathsAdd", spec := "pathsAdd", unfollowed := true, recurses := true, apart := false, narrowed := true }
def PathsAddUptoSaid : Prop := pathsAddUptoRow.holds Try.pinned (OpenSpec.upto pathsAddSpec)

/-- 'tropicakeep.LongestAdds', WHERE WHAT IT READS IS OF BULK AT MOST 1048576: true; the input reads as it did. -/
def longestAddsUptoRow : OpenClaim := { program := "ytfajkomajbhphaa", sum := "2fcee739b0dfd2b7c2304a87dd29782d843f9e9097766733df212259f2bc55d9", func := "tropica/tropicakeep.LongestAdds", spec := "longestAdds", unfollowed := true, recurses := true, apart := false, narrowed := true }
def LongestAddsUptoSaid : Prop := longestAddsUptoRow.holds Try.pinned (OpenSpec.upto longestAddsSpec)

/-- 'tropicakeep.StarRound', WHERE WHAT IT READS IS OF BULK AT MOST 1048576: true; the input reads as it did. -/
def starRoundUptoRow : OpenClaim := { program := "ytfajkomajbhphaa", sum := "2fcee739b0dfd2b7c2304a87dd29782d843f9e9097766733df212259f2bc55d9", func := "tropica/tropicakeep.StarRound", spec := "starRound", unfollowed := true, recurses := true, apart := false, narrowed := true }
def StarRoundUptoSaid : Prop := starRoundUptoRow.holds Try.pinned (OpenSpec.upto starRoundSpec)

end Rows
end Go.Proofs.Ytfajkomajbhphaa
