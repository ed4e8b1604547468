/-
  No cell of these rows narrows 'for every input' (looked for: loops, veiled, ifaces, maps, wideKeys, modest, calm, conditions, laid).
  DERIVED. THE GIVEN ROWS OF THIS SEAT. 4 by the template 'for every input the law returns true; each argument reads behind the call as it read before'; 0 by the template 'total and deterministic' (their statements: YtakpdoodbifkgaaTotals.lean).
  GIVEN WITH THE SEED: the statements are not yours to turn. If you find one false, say at which input.
  Laid BY PROGRAM, IN A SANDBOX (cutbox-rows.mjs): the forced cells as the released guide's own fill.sh prints them over the translation cf0441ec7185f975… (all of the seat's roots in one cut). By AI agents, Wed Nov 11 2026. No macro, syntax, notation, axiom, sorry.
-/
import Derived.Test.YtakpdoodbifkgaaChecked
import GoSem.Claim
import GoSem.ClaimJoined
import GoSem.ClaimMapViews
import Derived.JoinedTies
import Derived.KernelRfl
namespace Go.Proofs.Ytakpdoodbifkgaa
/- THE CELL 'sum', in the pinned program and in every row, IS THE sha256 OF THE DUMP (.gsa) THAT YtakpdoodbifkgaaProg.lean LOADS. Nothing in Lean hashes anything: it is a label: what it is worth is what the hold of that sum in a sandbox is worth. -/
noncomputable def Try.pinned : Pinned := { name := "ytakpdoodbifkgaa", sum := "cf0441ec7185f97520dfbb6a88131e6613d1ea49d39082d1775de28bb3e22e78", checked := Try.checked }
namespace Rows
def none {H : Type} : Left H := { results := [], args := [] }

/-- 'tropicalaw.CoreChecks': WHATEVER THE INPUT: true; the input reads as it did. -/
def coreChecksSpec : ChangeSpec := { name := "coreChecks", fn := fun _ => fun
  | [d] => { results := [.lit (.bool true)], args := [d] }
  | _ => none }
def coreChecksRow : OpenClaim := { program := "ytakpdoodbifkgaa", sum := "cf0441ec7185f97520dfbb6a88131e6613d1ea49d39082d1775de28bb3e22e78", func := "tropica/tropicalaw.CoreChecks", spec := "coreChecks", unfollowed := true, recurses := true, plainKeys := false, apart := false }
def CoreChecksSaid : Prop := coreChecksRow.holds Try.pinned (OpenSpec.ofChange coreChecksSpec)

/-- ITS FALSE NEIGHBOUR: 'it returns false'. Refute it at one input. -/
def coreChecksWrong : ChangeSpec := { name := "coreChecks", fn := fun _ => fun
  | [d] => { results := [.lit (.bool false)], args := [d] }
  | _ => none }
def CoreChecksWrongFalsely : Prop := coreChecksRow.holds Try.pinned (OpenSpec.ofChange coreChecksWrong)

/-- 'tropicalaw.CoreCounts': WHATEVER THE INPUT: true; the input reads as it did. -/
def coreCountsSpec : ChangeSpec := { name := "coreCounts", fn := fun _ => fun
  | [d] => { results := [.lit (.bool true)], args := [d] }
  | _ => none }
def coreCountsRow : OpenClaim := { program := "ytakpdoodbifkgaa", sum := "cf0441ec7185f97520dfbb6a88131e6613d1ea49d39082d1775de28bb3e22e78", func := "tropica/tropicalaw.CoreCounts", spec := "coreCounts", unfollowed := true, recurses := true, plainKeys := false, apart := false }
def CoreCountsSaid : Prop := coreCountsRow.holds Try.pinned (OpenSpec.ofChange coreCountsSpec)

/-- ITS FALSE NEIGHBOUR: 'it returns false'. Refute it at one input. -/
def coreCountsWrong : ChangeSpec := { name := "coreCounts", fn := fun _ => fun
  | [d] => { results := [.lit (.bool false)], args := [d] }
  | _ => none }
def CoreCountsWrongFalsely : Prop := coreCountsRow.holds Try.pinned (OpenSpec.ofChange coreCountsWrong)

/-- 'tropicalaw.CoreBits': WHATEVER THE INPUT: true; the input reads as it did. -/
def coreBitsSpec : ChangeSpec := { name := "coreBits", fn := fun _ => fun
  | [d] => { results := [.lit (.bool true)], args := [d] }
  | _ => none }
def coreBitsRow : OpenClaim := { program := "ytakpdoodbifkgaa", sum := "cf0441ec7185f97520dfbb6a88131e6613d1ea49d39082d1775de28bb3e22e78", func := "tropica/tropicalaw.CoreBits", spec := "coreBits", unfollowed := true, recurses := true, plainKeys := false, apart := false }
def CoreBitsSaid : Prop := coreBitsRow.holds Try.pinned (OpenSpec.ofChange coreBitsSpec)

/-- ITS FALSE NEIGHBOUR: 'it returns false'. Refute it at one input. -/
def coreBitsWrong : ChangeSpec := { name := "coreBits", fn := fun _ => fun
  | [d] => { results := [.lit (.bool false)], args := [d] }
  | _ => none }
def CoreBitsWrongFalsely : Prop := coreBitsRow.holds Try.pinned (OpenSpec.ofChange coreBitsWrong)

/-- 'tropicakeep.CoreTells': WHATEVER THE INPUT: true; the input reads as it did. -/
def coreTellsSpec : ChangeSpec := { name := "coreTells", fn := fun _ => fun
  | [d1, d2] => { results := [.lit (.bool true)], args := [d1, d2] }
  | _ => none }
def coreTellsRow : OpenClaim := { program := "ytakpdoodbifkgaa", sum := "cf0441ec7185f97520dfbb6a88131e6613d1ea49d39082d1775de28bb3e22e78", func := "tropica/tropicakeep.CoreTells", spec := "coreTells", unfollowed := true, recurses := true, plainKeys := false, apart := false }
def CoreTellsSaid : Prop := coreTellsRow.holds Try.pinned (OpenSpec.ofChange coreTellsSpec)

/-- ITS FALSE NEIGHBOUR: 'it returns false'. Refute it at one input. -/
def coreTellsWrong : ChangeSpec := { name := "coreTells", fn := fun _ => fun
  | [d1, d2] => { results := [.lit (.bool false)], args := [d1, d2] }
  | _ => none }
def CoreTellsWrongFalsely : Prop := coreTellsRow.holds Try.pinned (OpenSpec.ofChange coreTellsWrong)

/- THE SECOND FORM. 'bulk': how many values and letters a reading holds, each counted each time it is reached (what is shared counts as often as it is met; a slice's spare places count too). A statement '..UptoSaid' is the law's where the arguments, and the package variables that the reading takes, are together of bulk at most 1048576: NARROWER than '..Said'. Prove '..Said' where nothing that the law and all that it calls make is longer than what came in: it says more and counts as full. Else prove '..UptoSaid'. A law counts once. -/
mutual
def uptoBulk {H : Type} : DataW H → Nat
  | .lit (.string bytes) => bytes.length + 1
  | .lit _ => 1
  | .nil => 1
  | .ptr d => uptoBulk d + 1
  | .slice elems spare => uptoBulkAll elems + uptoBulkAll spare + 1
  | .agg parts => uptoBulkAll parts + 1
  | .iface _ d => uptoBulk d + 1
  | .map entries => uptoBulkEntries entries + 1
  | .held _ => 1
def uptoBulkAll {H : Type} : List (DataW H) → Nat
  | [] => 0
  | d :: r => uptoBulk d + uptoBulkAll r
def uptoBulkEntries {H : Type} : List (Lit × DataW H) → Nat
  | [] => 0
  | x :: r => uptoBulkEntry x + uptoBulkEntries r
def uptoBulkEntry {H : Type} : Lit × DataW H → Nat
  | (.string bytes, d) => bytes.length + uptoBulk d + 1
  | (_, d) => uptoBulk d + 1
 end
def uptoSmall : (H : Type) → List (DataW H) → Bool := fun _ ds => decide (uptoBulkAll ds ≤ 1048576)
def OpenSpec.upto (s : _root_.Go.ChangeSpec) : _root_.Go.OpenSpec := { _root_.Go.OpenSpec.ofChange s with cond := some uptoSmall }

/-- 'tropicalaw.CoreChecks', WHERE WHAT IT READS IS OF BULK AT MOST 1048576: true; the input reads as it did. -/
def coreChecksUptoRow : OpenClaim := { program := "ytakpdoodbifkgaa", sum := "cf0441ec7185f97520dfbb6a88131e6613d1ea49d39082d1775de28bb3e22e78", func := "tropica/tropicalaw.CoreChecks", spec := "coreChecks", unfollowed := true, recurses := true, plainKeys := false, apart := false, narrowed := true }
def CoreChecksUptoSaid : Prop := coreChecksUptoRow.holds Try.pinned (OpenSpec.upto coreChecksSpec)

/-- 'tropicalaw.CoreCounts', WHERE WHAT IT READS IS OF BULK AT MOST 1048576: true; the input reads as it did. -/
def coreCountsUptoRow : OpenClaim := { program := "ytakpdoodbifkgaa", sum := "cf0441ec7185f97520dfbb6a88131e6613d1ea49d39082d1775de28bb3e22e78", func := "tropica/tropicalaw.CoreCounts", spec := "coreCounts", unfollowed := true, recurses := true, plainKeys := false, apart := false, narrowed := true }
def CoreCountsUptoSaid : Prop := coreCountsUptoRow.holds Try.pinned (OpenSpec.upto coreCountsSpec)

/-- 'tropicalaw.CoreBits', WHERE WHAT IT READS IS OF BULK AT MOST 1048576: true; the input reads as it did. -/
def coreBitsUptoRow : OpenClaim := { program := "ytakpdoodbifkgaa", sum := "cf0441ec7185f97520dfbb6a88131e6613d1ea49d39082d1775de28bb3e22e78", func := "tropica/tropicalaw.CoreBits", spec := "coreBits", unfollowed := true, recurses := true, plainKeys := false, apart := false, narrowed := true }
def CoreBitsUptoSaid : Prop := coreBitsUptoRow.holds Try.pinned (OpenSpec.upto coreBitsSpec)

/-- 'tropicakeep.CoreTells', WHERE WHAT IT READS IS OF BULK AT MOST 1048576: true; the input reads as it did. -/
def coreTellsUptoRow : OpenClaim := { program := "ytakpdoodbifkgaa", sum := "cf0441ec7185f97520dfbb6a88131e6613d1ea49d39082d1775de28bb3e22e78", func := "tropica/tropicakeep.CoreTells", spec := "coreTells", unfollowed := true, recurses := true, plainKeys := false, apart := false, narrowed := true }
def CoreTellsUptoSaid : Prop := coreTellsUptoRow.holds Try.pinned (OpenSpec.upto coreTellsSpec)

end Rows
end Go.Proofs.Ytakpdoodbifkgaa
