/-
  No cell of these rows narrows 'for every input' (looked for: loops, veiled, ifaces, maps, wideKeys, modest, calm, conditions, laid).
  DERIVED. THE GIVEN ROWS OF THIS SEAT. 5 by the template 'for every input the law returns true; each argument reads behind the call as it read before'; 0 by the template 'total and deterministic' (their statements: YtfkiiedbcjbkiaaTotals.lean).
  GIVEN WITH THE SEED: the statements are not yours to turn. If you find one false, say at which input.
  Laid BY PROGRAM, IN A SANDBOX (cutbox-rows.mjs): the forced cells as the released guide's own fill.sh prints them over the translation 2a6f4170d7779d84… (all of the seat's roots in one cut). By AI agents, Wed Nov 11 2026. No macro, syntax, notation, axiom, sorry.
-/
import Derived.Test.YtfkiiedbcjbkiaaChecked
import GoSem.Claim
import GoSem.ClaimJoined
import GoSem.ClaimMapViews
import Derived.JoinedTies
import Derived.KernelRfl
namespace Go.Proofs.Ytfkiiedbcjbkiaa
/- THE CELL 'sum', in the pinned program and in every row, IS THE sha256 OF THE DUMP (.gsa) THAT YtfkiiedbcjbkiaaProg.lean LOADS. Nothing in Lean hashes anything: it is a label: what it is worth is what the hold of that sum in a sandbox is worth. -/
noncomputable def Try.pinned : Pinned := { name := "ytfkiiedbcjbkiaa", sum := "2a6f4170d7779d84c9a5d79c6bf8035e901ed8d4b45182439b110167cf551c4d", checked := Try.checked }
namespace Rows
def none {H : Type} : Left H := { results := [], args := [] }

/-- 'tropicalaw.ReachAheads': WHATEVER THE INPUT: true; the input reads as it did. -/
def reachAheadsSpec : ChangeSpec := { name := "reachAheads", fn := fun _ => fun
  | [d] => { results := [.lit (.bool true)], args := [d] }
  | _ => none }
def reachAheadsRow : OpenClaim := { program := "ytfkiiedbcjbkiaa", sum := "2a6f4170d7779d84c9a5d79c6bf8035e901ed8d4b45182439b110167cf551c4d", func := "tropica/tropicalaw.ReachAheads", spec := "reachAheads", unfollowed := true, recurses := true, apart := false }
def ReachAheadsSaid : Prop := reachAheadsRow.holds Try.pinned (OpenSpec.ofChange reachAheadsSpec)

/-- ITS FALSE NEIGHBOUR: 'it returns false'. Refute it at one input. -/
def reachAheadsWrong : ChangeSpec := { name := "reachAheads", fn := fun _ => fun
  | [d] => { results := [.lit (.bool false)], args := [d] }
  | _ => none }
def ReachAheadsWrongFalsely : Prop := reachAheadsRow.holds Try.pinned (OpenSpec.ofChange reachAheadsWrong)

/-- 'tropicalaw.ReachBacks': WHATEVER THE INPUT: true; the input reads as it did. -/
def reachBacksSpec : ChangeSpec := { name := "reachBacks", fn := fun _ => fun
  | [d] => { results := [.lit (.bool true)], args := [d] }
  | _ => none }
def reachBacksRow : OpenClaim := { program := "ytfkiiedbcjbkiaa", sum := "2a6f4170d7779d84c9a5d79c6bf8035e901ed8d4b45182439b110167cf551c4d", func := "tropica/tropicalaw.ReachBacks", spec := "reachBacks", unfollowed := true, recurses := true, apart := false }
def ReachBacksSaid : Prop := reachBacksRow.holds Try.pinned (OpenSpec.ofChange reachBacksSpec)

/-- ITS FALSE NEIGHBOUR: 'it returns false'. Refute it at one input. -/
def reachBacksWrong : ChangeSpec := { name := "reachBacks", fn := fun _ => fun
  | [d] => { results := [.lit (.bool false)], args := [d] }
  | _ => none }
def ReachBacksWrongFalsely : Prop := reachBacksRow.holds Try.pinned (OpenSpec.ofChange reachBacksWrong)

/-- 'tropicalaw.ReachTrims': WHATEVER THE INPUT: true; the input reads as it did. -/
def reachTrimsSpec : ChangeSpec := { name := "reachTrims", fn := fun _ => fun
  | [d] => { results := [.lit (.bool true)], args := [d] }
  | _ => none }
def reachTrimsRow : OpenClaim := { program := "ytfkiiedbcjbkiaa", sum := "2a6f4170d7779d84c9a5d79c6bf8035e901ed8d4b45182439b110167cf551c4d", func := "tropica/tropicalaw.ReachTrims", spec := "reachTrims", unfollowed := true, recurses := true, apart := false }
def ReachTrimsSaid : Prop := reachTrimsRow.holds Try.pinned (OpenSpec.ofChange reachTrimsSpec)

/-- ITS FALSE NEIGHBOUR: 'it returns false'. Refute it at one input. -/
def reachTrimsWrong : ChangeSpec := { name := "reachTrims", fn := fun _ => fun
  | [d] => { results := [.lit (.bool false)], args := [d] }
  | _ => none }
def ReachTrimsWrongFalsely : Prop := reachTrimsRow.holds Try.pinned (OpenSpec.ofChange reachTrimsWrong)

/-- 'tropicakeep.TrimAll': WHATEVER THE INPUT: true; the input reads as it did. -/
def trimAllSpec : ChangeSpec := { name := "trimAll", fn := fun _ => fun
  | [d] => { results := [.lit (.bool true)], args := [d] }
  | _ => none }
def trimAllRow : OpenClaim := { program := "ytfkiiedbcjbkiaa", sum := "2a6f4170d7779d84c9a5d79c6bf8035e901ed8d4b45182439b110167cf551c4d", func := "tropica/tropicakeep.TrimAll", spec := "trimAll", unfollowed := true, recurses := true, apart := false }
def TrimAllSaid : Prop := trimAllRow.holds Try.pinned (OpenSpec.ofChange trimAllSpec)

/-- ITS FALSE NEIGHBOUR: 'it returns false'. Refute it at one input. -/
def trimAllWrong : ChangeSpec := { name := "trimAll", fn := fun _ => fun
  | [d] => { results := [.lit (.bool false)], args := [d] }
  | _ => none }
def TrimAllWrongFalsely : Prop := trimAllRow.holds Try.pinned (OpenSpec.ofChange trimAllWrong)

/-- 'tropicakeep.TrimDrops': WHATEVER THE INPUT: true; the input reads as it did. -/
def trimDropsSpec : ChangeSpec := { name := "trimDrops", fn := fun _ => fun
  | [d] => { results := [.lit (.bool true)], args := [d] }
  | _ => none }
def trimDropsRow : OpenClaim := { program := "ytfkiiedbcjbkiaa", sum := "2a6f4170d7779d84c9a5d79c6bf8035e901ed8d4b45182439b110167cf551c4d", func := "tropica/tropicakeep.TrimDrops", spec := "trimDrops", unfollowed := true, recurses := true, apart := false }
def TrimDropsSaid : Prop := trimDropsRow.holds Try.pinned (OpenSpec.ofChange trimDropsSpec)

/-- ITS FALSE NEIGHBOUR: 'it returns false'. Refute it at one input. -/
def trimDropsWrong : ChangeSpec := { name := "trimDrops", fn := fun _ => fun
  | [d] => { results := [.lit (.bool false)], args := [d] }
  | _ => none }
def TrimDropsWrongFalsely : Prop := trimDropsRow.holds Try.pinned (OpenSpec.ofChange trimDropsWrong)

/- THE SECOND FORM. 'bulk': how many values and letters a reading holds, each counted each time it is reached (what is shared counts as often as it is met; a slice's spare places count too). A statement '..UptoSaid' is the law's where the arguments, and the package variables that the reading takes, are together of bulk at most 1048576: NARROWER than '..Said'. Prove '..Said' where nothing that the law and all that it calls make is longer than what came in: it says more and counts as full. Else prove '..UptoSaid'. A law counts once. -/
mutual
def uptoBulk {H : Type} : DataW H → Nat
  | .lit (.string bytes) => bytes.length + 1
  | .lit _ => 1
  | .nil => 1
  | .ptr d => uptoBulk d + 1
  | .slice elems spare => uptoBulkAll elems + uptoBulkAll spare + 1
  | .agg parts => uptoBulkAll parts + 1
  | .iface _ d => uptoBulk d + 1
  | .map entries => uptoBulkEntries entries + 1
  | .held _ => 1
def uptoBulkAll {H : Type} : List (DataW H) → Nat
  | [] => 0
  | d :: r => uptoBulk d + uptoBulkAll r
def uptoBulkEntries {H : Type} : List (Lit × DataW H) → Nat
  | [] => 0
  | x :: r => uptoBulkEntry x + uptoBulkEntries r
def uptoBulkEntry {H : Type} : Lit × DataW H → Nat
  | (.string bytes, d) => bytes.length + uptoBulk d + 1
  | (_, d) => uptoBulk d + 1
 end
def uptoSmall : (H : Type) → List (DataW H) → Bool := fun _ ds => decide (uptoBulkAll ds ≤ 1048576)
def OpenSpec.upto (s : _root_.Go.ChangeSpec) : _root_.Go.OpenSpec := { _root_.Go.OpenSpec.ofChange s with cond := some uptoSmall }

/-- 'tropicalaw.ReachAheads', WHERE WHAT IT READS IS OF BULK AT MOST 1048576: true; the input reads as it did. -/
def reachAheadsUptoRow : OpenClaim := { program := "ytfkiiedbcjbkiaa", sum := "2a6f4170d7779d84c9a5d79c6bf8035e901ed8d4b45182439b110167cf551c4d", func := "tropica/tropicalaw.ReachAheads", spec := "reachAheads", unfollowed := true, recurses := true, apart := false, narrowed := true }
def ReachAheadsUptoSaid : Prop := reachAheadsUptoRow.holds Try.pinned (OpenSpec.upto reachAheadsSpec)

/-- 'tropicalaw.ReachBacks', WHERE WHAT IT READS IS OF BULK AT MOST 1048576: true; the input reads as it did. -/
def reachBacksUptoRow : OpenClaim := { program := "ytfkiiedbcjbkiaa", sum := "2a6f4170d7779d84c9a5d79c6bf8035e901ed8d4b45182439b110167cf551c4d", func := "tropica/tropicalaw.ReachBacks", spec := "reachBacks", unfollowed := true, recurses := true, apart := false, narrowed := true }
def ReachBacksUptoSaid : Prop := reachBacksUptoRow.holds Try.pinned (OpenSpec.upto reachBacksSpec)

/-- 'tropicalaw.ReachTrims', WHERE WHAT IT READS IS OF BULK AT MOST 1048576: true; the input reads as it did. -/
def reachTrimsUptoRow : OpenClaim := { program := "ytfkiiedbcjbkiaa", sum := "2a6f4170d7779d84c9a5d79c6bf8035e901ed8d4b45182439b110167cf551c4d", func := "tropica/tropicalaw.ReachTrims", spec := "reachTrims", unfollowed := true, recurses := true, apart := false, narrowed := true }
def ReachTrimsUptoSaid : Prop := reachTrimsUptoRow.holds Try.pinned (OpenSpec.upto reachTrimsSpec)

/-- 'tropicakeep.TrimAll', WHERE WHAT IT READS IS OF BULK AT MOST 1048576: true; the input reads as it did. -/
def trimAllUptoRow : OpenClaim := { program := "ytfkiiedbcjbkiaa", sum := "2a6f4170d7779d84c9a5d79c6bf8035e901ed8d4b45182439b110167cf551c4d", func := "tropica/tropicakeep.TrimAll", spec := "trimAll", unfollowed := true, recurses := true, apart := false, narrowed := true }
def TrimAllUptoSaid : Prop := trimAllUptoRow.holds Try.pinned (OpenSpec.upto trimAllSpec)

/-- 'tropicakeep.TrimDrops', WHERE WHAT IT READS IS OF BULK AT MOST 1048576: true; the input reads as it did. -/
def trimDropsUptoRow : OpenClaim := { program := "ytfkiiedbcjbkiaa", sum := "2a6f4170d7779d84c9a5d79c6bf8035e901ed8d4b45182439b110167cf551c4d", func := "tropica/tropicakeep.TrimDrops", spec := "trimDrops", unfollowed := true, recurses := true, apart := false, narrowed := true }
def TrimDropsUptoSaid : Prop := trimDropsUptoRow.holds Try.pinned (OpenSpec.upto trimDropsSpec)

end Rows
end Go.Proofs.Ytfkiiedbcjbkiaa
