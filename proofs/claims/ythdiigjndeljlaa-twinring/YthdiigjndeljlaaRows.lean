/-
  No cell of these rows narrows 'for every input' (looked for: loops, veiled, ifaces, maps, wideKeys, modest, calm, conditions, laid).
  DERIVED. THE GIVEN ROWS OF THIS SEAT. 6 by the template 'for every input the law returns true; each argument reads behind the call as it read before'; 0 by the template 'total and deterministic' (their statements: YthdiigjndeljlaaTotals.lean).
  GIVEN WITH THE SEED: the statements are not yours to turn. If you find one false, say at which input.
  Laid BY PROGRAM, IN A SANDBOX (cutbox-rows.mjs): the forced cells as the released guide's own fill.sh prints them over the translation ea3342c0d60daae1… (all of the seat's roots in one cut). By AI agents, Wed Nov 11 2026. No macro, syntax, notation, axiom, sorry.
-/
import Derived.Test.YthdiigjndeljlaaChecked
import GoSem.Claim
import GoSem.ClaimJoined
import GoSem.ClaimMapViews
import Derived.JoinedTies
import Derived.KernelRfl
namespace Go.Proofs.Ythdiigjndeljlaa
/- THE CELL 'sum', in the pinned program and in every row, IS THE sha256 OF THE DUMP (.gsa) THAT YthdiigjndeljlaaProg.lean LOADS. Nothing in Lean hashes anything: it is a label: what it is worth is what the hold of that sum in a sandbox is worth. -/
noncomputable def Try.pinned : Pinned := { name := "ythdiigjndeljlaa", sum := "ea3342c0d60daae1015ab7e6c0b98d5961baaed38aea606f9520ab95043f2dff", checked := Try.checked }
namespace Rows
def none {H : Type} : Left H := { results := [], args := [] }

/-- 'tropicalaw.TwinLesses': WHATEVER THE INPUT: true; the input reads as it did. -/
def twinLessesSpec : ChangeSpec := { name := "twinLesses", fn := fun _ => fun
  | [d1, d2] => { results := [.lit (.bool true)], args := [d1, d2] }
  | _ => none }
def twinLessesRow : OpenClaim := { program := "ythdiigjndeljlaa", sum := "ea3342c0d60daae1015ab7e6c0b98d5961baaed38aea606f9520ab95043f2dff", func := "tropica/tropicalaw.TwinLesses", spec := "twinLesses", apart := false }
def TwinLessesSaid : Prop := twinLessesRow.holds Try.pinned (OpenSpec.ofChange twinLessesSpec)

/-- ITS FALSE NEIGHBOUR: 'it returns false'. Refute it at one input. -/
def twinLessesWrong : ChangeSpec := { name := "twinLesses", fn := fun _ => fun
  | [d1, d2] => { results := [.lit (.bool false)], args := [d1, d2] }
  | _ => none }
def TwinLessesWrongFalsely : Prop := twinLessesRow.holds Try.pinned (OpenSpec.ofChange twinLessesWrong)

/-- 'tropicalaw.TwinPluses': WHATEVER THE INPUT: true; the input reads as it did. -/
def twinPlusesSpec : ChangeSpec := { name := "twinPluses", fn := fun _ => fun
  | [d1, d2] => { results := [.lit (.bool true)], args := [d1, d2] }
  | _ => none }
def twinPlusesRow : OpenClaim := { program := "ythdiigjndeljlaa", sum := "ea3342c0d60daae1015ab7e6c0b98d5961baaed38aea606f9520ab95043f2dff", func := "tropica/tropicalaw.TwinPluses", spec := "twinPluses", apart := false }
def TwinPlusesSaid : Prop := twinPlusesRow.holds Try.pinned (OpenSpec.ofChange twinPlusesSpec)

/-- ITS FALSE NEIGHBOUR: 'it returns false'. Refute it at one input. -/
def twinPlusesWrong : ChangeSpec := { name := "twinPluses", fn := fun _ => fun
  | [d1, d2] => { results := [.lit (.bool false)], args := [d1, d2] }
  | _ => none }
def TwinPlusesWrongFalsely : Prop := twinPlusesRow.holds Try.pinned (OpenSpec.ofChange twinPlusesWrong)

/-- 'tropicalaw.TwinTimes': WHATEVER THE INPUT: true; the input reads as it did. -/
def twinTimesSpec : ChangeSpec := { name := "twinTimes", fn := fun _ => fun
  | [d1, d2] => { results := [.lit (.bool true)], args := [d1, d2] }
  | _ => none }
def twinTimesRow : OpenClaim := { program := "ythdiigjndeljlaa", sum := "ea3342c0d60daae1015ab7e6c0b98d5961baaed38aea606f9520ab95043f2dff", func := "tropica/tropicalaw.TwinTimes", spec := "twinTimes", apart := false }
def TwinTimesSaid : Prop := twinTimesRow.holds Try.pinned (OpenSpec.ofChange twinTimesSpec)

/-- ITS FALSE NEIGHBOUR: 'it returns false'. Refute it at one input. -/
def twinTimesWrong : ChangeSpec := { name := "twinTimes", fn := fun _ => fun
  | [d1, d2] => { results := [.lit (.bool false)], args := [d1, d2] }
  | _ => none }
def TwinTimesWrongFalsely : Prop := twinTimesRow.holds Try.pinned (OpenSpec.ofChange twinTimesWrong)

/-- 'tropicalaw.TwinPowers': WHATEVER THE INPUT: true; the input reads as it did. -/
def twinPowersSpec : ChangeSpec := { name := "twinPowers", fn := fun _ => fun
  | [d1, d2] => { results := [.lit (.bool true)], args := [d1, d2] }
  | _ => none }
def twinPowersRow : OpenClaim := { program := "ythdiigjndeljlaa", sum := "ea3342c0d60daae1015ab7e6c0b98d5961baaed38aea606f9520ab95043f2dff", func := "tropica/tropicalaw.TwinPowers", spec := "twinPowers", unfollowed := true, recurses := true, apart := false }
def TwinPowersSaid : Prop := twinPowersRow.holds Try.pinned (OpenSpec.ofChange twinPowersSpec)

/-- ITS FALSE NEIGHBOUR: 'it returns false'. Refute it at one input. -/
def twinPowersWrong : ChangeSpec := { name := "twinPowers", fn := fun _ => fun
  | [d1, d2] => { results := [.lit (.bool false)], args := [d1, d2] }
  | _ => none }
def TwinPowersWrongFalsely : Prop := twinPowersRow.holds Try.pinned (OpenSpec.ofChange twinPowersWrong)

/-- 'tropicakeep.TwinRing': WHATEVER THE INPUT: true; the input reads as it did. -/
def twinRingSpec : ChangeSpec := { name := "twinRing", fn := fun _ => fun
  | [d] => { results := [.lit (.bool true)], args := [d] }
  | _ => none }
def twinRingRow : OpenClaim := { program := "ythdiigjndeljlaa", sum := "ea3342c0d60daae1015ab7e6c0b98d5961baaed38aea606f9520ab95043f2dff", func := "tropica/tropicakeep.TwinRing", spec := "twinRing", apart := false }
def TwinRingSaid : Prop := twinRingRow.holds Try.pinned (OpenSpec.ofChange twinRingSpec)

/-- ITS FALSE NEIGHBOUR: 'it returns false'. Refute it at one input. -/
def twinRingWrong : ChangeSpec := { name := "twinRing", fn := fun _ => fun
  | [d] => { results := [.lit (.bool false)], args := [d] }
  | _ => none }
def TwinRingWrongFalsely : Prop := twinRingRow.holds Try.pinned (OpenSpec.ofChange twinRingWrong)

/-- 'tropicakeep.TwinOrder': WHATEVER THE INPUT: true; the input reads as it did. -/
def twinOrderSpec : ChangeSpec := { name := "twinOrder", fn := fun _ => fun
  | [d1, d2, d3] => { results := [.lit (.bool true)], args := [d1, d2, d3] }
  | _ => none }
def twinOrderRow : OpenClaim := { program := "ythdiigjndeljlaa", sum := "ea3342c0d60daae1015ab7e6c0b98d5961baaed38aea606f9520ab95043f2dff", func := "tropica/tropicakeep.TwinOrder", spec := "twinOrder", apart := false }
def TwinOrderSaid : Prop := twinOrderRow.holds Try.pinned (OpenSpec.ofChange twinOrderSpec)

/-- ITS FALSE NEIGHBOUR: 'it returns false'. Refute it at one input. -/
def twinOrderWrong : ChangeSpec := { name := "twinOrder", fn := fun _ => fun
  | [d1, d2, d3] => { results := [.lit (.bool false)], args := [d1, d2, d3] }
  | _ => none }
def TwinOrderWrongFalsely : Prop := twinOrderRow.holds Try.pinned (OpenSpec.ofChange twinOrderWrong)

/- THE SECOND FORM. 'bulk': how many values and letters a reading holds, each counted each time it is reached (what is shared counts as often as it is met; a slice's spare places count too). A statement '..UptoSaid' is the law's where the arguments, and the package variables that the reading takes, are together of bulk at most 1048576: NARROWER than '..Said'. Prove '..Said' where nothing that the law and all that it calls make is longer than what came in: it says more and counts as full. Else prove '..UptoSaid'. A law counts once. -/
mutual
def uptoBulk {H : Type} : DataW H → Nat
  | .lit (.string bytes) => bytes.length + 1
  | .lit _ => 1
  | .nil => 1
  | .ptr d => uptoBulk d + 1
  | .slice elems spare => uptoBulkAll elems + uptoBulkAll spare + 1
  | .agg parts => uptoBulkAll parts + 1
  | .iface _ d => uptoBulk d + 1
  | .map entries => uptoBulkEntries entries + 1
  | .held _ => 1
def uptoBulkAll {H : Type} : List (DataW H) → Nat
  | [] => 0
  | d :: r => uptoBulk d + uptoBulkAll r
def uptoBulkEntries {H : Type} : List (Lit × DataW H) → Nat
  | [] => 0
  | x :: r => uptoBulkEntry x + uptoBulkEntries r
def uptoBulkEntry {H : Type} : Lit × DataW H → Nat
  | (.string bytes, d) => bytes.length + uptoBulk d + 1
  | (_, d) => uptoBulk d + 1
 end
def uptoSmall : (H : Type) → List (DataW H) → Bool := fun _ ds => decide (uptoBulkAll ds ≤ 1048576)
def OpenSpec.upto (s : _root_.Go.ChangeSpec) : _root_.Go.OpenSpec := { _root_.Go.OpenSpec.ofChange s with cond := some uptoSmall }

/-- 'tropicalaw.TwinLesses', WHERE WHAT IT READS IS OF BULK AT MOST 1048576: true; the input reads as it did. -/
def twinLessesUptoRow : OpenClaim := { program := "ythdiigjndeljlaa", sum := "ea3342c0d60daae1015ab7e6c0b98d5961baaed38aea606f9520ab95043f2dff", func := "tropica/tropicalaw.TwinLesses", spec := "twinLesses", apart := false, narrowed := true }
def TwinLessesUptoSaid : Prop := twinLessesUptoRow.holds Try.pinned (OpenSpec.upto twinLessesSpec)

/-- 'tropicalaw.TwinPluses', WHERE WHAT IT READS IS OF BULK AT MOST 1048576: true; the input reads as it did. -/
def twinPlusesUptoRow : OpenClaim := { program := "ythdiigjndeljlaa", sum := "ea3342c0d60daae1015ab7e6c0b98d5961baaed38aea606f9520ab95043f2dff", func := "tropica/tropicalaw.TwinPluses", spec := "twinPluses", apart := false, narrowed := true }
def TwinPlusesUptoSaid : Prop := twinPlusesUptoRow.holds Try.pinned (OpenSpec.upto twinPlusesSpec)

/-- 'tropicalaw.TwinTimes', WHERE WHAT IT READS IS OF BULK AT MOST 1048576: true; the input reads as it did. -/
def twinTimesUptoRow : OpenClaim := { program := "ythdiigjndeljlaa", sum := "ea3342c0d60daae1015ab7e6c0b98d5961baaed38aea606f9520ab95043f2dff", func := "tropica/tropicalaw.TwinTimes", spec := "twinTimes", apart := false, narrowed := true }
def TwinTimesUptoSaid : Prop := twinTimesUptoRow.holds Try.pinned (OpenSpec.upto twinTimesSpec)

/-- 'tropicalaw.TwinPowers', WHERE WHAT IT READS IS OF BULK AT MOST 1048576: true; the input reads as it did. -/
def twinPowersUptoRow : OpenClaim := { program := "ythdiigjndeljlaa", sum := "ea3342c0d60daae1015ab7e6c0b98d5961baaed38aea606f9520ab95043f2dff", func := "tropica/tropicalaw.TwinPowers", spec := "twinPowers", unfollowed := true, recurses := true, apart := false, narrowed := true }
def TwinPowersUptoSaid : Prop := twinPowersUptoRow.holds Try.pinned (OpenSpec.upto twinPowersSpec)

/-- 'tropicakeep.TwinRing', WHERE WHAT IT READS IS OF BULK AT MOST 1048576: true; the input reads as it did. -/
def twinRingUptoRow : OpenClaim := { program := "ythdiigjndeljlaa", sum := "ea3342c0d60daae1015ab7e6c0b98d5961baaed38aea606f9520ab95043f2dff", func := "tropica/tropicakeep.TwinRing", spec := "twinRing", apart := false, narrowed := true }
def TwinRingUptoSaid : Prop := twinRingUptoRow.holds Try.pinned (OpenSpec.upto twinRingSpec)

/-- 'tropicakeep.TwinOrder', WHERE WHAT IT READS IS OF BULK AT MOST 1048576: true; the input reads as it did. -/
def twinOrderUptoRow : OpenClaim := { program := "ythdiigjndeljlaa", sum := "ea3342c0d60daae1015ab7e6c0b98d5961baaed38aea606f9520ab95043f2dff", func := "tropica/tropicakeep.TwinOrder", spec := "twinOrder", apart := false, narrowed := true }
def TwinOrderUptoSaid : Prop := twinOrderUptoRow.holds Try.pinned (OpenSpec.upto twinOrderSpec)

end Rows
end Go.Proofs.Ythdiigjndeljlaa
