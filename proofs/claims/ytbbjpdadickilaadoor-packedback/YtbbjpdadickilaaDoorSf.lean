/- A weight as a text. -/
import Derived.Test.YtbbjpdadickilaaDoorPlain
import Derived.WalkKit
import Derived.ProofKit
import Derived.Lib.ItoaNum
namespace Go.Proofs.YtbbjpdadickilaaDoor.Wt
open Go.ChangeShapes Go.WideShapes Go.ChangeAt Go.RowKit
open Go.Proofs.YtbbjpdadickilaaDoor.Pl
set_option linter.unusedVariables false
def showR (n : Int) : ByteArray × Int := if wtB n = true then ((if n = 1000000001 then ⟨#[105, 110, 102]⟩ else ⟨(Lib.itoa n).toArray⟩), 0) else (⟨#[]⟩, 2)
theorem showR_bad {n : Int} (h : wtB n = false) : showR n = (⟨#[]⟩, 2) := by unfold showR; rw [if_neg (by rw [h]; simp)]
theorem showR_inf : showR 1000000001 = (⟨#[105, 110, 102]⟩, 0) := by unfold showR; rw [if_pos (by decide), if_pos rfl]
theorem showR_num {n : Int} (h : wtB n = true) (g : ¬ n = 1000000001) : showR n = (⟨(Lib.itoa n).toArray⟩, 0) := by unfold showR; rw [if_pos h, if_neg g]
theorem ret_sp {k : IntKind} {s : ByteArray} {a : Int} {p : ByteArray × Int} (h : p = (s, a)) : Ending.returned (.tuple #[.string s, .int k a]) = .returned (.tuple #[.string p.1, .int k p.2]) := by rw [h]
end Go.Proofs.YtbbjpdadickilaaDoor.Wt
