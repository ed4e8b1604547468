/- The reference: what is wrong with a word, where a label leads in it, a cost as an answer. -/
import Derived.Test.YtfekmlblldhieaaDoorJ17j
import Derived.Test.YtfekmlblldhieaaDoorMcR
import Derived.Test.YtfekmlblldhieaaDoorRn
import Derived.Test.YtfekmlblldhieaaDoorJ17a
namespace Go.Proofs.YtfekmlblldhieaaDoor.Wt
open Go.ChangeShapes Go.WideShapes Go.ChangeAt Go.RowKit
open Go.Proofs.YtfekmlblldhieaaDoor.Pl
set_option linter.unusedVariables false
set_option linter.unusedSimpArgs false
theorem told_ans (b : Int) (w : World) :
    Calls Tryd.prog 18 #[.int .i64 b] w fun e w' => e = .returned (.tuple #[.int .i64 (if b = noneI then 1000000001 else if 1000000000 < b then 0 else b), .int .i64 (if b = noneI then 0 else if 1000000000 < b then 4 else 0)]) ∧ w = w' := by
  by_cases h : b = noneI
  · have h' : (b == 1152921504606846976) = true := by simpa [noneI] using h
    rw [if_pos h, if_pos h]
    clear h
    go_enter Tryd.func18, Tryd.ntmps18
    go_wp2
    go_ret2
    exact ⟨rfl, rfl⟩
  · have h' : (b == 1152921504606846976) = false := by simpa [noneI] using h
    rw [if_neg h, if_neg h]
    clear h
    by_cases g : 1000000000 < b
    · rw [if_pos g, if_pos g]
      go_enter Tryd.func18, Tryd.ntmps18
      go_wp2
      go_ret2
      exact ⟨rfl, rfl⟩
    · rw [if_neg g, if_neg g]
      go_enter Tryd.func18, Tryd.ntmps18
      go_wp2
      go_ret2
      exact ⟨rfl, rfl⟩
end Go.Proofs.YtfekmlblldhieaaDoor.Wt
