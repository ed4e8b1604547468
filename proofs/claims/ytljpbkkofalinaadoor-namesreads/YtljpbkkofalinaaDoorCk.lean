/- What Check answers. -/
import Derived.Test.YtljpbkkofalinaaDoorIz
namespace Go.Proofs.YtljpbkkofalinaaDoor.Wt
open Go.ChangeShapes Go.WideShapes Go.ChangeAt Go.RowKit Go.Maps
open Go.Proofs.YtljpbkkofalinaaDoor.Pl
set_option linter.unusedVariables false
theorem check_any (v : Value) (ns : List Nm) (w : World) (hN : Nms w v ns) (hm : ns.length ≤ maxLen) (r : Int) (hr : faultR ns = r) :
    Calls Tryd.prog 13 #[v] w fun e w' => e = .returned (.int .i64 r) ∧ Below w.heap.size w w' := by
  have HN : Hid (Nms w v ns) := hN
  clear hN
  by_cases h0 : r = 0
  · subst h0
    go_enter Tryd.func13, Tryd.ntmps13
    go_wp2_with (first | (go_at_call 25; (with_reducible refine (indexed_ok _ ns _ HN.out hm hr).mono ?_); rintro e w' ⟨b, rfl, hI⟩))
    go_ret
    exact ⟨rfl, hI.1⟩
  · go_enter Tryd.func13, Tryd.ntmps13
    go_wp2_with (first | (go_at_call 25; (with_reducible refine (indexed_bad _ ns _ HN.out hm _ hr h0).mono ?_); rintro e w' ⟨rfl, hI⟩))
    go_ret
    exact ⟨rfl, hI⟩
end Go.Proofs.YtljpbkkofalinaaDoor.Wt
