/- The reference: a hop. -/
import Derived.Test.YtfajkomajbhphaaRf
namespace Go.Proofs.Ytfajkomajbhphaa.Wt
open Go.ChangeShapes Go.WideShapes Go.ChangeAt Go.RowKit
open Go.Proofs.Ytfajkomajbhphaa.Pl
set_option linter.unusedVariables false
set_option linter.unusedSimpArgs false
set_option maxRecDepth 100000 in
theorem hops_any (z d x : Int) (w : World) (hz : -1 ≤ z ∧ z ≤ 60) (hd : 0 ≤ d ∧ d ≤ 61) :
    Calls Try.prog 28 #[.int .i64 z, .int .i64 d, .int .i64 x] w fun e w' => ∃ v, e = .returned v ∧ OwnArcs w' w.heap.size v (hopA z d x) ∧ Below w.heap.size w w' := by
  by_cases h : z < 0
  · have HH : Hid (hopA z d x = []) := by show _ = _; unfold hopA; rw [if_pos h]
    go_enter Try.func28, Try.ntmps28
    go_wp2
    go_ret
    exact ⟨_, rfl, by rw [HH.out]; exact OwnArcs.nil _ _, Below.refl _ _⟩
  · have HH : Hid (hopA z d x = [(0, 0, x, z + d)]) := by show _ = _; unfold hopA; rw [if_neg h]
    have hw : IntKind.i64.wrap (z + d) = z + d := wrapI (by omega) (by omega)
    go_enter Try.func28, Try.ntmps28
    go_wp2
    go_ret
    exact ⟨_, rfl, by rw [HH.out]; exact OwnArcs.made w (0, 0, x, z + d), (Below.refl _ _).alloc (Nat.le_refl _) _⟩
end Go.Proofs.Ytfajkomajbhphaa.Wt
