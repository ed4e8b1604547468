/- What the keeping statements' pair answers: two raw numbers as a twin that may be, a third of the greatest at most. -/
import Derived.Test.YthdiigjndeljlaaTw
import Derived.Test.YthdiigjndeljlaaKq
namespace Go.Proofs.Ythdiigjndeljlaa.Wt
open Go.ChangeShapes Go.WideShapes Go.ChangeAt Go.RowKit
open Go.Proofs.Ythdiigjndeljlaa.Pl
set_option linter.unusedVariables false

def pairI (a b : Int) : Int × Int := if pk a 9 = 8 then (1000000001, 1000000001) else (pk a 333333333, pk b 333333333)
theorem pair_of (a b p q : Int) (w : World) (ha : (Lit.int .i64 a).wf = true) (hb : (Lit.int .i64 b).wf = true) (h : pairI a b = (p, q)) :
    Calls Try.prog 17 #[.int .i64 a, .int .i64 b] w fun e w' => e = .returned (.agg #[.int .i64 p, .int .i64 q]) ∧ Below w.heap.size w w' := by
  have HA : Hid ((Lit.int .i64 a).wf = true) := ha
  have HB : Hid ((Lit.int .i64 b).wf = true) := hb
  clear ha hb
  unfold pairI at h
  rcases bool_cases (pk a 9 == 8) with g | g
  · rw [if_pos (by simpa using g)] at h
    obtain ⟨rfl, rfl⟩ := Prod.mk.inj h
    clear h
    go_enter Try.func17, Try.ntmps17
    go_wp2_with (first | (go_at_call 27; refine (picked_any _ _ _ ?_ (by omega) (by omega)).mono ?_; (first | with_reducible exact HA.out | with_reducible exact HB.out); rintro e w' ⟨rfl, rfl⟩))
    all_goals
      go_returns
      exact ⟨rfl, by go_grown⟩
  · rw [if_neg (by simpa using g)] at h
    obtain ⟨rfl, rfl⟩ := Prod.mk.inj h
    clear h
    go_enter Try.func17, Try.ntmps17
    go_wp2_with (first | (go_at_call 27; refine (picked_any _ _ _ ?_ (by omega) (by omega)).mono ?_; (first | with_reducible exact HA.out | with_reducible exact HB.out); rintro e w' ⟨rfl, rfl⟩))
    all_goals
      go_returns
      exact ⟨rfl, by go_grown⟩
end Go.Proofs.Ythdiigjndeljlaa.Wt
