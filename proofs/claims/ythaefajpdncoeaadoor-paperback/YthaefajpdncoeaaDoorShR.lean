/- What the reference's WeightShown answers, at every number. -/
import Derived.Test.YthaefajpdncoeaaDoorSf
import Derived.Test.YthaefajpdncoeaaDoorWi
import Derived.Test.YthaefajpdncoeaaDoorDec
namespace Go.Proofs.YthaefajpdncoeaaDoor.Wt
open Go.ChangeShapes Go.WideShapes Go.ChangeAt Go.RowKit
open Go.Proofs.YthaefajpdncoeaaDoor.Pl
set_option linter.unusedVariables false

theorem weightShown_any (n : Int) (w : World) :
    Calls Tryd.prog 21 #[.int .i64 n] w fun e w' => e = .returned (.tuple #[.string (showR n).1, .int .i64 (showR n).2]) ∧ Below w.heap.size w w' := by
  rcases bool_cases (wtB n) with h | h
  · by_cases g : n = 1000000001
    · subst g
      have HQ : Hid (showR 1000000001 = (⟨#[105, 110, 102]⟩, 0)) := showR_inf
      have HH : Hid (wtB 1000000001 = true) := h
      clear h
      go_enter Tryd.func21, Tryd.ntmps21
      go_wp2_with (first | (go_at_call 37; refine (isWeight_of _ true _ HH.out).mono ?_; rintro e w' ⟨rfl, rfl⟩))
      go_ret2
      exact ⟨ret_sp HQ.out, Below.refl _ _⟩
    · have HQ : Hid (showR n = (⟨(Lib.itoa n).toArray⟩, 0)) := showR_num h g
      have HH : Hid (wtB n = true) := h
      have hb := wtB_true.1 h
      have hg : (n == 1000000001) = false := by simpa using g
      have hb2 : 0 ≤ n ∧ n ≤ 1000000000 := by omega
      clear h g hb
      generalize hs : (⟨(Lib.itoa n).toArray⟩ : ByteArray) = s at HQ
      have HS : Hid ((⟨(Lib.itoa n).toArray⟩ : ByteArray) = s) := hs
      clear hs
      go_enter Tryd.func21, Tryd.ntmps21
      go_wp2_with (first | (go_at_call 37; refine (isWeight_of _ true _ HH.out).mono ?_; rintro e w' ⟨rfl, rfl⟩) | (go_at_call 20; refine (dec_any _ _ (by omega) (by omega) s HS.out).mono ?_; rintro e w' ⟨rfl, hb⟩))
      go_ret2
      exact ⟨ret_sp HQ.out, hb⟩
  · have HQ : Hid (showR n = (⟨#[]⟩, 2)) := showR_bad h
    have HH : Hid (wtB n = false) := h
    clear h
    go_enter Tryd.func21, Tryd.ntmps21
    go_wp2_with (first | (go_at_call 37; refine (isWeight_of _ false _ HH.out).mono ?_; rintro e w' ⟨rfl, rfl⟩))
    go_ret2
    exact ⟨ret_sp HQ.out, Below.refl _ _⟩
end Go.Proofs.YthaefajpdncoeaaDoor.Wt
