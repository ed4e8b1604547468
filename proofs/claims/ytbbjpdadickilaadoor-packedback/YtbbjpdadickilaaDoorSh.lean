/- What the program's Show answers, at every number (where the table of powers of ten that the standard library reads is as its text lays it). -/
import Derived.Test.YtbbjpdadickilaaDoorWa
import Derived.Test.YtbbjpdadickilaaDoorSf
import Derived.Test.YtbbjpdadickilaaDoorShelf
import Derived.Test.YtbbjpdadickilaaDoorTa
import Derived.Lib.LaidTab
import Derived.WalkSpells
import Derived.WalkLawsBesides
namespace Go.Proofs.YtbbjpdadickilaaDoor.Wt
open Go.ChangeShapes Go.WideShapes Go.ChangeAt Go.RowKit
open Go.Proofs.YtbbjpdadickilaaDoor.Pl
set_option linter.unusedVariables false

theorem show_any (n : Int) (w : World) (ht : Tab w) :
    Calls Tryd.prog 32 #[.int .i64 n] w fun e w' => e = .returned (.tuple #[.string (showR n).1, .int .i64 (showR n).2]) ∧ Below w.heap.size w w' := by
  have HT : Hid (Tab w) := ht
  clear ht
  rcases bool_cases (wtB n) with h | h
  · by_cases g : n = 1000000001
    · subst g
      have HQ := showR_inf
      have HQ' : Hid (showR 1000000001 = (⟨#[105, 110, 102]⟩, 0)) := HQ
      have HH : Hid (wtB 1000000001 = true) := h
      clear HQ h
      go_enter Tryd.func32, Tryd.ntmps32
      go_wp2_with (first | (go_at_call 40; refine (are_one _ true _ _ _ (by simp) HH.out).mono ?_; rintro e w' ⟨rfl, rfl⟩))
      go_ret2
      exact ⟨ret_sp HQ'.out, (Below.refl _ _).alloc (Nat.le_refl _) _⟩
    · have HQ : Hid (showR n = (⟨(Lib.itoa n).toArray⟩, 0)) := showR_num h g
      have HH : Hid (wtB n = true) := h
      have hb := wtB_true.1 h
      have hg : (n == 1000000001) = false := by simpa using g
      have hb2 : 0 ≤ n ∧ n ≤ 1000000000 := by omega
      clear h g hb
      generalize hs : (⟨(Lib.itoa n).toArray⟩ : ByteArray) = s at HQ
      have HS : Hid ((⟨(Lib.itoa n).toArray⟩ : ByteArray) = s) := hs
      clear hs
      go_enter Tryd.func32, Tryd.ntmps32
      go_wp2_with (first | (go_at_call 40; refine (are_one _ true _ _ _ (by simp) HH.out).mono ?_; rintro e w' ⟨rfl, rfl⟩) | (go_at_call 31; refine (Tryd.strconv_Itoa _ (by omega) (by omega) _ (HT.out.later ((Below.refl _ _).alloc (Nat.le_refl _) _))).mono ?_; rw [HS.out]; rintro e w' ⟨rfl, k, os, rfl⟩))
      go_ret2
      exact ⟨ret_sp HQ.out, ((Below.refl _ _).alloc (Nat.le_refl _) _).trans ((below_grow _ _ _).mono (by simp))⟩
  · have HQ : Hid (showR n = (⟨#[]⟩, 2)) := showR_bad h
    have HH : Hid (wtB n = false) := h
    clear h
    go_enter Tryd.func32, Tryd.ntmps32
    go_wp2_with (first | (go_at_call 40; refine (are_one _ false _ _ _ (by simp) HH.out).mono ?_; rintro e w' ⟨rfl, rfl⟩))
    go_ret2
    exact ⟨ret_sp HQ.out, (Below.refl _ _).alloc (Nat.le_refl _) _⟩
end Go.Proofs.YtbbjpdadickilaaDoor.Wt
