/- The reference's answers of orders, paths, the longest path, whatever the machine. -/
import Derived.Test.YtbamaolknpffgaaOd
namespace Go.Proofs.Ytbamaolknpffgaa.Wt
open Go.ChangeShapes Go.WideShapes Go.ChangeAt Go.RowKit
open Go.Proofs.Ytbamaolknpffgaa.Pl
set_option linter.unusedVariables false
set_option linter.unusedSimpArgs false
theorem refOrder_any (v : Value) (m : Mc) (w : World) (h : Mach w v m) (hok : okM m) (r : Int) (hr : faultM m = r) :
    Calls Try.prog 10 #[v] w fun e w' => ∃ (v' : Value) (ec : Int), e = .returned (.tuple #[v', .int .i64 ec]) ∧ (∃ out, Nums w' v' out ∧ OrdAns m r ec out) ∧ Below w.heap.size w w' := by
  by_cases h0 : r = 0
  · subst h0
    refine (ordered_ok v m w h hok hr).mono ?_
    rintro e w' ⟨v', ec, rfl, ⟨rfl, out, ho, hn⟩ | ⟨rfl, hc, rfl⟩, hb⟩
    · exact ⟨v', 0, rfl, ⟨out, hn, by unfold OrdAns; rw [if_pos rfl]; exact .inl ⟨rfl, ho⟩⟩, hb⟩
    · exact ⟨_, 6, rfl, ⟨[], .inl ⟨rfl, rfl⟩, by unfold OrdAns; rw [if_pos rfl]; exact .inr ⟨rfl, hc, rfl⟩⟩, hb⟩
  · refine (ordered_bad v m w h hok r hr h0).mono ?_
    rintro e w' ⟨rfl, hb⟩
    exact ⟨_, r, rfl, ⟨[], .inl ⟨rfl, rfl⟩, by unfold OrdAns; rw [if_neg h0]; exact ⟨rfl, rfl⟩⟩, hb⟩
theorem refPaths_any (v : Value) (m : Mc) (w : World) (h : Mach w v m) (hok : okM m) (r : Int) (hr : faultM m = r) :
    Calls Try.prog 14 #[v] w fun e w' => ∃ (x ec : Int), e = .returned (.tuple #[.int .i64 x, .int .i64 ec]) ∧ PathAns m r x ec ∧ Below w.heap.size w w' := by
  by_cases h0 : r = 0
  · subst h0
    by_cases hc : CycleL m.2
    · refine (pathCount_stop v m w h hok 6 (by decide) (fun W hW => ordered_cycle v m W hW hok hr hc)).mono ?_
      rintro e w' ⟨rfl, hb⟩
      exact ⟨0, 6, rfl, by unfold PathAns; rw [if_pos rfl]; exact .inr ⟨hc, rfl, rfl⟩, hb⟩
    · refine (pathCount_fine v m w h hok hr hc).mono ?_
      rintro e w' ⟨x, ec, rfl, ho, hb⟩
      exact ⟨x, ec, rfl, by unfold PathAns; rw [if_pos rfl]; exact .inl ho, hb⟩
  · refine (pathCount_stop v m w h hok r h0 (fun W hW => ordered_bad v m W hW hok r hr h0)).mono ?_
    rintro e w' ⟨rfl, hb⟩
    exact ⟨0, r, rfl, by unfold PathAns; rw [if_neg h0]; exact ⟨rfl, rfl⟩, hb⟩
theorem refLongest_any (v : Value) (m : Mc) (w : World) (h : Mach w v m) (hok : okM m) (r : Int) (hr : faultM m = r) :
    Calls Try.prog 16 #[v] w fun e w' => ∃ (x ec : Int), e = .returned (.tuple #[.int .i64 x, .int .i64 ec]) ∧ FarAns m r x ec ∧ Below w.heap.size w w' := by
  by_cases h0 : r = 0
  · subst h0
    by_cases hc : CycleL m.2
    · refine (longestOf_stop v m w h hok 6 (by decide) (fun W hW => ordered_cycle v m W hW hok hr hc)).mono ?_
      rintro e w' ⟨rfl, hb⟩
      exact ⟨0, 6, rfl, by unfold FarAns; rw [if_pos rfl]; exact .inr ⟨hc, rfl, rfl⟩, hb⟩
    · refine (longestOf_fine v m w h hok hr hc).mono ?_
      rintro e w' ⟨x, ec, rfl, ho, hb⟩
      exact ⟨x, ec, rfl, by unfold FarAns; rw [if_pos rfl]; exact .inl ho, hb⟩
  · refine (longestOf_stop v m w h hok r h0 (fun W hW => ordered_bad v m W hW hok r hr h0)).mono ?_
    rintro e w' ⟨rfl, hb⟩
    exact ⟨0, r, rfl, by unfold FarAns; rw [if_neg h0]; exact ⟨rfl, rfl⟩, hb⟩
end Go.Proofs.Ytbamaolknpffgaa.Wt
