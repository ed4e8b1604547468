/- The reference: a machine as a text, whatever machine. -/
import Derived.Test.YthaefajpdncoeaaDoorPr
namespace Go.Proofs.YthaefajpdncoeaaDoor.Pl
/-- What is shown of a machine whose fault is r. -/
def shownT (m : Mc) (r : Int) : List UInt8 := if r = 0 then textM m else []
end Go.Proofs.YthaefajpdncoeaaDoor.Pl
namespace Go.Proofs.YthaefajpdncoeaaDoor.Wt
open Go.ChangeShapes Go.WideShapes Go.ChangeAt Go.RowKit
open Go.Proofs.YthaefajpdncoeaaDoor.Pl
set_option linter.unusedVariables false
set_option linter.unusedSimpArgs false
set_option maxRecDepth 100000 in
theorem shownR_any (v : Value) (m : Mc) (w : World) (h : Mach w v m) (hok : okM m) (r : Int) (hr : faultM m = r) :
    Calls Tryd.prog 9 #[v] w fun e w' => e = .returned (.tuple #[.string (textS (shownT m r)), .int .i64 r]) ∧ Below w.heap.size w w' := by
  obtain ⟨z, l⟩ := m
  by_cases h0 : r = 0
  · subst h0
    unfold shownT
    rw [if_pos rfl]
    obtain ⟨vs, rfl, hS⟩ := h
    exact shownR_ok z l vs w ⟨vs, rfl, hS⟩ hok hr
  · have HM : Hid (Mach w v (z, l)) := h
    have HK : Hid (okM (z, l)) := hok
    have HR : Hid (faultM (z, l) = r) := hr
    have HT : Hid (textS (shownT (z, l) r) = ⟨#[]⟩) := by show _ = _; unfold shownT; rw [if_neg h0]; rfl
    have h0' : (r != 0) = true := bne_iff_ne.2 h0
    obtain ⟨vs, rfl, hS⟩ := h
    obtain ⟨a, cap, rfl⟩ := hS.sl
    clear hS hok hr
    generalize textS (shownT (z, l) r) = T at *
    go_enter Tryd.func9, Tryd.ntmps9
    go_wp2_with (first
      | (go_at_call 19; (with_reducible refine (fault_any _ (z, l) _ (HM.out.later (B := w.heap.size) (by go_grown) (Nat.le_refl _)) HK.out r HR.out).mono ?_); rintro e w1 ⟨rfl, hb⟩; obtain ⟨s1, b1, hb1⟩ := boxed hb (by simp); have HB1 : Hid (Below w.heap.size w w1) := hb1; clear b1 hb1 hb))
    exact bodyPost_ret (v := .tuple #[.string ⟨#[]⟩, .int .i64 r]) (by simp [results, Tryd.results9, go_sem]) rfl ⟨by rw [HT.out], HB1.out⟩
end Go.Proofs.YthaefajpdncoeaaDoor.Wt
