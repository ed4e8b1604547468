/- What core.Bits and the reference answer where a machine is not right. -/
import Derived.Test.YtfekmlblldhieaaDoorJ17l
import Derived.Test.YtfekmlblldhieaaDoorJ17C
import Derived.Test.YtfekmlblldhieaaDoorJ17I
import Derived.Test.YtfekmlblldhieaaDoorMcR
namespace Go.Proofs.YtfekmlblldhieaaDoor.Wt
open Go.ChangeShapes Go.WideShapes Go.ChangeAt Go.RowKit
open Go.Proofs.YtfekmlblldhieaaDoor.Pl
set_option linter.unusedVariables false
set_option linter.unusedSimpArgs false
theorem like_bad (v : Value) (m : Mc) (w : World) (h : Mach w v m) (hok : okM m) (r : Int) (hr : faultM m = r) (hr0 : ¬ r = 0) :
    Calls Tryd.prog 17 #[v] w fun e w' => e = .returned (.tuple #[.agg #[.bool false, .bool false, .bool false, .bool false, .bool false], .int .i64 r]) ∧ Below w.heap.size w w' := by
  obtain ⟨z, l⟩ := m
  obtain ⟨vs, rfl, hS⟩ := h
  obtain ⟨a, cap, rfl⟩ := hS.sl
  have HM : Hid (Mach w (.agg #[.int .i64 z, .slice a l.length cap]) (z, l)) := ⟨_, rfl, hS⟩
  have HK : Hid (okM (z, l)) := hok
  have HR : Hid (faultM (z, l) = r) := hr
  have hne : (r != 0) = true := by simpa using hr0
  have hl := hok.1
  simp only at hl ⊢
  clear hS hok hr
  go_enter Tryd.func17, Tryd.ntmps17
  go_wp2_with (first
      | (go_at_call 42; (with_reducible refine (fault_any _ (z, l) _ (HM.out.later (B := w.heap.size) (by go_grown) (Nat.le_refl _)) HK.out _ HR.out).mono ?_); rintro e w1 ⟨rfl, hb⟩; obtain ⟨s1, k0, k1, hb1⟩ := boxed2 hb (by simp); have HB1 : Hid (Below w.heap.size w w1) := hb1; have e0 := k1.cell 0 (v := .bool false) rfl; have e1 := k1.cell 1 (v := .bool false) rfl; have e2 := k1.cell 2 (v := .bool false) rfl; have e3 := k1.cell 3 (v := .bool false) rfl; have e4 := k1.cell 4 (v := .bool false) rfl; have f0 := k1.fz 0; have f1 := k1.fz 1; have f2 := k1.fz 2; have f3 := k1.fz 3; have f4 := k1.fz 4; clear hb hb1 k0 k1))
  exact bodyPost_ret (v := .tuple #[.agg #[.bool false, .bool false, .bool false, .bool false, .bool false], .int .i64 r]) (by simp [results, Tryd.results17, go_sem, *]) rfl ⟨rfl, by (have h := HB1.out); go_grown⟩
end Go.Proofs.YtfekmlblldhieaaDoor.Wt
