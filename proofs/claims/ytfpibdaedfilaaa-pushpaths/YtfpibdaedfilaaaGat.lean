/- The program's Push and Pull, at every argument. -/
import Derived.Test.YtfpibdaedfilaaaGas
namespace Go.Proofs.Ytfpibdaedfilaaa.Wt
open Go.ChangeShapes Go.WideShapes Go.ChangeAt Go.RowKit
open Go.Proofs.Ytfpibdaedfilaaa.Pl
set_option linter.unusedVariables false
set_option linter.unusedSimpArgs false
set_option maxRecDepth 100000 in
theorem pushP_bad (v : Value) (m : Mc) (w : World) (h : Mach w v m) (hok : okM m) (hr : ¬ faultM m = 0) :
  Calls Try.prog 9 #[v] w fun e w' => PshRes (PshAns m) w e w' := by
 obtain ⟨z, l⟩ := m
 have HM : Hid (Mach w v (z, l)) := h
 have HK : Hid (okM (z, l)) := hok
 obtain ⟨r, hr0⟩ : ∃ r, faultM (z, l) = r := ⟨_, rfl⟩
 have HR := hidP hr0
 rw [hr0] at hr
 have HA : Hid (PshAns (z, l) (0, []) 0 r) := .inl ⟨by rw [hr0]; exact hr, rfl, rfl, hr0.symm⟩
 have HN := hidP hr
 have h2' : (r != 0) = true := bne_iff_ne.2 hr
 obtain ⟨vs, rfl, hS⟩ := h
 obtain ⟨a, cap, rfl⟩ := hS.sl
 clear hS hok hr0 hr
 go_enter Try.func9, Try.ntmps9
 go_wp2_with (first
  | (go_at_call 21; (with_reducible refine (trim_bad _ (z, l) _ (HM.out.later (B := w.heap.size) (by go_grown) (Nat.le_refl _)) HK.out r HR.out HN.out).mono ?_); rintro e wa ⟨rfl, hb⟩; obtain ⟨sa, b1, b2, hb1⟩ := boxedTwo hb (by simp); have HBa := hidP hb1; have KRa := hidP b2; have q0 := KRa.out.cell 0 (v := .int .i64 0) rfl; have q1 := KRa.out.cell 1 (v := .slice none 0 0) rfl; have g0 := KRa.out.fz 0; have g1 := KRa.out.fz 1; have s1 : w.heap.size + 1 < wa.heap.size := (by omega); have s2 : w.heap.size + 1 ≠ wa.heap.size := (by omega); clear b1 b2 hb1 hb))
 exact bodyPost_ret (v := .tuple #[.agg #[.int .i64 0, .slice none 0 0], .int .i64 0, .int .i64 r]) (by simp [results, Try.results9, go_sem, *]) rfl ⟨_, _, _, _, rfl, HA.out, mach_zeroR _, by (have h9 := HBa.out); go_grown⟩
theorem pushP_any (v : Value) (m : Mc) (w : World) (h : Mach w v m) (hok : okM m) :
  Calls Try.prog 9 #[v] w fun e w' => PshRes (PshAns m) w e w' := by
 by_cases hr : faultM m = 0
 ·exact pushP_ok v m w h hok hr
 ·exact pushP_bad v m w h hok hr
end Go.Proofs.Ytfpibdaedfilaaa.Wt
