/- What core.Check answers. -/
import Derived.Test.YtkeeiihaijhdoaaMcU
namespace Go.Proofs.Ytkeeiihaijhdoaa.Wt
open Go.ChangeShapes Go.WideShapes Go.ChangeAt Go.RowKit
open Go.Proofs.Ytkeeiihaijhdoaa.Pl
set_option linter.unusedVariables false
theorem coreCheck_any (v : Value) (m : Mc) (w : World) (h : Mach w v m) (hok : okM m) (r : Int) (hr : faultM m = r) :
    Calls Try.prog 27 #[v] w fun e w' => e = .returned (.int .i64 r) ∧ Below w.heap.size w w' := by
  subst hr
  obtain ⟨z, l⟩ := m
  obtain ⟨vs, rfl, hS⟩ := h
  obtain ⟨a, cap, rfl⟩ := hS.sl
  have HM : Hid (Mach w (.agg #[.int .i64 z, .slice a l.length cap]) (z, l)) := ⟨_, rfl, hS⟩
  have HK : Hid (okM (z, l)) := hok
  have hnot : ∀ (x : Bool) (w : World), (Op.unary .not (.bool x)).run Try.prog w = .ok (.bool (!x)) w := fun _ _ => rfl
  clear hS hok
  simp only
  by_cases h60 : l.length ≤ 60
  · have H60 : Hid (l.length ≤ 60) := h60
    by_cases h400 : arcN l ≤ 400
    · have hsz : sizeB (z, l) = true := by simp [sizeB, h60, h400]
      generalize hr : rangeB (z, l) = r
      have HR : Hid (rangeB (z, l) = r) := hr
      have HF : Hid ((if r = true then (0 : Int) else 2) = faultM (z, l)) := by show _ = _; unfold faultM; rw [if_pos hsz, hr]
      clear hr hsz
      generalize hq : arcN l = q at *
      have HQ : Hid (arcN l = q) := hq
      clear hq
      have h4 : ¬ (400 : Int) < (q : Int) := by omega
      generalize hn : l.length = n at *
      have HN : Hid (l.length = n) := hn
      clear hn
      have h6 : ¬ (60 : Int) < (n : Int) := by omega
      cases r
      all_goals
        go_enter Try.func27, Try.ntmps27
        go_wp2_with (first
          | (go_at_call 49; (with_reducible refine (arcsOf_any _ (z, l) _ (HM.out.later (B := w.heap.size) (by go_grown) (Nat.le_refl _)) HK.out (by show l.length ≤ 60; rw [HN.out]; exact H60.out) q HQ.out).mono ?_); rintro e w1 ⟨rfl, hb⟩; obtain ⟨s1, b1, hb1⟩ := boxed hb (by simp); have c0 := b1.cell 0 (v := .int .i64 z) rfl; have c1 := b1.cell 1 (v := .slice a n cap) rfl; have HB : Hid (Below w.heap.size w w1) := hb1; clear b1 hb1 hb)
          | (go_at_call 50; (with_reducible refine (isInRange_any _ (z, l) _ (HM.out.later HB.out (Nat.le_refl _)) HK.out (by show l.length ≤ 60; rw [HN.out]; exact H60.out) _ HR.out).mono ?_); rintro e w2 ⟨rfl, hb⟩; have HB2 : Hid (Below w.heap.size w w2) := HB.out.trans (hb.mono HB.out.size); clear hb))
        go_ret
        exact ⟨ret_intK HF.out, HB2.out⟩
    · have HF : Hid (faultM (z, l) = 1) := faultM_size (by simp [sizeB]; omega)
      generalize hq : arcN l = q at *
      have HQ : Hid (arcN l = q) := hq
      clear hq
      have h4 : (400 : Int) < (q : Int) := by omega
      generalize hn : l.length = n at *
      have HN : Hid (l.length = n) := hn
      clear hn
      have h6 : ¬ (60 : Int) < (n : Int) := by omega
      go_enter Try.func27, Try.ntmps27
      go_wp2_with (first
          | (go_at_call 49; (with_reducible refine (arcsOf_any _ (z, l) _ (HM.out.later (B := w.heap.size) (by go_grown) (Nat.le_refl _)) HK.out (by show l.length ≤ 60; rw [HN.out]; exact H60.out) q HQ.out).mono ?_); rintro e w1 ⟨rfl, hb⟩; obtain ⟨s1, b1, hb1⟩ := boxed hb (by simp); have HB : Hid (Below w.heap.size w w1) := hb1; clear b1 hb1 hb))
      go_ret
      exact ⟨ret_intK HF.out.symm, HB.out⟩
  · have HF : Hid (faultM (z, l) = 1) := faultM_size (by simp [sizeB]; omega)
    have h6 : (60 : Int) < (l.length : Int) := by omega
    go_enter Try.func27, Try.ntmps27
    go_wp2
    go_ret
    exact ⟨ret_intK HF.out.symm, by go_grown⟩
end Go.Proofs.Ytkeeiihaijhdoaa.Wt
