/- The reference: from each state to an end, and the least path. -/
import Derived.Test.YteaafghmkkejfaaDt
namespace Go.Proofs.Yteaafghmkkejfaa.Wt
open Go.ChangeShapes Go.WideShapes Go.ChangeAt Go.RowKit
open Go.Proofs.Yteaafghmkkejfaa.Pl
set_option linter.unusedVariables false
set_option linter.unusedSimpArgs false
theorem farEnds_bad (v : Value) (m : Mc) (w : World) (h : Mach w v m) (hok : okM m) (hr : faultM m ≠ 0) :
    Calls Try.prog 25 #[v] w fun e w' => LstRes (DstAns m (EndC m.2)) w e w' := by
  have HQ : Hid (DstAns m (EndC m.2) [] (faultM m)) := .inl ⟨hr, rfl, rfl⟩
  generalize DstAns m (EndC m.2) = QQ at *
  obtain ⟨r, hre⟩ : ∃ r, faultM m = r := ⟨_, rfl⟩
  rw [hre] at HQ hr
  have HR := hidP hre
  clear hre
  have HK := hidP hok
  obtain ⟨z, l⟩ := m
  obtain ⟨vs, rfl, hS⟩ := h
  obtain ⟨a, cap, rfl, hc⟩ := hS.get
  have HM : Hid (Mach w (.agg #[.int .i64 z, .slice a l.length cap]) (z, l)) := ⟨_, rfl, hS⟩
  clear hS hc hok
  generalize hn : l.length = n at *
  have hrb : (r != 0) = true := by simpa using hr
  go_enter Try.func25, Try.ntmps25
  go_wp2_with (first
    | (go_at_call 44; (with_reducible refine (fault_any _ (z, l) _ (HM.out.later (B := w.heap.size) (by go_grown) (Nat.le_refl _)) HK.out r HR.out).mono ?_); rintro e w1 ⟨rfl, hb⟩; obtain ⟨s1, b1, hb1⟩ := boxed hb (by simp); have HB1 : Hid (Below w.heap.size w w1) := hb1; clear b1 hb1 hb))
  go_ret2
  exact ⟨_, [], r, rfl, HQ.out, .inl ⟨rfl, rfl⟩, HB1.out⟩
theorem farEnds_ok (v : Value) (m : Mc) (w : World) (h : Mach w v m) (hok : okM m) (hr : faultM m = 0) :
    Calls Try.prog 25 #[v] w fun e w' => LstRes (DstAns m (EndC m.2)) w e w' := by
  have HQ : Hid (∀ cs vs ec, cs.length = m.2.length → (∀ q, q < m.2.length → TldQ (EndC m.2 q) (el cs q)) → CstAns cs vs ec → DstAns m (EndC m.2) vs ec) := fun cs vs ec h1 h2 h3 => .inr ⟨hr, by
    have h4 := h3.lst (P := EndC m.2) (fun q hq => h2 q (by rw [← h1]; exact hq))
    rw [h1] at h4
    exact h4⟩
  generalize DstAns m (EndC m.2) = QQ at *
  have HR := hidP hr
  have HK := hidP hok
  obtain ⟨z, l⟩ := m
  have h60 := (right_size hr).1
  obtain ⟨vs, rfl, hS⟩ := h
  obtain ⟨a, cap, rfl, hc⟩ := hS.get
  have HM : Hid (Mach w (.agg #[.int .i64 z, .slice a l.length cap]) (z, l)) := ⟨_, rfl, hS⟩
  clear hS hc hok hr
  simp only at HQ
  generalize hn : l.length = n at *
  have HN := hidP hn
  clear hn
  go_enter Try.func25, Try.ntmps25
  go_wp2_with (first
    | (go_at_call 44; (with_reducible refine (fault_any _ (z, l) _ (HM.out.later (B := w.heap.size) (by go_grown) (Nat.le_refl _)) HK.out 0 HR.out).mono ?_); rintro e w1 ⟨rfl, hb⟩; obtain ⟨s1, b1, hb1⟩ := boxed hb (by simp); have c0 := b1.cell 0 (v := .int .i64 z) rfl; have c1 := b1.cell 1 (v := .slice a n cap) rfl; have HB1 : Hid (Below w.heap.size w w1) := hb1; clear b1 hb1 hb)
    | (go_at_call 45; (with_reducible refine (endsR_any _ (z, l) _ (HM.out.later HB1.out (Nat.le_refl _)) HR.out).mono ?_); rintro e w2 ⟨vr, cs, rfl, hl, ht, hNu, hb⟩; have HL2 := hidP hl; have HT2 := hidP ht; have HN2 := hidP hNu; have HB2 : Hid (Below w.heap.size w w2) := HB1.out.trans (hb.mono HB1.out.size); clear hl ht hNu hb c0 c1)
    | (go_at_call 46; (with_reducible refine (costs_any _ cs _ HN2.out (by have h9 := HL2.out; rw [HN.out] at h9; omega)).mono ?_); rintro e w9 ⟨vq, vs, ec, rfl, hA, hNu, hb⟩; have HA := hidP hA; have HNu := hidP hNu; have HB9 := hidP hb; clear hA hNu hb))
  go_ret2
  exact ⟨_, vs, ec, rfl, HQ.out cs vs ec (by rw [← HN.out]; exact HL2.out) (by rw [← HN.out]; exact HT2.out) HA.out, HNu.out, HB2.out.trans (HB9.out.mono HB2.out.size)⟩
theorem farEnds_any (v : Value) (m : Mc) (w : World) (h : Mach w v m) (hok : okM m) :
    Calls Try.prog 25 #[v] w fun e w' => LstRes (DstAns m (EndC m.2)) w e w' := by
  by_cases hr : faultM m = 0
  · exact farEnds_ok v m w h hok hr
  · exact farEnds_bad v m w h hok hr
end Go.Proofs.Yteaafghmkkejfaa.Wt
