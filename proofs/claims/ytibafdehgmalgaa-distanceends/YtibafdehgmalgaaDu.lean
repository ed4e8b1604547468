/- The reference: from each state to an end, and the least path. -/
import Derived.Test.YtibafdehgmalgaaDt
namespace Go.Proofs.Ytibafdehgmalgaa.Wt
open Go.ChangeShapes Go.WideShapes Go.ChangeAt Go.RowKit
open Go.Proofs.Ytibafdehgmalgaa.Pl
set_option linter.unusedVariables false
set_option linter.unusedSimpArgs false
theorem farEnds_bad (v : Value) (m : Mc) (w : World) (h : Mach w v m) (hok : okM m) (hr : faultM m ≠ 0) :
    Calls Try.prog 15 #[v] w fun e w' => LstRes (DstAns m (EndC m.2)) w e w' := by
  have HQ : Hid (DstAns m (EndC m.2) [] (faultM m)) := .inl ⟨hr, rfl, rfl⟩
  generalize DstAns m (EndC m.2) = QQ at *
  obtain ⟨r, hre⟩ : ∃ r, faultM m = r := ⟨_, rfl⟩
  rw [hre] at HQ hr
  have HR := hidP hre
  clear hre
  have HK := hidP hok
  obtain ⟨z, l⟩ := m
  obtain ⟨vs, rfl, hS⟩ := h
  obtain ⟨a, cap, rfl, hc⟩ := hS.get
  have HM : Hid (Mach w (.agg #[.int .i64 z, .slice a l.length cap]) (z, l)) := ⟨_, rfl, hS⟩
  clear hS hc hok
  generalize hn : l.length = n at *
  have hrb : (r != 0) = true := by simpa using hr
  go_enter Try.func15, Try.ntmps15
  go_wp2_with (first
    | (go_at_call 26; (with_reducible refine (fault_any _ (z, l) _ (HM.out.later (B := w.heap.size) (by go_grown) (Nat.le_refl _)) HK.out r HR.out).mono ?_); rintro e w1 ⟨rfl, hb⟩; obtain ⟨s1, b1, hb1⟩ := boxed hb (by simp); have HB1 : Hid (Below w.heap.size w w1) := hb1; clear b1 hb1 hb))
  go_ret2
  exact ⟨_, [], r, rfl, HQ.out, .inl ⟨rfl, rfl⟩, HB1.out⟩
theorem farEnds_ok (v : Value) (m : Mc) (w : World) (h : Mach w v m) (hok : okM m) (hr : faultM m = 0) :
    Calls Try.prog 15 #[v] w fun e w' => LstRes (DstAns m (EndC m.2)) w e w' := by
  have HQ : Hid (∀ cs vs ec, cs.length = m.2.length → (∀ q, q < m.2.length → TldQ (EndC m.2 q) (el cs q)) → CstAns cs vs ec → DstAns m (EndC m.2) vs ec) := fun cs vs ec h1 h2 h3 => .inr ⟨hr, by
    have h4 := h3.lst (P := EndC m.2) (fun q hq => h2 q (by rw [← h1]; exact hq))
    rw [h1] at h4
    exact h4⟩
  generalize DstAns m (EndC m.2) = QQ at *
  have HR := hidP hr
  have HK := hidP hok
  obtain ⟨z, l⟩ := m
  have h60 := (right_size hr).1
  obtain ⟨vs, rfl, hS⟩ := h
  obtain ⟨a, cap, rfl, hc⟩ := hS.get
  have HM : Hid (Mach w (.agg #[.int .i64 z, .slice a l.length cap]) (z, l)) := ⟨_, rfl, hS⟩
  clear hS hc hok hr
  simp only at HQ
  generalize hn : l.length = n at *
  have HN := hidP hn
  clear hn
  go_enter Try.func15, Try.ntmps15
  go_wp2_with (first
    | (go_at_call 26; (with_reducible refine (fault_any _ (z, l) _ (HM.out.later (B := w.heap.size) (by go_grown) (Nat.le_refl _)) HK.out 0 HR.out).mono ?_); rintro e w1 ⟨rfl, hb⟩; obtain ⟨s1, b1, hb1⟩ := boxed hb (by simp); have c0 := b1.cell 0 (v := .int .i64 z) rfl; have c1 := b1.cell 1 (v := .slice a n cap) rfl; have HB1 : Hid (Below w.heap.size w w1) := hb1; clear b1 hb1 hb)
    | (go_at_call 31; (with_reducible refine (ends_any _ (z, l) _ (HM.out.later HB1.out (Nat.le_refl _)) HR.out).mono ?_); rintro e w2 ⟨vr, cs, rfl, hl, ht, hNu, hb⟩; have HL2 := hidP hl; have HT2 := hidP ht; have HN2 := hidP hNu; have HB2 : Hid (Below w.heap.size w w2) := HB1.out.trans (hb.mono HB1.out.size); clear hl ht hNu hb c0 c1)
    | (go_at_call 27; (with_reducible refine (costs_any _ cs _ HN2.out (by have h9 := HL2.out; rw [HN.out] at h9; omega)).mono ?_); rintro e w9 ⟨vq, vs, ec, rfl, hA, hNu, hb⟩; have HA := hidP hA; have HNu := hidP hNu; have HB9 := hidP hb; clear hA hNu hb))
  go_ret2
  exact ⟨_, vs, ec, rfl, HQ.out cs vs ec (by rw [← HN.out]; exact HL2.out) (by rw [← HN.out]; exact HT2.out) HA.out, HNu.out, HB2.out.trans (HB9.out.mono HB2.out.size)⟩
theorem farEnds_any (v : Value) (m : Mc) (w : World) (h : Mach w v m) (hok : okM m) :
    Calls Try.prog 15 #[v] w fun e w' => LstRes (DstAns m (EndC m.2)) w e w' := by
  by_cases hr : faultM m = 0
  · exact farEnds_ok v m w h hok hr
  · exact farEnds_bad v m w h hok hr
theorem leastPath_any (v : Value) (m : Mc) (w : World) (h : Mach w v m) (hok : okM m) :
    Calls Try.prog 17 #[v] w fun e w' => ∃ x ec : Int, e = .returned (.tuple #[.int .i64 x, .int .i64 ec]) ∧ LpaAns m x ec ∧ Below w.heap.size w w' := by
  have HQ : Hid (∀ vs f x e, DstAns m (EndC m.2) vs f → ((f ≠ 0 ∧ x = 0 ∧ e = f) ∨ (f = 0 ∧ e = 0 ∧ x = if m.1 < 0 then 1000000001 else el vs m.1.toNat)) → LpaAns m x e) := fun vs f x e h1 h2 => ⟨vs, f, h1, h2⟩
  have HLN : Hid (∀ vs, DstAns m (EndC m.2) vs 0 → vs.length = m.2.length ∧ -1 ≤ m.1 ∧ m.1 ≤ (m.2.length : Int) - 1) := fun vs h => h.len
  have HFE := hidP (fun w' (hb : Below w.heap.size w w') => farEnds_any v m w' (h.later hb (Nat.le_refl _)) hok)
  generalize DstAns m (EndC m.2) = QQ at *
  generalize LpaAns m = RR at *
  obtain ⟨z, l⟩ := m
  obtain ⟨vs, rfl, hS⟩ := h
  obtain ⟨a, cap, rfl, hc⟩ := hS.get
  clear hS hc hok
  simp only at HQ HLN HFE
  generalize l.length = n at *
  go_enter Try.func17, Try.ntmps17
  go_upto_if 12 with (first
    | (go_at_call 15; (with_reducible refine (HFE.out _ (by go_grown)).mono ?_); rintro e w1 ⟨vr, vs, ec, rfl, hA, hNu, hb⟩; have HA := hidP hA; have HNu := hidP hNu; obtain ⟨s1, b1, hb1⟩ := boxed hb (by simp); have K0 := hidP b1; have HB1 : Hid (Below w.heap.size w w1) := hb1; clear b1 hb1 hb hA hNu HFE))
  have c0 := K0.out.cell 0 (v := .int .i64 z) rfl
  by_cases he : ec = 0
  · subst he
    obtain ⟨hl, hz1, hz2⟩ := HLN.out vs HA.out
    by_cases hz : z < 0
    · have HX : Hid (RR 1000000001 0) := HQ.out vs 0 _ _ HA.out (.inr ⟨rfl, rfl, by rw [if_pos hz]⟩)
      go_wp2
      go_ret2
      exact ⟨_, _, rfl, HX.out, HB1.out⟩
    · have HX : Hid (RR (el vs z.toNat) 0) := HQ.out vs 0 _ _ HA.out (.inr ⟨rfl, rfl, by rw [if_neg hz]⟩)
      obtain ⟨zn, rfl⟩ : ∃ zn : Nat, z = (zn : Int) := ⟨z.toNat, by omega⟩
      rw [Int.toNat_natCast] at HX
      have hzn : zn < vs.length := by omega
      have hz0 : (0 : Int) ≤ (zn : Int) := by omega
      have hzl : (zn : Int) < (vs.length : Int) := by omega
      obtain ⟨a3, cap3, rfl, hc3⟩ := HNu.out.get
      obtain ⟨b3, off3, rfl, hb3, e3⟩ := hc3 zn hzn
      clear hc3 HNu HA hl
      generalize vs.length = L at *
      generalize el vs zn = x at *
      go_wp2
      go_ret2
      exact ⟨_, _, rfl, HX.out, HB1.out⟩
  · have heb : (ec != 0) = true := by simpa using he
    have HX : Hid (RR 0 ec) := HQ.out vs ec _ _ HA.out (.inl ⟨he, rfl, rfl⟩)
    go_wp2
    go_ret2
    exact ⟨_, _, rfl, HX.out, HB1.out⟩
end Go.Proofs.Ytibafdehgmalgaa.Wt
