/- turn.Reverse. -/
import Derived.Test.YtibafdehgmalgaaTh
import Derived.Test.YtibafdehgmalgaaJ13d
namespace Go.Proofs.Ytibafdehgmalgaa.Wt
open Go.ChangeShapes Go.WideShapes Go.ChangeAt Go.RowKit
open Go.Proofs.Ytibafdehgmalgaa.Pl
set_option linter.unusedVariables false
set_option linter.unusedSimpArgs false
set_option maxRecDepth 100000 in
theorem revP_bad (v : Value) (m : Mc) (w : World) (h : Mach w v m) (hok : okM m) (h0 : faultM m ≠ 0) :
    Calls Try.prog 21 #[v] w fun e w' => RatRes (0, []) (faultM m) w e w' := by
  obtain ⟨z, l⟩ := m
  obtain ⟨r, hr⟩ : ∃ r, faultM (z, l) = r := ⟨_, rfl⟩
  have HM : Hid (Mach w v (z, l)) := h
  have HK : Hid (okM (z, l)) := hok
  have HR : Hid (faultM (z, l) = r) := hr
  have h0' : (r != 0) = true := bne_iff_ne.2 (by rw [← hr]; exact h0)
  obtain ⟨vs, rfl, hS⟩ := h
  obtain ⟨a, cap, rfl⟩ := hS.sl
  rw [hr]
  clear hS hok hr h0
  simp only
  generalize l.length = n at *
  go_enter Try.func21, Try.ntmps21
  go_wp2_with (first
    | (go_at_call 22; (with_reducible refine (coreCheck_any _ (z, l) _ (HM.out.later (B := w.heap.size) (by go_grown) (Nat.le_refl _)) HK.out r HR.out).mono ?_); rintro e w1 ⟨rfl, hb⟩; obtain ⟨s1, b1, b2, hb1⟩ := boxedTwo hb (by simp); have HB1 : Hid (Below w.heap.size w w1) := hb1; have e0 := b2.cell 0 (v := .int .i64 0) rfl; have e1 := b2.cell 1 (v := .slice none 0 0) rfl; have g0 := b2.fz 0; have g1 := b2.fz 1; clear b1 b2 hb1 hb))
  exact bodyPost_ret (v := .tuple #[.agg #[.int .i64 0, .slice none 0 0], .int .i64 r]) (by simp [results, Try.results21, go_sem, *]) rfl ⟨_, rfl, mach_zeroR _, by (have h := HB1.out); go_grown⟩
theorem mach_apt {w : World} {base : Nat} {v : Value} {X1 : List St} (h : OwnApt w base v X1) : Mach w (.agg #[.int .i64 0, v]) (0, X1) := ⟨_, rfl, h.own.sts⟩
theorem revM_okM {m : Mc} (h : faultM m = 0) : okM (revM m) := by
  have h1 := (right_size (z := m.1) (l := m.2) h).1
  have h2 := (right_size (z := m.1) (l := m.2) h).2
  have h3 := arcN_each (revM_each m)
  have h4 := revM_len m
  refine small_ok (by omega) (Nat.le_trans h3 (Nat.le_trans (Nat.mul_le_mul (show (revM m).2.length ≤ 61 by omega) (show m.2.length + arcN m.2 ≤ 460 by omega)) (by omega)))
set_option maxRecDepth 100000 in
theorem revP_ok (v : Value) (m : Mc) (w : World) (h : Mach w v m) (hok : okM m) (h0 : faultM m = 0) :
    Calls Try.prog 21 #[v] w fun e w' => RatRes (fitM (revM m)) (fitE (revM m)) w e w' := by
  obtain ⟨z, l⟩ := m
  have HM : Hid (Mach w v (z, l)) := h
  have HK : Hid (okM (z, l)) := hok
  have HR : Hid (faultM (z, l) = 0) := h0
  have HF := hidP (fitOf (x := revM (z, l)) (revM_right h0))
  have HOK : Hid (okM (revM (z, l))) := revM_okM h0
  obtain ⟨vs, rfl, hS⟩ := h
  obtain ⟨a, cap, rfl⟩ := hS.sl
  have HRC : Hid (∀ W, Mach W (.agg #[.int .i64 z, .slice a l.length cap]) (z, l) → Calls Try.prog 36 #[.agg #[.int .i64 z, .slice a l.length cap]] W fun e w' => ∃ v', e = .returned (.agg #[.int .i64 0, v']) ∧ OwnApt w' (W.heap.size + 2) v' (revM (z, l)).2 ∧ Below W.heap.size W w') := fun W hW => revdP_any z l a cap W hW h0
  have HE0 : Hid ((0, (revM (z, l)).2) = revM (z, l)) := rfl
  rw [← HF.out.1, ← HF.out.2]
  clear hS hok h0 HF
  generalize revM (z, l) = X at *
  obtain ⟨X0, X1⟩ := X
  have hX0 : X0 = 0 := (congrArg Prod.fst HE0.out).symm
  subst hX0
  simp only at HRC ⊢
  obtain ⟨r2, hr2⟩ : ∃ r2, faultM (0, X1) = r2 := ⟨_, rfl⟩
  have HR2 := hidP hr2
  rw [hr2]
  clear hr2
  generalize l.length = n at *
  by_cases hr0 : r2 = 0
  · subst hr0
    rw [if_pos rfl, if_pos rfl]
    go_enter Try.func21, Try.ntmps21
    go_wp2_with (first
      | (go_at_call 22; (with_reducible refine (coreCheck_any _ (z, l) _ (HM.out.later (B := w.heap.size) (by go_grown) (Nat.le_refl _)) HK.out 0 HR.out).mono ?_); clear HK; rintro e w1 ⟨rfl, hb⟩; obtain ⟨s1, b1, b2, hb1⟩ := boxedTwo hb (by simp); have HB1 : Hid (Below w.heap.size w w1) := hb1; have K1 := hidP b2; have j0 := b1.cell 0 (v := .int .i64 z) rfl; have j1 := b1.cell 1 (v := .slice a n cap) rfl; clear b1 b2 hb1 hb)
      | (go_at_call 36; (with_reducible refine (HRC.out _ (HM.out.later HB1.out (Nat.le_refl _))).mono ?_); rintro e w2 ⟨v2, rfl, ho, hb⟩; obtain ⟨a2, c2, rfl⟩ := ho.sl; have HO2 := hidP (ho.later ((Below.refl _ _).alloc (Nat.le_refl _) (.cells #[.int .i64 0, .slice a2 X1.length c2] 24))); have K2 := hidP ((K1.out.below hb K1.out.lt).alloc (.cells #[.int .i64 0, .slice a2 X1.length c2] 24)); have P2 := hidP (Blk.made w2 #[.int .i64 0, .slice a2 X1.length c2] 24); have HB2 := hidP ((HB1.out.trans (hb.mono HB1.out.size)).alloc (Nat.le_trans HB1.out.size hb.size) (.cells #[.int .i64 0, .slice a2 X1.length c2] 24)); clear ho hb)
      | (go_at_call 22; (with_reducible refine (coreCheck_any _ (0, X1) _ (mach_apt HO2.out) HOK.out 0 HR2.out).mono ?_); rintro e w3 ⟨rfl, hb⟩; have HO3 := hidP (HO2.out.later hb); have HB3 := hidP (HB2.out.trans (hb.mono HB2.out.size)); have k3 := K2.out.below hb K2.out.lt; have p3 := P2.out.below hb P2.out.lt; have e0 := k3.cell 0 (v := .int .i64 0) rfl; have e1 := k3.cell 1 (v := .slice none 0 0) rfl; have g0 := k3.fz 0; have g1 := k3.fz 1; have q0 := p3.cell 0 (v := .int .i64 0) rfl; have q1 := p3.cell 1 (v := .slice a2 X1.length c2) rfl; clear hb k3 p3))
    exact bodyPost_ret (v := .tuple #[.agg #[.int .i64 0, .slice a2 X1.length c2], .int .i64 0]) (by simp [results, Try.results21, go_sem, *]) rfl ⟨_, rfl, ⟨_, rfl, ((HO3.out.setCell (by show w.heap.size + 1 < w1.heap.size + 2; omega) _).setCell (by show w.heap.size + 1 < w1.heap.size + 2; omega) _).own.sts⟩, (HB3.out.setCell (by show w.heap.size ≤ w.heap.size + 1; omega) _).setCell (by show w.heap.size ≤ w.heap.size + 1; omega) _⟩
  · have hr0' : (r2 != 0) = true := bne_iff_ne.2 hr0
    rw [if_neg hr0, if_neg hr0]
    clear hr0
    go_enter Try.func21, Try.ntmps21
    go_wp2_with (first
      | (go_at_call 22; (with_reducible refine (coreCheck_any _ (z, l) _ (HM.out.later (B := w.heap.size) (by go_grown) (Nat.le_refl _)) HK.out 0 HR.out).mono ?_); clear HK; rintro e w1 ⟨rfl, hb⟩; obtain ⟨s1, b1, b2, hb1⟩ := boxedTwo hb (by simp); have HB1 : Hid (Below w.heap.size w w1) := hb1; have K1 := hidP b2; have j0 := b1.cell 0 (v := .int .i64 z) rfl; have j1 := b1.cell 1 (v := .slice a n cap) rfl; clear b1 b2 hb1 hb)
      | (go_at_call 36; (with_reducible refine (HRC.out _ (HM.out.later HB1.out (Nat.le_refl _))).mono ?_); rintro e w2 ⟨v2, rfl, ho, hb⟩; obtain ⟨a2, c2, rfl⟩ := ho.sl; have HO2 := hidP (ho.later ((Below.refl _ _).alloc (Nat.le_refl _) (.cells #[.int .i64 0, .slice a2 X1.length c2] 24))); have K2 := hidP ((K1.out.below hb K1.out.lt).alloc (.cells #[.int .i64 0, .slice a2 X1.length c2] 24)); have HB2 := hidP ((HB1.out.trans (hb.mono HB1.out.size)).alloc (Nat.le_trans HB1.out.size hb.size) (.cells #[.int .i64 0, .slice a2 X1.length c2] 24)); clear ho hb)
      | (go_at_call 22; (with_reducible refine (coreCheck_any _ (0, X1) _ (mach_apt HO2.out) HOK.out r2 HR2.out).mono ?_); rintro e w3 ⟨rfl, hb⟩; have HB3 := hidP (HB2.out.trans (hb.mono HB2.out.size)); have k3 := K2.out.below hb K2.out.lt; have e0 := k3.cell 0 (v := .int .i64 0) rfl; have e1 := k3.cell 1 (v := .slice none 0 0) rfl; have g0 := k3.fz 0; have g1 := k3.fz 1; clear hb k3))
    exact bodyPost_ret (v := .tuple #[.agg #[.int .i64 0, .slice none 0 0], .int .i64 5]) (by simp [results, Try.results21, go_sem, *]) rfl ⟨_, rfl, mach_zeroR _, (HB3.out.setCell (by show w.heap.size ≤ w.heap.size + 1; omega) _).setCell (by show w.heap.size ≤ w.heap.size + 1; omega) _⟩
theorem reverseP_any (v : Value) (m : Mc) (w : World) (h : Mach w v m) (hok : okM m) :
    Calls Try.prog 21 #[v] w fun e w' => RatRes (ratM m (-1, []) (revM m)) (ratE m (-1, []) (revM m)) w e w' := by
  have h1 : faultM (-1, []) = 0 := by decide
  unfold ratM ratE
  by_cases h0 : faultM m = 0
  · rw [if_neg (by simp [h0]), if_neg (by simp [h1]), if_neg (by simp [h0]), if_neg (by simp [h1])]
    exact revP_ok v m w h hok h0
  · rw [if_pos h0, if_pos h0]
    exact revP_bad v m w h hok h0
end Go.Proofs.Ytibafdehgmalgaa.Wt
