/- turn.Relabel: every way. -/
import Derived.Test.YtpfcljhbamnghabTe
namespace Go.Proofs.Ytpfcljhbamnghab.Wt
open Go.ChangeShapes Go.WideShapes Go.ChangeAt Go.RowKit Go.Maps
open Go.Proofs.Ytpfcljhbamnghab.Pl
set_option linter.unusedVariables false
set_option linter.unusedSimpArgs false
theorem changes_no {l : List Ch} (hok : okC l) {r : Int} (hr : fltC l = r) (h0 : r ≠ 0) : ∀ (W : World) v, Chs W v l → Calls Try.prog 45 #[v] W fun e w' => e = .returned (.tuple #[.map none, .int .i64 r]) ∧ Below W.heap.size W w' := fun W v h => by
  refine (changesOf_any v l W h hok).mono ?_
  rintro e w' ⟨h1 | h1, hb⟩
  · rw [hr] at h1
    exact ⟨h1.2, hb⟩
  · exact absurd (hr ▸ h1.1) h0
theorem changes_yes {l : List Ch} (hok : okC l) (hr : fltC l = 0) : ∀ (W : World) v, Chs W v l → Calls Try.prog 45 #[v] W fun e w' => ∃ mb, e = .returned (.tuple #[.map (some mb), .int .i64 0]) ∧ OwnC w' mb l.length (chM l l.length) ∧ Below W.heap.size W w' := fun W v h => by
  refine (changesOf_any v l W h hok).mono ?_
  rintro e w' ⟨h1 | ⟨_, mb, h1, _, h2⟩, hb⟩
  · exact absurd hr h1.1
  · exact ⟨mb, h1, h2, hb⟩
set_option maxRecDepth 100000 in
theorem relab_bad1 (v vi vo : Value) (m : Mc) (ins outs : List Ch) (w : World) (h : Mach w v m) (hok : okM m) (hi : Chs w vi ins) (ho : Chs w vo outs) (r : Int) (hr : faultM m = r) (h0 : r ≠ 0) :
    Calls Try.prog 23 #[v, vi, vo] w fun e w' => RatRes (0, []) r w e w' := by
  obtain ⟨z, l⟩ := m
  have HM : Hid (Mach w v (z, l)) := h
  have HK : Hid (okM (z, l)) := hok
  have HR : Hid (faultM (z, l) = r) := hr
  have h0' : (r != 0) = true := bne_iff_ne.2 h0
  obtain ⟨vs, rfl, hS⟩ := h
  obtain ⟨a, cap, rfl⟩ := hS.sl
  obtain ⟨ai, ci, rfl⟩ := hi.sl
  obtain ⟨ao, co, rfl⟩ := ho.sl
  clear hS hok hr h0 hi ho
  simp only
  generalize l.length = n at *
  generalize ins.length = ni at *
  generalize outs.length = no at *
  go_enter Try.func23, Try.ntmps23
  go_wp2_with (first
    | (go_at_call 28; (with_reducible refine (coreCheck_any _ (z, l) _ (HM.out.later (B := w.heap.size) (by go_grown) (Nat.le_refl _)) HK.out r HR.out).mono ?_); rintro e w1 ⟨rfl, hb⟩; obtain ⟨s1, b1, b2, hb1⟩ := boxedTwo hb (by simp); have HB1 : Hid (Below w.heap.size w w1) := hb1; have e0 := b2.cell 0 (v := .int .i64 0) rfl; have e1 := b2.cell 1 (v := .slice none 0 0) rfl; have g0 := b2.fz 0; have g1 := b2.fz 1; clear b1 b2 hb1 hb))
  exact bodyPost_ret (v := .tuple #[.agg #[.int .i64 0, .slice none 0 0], .int .i64 r]) (by simp [results, Try.results23, go_sem, *]) rfl ⟨_, rfl, mach_zeroR _, by (have h := HB1.out); go_grown⟩
set_option maxRecDepth 100000 in
theorem relab_bad2 (v vi vo : Value) (m : Mc) (ins outs : List Ch) (w : World) (h : Mach w v m) (hok : okM m) (hi : Chs w vi ins) (hoi : okC ins) (ho : Chs w vo outs) (hr : faultM m = 0) (r : Int) (hri : fltC ins = r) (h0 : r ≠ 0) :
    Calls Try.prog 23 #[v, vi, vo] w fun e w' => RatRes (0, []) r w e w' := by
  obtain ⟨z, l⟩ := m
  have HM : Hid (Mach w v (z, l)) := h
  have HK : Hid (okM (z, l)) := hok
  have HR : Hid (faultM (z, l) = 0) := hr
  have HCI := hidP (changes_no hoi hri h0)
  have HII := hidP hi
  have h0' : (r != 0) = true := bne_iff_ne.2 h0
  obtain ⟨vs, rfl, hS⟩ := h
  obtain ⟨a, cap, rfl⟩ := hS.sl
  obtain ⟨ai, ci, rfl⟩ := hi.sl
  obtain ⟨ao, co, rfl⟩ := ho.sl
  clear hS hok hr h0 hi ho hri hoi
  simp only
  generalize l.length = n at *
  generalize ins.length = ni at *
  generalize outs.length = no at *
  go_enter Try.func23, Try.ntmps23
  go_wp2_with (first
    | (go_at_call 28; (with_reducible refine (coreCheck_any _ (z, l) _ (HM.out.later (B := w.heap.size) (by go_grown) (Nat.le_refl _)) HK.out 0 HR.out).mono ?_); rintro e w1 ⟨rfl, hb⟩; obtain ⟨s1, b1, b2, hb1⟩ := boxedTwo hb (by simp); have HB1 : Hid (Below w.heap.size w w1) := hb1; have K2 := hidP b2; clear b1 b2 hb1 hb)
    | (go_at_call 45; (with_reducible refine (HCI.out _ _ (HII.out.later HB1.out (Nat.le_refl _))).mono ?_); rintro e w2 ⟨rfl, hb⟩; have HB2 := hidP (HB1.out.trans (hb.mono HB1.out.size)); have K3 := hidP ((K2.out.below hb K2.out.lt)); have e0 := K3.out.cell 0 (v := .int .i64 0) rfl; have e1 := K3.out.cell 1 (v := .slice none 0 0) rfl; have g0 := K3.out.fz 0; have g1 := K3.out.fz 1; have s2 := K3.out.lt; clear hb))
  exact bodyPost_ret (v := .tuple #[.agg #[.int .i64 0, .slice none 0 0], .int .i64 r]) (by simp [results, Try.results23, go_sem, *]) rfl ⟨_, rfl, mach_zeroR _, by (have h := HB2.out); go_grown⟩
set_option maxRecDepth 100000 in
theorem relab_bad3 (v vi vo : Value) (m : Mc) (ins outs : List Ch) (w : World) (h : Mach w v m) (hok : okM m) (hi : Chs w vi ins) (hoi : okC ins) (ho : Chs w vo outs) (hoo : okC outs) (hr : faultM m = 0) (hri : fltC ins = 0) (r : Int) (hro : fltC outs = r) (h0 : r ≠ 0) :
    Calls Try.prog 23 #[v, vi, vo] w fun e w' => RatRes (0, []) r w e w' := by
  obtain ⟨z, l⟩ := m
  have HM : Hid (Mach w v (z, l)) := h
  have HK : Hid (okM (z, l)) := hok
  have HR : Hid (faultM (z, l) = 0) := hr
  have HCI := hidP (changes_yes hoi hri)
  have HCO := hidP (changes_no hoo hro h0)
  have HII := hidP hi
  have HOO := hidP ho
  have h0' : (r != 0) = true := bne_iff_ne.2 h0
  obtain ⟨vs, rfl, hS⟩ := h
  obtain ⟨a, cap, rfl⟩ := hS.sl
  obtain ⟨ai, ci, rfl⟩ := hi.sl
  obtain ⟨ao, co, rfl⟩ := ho.sl
  clear hS hok hr h0 hi ho hri hoi hro hoo
  simp only
  generalize l.length = n at *
  generalize chM ins ins.length = DI at *
  generalize ins.length = ni at *
  generalize outs.length = no at *
  go_enter Try.func23, Try.ntmps23
  go_wp2_with (first
    | (go_at_call 28; (with_reducible refine (coreCheck_any _ (z, l) _ (HM.out.later (B := w.heap.size) (by go_grown) (Nat.le_refl _)) HK.out 0 HR.out).mono ?_); rintro e w1 ⟨rfl, hb⟩; obtain ⟨s1, b1, b2, hb1⟩ := boxedTwo hb (by simp); have HB1 : Hid (Below w.heap.size w w1) := hb1; have K2 := hidP b2; clear b1 b2 hb1 hb)
    | (go_at_call 45; (with_reducible refine (HCI.out _ _ (HII.out.later HB1.out (Nat.le_refl _))).mono ?_); clear HCI; rintro e w2 ⟨mb, rfl, _, hb⟩; have HB2 := hidP (HB1.out.trans (hb.mono HB1.out.size)); have K3 := hidP ((K2.out.below hb K2.out.lt).alloc (.cells #[.map (some mb)] 77)); have HB2' := hidP (HB2.out.alloc HB2.out.size (.cells #[.map (some mb)] 77)); clear hb)
    | (go_at_call 45; (with_reducible refine (HCO.out _ _ (HOO.out.later HB2'.out (Nat.le_refl _))).mono ?_); rintro e w3 ⟨rfl, hb⟩; have HB3 := hidP (HB2'.out.trans (hb.mono HB2'.out.size)); have K4 := hidP ((K3.out.below hb K3.out.lt)); have e0 := K4.out.cell 0 (v := .int .i64 0) rfl; have e1 := K4.out.cell 1 (v := .slice none 0 0) rfl; have g0 := K4.out.fz 0; have g1 := K4.out.fz 1; have s2 := K4.out.lt; clear hb))
  exact bodyPost_ret (v := .tuple #[.agg #[.int .i64 0, .slice none 0 0], .int .i64 r]) (by simp [results, Try.results23, go_sem, *]) rfl ⟨_, rfl, mach_zeroR _, by (have h := HB3.out); go_grown⟩
theorem doM_rel (ins outs : List Ch) (m : Mc) : doM (relA ins outs) m = relM ins outs m := rfl
set_option maxRecDepth 100000 in
theorem relab_ok (v vi vo : Value) (m : Mc) (ins outs : List Ch) (w : World) (h : Mach w v m) (hok : okM m) (hi : Chs w vi ins) (hoi : okC ins) (ho : Chs w vo outs) (hoo : okC outs) (hr : faultM m = 0) (hri : fltC ins = 0) (hro : fltC outs = 0) :
    Calls Try.prog 23 #[v, vi, vo] w fun e w' => RatRes (relM ins outs m) 0 w e w' := by
  obtain ⟨z, l⟩ := m
  have HM : Hid (Mach w v (z, l)) := h
  have HK : Hid (okM (z, l)) := hok
  have HR : Hid (faultM (z, l) = 0) := hr
  have HCI := hidP (changes_yes hoi hri)
  have HCO := hidP (changes_yes hoo hro)
  have HII := hidP hi
  have HOO := hidP ho
  have eg : ∀ args w, (callFunc 46 args).run Try.prog w = .ok (.enter 46 args) w := enters_of Try.func46 (by kernel_rfl) rfl
  have HT : Hid (∀ (W : World) v (p q mi mo : Nat), Mach W v (z, l) → Blk W p #[.map (some mi)] 77 → Blk W q #[.map (some mo)] 77 → OwnC W mi ins.length (chM ins ins.length) → OwnC W mo outs.length (chM outs outs.length) → Calls Try.prog 25 #[v, .func (.func 46) #[] #[.pointer (some ⟨p, 0, none⟩), .pointer (some ⟨q, 0, none⟩)]] W fun e w' => ∃ v', e = .returned (.tuple #[v', .int .i64 0]) ∧ MachFrom W.heap.size w' v' (relM ins outs (z, l)) ∧ Below W.heap.size W w') := fun W v p q mi mo hW h1 h2 h3 h4 =>
    turnedP_ok v (z, l) W hW hok 46 _ (relA ins outs) eg (relab_do W p q mi mo _ _ ins outs h1 h2 h3 h4 (flt_zero hri).2.2 (flt_zero hro).2.2) hr
  obtain ⟨vs, rfl, hS⟩ := h
  obtain ⟨a, cap, rfl⟩ := hS.sl
  obtain ⟨ai, ci, rfl⟩ := hi.sl
  obtain ⟨ao, co, rfl⟩ := ho.sl
  clear hS hok hr hi ho hri hoi hro hoo eg
  generalize relM ins outs (z, l) = R at *
  obtain ⟨R0, R1⟩ := R
  simp only
  generalize l.length = n at *
  generalize chM ins ins.length = DI at *
  generalize ins.length = ni at *
  generalize chM outs outs.length = DO at *
  generalize outs.length = no at *
  go_enter Try.func23, Try.ntmps23
  go_wp2_with (first
    | (go_at_call 28; (with_reducible refine (coreCheck_any _ (z, l) _ (HM.out.later (B := w.heap.size) (by go_grown) (Nat.le_refl _)) HK.out 0 HR.out).mono ?_); rintro e w1 ⟨rfl, hb⟩; obtain ⟨s1, b1, b2, hb1⟩ := boxedTwo hb (by simp); have HB1 : Hid (Below w.heap.size w w1) := hb1; have J2 := hidP b1; have K2 := hidP b2; clear b1 b2 hb1 hb)
    | (go_at_call 45; (with_reducible refine (HCI.out _ _ (HII.out.later HB1.out (Nat.le_refl _))).mono ?_); clear HCI; rintro e w2 ⟨mi, rfl, hoi, hb⟩; have HB2 := hidP (HB1.out.trans (hb.mono HB1.out.size)); have J3 := hidP ((J2.out.below hb J2.out.lt).alloc (.cells #[.map (some mi)] 77)); have K3 := hidP ((K2.out.below hb K2.out.lt).alloc (.cells #[.map (some mi)] 77)); have P3 := hidP (Blk.made w2 #[.map (some mi)] 77); have HOI := hidP (hoi.later ((Below.refl _ _).alloc (Nat.le_refl _) (.cells #[.map (some mi)] 77))); have HB2' := hidP (HB2.out.alloc HB2.out.size (.cells #[.map (some mi)] 77)); clear hb hoi)
    | (go_at_call 45; (with_reducible refine (HCO.out _ _ (HOO.out.later HB2'.out (Nat.le_refl _))).mono ?_); clear HCO; rintro e w3 ⟨mo, rfl, hoo, hb⟩; have HB3 := hidP (HB2'.out.trans (hb.mono HB2'.out.size)); have J4 := hidP ((J3.out.below hb J3.out.lt).alloc (.cells #[.map (some mo)] 77)); have K4 := hidP ((K3.out.below hb K3.out.lt).alloc (.cells #[.map (some mo)] 77)); have P4 := hidP ((P3.out.below hb P3.out.lt).alloc (.cells #[.map (some mo)] 77)); have Q4 := hidP (Blk.made w3 #[.map (some mo)] 77); have HOI4 := hidP ((HOI.out.later hb).later ((Below.refl _ _).alloc (Nat.le_refl _) (.cells #[.map (some mo)] 77))); have HOO4 := hidP (hoo.later ((Below.refl _ _).alloc (Nat.le_refl _) (.cells #[.map (some mo)] 77))); have HB4 := hidP (HB3.out.alloc HB3.out.size (.cells #[.map (some mo)] 77)); have j0 := (J3.out.below hb J3.out.lt).cell 0 (v := .int .i64 z) rfl; have j1 := (J3.out.below hb J3.out.lt).cell 1 (v := .slice a n cap) rfl; have s4 := K4.out.lt; have s5 := (J3.out.below hb J3.out.lt).lt; clear hb hoo)
    | (go_at_call 25; (with_reducible refine (HT.out _ _ _ _ mi mo (HM.out.later HB4.out (Nat.le_refl _)) P4.out Q4.out HOI4.out HOO4.out).mono ?_); rintro e w5 ⟨v5, rfl, hm, hb⟩; obtain ⟨a5, c5, rfl⟩ := hm.sl; have HM5 := hidP hm; have HB5 := hidP (HB4.out.trans (hb.mono HB4.out.size)); have K5 := K4.out.below hb K4.out.lt; have e0 := K5.cell 0 (v := .int .i64 0) rfl; have e1 := K5.cell 1 (v := .slice none 0 0) rfl; have g0 := K5.fz 0; have g1 := K5.fz 1; clear hb hm K5))
  exact bodyPost_ret (v := .tuple #[.agg #[.int .i64 R0, .slice a5 R1.length c5], .int .i64 0]) (by simp [results, Try.results23, go_sem, *]) rfl ⟨_, rfl, ((HM5.out.set (by exact s4) _).set (by exact s4) _).mach, (HB5.out.setCell (by show w.heap.size ≤ w.heap.size + 1; omega) _).setCell (by show w.heap.size ≤ w.heap.size + 1; omega) _⟩
theorem relabelP_any (v vi vo : Value) (m : Mc) (ins outs : List Ch) (w : World) (h : Mach w v m) (hok : okM m) (hi : Chs w vi ins) (hoi : okC ins) (ho : Chs w vo outs) (hoo : okC outs) :
    Calls Try.prog 23 #[v, vi, vo] w fun e w' => RatRes (relR ins outs m) (relE ins outs m) w e w' := by
  unfold relR
  by_cases h0 : faultM m = 0
  · by_cases h1 : fltC ins = 0
    · have hE : relE ins outs m = fltC outs := by unfold relE; rw [if_neg (by simp [h0]), if_neg (by simp [h1])]
      rw [hE]
      by_cases h2 : fltC outs = 0
      · rw [if_pos h2, h2]
        exact relab_ok v vi vo m ins outs w h hok hi hoi ho hoo h0 h1 h2
      · rw [if_neg h2]
        exact relab_bad3 v vi vo m ins outs w h hok hi hoi ho hoo h0 h1 _ rfl h2
    · have hE : relE ins outs m = fltC ins := by unfold relE; rw [if_neg (by simp [h0]), if_pos h1]
      rw [hE, if_neg h1]
      exact relab_bad2 v vi vo m ins outs w h hok hi hoi ho h0 _ rfl h1
  · have hE : relE ins outs m = faultM m := by unfold relE; rw [if_pos h0]
    rw [hE, if_neg h0]
    exact relab_bad1 v vi vo m ins outs w h hok hi ho _ rfl h0
end Go.Proofs.Ytpfcljhbamnghab.Wt
