/- The program's reader: what an arc adds to the machine that is read (the loop's rounds are written out by mk_qd.py). -/
import Derived.Test.YthaefajpdncoeaaDoorQc
namespace Go.Proofs.YthaefajpdncoeaaDoor.Wt
open Go.ChangeShapes Go.WideShapes Go.ChangeAt Go.RowKit
open Go.Proofs.YthaefajpdncoeaaDoor.Pl
set_option linter.unusedVariables false
set_option linter.unusedSimpArgs false
def HeldM (M : Nat) (vs : Value) (w : World) : Prop := w.cell? ⟨M, 1, none⟩ = some vs ∧ True
def HeldZ (g q nb : Nat) (va : Value) (y0 y1 y2 y3 : Int) (w : World) : Prop := w.cell? ⟨g, q * 2 + 1, none⟩ = some va ∧ w.cell? ⟨nb, 0, none⟩ = some (.int .i64 y0) ∧ w.cell? ⟨nb, 1, none⟩ = some (.int .i64 y1) ∧ w.cell? ⟨nb, 2, none⟩ = some (.int .i64 y2) ∧ w.cell? ⟨nb, 3, none⟩ = some (.int .i64 y3)
set_option maxRecDepth 100000 in
set_option maxHeartbeats 3200000 in
theorem addArc_any (base M bk : Nat) (z : Int) (t : List St) (sl : St) (p : List (List UInt8)) (x1 x2 x3 x4 : ByteArray) (W : World) (h : MacAt base M z (t ++ [sl]) W) (hM : M < base) (hbW : base ≤ W.heap.size)
    (h1 : W.cell? ⟨bk, 1, none⟩ = some (.string x1)) (h2 : W.cell? ⟨bk, 2, none⟩ = some (.string x2)) (h3 : W.cell? ⟨bk, 3, none⟩ = some (.string x3)) (h4 : W.cell? ⟨bk, 4, none⟩ = some (.string x4)) (hbk : bk < W.heap.size)
    (p1 : x1.data.toList = wd p 1) (p2 : x2.data.toList = wd p 2) (p3 : x3.data.toList = wd p 3) (p4 : x4.data.toList = wd p 4) (z1 : x1.size ≤ 20000) (z2 : x2.size ≤ 20000) (z3 : x3.size ≤ 20000) (z4 : x4.size ≤ 20000)
    (he : Errs W) (hl : t.length ≤ 100000) (hl2 : sl.2.length ≤ 100000) :
    Calls Tryd.prog 44 #[.pointer (some ⟨M, 0, none⟩), .slice (some ⟨bk, 1, none⟩) 4 4] W fun e W' => Below M W W' ∧ Kept (some M) W W' ∧ ((e = .returned (.bool true) ∧ ∃ a, arcQ p = some a ∧ MacAt base M z (t ++ [(sl.1, sl.2 ++ [a])]) W') ∨ (e = .returned (.bool false) ∧ arcQ p = none)) := by
  obtain ⟨v, hb, ho⟩ := h
  have HO : Hid (OwnApt W base v (t ++ [sl])) := ho
  have HB : Hid (Blk W M #[.int .i64 z, v] 24) := hb
  have m1 := hb.cell 1 (v := v) rfl
  have hlt := hb.lt
  have hlt2 : M + 1 ≤ W.heap.size := hlt
  obtain ⟨a, cap, hv⟩ := ho.sl
  rw [show (t ++ [sl]).length = t.length + 1 from by simp] at hv
  subst hv
  have HE : Hid (∀ w, Below W.heap.size W w → Errs w) := fun w hw => he.later hw
  have HK : Hid (∀ w, Below W.heap.size W w → (Below M W w ∧ Kept (some M) W w)) := fun w hw => ⟨hw.mono (Nat.le_of_lt hlt), (Kept.of hw).any _⟩
  have n0 : (((t.length : Int) + 1) == 0) = false := beq_eq_false_iff_ne.2 (by omega)
  have HP1 : Hid (x1.data.toList = wd p 1) := p1
  have HP2 : Hid (x2.data.toList = wd p 2) := p2
  have HP3 : Hid (x3.data.toList = wd p 3) := p3
  have HP4 : Hid (x4.data.toList = wd p 4) := p4
  have HC1 : Hid (W.cell? ⟨bk, 1, none⟩ = some (.string x1)) := h1
  have HC2 : Hid (W.cell? ⟨bk, 2, none⟩ = some (.string x2)) := h2
  have HC3 : Hid (W.cell? ⟨bk, 3, none⟩ = some (.string x3)) := h3
  have HC4 : Hid (W.cell? ⟨bk, 4, none⟩ = some (.string x4)) := h4
  clear hb ho he p1 p2 p3 p4 h1 h2 h3 h4
  go_enter Tryd.func44, Tryd.ntmps44
  go_wp2
  go_loopw [16] (fun i wr => ∃ (k : Nat) (y0 y1 y2 y3 : Int), k ≤ 4 ∧ i = .int .i64 k ∧ Hid (Blk wr W.heap.size #[.int .i64 y0, .int .i64 y1, .int .i64 y2, .int .i64 y3] 89) ∧ Hid (Below W.heap.size W wr) ∧ Hid ((1 ≤ k → atO (wd p 1) = some y0) ∧ (2 ≤ k → atO (wd p 2) = some y1) ∧ (3 ≤ k → atO (wd p 3) = some y2) ∧ (4 ≤ k → atO (wd p 4) = some y3))) (fun i _ => 4 - (intOf i).toNat)
  case atStart => exact ⟨0, 0, 0, 0, 0, by omega, rfl, Blk.made W _ _, (Below.refl _ _).alloc (Nat.le_refl _) _, by omega, by omega, by omega, by omega⟩
  case round =>
    clear m1
    obtain ⟨k, y0, y1, y2, y3, hk, rfl, hbx, hb, hq⟩ := hrel
    rcases (show k = 0 ∨ k = 1 ∨ k = 2 ∨ k = 3 ∨ k = 4 by omega) with rfl | rfl | rfl | rfl | rfl
    · have c1 := (hb.out.cell (p := ⟨bk, 1, none⟩) hbk).trans HC1.out
      have d0 := hbx.out.cell 0 (v := .int .i64 y0) rfl
      have e0 := hbx.out.fz 0
      obtain ⟨r, hat⟩ : ∃ r, atO (wd p 1) = r := ⟨_, rfl⟩
      cases r with
      | some v =>
        have HA : Hid (∀ w : World, Calls Tryd.prog 57 #[.string x1] w fun e w' => e = .returned (.tuple #[.int .i64 v, .nilIface]) ∧ Below w.heap.size w w') := fun w => atoi_ok x1 w (by omega) v (by rw [HP1.out]; exact hat)
        have HAT : Hid (atO (wd p 1) = some v) := hat
        clear hat
        go_wp2_with (first
          | (go_at_call 57; (with_reducible refine (HA.out _).mono ?_); rintro e w1 ⟨rfl, hb1⟩; have HX1 : Hid (Blk w1 W.heap.size #[.int .i64 y0, .int .i64 y1, .int .i64 y2, .int .i64 y3] 89) := hbx.out.below hb1 hbx.out.lt; have HB1 : Hid (Below W.heap.size W w1) := hb.out.trans (hb1.mono hb.out.size); have d1' := HX1.out.cell 0 (v := .int .i64 y0) rfl; have e1' := HX1.out.fz 0; clear hb1))
        go_roundw
        case rel => exact ⟨1, v, y1, y2, y3, by omega, rfl, HX1.out.set 0 _, HB1.out.setCell (p := ⟨W.heap.size, 0, none⟩) (Nat.le_refl _) _, fun _ => HAT.out, by omega, by omega, by omega⟩
        case measure => simp [intOf]
      | none =>
        have HA : Hid (Calls Tryd.prog 57 #[.string x1] wr fun e w' => ∃ v t x, e = .returned (.tuple #[.int .i64 v, .iface t x]) ∧ Below wr.heap.size wr w') := atoi_no x1 wr (by omega) (HE.out _ hb.out) (by rw [HP1.out]; exact hat)
        have HQ : Hid (arcQ p = none) := by show _ = _; unfold arcQ; rw [hat]; rfl
        clear hat
        go_wp2_with (first
          | (go_at_call 57; (with_reducible refine (HA.out).mono ?_); rintro e w1 ⟨vv, tt, xx, rfl, hb1⟩; have HB1 : Hid (Below W.heap.size W w1) := hb.out.trans (hb1.mono hb.out.size); clear hb1))
        refine bodyPost_ret (v := .bool false) (by simp [results, Tryd.results44, go_sem]) rfl ?_
        exact ⟨(HK.out _ HB1.out).1, (HK.out _ HB1.out).2, .inr ⟨rfl, HQ.out⟩⟩
    · have c1 := (hb.out.cell (p := ⟨bk, 2, none⟩) hbk).trans HC2.out
      have d1 := hbx.out.cell 1 (v := .int .i64 y1) rfl
      have e1 := hbx.out.fz 1
      obtain ⟨r, hat⟩ : ∃ r, atO (wd p 2) = r := ⟨_, rfl⟩
      cases r with
      | some v =>
        have HA : Hid (∀ w : World, Calls Tryd.prog 57 #[.string x2] w fun e w' => e = .returned (.tuple #[.int .i64 v, .nilIface]) ∧ Below w.heap.size w w') := fun w => atoi_ok x2 w (by omega) v (by rw [HP2.out]; exact hat)
        have HAT : Hid (atO (wd p 2) = some v) := hat
        clear hat
        go_wp2_with (first
          | (go_at_call 57; (with_reducible refine (HA.out _).mono ?_); rintro e w1 ⟨rfl, hb1⟩; have HX1 : Hid (Blk w1 W.heap.size #[.int .i64 y0, .int .i64 y1, .int .i64 y2, .int .i64 y3] 89) := hbx.out.below hb1 hbx.out.lt; have HB1 : Hid (Below W.heap.size W w1) := hb.out.trans (hb1.mono hb.out.size); have d1' := HX1.out.cell 1 (v := .int .i64 y1) rfl; have e1' := HX1.out.fz 1; clear hb1))
        go_roundw
        case rel => exact ⟨2, y0, v, y2, y3, by omega, rfl, HX1.out.set 1 _, HB1.out.setCell (p := ⟨W.heap.size, 1, none⟩) (Nat.le_refl _) _, fun _ => hq.out.1 (by omega), fun _ => HAT.out, by omega, by omega⟩
        case measure => simp [intOf]
      | none =>
        have HA : Hid (Calls Tryd.prog 57 #[.string x2] wr fun e w' => ∃ v t x, e = .returned (.tuple #[.int .i64 v, .iface t x]) ∧ Below wr.heap.size wr w') := atoi_no x2 wr (by omega) (HE.out _ hb.out) (by rw [HP2.out]; exact hat)
        have HQ : Hid (arcQ p = none) := by show _ = _; unfold arcQ; rw [hq.out.1 (by omega), hat]; rfl
        clear hat
        go_wp2_with (first
          | (go_at_call 57; (with_reducible refine (HA.out).mono ?_); rintro e w1 ⟨vv, tt, xx, rfl, hb1⟩; have HB1 : Hid (Below W.heap.size W w1) := hb.out.trans (hb1.mono hb.out.size); clear hb1))
        refine bodyPost_ret (v := .bool false) (by simp [results, Tryd.results44, go_sem]) rfl ?_
        exact ⟨(HK.out _ HB1.out).1, (HK.out _ HB1.out).2, .inr ⟨rfl, HQ.out⟩⟩
    · have c1 := (hb.out.cell (p := ⟨bk, 3, none⟩) hbk).trans HC3.out
      have d2 := hbx.out.cell 2 (v := .int .i64 y2) rfl
      have e2 := hbx.out.fz 2
      obtain ⟨r, hat⟩ : ∃ r, atO (wd p 3) = r := ⟨_, rfl⟩
      cases r with
      | some v =>
        have HA : Hid (∀ w : World, Calls Tryd.prog 57 #[.string x3] w fun e w' => e = .returned (.tuple #[.int .i64 v, .nilIface]) ∧ Below w.heap.size w w') := fun w => atoi_ok x3 w (by omega) v (by rw [HP3.out]; exact hat)
        have HAT : Hid (atO (wd p 3) = some v) := hat
        clear hat
        go_wp2_with (first
          | (go_at_call 57; (with_reducible refine (HA.out _).mono ?_); rintro e w1 ⟨rfl, hb1⟩; have HX1 : Hid (Blk w1 W.heap.size #[.int .i64 y0, .int .i64 y1, .int .i64 y2, .int .i64 y3] 89) := hbx.out.below hb1 hbx.out.lt; have HB1 : Hid (Below W.heap.size W w1) := hb.out.trans (hb1.mono hb.out.size); have d1' := HX1.out.cell 2 (v := .int .i64 y2) rfl; have e1' := HX1.out.fz 2; clear hb1))
        go_roundw
        case rel => exact ⟨3, y0, y1, v, y3, by omega, rfl, HX1.out.set 2 _, HB1.out.setCell (p := ⟨W.heap.size, 2, none⟩) (Nat.le_refl _) _, fun _ => hq.out.1 (by omega), fun _ => hq.out.2.1 (by omega), fun _ => HAT.out, by omega⟩
        case measure => simp [intOf]
      | none =>
        have HA : Hid (Calls Tryd.prog 57 #[.string x3] wr fun e w' => ∃ v t x, e = .returned (.tuple #[.int .i64 v, .iface t x]) ∧ Below wr.heap.size wr w') := atoi_no x3 wr (by omega) (HE.out _ hb.out) (by rw [HP3.out]; exact hat)
        have HQ : Hid (arcQ p = none) := by show _ = _; unfold arcQ; rw [hq.out.1 (by omega), hq.out.2.1 (by omega), hat]; rfl
        clear hat
        go_wp2_with (first
          | (go_at_call 57; (with_reducible refine (HA.out).mono ?_); rintro e w1 ⟨vv, tt, xx, rfl, hb1⟩; have HB1 : Hid (Below W.heap.size W w1) := hb.out.trans (hb1.mono hb.out.size); clear hb1))
        refine bodyPost_ret (v := .bool false) (by simp [results, Tryd.results44, go_sem]) rfl ?_
        exact ⟨(HK.out _ HB1.out).1, (HK.out _ HB1.out).2, .inr ⟨rfl, HQ.out⟩⟩
    · have c1 := (hb.out.cell (p := ⟨bk, 4, none⟩) hbk).trans HC4.out
      have d3 := hbx.out.cell 3 (v := .int .i64 y3) rfl
      have e3 := hbx.out.fz 3
      obtain ⟨r, hat⟩ : ∃ r, atO (wd p 4) = r := ⟨_, rfl⟩
      cases r with
      | some v =>
        have HA : Hid (∀ w : World, Calls Tryd.prog 57 #[.string x4] w fun e w' => e = .returned (.tuple #[.int .i64 v, .nilIface]) ∧ Below w.heap.size w w') := fun w => atoi_ok x4 w (by omega) v (by rw [HP4.out]; exact hat)
        have HAT : Hid (atO (wd p 4) = some v) := hat
        clear hat
        go_wp2_with (first
          | (go_at_call 57; (with_reducible refine (HA.out _).mono ?_); rintro e w1 ⟨rfl, hb1⟩; have HX1 : Hid (Blk w1 W.heap.size #[.int .i64 y0, .int .i64 y1, .int .i64 y2, .int .i64 y3] 89) := hbx.out.below hb1 hbx.out.lt; have HB1 : Hid (Below W.heap.size W w1) := hb.out.trans (hb1.mono hb.out.size); have d1' := HX1.out.cell 3 (v := .int .i64 y3) rfl; have e1' := HX1.out.fz 3; clear hb1))
        go_roundw
        case rel => exact ⟨4, y0, y1, y2, v, by omega, rfl, HX1.out.set 3 _, HB1.out.setCell (p := ⟨W.heap.size, 3, none⟩) (Nat.le_refl _) _, fun _ => hq.out.1 (by omega), fun _ => hq.out.2.1 (by omega), fun _ => hq.out.2.2.1 (by omega), fun _ => HAT.out⟩
        case measure => simp [intOf]
      | none =>
        have HA : Hid (Calls Tryd.prog 57 #[.string x4] wr fun e w' => ∃ v t x, e = .returned (.tuple #[.int .i64 v, .iface t x]) ∧ Below wr.heap.size wr w') := atoi_no x4 wr (by omega) (HE.out _ hb.out) (by rw [HP4.out]; exact hat)
        have HQ : Hid (arcQ p = none) := by show _ = _; unfold arcQ; rw [hq.out.1 (by omega), hq.out.2.1 (by omega), hq.out.2.2.1 (by omega), hat]; rfl
        clear hat
        go_wp2_with (first
          | (go_at_call 57; (with_reducible refine (HA.out).mono ?_); rintro e w1 ⟨vv, tt, xx, rfl, hb1⟩; have HB1 : Hid (Below W.heap.size W w1) := hb.out.trans (hb1.mono hb.out.size); clear hb1))
        refine bodyPost_ret (v := .bool false) (by simp [results, Tryd.results44, go_sem]) rfl ?_
        exact ⟨(HK.out _ HB1.out).1, (HK.out _ HB1.out).2, .inr ⟨rfl, HQ.out⟩⟩
    · have HQ : Hid (arcQ p = some (y1, y2, y3, y0)) := by show _ = _; unfold arcQ; rw [hq.out.1 (by omega), hq.out.2.1 (by omega), hq.out.2.2.1 (by omega), hq.out.2.2.2 (by omega)]; rfl
      have HO1 : OwnApt wr.drew.drew base (.slice a (t.length + 1) cap) (t ++ [sl]) := HO.out.later hb.out.drew.drew
      have hbs := hb.out.size
      obtain ⟨g, cap2, a4, c4, hv, hbg, hgl, hc, a5, c5, w4, hr, hc4, hf4, hb4, ho4, hk4, hk5⟩ := arc_kept HO1 (by show base ≤ wr.heap.size; omega) (y1, y2, y3, y0) (by omega)
      injection hv with hv1 _ hv3
      subst hv1 hv3
      have HB1 : Hid (Blk wr M #[.int .i64 z, .slice (some ⟨g, 0, none⟩) (t.length + 1) cap] 24) := HB.out.below hb.out hlt
      have m1 := HB1.out.cell 1 (v := .slice (some ⟨g, 0, none⟩) (t.length + 1) cap) rfl
      have hqw : IntKind.i64.wrap (t.length : Int) = (t.length : Int) := wrapI (by omega) (by omega)
      have k0 : (0 : Int) ≤ (t.length : Int) := by omega
      have k1 : (t.length : Int) < (t.length : Int) + 1 := by omega
      go_wp2
      have HSM : HeldM M (.slice (some ⟨g, 0, none⟩) (t.length + 1) cap) wr.drew := ⟨m1, trivial⟩
      refine region_anyL (HeldM M (.slice (some ⟨g, 0, none⟩) (t.length + 1) cap)) 1000 (by kernel_rfl) ?_
      refine anyL_take (i := 0) (v := ?v0_10) at0 (by kernel_rfl) (by kernel_rfl) (by kernel_rfl) (by kernel_rfl) (fun _ _ _ h => h) rfl ?y0_10 HSM ?r0_10
      case y0_10 => intro wx hx; obtain ⟨h1, _⟩ := hx; go_simp; try (with_reducible rfl)
      simp only [Act.put, List.setIfInBounds_toArray, List.set_cons_zero, List.set_cons_succ]
      refine anyL_take (i := 1) (v := ?v1_11) (atS at0) (by kernel_rfl) (by kernel_rfl) (by kernel_rfl) (by kernel_rfl) (fun _ _ _ h => h) rfl ?y1_11 HSM ?r1_11
      case y1_11 => intro wx hx; obtain ⟨h1, _⟩ := hx; go_simp; try (with_reducible rfl)
      simp only [Act.put, List.setIfInBounds_toArray, List.set_cons_zero, List.set_cons_succ]
      refine anyL_take (i := 2) (v := ?v2_12) (atS (atS at0)) (by kernel_rfl) (by kernel_rfl) (by kernel_rfl) (by kernel_rfl) (fun _ _ _ h => h) rfl ?y2_12 HSM ?r2_12
      case y2_12 => intro wx hx; obtain ⟨h1, _⟩ := hx; go_simp; try (with_reducible rfl)
      simp only [Act.put, List.setIfInBounds_toArray, List.set_cons_zero, List.set_cons_succ]
      refine anyL_take (i := 3) (v := ?v3_13) (atS (atS (atS at0))) (by kernel_rfl) (by kernel_rfl) (by kernel_rfl) (by kernel_rfl) (fun _ _ _ h => h) rfl ?y3_13 HSM ?r3_13
      case y3_13 => intro wx hx; obtain ⟨h1, _⟩ := hx; go_simp; try (with_reducible rfl)
      simp only [Act.put, List.setIfInBounds_toArray, List.set_cons_zero, List.set_cons_succ]
      refine anyL_take (i := 4) (v := ?v4_14) (atS (atS (atS (atS at0)))) (by kernel_rfl) (by kernel_rfl) (by kernel_rfl) (by kernel_rfl) (fun _ _ _ h => h) rfl ?y4_14 HSM ?r4_14
      case y4_14 => intro wx hx; obtain ⟨h1, _⟩ := hx; go_simp; try (with_reducible rfl)
      simp only [Act.put, List.setIfInBounds_toArray, List.set_cons_zero, List.set_cons_succ]
      refine anyL_take (i := 5) (v := ?v5_15) (atS (atS (atS (atS (atS at0))))) (by kernel_rfl) (by kernel_rfl) (by kernel_rfl) (by kernel_rfl) (fun _ _ _ h => h) rfl ?y5_15 HSM ?r5_15
      case y5_15 => intro wx hx; obtain ⟨h1, _⟩ := hx; go_simp; try (with_reducible rfl)
      simp only [Act.put, List.setIfInBounds_toArray, List.set_cons_zero, List.set_cons_succ]
      refine anyL_take (i := 6) (v := ?v6_16) (atS (atS (atS (atS (atS (atS at0)))))) (by kernel_rfl) (by kernel_rfl) (by kernel_rfl) (by kernel_rfl) (fun _ _ _ h => h) rfl ?y6_16 HSM ?r6_16
      case y6_16 => intro wx hx; obtain ⟨h1, _⟩ := hx; go_simp; try (with_reducible rfl)
      simp only [Act.put, List.setIfInBounds_toArray, List.set_cons_zero, List.set_cons_succ]
      refine anyL_take (i := 7) (v := ?v7_17) (atS (atS (atS (atS (atS (atS (atS at0))))))) (by kernel_rfl) (by kernel_rfl) (by kernel_rfl) (by kernel_rfl) (fun _ _ _ h => h) rfl ?y7_17 HSM ?r7_17
      case y7_17 => intro wx hx; obtain ⟨h1, _⟩ := hx; go_simp; try (with_reducible rfl)
      simp only [Act.put, List.setIfInBounds_toArray, List.set_cons_zero, List.set_cons_succ]
      refine anyL_take (i := 8) (v := ?v8_18) (atS (atS (atS (atS (atS (atS (atS (atS at0)))))))) (by kernel_rfl) (by kernel_rfl) (by kernel_rfl) (by kernel_rfl) (fun _ _ _ h => h) rfl ?y8_18 HSM ?r8_18
      case y8_18 => intro wx hx; obtain ⟨h1, _⟩ := hx; go_simp; try (with_reducible rfl)
      simp only [Act.put, List.setIfInBounds_toArray, List.set_cons_zero, List.set_cons_succ]
      refine anyL_take (i := 9) (v := ?v9_19) (atS (atS (atS (atS (atS (atS (atS (atS (atS at0))))))))) (by kernel_rfl) (by kernel_rfl) (by kernel_rfl) (by kernel_rfl) (fun _ _ _ h => h) rfl ?y9_19 HSM ?r9_19
      case y9_19 => intro wx hx; obtain ⟨h1, _⟩ := hx; go_simp; try (with_reducible rfl)
      simp only [Act.put, List.setIfInBounds_toArray, List.set_cons_zero, List.set_cons_succ]
      refine anyL_take (i := 10) (v := ?v10_20) (atS (atS (atS (atS (atS (atS (atS (atS (atS (atS at0)))))))))) (by kernel_rfl) (by kernel_rfl) (by kernel_rfl) (by kernel_rfl) (fun _ _ _ h => h) rfl ?y10_20 HSM ?r10_20
      case y10_20 => intro wx hx; obtain ⟨h1, _⟩ := hx; go_simp; try (with_reducible rfl)
      simp only [Act.put, List.setIfInBounds_toArray, List.set_cons_zero, List.set_cons_succ]
      refine anyL_one (i := 11) (atS (atS (atS (atS (atS (atS (atS (atS (atS (atS (atS at0))))))))))) (by kernel_rfl) rfl (fun K hK => ?_)
      go_simp
      refine hK _ _ (.inr HSM) (anyL_done (by kernel_rfl) (NoPanic.normal ?_))
      try simp only [Act.put, List.setIfInBounds_toArray, List.set_cons_zero, List.set_cons_succ]
      go_wp2
      have HX4 : Hid (Blk w4 W.heap.size #[.int .i64 y0, .int .i64 y1, .int .i64 y2, .int .i64 y3] 89) := hk4.blk hbx.out.drew.drew (by simp) (by decide) (by decide)
      have HM4 : Hid (Blk w4 M #[.int .i64 z, .slice (some ⟨g, 0, none⟩) (t.length + 1) cap] 24) := hk4.blk HB1.out.drew.drew (by simp) (by decide) (by decide)
      have HS : HeldZ g t.length W.heap.size (.slice a4 sl.2.length c4) y0 y1 y2 y3 wr.drew.drew := ⟨hc, hbx.out.cell 0 rfl, hbx.out.cell 1 rfl, hbx.out.cell 2 rfl, hbx.out.cell 3 rfl⟩
      have HSA : HeldZ g t.length W.heap.size (.slice a4 sl.2.length c4) y0 y1 y2 y3 (wr.drew.drew.alloc (.cells #[.int .i64 y1, .int .i64 y2, .int .i64 y3, .int .i64 y0] 46)) := by
        have hx := hbx.out.drew.drew.alloc (.cells #[.int .i64 y1, .int .i64 y2, .int .i64 y3, .int .i64 y0] 46)
        exact ⟨(((Below.refl wr.drew.drew.heap.size wr.drew.drew).alloc (Nat.le_refl _) _).cell (p := ⟨g, t.length * 2 + 1, none⟩) hgl).trans hc, hx.cell 0 rfl, hx.cell 1 rfl, hx.cell 2 rfl, hx.cell 3 rfl⟩
      have HS4 : HeldZ g t.length W.heap.size (.slice a4 sl.2.length c4) y0 y1 y2 y3 w4 := ⟨hc4, HX4.out.cell 0 rfl, HX4.out.cell 1 rfl, HX4.out.cell 2 rfl, HX4.out.cell 3 rfl⟩
      have R4 : Hid ((Builtin.append_ #[35, 35] 35 #[.slice a4 sl.2.length c4, .slice (some ⟨wr.drew.drew.heap.size, 0, none⟩) 1 1]).run Tryd.prog (wr.drew.drew.alloc (.cells #[.int .i64 y1, .int .i64 y2, .int .i64 y3, .int .i64 y0] 46)) = .ok (.slice a5 (sl.2.length + 1) c5) w4) := hr
      have HO4 : Hid (OwnApt (w4.setCell ⟨g, t.length * 2 + 1, none⟩ (.slice a5 (sl.2.length + 1) c5)) base (.slice (some ⟨g, 0, none⟩) (t.length + 1) cap) (t ++ [(sl.1, sl.2 ++ [(y1, y2, y3, y0)])])) := ho4
      have HM5 : Hid (Blk (w4.setCell ⟨g, t.length * 2 + 1, none⟩ (.slice a5 (sl.2.length + 1) c5)) M #[.int .i64 z, .slice (some ⟨g, 0, none⟩) (t.length + 1) cap] 24) := HM4.out.setO _ _ (by show M ≠ g; omega)
      have HW5 : Hid (Below M W (w4.setCell ⟨g, t.length * 2 + 1, none⟩ (.slice a5 (sl.2.length + 1) c5))) := (((hb.out.drew.drew).mono (by omega)).trans (hb4.mono (by omega))).setCell (p := ⟨g, t.length * 2 + 1, none⟩) (by show M ≤ g; omega) _
      have HK5 : Hid (Kept (some M) W (w4.setCell ⟨g, t.length * 2 + 1, none⟩ (.slice a5 (sl.2.length + 1) c5))) := (((Kept.of hb.out.drew.drew).trans hk4).trans hk5).any _
      clear hr ho4 hk4 hk5 hb4 HO1 HSM
      refine region_anyL (HeldZ g t.length W.heap.size (.slice a4 sl.2.length c4) y0 y1 y2 y3) 18 (by kernel_rfl) ?_
      refine anyL_take (i := 0) (v := ?v0_21) at0 (by kernel_rfl) (by kernel_rfl) (by kernel_rfl) (by kernel_rfl) (fun _ _ _ h => h) rfl ?y0_21 HS ?r0_21
      case y0_21 => intro wx hx; obtain ⟨h1, h2, h3, h4, h5⟩ := hx; go_simp; try (with_reducible rfl)
      simp only [Act.put, List.setIfInBounds_toArray, List.set_cons_zero, List.set_cons_succ]
      refine anyL_take (i := 1) (v := ?v1_22) (atS at0) (by kernel_rfl) (by kernel_rfl) (by kernel_rfl) (by kernel_rfl) (fun _ _ _ h => h) rfl ?y1_22 HS ?r1_22
      case y1_22 => intro wx hx; obtain ⟨h1, h2, h3, h4, h5⟩ := hx; go_simp; try (with_reducible rfl)
      simp only [Act.put, List.setIfInBounds_toArray, List.set_cons_zero, List.set_cons_succ]
      refine anyL_take (i := 2) (v := ?v2_23) (atS (atS at0)) (by kernel_rfl) (by kernel_rfl) (by kernel_rfl) (by kernel_rfl) (fun _ _ _ h => h) rfl ?y2_23 HS ?r2_23
      case y2_23 => intro wx hx; obtain ⟨h1, h2, h3, h4, h5⟩ := hx; go_simp; try (with_reducible rfl)
      simp only [Act.put, List.setIfInBounds_toArray, List.set_cons_zero, List.set_cons_succ]
      refine anyL_take (i := 3) (v := ?v3_24) (atS (atS (atS at0))) (by kernel_rfl) (by kernel_rfl) (by kernel_rfl) (by kernel_rfl) (fun _ _ _ h => h) rfl ?y3_24 HS ?r3_24
      case y3_24 => intro wx hx; obtain ⟨h1, h2, h3, h4, h5⟩ := hx; go_simp; try (with_reducible rfl)
      simp only [Act.put, List.setIfInBounds_toArray, List.set_cons_zero, List.set_cons_succ]
      refine anyL_take (i := 4) (v := ?v4_25) (atS (atS (atS (atS at0)))) (by kernel_rfl) (by kernel_rfl) (by kernel_rfl) (by kernel_rfl) (fun _ _ _ h => h) rfl ?y4_25 HS ?r4_25
      case y4_25 => intro wx hx; obtain ⟨h1, h2, h3, h4, h5⟩ := hx; go_simp; try (with_reducible rfl)
      simp only [Act.put, List.setIfInBounds_toArray, List.set_cons_zero, List.set_cons_succ]
      refine anyL_take (i := 5) (v := ?v5_26) (atS (atS (atS (atS (atS at0))))) (by kernel_rfl) (by kernel_rfl) (by kernel_rfl) (by kernel_rfl) (fun _ _ _ h => h) rfl ?y5_26 HS ?r5_26
      case y5_26 => intro wx hx; obtain ⟨h1, h2, h3, h4, h5⟩ := hx; go_simp; try (with_reducible rfl)
      simp only [Act.put, List.setIfInBounds_toArray, List.set_cons_zero, List.set_cons_succ]
      refine anyL_take (i := 6) (v := ?v6_27) (atS (atS (atS (atS (atS (atS at0)))))) (by kernel_rfl) (by kernel_rfl) (by kernel_rfl) (by kernel_rfl) (fun _ _ _ h => h) rfl ?y6_27 HS ?r6_27
      case y6_27 => intro wx hx; obtain ⟨h1, h2, h3, h4, h5⟩ := hx; go_simp; try (with_reducible rfl)
      simp only [Act.put, List.setIfInBounds_toArray, List.set_cons_zero, List.set_cons_succ]
      refine anyL_take (i := 7) (v := ?v7_28) (atS (atS (atS (atS (atS (atS (atS at0))))))) (by kernel_rfl) (by kernel_rfl) (by kernel_rfl) (by kernel_rfl) (fun _ _ _ h => h) rfl ?y7_28 HS ?r7_28
      case y7_28 => intro wx hx; obtain ⟨h1, h2, h3, h4, h5⟩ := hx; go_simp; try (with_reducible rfl)
      simp only [Act.put, List.setIfInBounds_toArray, List.set_cons_zero, List.set_cons_succ]
      refine anyL_take (i := 8) (v := ?v8_29) (atS (atS (atS (atS (atS (atS (atS (atS at0)))))))) (by kernel_rfl) (by kernel_rfl) (by kernel_rfl) (by kernel_rfl) (fun _ _ _ h => h) rfl ?y8_29 HS ?r8_29
      case y8_29 => intro wx hx; obtain ⟨h1, h2, h3, h4, h5⟩ := hx; go_simp; try (with_reducible rfl)
      simp only [Act.put, List.setIfInBounds_toArray, List.set_cons_zero, List.set_cons_succ]
      refine anyL_take (i := 9) (v := ?v9_30) (atS (atS (atS (atS (atS (atS (atS (atS (atS at0))))))))) (by kernel_rfl) (by kernel_rfl) (by kernel_rfl) (by kernel_rfl) (fun _ _ _ h => h) rfl ?y9_30 HS ?r9_30
      case y9_30 => intro wx hx; obtain ⟨h1, h2, h3, h4, h5⟩ := hx; go_simp; try (with_reducible rfl)
      simp only [Act.put, List.setIfInBounds_toArray, List.set_cons_zero, List.set_cons_succ]
      refine anyL_take (i := 10) (v := ?v10_31) (atS (atS (atS (atS (atS (atS (atS (atS (atS (atS at0)))))))))) (by kernel_rfl) (by kernel_rfl) (by kernel_rfl) (by kernel_rfl) (fun _ _ _ h => h) rfl ?y10_31 HS ?r10_31
      case y10_31 => intro wx hx; obtain ⟨h1, h2, h3, h4, h5⟩ := hx; go_simp; try (with_reducible rfl)
      simp only [Act.put, List.setIfInBounds_toArray, List.set_cons_zero, List.set_cons_succ]
      refine anyL_take (i := 11) (v := ?v11_32) (atS (atS (atS (atS (atS (atS (atS (atS (atS (atS (atS at0))))))))))) (by kernel_rfl) (by kernel_rfl) (by kernel_rfl) (by kernel_rfl) (fun _ _ _ h => h) rfl ?y11_32 HS ?r11_32
      case y11_32 => intro wx hx; obtain ⟨h1, h2, h3, h4, h5⟩ := hx; go_simp; try (with_reducible rfl)
      simp only [Act.put, List.setIfInBounds_toArray, List.set_cons_zero, List.set_cons_succ]
      refine anyL_take (i := 12) (v := ?v12_33) (atS (atS (atS (atS (atS (atS (atS (atS (atS (atS (atS (atS at0)))))))))))) (by kernel_rfl) (by kernel_rfl) (by kernel_rfl) (by kernel_rfl) (fun _ _ _ h => h) rfl ?y12_33 HS ?r12_33
      case y12_33 => intro wx hx; obtain ⟨h1, h2, h3, h4, h5⟩ := hx; go_simp; try (with_reducible rfl)
      simp only [Act.put, List.setIfInBounds_toArray, List.set_cons_zero, List.set_cons_succ]
      refine anyL_take (i := 13) (v := ?v13_34) (atS (atS (atS (atS (atS (atS (atS (atS (atS (atS (atS (atS (atS at0))))))))))))) (by kernel_rfl) (by kernel_rfl) (by kernel_rfl) (by kernel_rfl) (fun _ _ _ h => h) rfl ?y13_34 HS ?r13_34
      case y13_34 => intro wx hx; obtain ⟨h1, h2, h3, h4, h5⟩ := hx; go_simp; try (with_reducible rfl)
      simp only [Act.put, List.setIfInBounds_toArray, List.set_cons_zero, List.set_cons_succ]
      refine anyL_one (i := 14) (atS (atS (atS (atS (atS (atS (atS (atS (atS (atS (atS (atS (atS (atS at0)))))))))))))) (by kernel_rfl) rfl (fun K hK => ?_)
      go_simp
      refine hK _ _ (.inr HSA) ?_
      try simp only [Act.put, List.setIfInBounds_toArray, List.set_cons_zero, List.set_cons_succ]
      refine anyL_one (i := 15) (atS (atS (atS (atS (atS (atS (atS (atS (atS (atS (atS (atS (atS (atS (atS at0))))))))))))))) (by kernel_rfl) rfl (fun K hK => ?_)
      refine wp_append_run (.tmp 48) (.tmp 58) 35 rfl rfl rfl R4.out ?_
      refine hK _ _ (.inr HS4) ?_
      try simp only [Act.put, List.setIfInBounds_toArray, List.set_cons_zero, List.set_cons_succ]
      refine anyL_one (i := 16) (atS (atS (atS (atS (atS (atS (atS (atS (atS (atS (atS (atS (atS (atS (atS (atS at0)))))))))))))))) (by kernel_rfl) rfl (fun K hK => ?_)
      go_simp
      refine hK _ _ (.inr HS4) ?_
      try simp only [Act.put, List.setIfInBounds_toArray, List.set_cons_zero, List.set_cons_succ]
      refine anyL_take (i := 17) (v := ?v17_35) (atS (atS (atS (atS (atS (atS (atS (atS (atS (atS (atS (atS (atS (atS (atS (atS (atS at0))))))))))))))))) (by kernel_rfl) (by kernel_rfl) (by kernel_rfl) (by kernel_rfl) (fun _ _ _ h => h) rfl ?y17_35 HS4 ?r17_35
      case y17_35 => intro wx hx; obtain ⟨h1, h2, h3, h4, h5⟩ := hx; go_simp; try (with_reducible rfl)
      simp only [Act.put, List.setIfInBounds_toArray, List.set_cons_zero, List.set_cons_succ]
      refine anyL_one (i := 18) (atS (atS (atS (atS (atS (atS (atS (atS (atS (atS (atS (atS (atS (atS (atS (atS (atS (atS at0)))))))))))))))))) (by kernel_rfl) rfl (fun K hK => ?_)
      go_simp
      refine hK _ _ (.inl rfl) (anyL_done (by kernel_rfl) (NoPanic.normal ?_))
      try simp only [Act.put, List.setIfInBounds_toArray, List.set_cons_zero, List.set_cons_succ]
      clear HS HSA HS4 hc4 hf4
      go_wp2
      refine bodyPost_ret (v := .bool true) (by simp [results, Tryd.results44, go_sem]) rfl ?_
      exact ⟨HW5.out, HK5.out, .inl ⟨rfl, y1, y2, y3, y0, HQ.out, _, HM5.out, HO4.out⟩⟩
end Go.Proofs.YthaefajpdncoeaaDoor.Wt
