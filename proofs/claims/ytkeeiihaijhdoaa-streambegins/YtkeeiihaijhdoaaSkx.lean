/- What the reference answers to the beginning of a run. -/
import Derived.Test.YtkeeiihaijhdoaaSkw
namespace Go.Proofs.Ytkeeiihaijhdoaa.Sm
open Go.ChangeShapes Go.WideShapes Go.ChangeAt Go.RowKit
open Go.Proofs.Ytkeeiihaijhdoaa.Pl Go.Proofs.Ytkeeiihaijhdoaa.Wt
set_option linter.unusedVariables false
set_option linter.unusedSimpArgs false
theorem startT_nz (m : Mc) : NzT (startT m) := by
  intro q k h x hx
  unfold startT at h
  by_cases e : 0 ≤ m.1 ∧ q = m.1
  · rw [if_pos e, Option.some.injEq] at h
    rw [← h] at hx
    cases hx
  · rw [if_neg e] at h; cases h
theorem AsAns.beg {m : Mc} {r : Ru} {ec : Int} (hf : faultM m = 0) (h : AsAns m (startT m) 0 r ec) : BegAns m r ec := .inr ⟨hf, h⟩
theorem bstM_nob (y : Mk) : bstM (-1, 0, []) y = y := by unfold bstM; rw [if_pos (.inl (by decide))]
/-- The run r, not in the block X, stored into a block of its own. -/
theorem RunX.stored {X : Nat} {w w' : World} {v : Value} {r : Ru} (h : RunX X w v r) (hk : ∀ b, b < w.heap.size → b ≠ X → w'.heap[b]? = w.heap[b]?) : RunV w' v r := by
  obtain ⟨vs, h1, us, g1, g2, g3⟩ := h
  exact ⟨vs, h1, us, g1 w' hk, g2, fun j hj => ⟨(g3 j hj).1, (g3 j hj).2.1, (g3 j hj).2.2 w' fun b hb hx _ => hk b hb hx⟩⟩
set_option maxRecDepth 100000 in
set_option maxHeartbeats 4000000 in
theorem beginR_any (v : Value) (mc : Mc) (w : World) (h : Mach w v mc) (hok : okM mc) :
    Calls Try.prog 11 #[v] w fun e w' => ∃ r ec, BegAns mc r ec ∧ RunRes r ec w e w' := by
  have HMa := hidP h
  have HK := hidP hok
  obtain ⟨z, l⟩ := mc
  obtain ⟨vs, rfl, hS⟩ := h
  obtain ⟨a, cap, rfl⟩ := hS.sl
  clear hS hok
  have HU : Hid (Below w.heap.size w ((w.alloc (.cells #[.int .i64 z, .slice a l.length cap] 24)).alloc (.cells #[.int .i64 0, .slice none 0 0] 28))) := by show Below _ _ _; go_grown
  by_cases hf : faultM (z, l) = 0
  · have HF := hidP hf
    have h60 := (right_size hf).1
    have hz := start_rng hf
    simp only at hz
    have HD : Hid (DomT l.length (startT (z, l))) := startT_dom (m := (z, l)) hz.2
    have HB : Hid (BndT 0 0 (startT (z, l))) := startT_bnd (z, l)
    have HAS : Hid (∀ r ec, AsAns (z, l) (startT (z, l)) 0 r ec → BegAns (z, l) r ec) := fun r ec => AsAns.beg hf
    have HCA : Hid (∀ W v vl ms, w.heap.size + 1 < W.heap.size → Mach W v (z, l) → MarksX (w.heap.size + 1) W vl ms → TRel l.length (startT (z, l)) ms → Calls Try.prog 33 #[v, vl, .int .i64 0] W fun e w' => ∃ r ec, AsAns (z, l) (startT (z, l)) 0 r ec ∧ RunResX (w.heap.size + 1) r ec W e w') := fun W v vl ms hX h1 h2 h3 => asRunR_any v (z, l) vl ms (startT (z, l)) 0 0 0 (w.heap.size + 1) W hX h1 HK.out HF.out h2 (startT_nz _) h3 HD.out HB.out (by omega) (by omega)
    have HTN : Hid (z < 0 → TRel l.length (startT (z, l)) (List.replicate l.length (-1, 0, []))) := fun h => by rw [startT_none (m := (z, l)) h]; exact TRel.nob _
    have HTP : Hid (∀ p : Nat, z = (p : Int) → TRel l.length (startT (z, l)) ((List.replicate l.length (-1, 0, [])).set p (z, 0, []))) := fun p hp => by
      have h1 := (TRel.nob l.length).bst (p := p) (by omega) (y := (0, [])) (by simp)
      rw [startT_put (m := (z, l)) (by simp only; omega)]
      have h2 : el (List.replicate l.length ((-1, 0, []) : Mk)) p = (-1, 0, []) := by rw [el_get (by simp; omega), List.getElem_replicate]
      rw [h2, bstM_nob] at h1
      rw [hp]
      exact h1
    clear HD HB hf
    generalize startT (z, l) = T at *
    generalize l.length = n at *
    by_cases h0 : 0 ≤ z
    · obtain ⟨p, hp⟩ : ∃ p : Nat, z = (p : Int) := ⟨z.toNat, by omega⟩
      have HTR := hidP (HTP.out p hp)
      have hpn : p < n := by omega
      have hzn : z < (n : Int) := by omega
      subst hp
      go_enter Try.func11, Try.ntmps11
      go_wp2_with (first
        | (go_at_call 31; (with_reducible refine (fault_any _ ((p : Int), l) _ (HMa.out.later HU.out (Nat.le_refl _)) HK.out 0 HF.out).mono ?_); rintro e w1 ⟨rfl, hb⟩; obtain ⟨s1, b1, b2, hb1⟩ := boxedTwo hb (by simp); have HB1 := hidP hb1; have BM1 := hidP b1; have BR1 := hidP b2; have c0 := b1.cell 0 (v := .int .i64 (p : Int)) rfl; have c1 := b1.cell 1 (v := .slice a n cap) rfl; clear hb hb1 b1 b2)
        | (go_at_call 32; (with_reducible refine (nobody_any (w.heap.size + 1) n _ (by omega)).mono ?_); rintro e w2 ⟨rfl, hT2, hb2⟩; have HT2 := hidP hT2; have HB2 : Hid (Below w1.heap.size w1 w2) := hb2; have BM2 := hidP (BM1.out.below hb2 BM1.out.lt); have BR2 := hidP (BR1.out.below hb2 BR1.out.lt); have d0 := BM2.out.cell 0 (v := .int .i64 (p : Int)) rfl; have d1 := BM2.out.cell 1 (v := .slice a n cap) rfl; obtain ⟨ax, cx, q0, q1, q2, _, f0, f1, f2⟩ := hT2.get (j := p) (by simp; omega); have z12 : w1.heap.size < w2.heap.size := hT2.lt; have HT3 := hidP (hT2.put (j := p) (k := ((p : Int), 0, [])) (vo := .slice none 0 0) (by simp; omega) (fun w' _ => .inl ⟨rfl, rfl⟩)); have HB3 : Hid (Below w1.heap.size w1 (((w2.setCell ⟨w1.heap.size, p * 3, none⟩ (.int .i64 (p : Int))).setCell ⟨w1.heap.size, p * 3 + 1, none⟩ (.int .i64 0)).setCell ⟨w1.heap.size, p * 3 + 2, none⟩ (.slice none 0 0))) := (by show Below _ _ _; have h9 := HB2.out; go_grown); clear hT2 hb2 c0 c1)
        | (go_at_call 33; (with_reducible refine (HCA.out _ _ _ ((List.replicate n (-1, 0, [])).set p ((p : Int), 0, [])) (by simp; omega) (HMa.out.later (HB1.out.trans (HB3.out.mono HB1.out.size)) (Nat.le_refl _)) (by have h9 := HT3.out.marksX (by omega); simpa using h9) HTR.out).mono ?_); rintro e w4 ⟨⟨rf, rl⟩, ec, has, v4, rfl, hx4, hb4⟩; have HAS4 := hidP (HAS.out _ _ has); obtain ⟨vs4, rfl, hmx⟩ := hx4; simp only at hmx; obtain ⟨a4, c4, rfl⟩ := hmx.sl; have HX4 := hidP hmx; clear hmx; have HBR := hidP ((BR2.out.setO ⟨w1.heap.size, p * 3, none⟩ (.int .i64 (p : Int)) (by show w.heap.size + 1 ≠ w1.heap.size; omega)).setO ⟨w1.heap.size, p * 3 + 1, none⟩ (.int .i64 0) (by show w.heap.size + 1 ≠ w1.heap.size; omega) |>.setO ⟨w1.heap.size, p * 3 + 2, none⟩ (.slice none 0 0) (by show w.heap.size + 1 ≠ w1.heap.size; omega)); have BR4 := hidP (HBR.out.below hb4 HBR.out.lt); have HB4 : Hid (Below w.heap.size w w4) := HB1.out.trans ((HB3.out.trans (hb4.mono HB3.out.size)).mono HB1.out.size); have x0 := BR4.out.cell 0 (v := .int .i64 0) rfl; have x1 := BR4.out.cell 1 (v := .slice none 0 0) rfl; have t0 := BR4.out.fz 0; have t1 := BR4.out.fz 1; have z4 := BR4.out.lt; clear has hb4))
      exact bodyPost_ret (v := .tuple #[.agg #[.int .i64 rf, .slice a4 rl.length c4], .int .i64 ec]) (by simp [results, Try.results11, go_sem, *]) rfl ⟨(rf, rl), ec, HAS4.out, _, rfl, RunX.stored (X := w.heap.size + 1) ⟨_, rfl, HX4.out⟩ (fun b hb hx => (Below.heap_alloc _ _ b (by simpa using hb)).trans ((Below.heap_setCell _ _ _ b hx).trans (Below.heap_setCell _ _ _ b hx))), by have h9 := HB4.out; go_grown⟩
    · have HTR := hidP (HTN.out (by omega))
      go_enter Try.func11, Try.ntmps11
      go_wp2_with (first
        | (go_at_call 31; (with_reducible refine (fault_any _ (z, l) _ (HMa.out.later HU.out (Nat.le_refl _)) HK.out 0 HF.out).mono ?_); rintro e w1 ⟨rfl, hb⟩; obtain ⟨s1, b1, b2, hb1⟩ := boxedTwo hb (by simp); have HB1 := hidP hb1; have BM1 := hidP b1; have BR1 := hidP b2; have c0 := b1.cell 0 (v := .int .i64 z) rfl; have c1 := b1.cell 1 (v := .slice a n cap) rfl; clear hb hb1 b1 b2)
        | (go_at_call 32; (with_reducible refine (nobody_any (w.heap.size + 1) n _ (by omega)).mono ?_); rintro e w2 ⟨rfl, hT2, hb2⟩; have HT2 := hidP hT2; have HB2 : Hid (Below w1.heap.size w1 w2) := hb2; have BM2 := hidP (BM1.out.below hb2 BM1.out.lt); have BR2 := hidP (BR1.out.below hb2 BR1.out.lt); have d0 := BM2.out.cell 0 (v := .int .i64 z) rfl; have d1 := BM2.out.cell 1 (v := .slice a n cap) rfl; have z12 : w1.heap.size < w2.heap.size := hT2.lt; clear hT2 hb2 c0 c1)
        | (go_at_call 33; (with_reducible refine (HCA.out _ _ _ (List.replicate n (-1, 0, [])) (by omega) (HMa.out.later (HB1.out.trans (HB2.out.mono HB1.out.size)) (Nat.le_refl _)) (by have h9 := HT2.out.marksX (by omega); simpa using h9) HTR.out).mono ?_); rintro e w4 ⟨⟨rf, rl⟩, ec, has, v4, rfl, hx4, hb4⟩; have HAS4 := hidP (HAS.out _ _ has); obtain ⟨vs4, rfl, hmx⟩ := hx4; simp only at hmx; obtain ⟨a4, c4, rfl⟩ := hmx.sl; have HX4 := hidP hmx; clear hmx; have BR4 := hidP (BR2.out.below hb4 BR2.out.lt); have HB4 : Hid (Below w.heap.size w w4) := HB1.out.trans ((HB2.out.trans (hb4.mono HB2.out.size)).mono HB1.out.size); have x0 := BR4.out.cell 0 (v := .int .i64 0) rfl; have x1 := BR4.out.cell 1 (v := .slice none 0 0) rfl; have t0 := BR4.out.fz 0; have t1 := BR4.out.fz 1; have z4 := BR4.out.lt; clear has hb4))
      exact bodyPost_ret (v := .tuple #[.agg #[.int .i64 rf, .slice a4 rl.length c4], .int .i64 ec]) (by simp [results, Try.results11, go_sem, *]) rfl ⟨(rf, rl), ec, HAS4.out, _, rfl, RunX.stored (X := w.heap.size + 1) ⟨_, rfl, HX4.out⟩ (fun b hb hx => (Below.heap_alloc _ _ b (by simpa using hb)).trans ((Below.heap_setCell _ _ _ b hx).trans (Below.heap_setCell _ _ _ b hx))), by have h9 := HB4.out; go_grown⟩
  · have HF := hidP hf
    generalize hq : faultM (z, l) = q at *
    have HQ := hidP hq
    clear hq
    go_enter Try.func11, Try.ntmps11
    go_wp2_with (first
      | (go_at_call 31; (with_reducible refine (fault_any _ (z, l) _ (HMa.out.later HU.out (Nat.le_refl _)) HK.out q HQ.out).mono ?_); rintro e w1 ⟨rfl, hb⟩; obtain ⟨s1, b1, b2, hb1⟩ := boxedTwo hb (by simp); have HB1 := hidP hb1; have y0 := b2.cell 0 (v := .int .i64 0) rfl; have y1 := b2.cell 1 (v := .slice none 0 0) rfl; have t0 := b2.fz 0; have t1 := b2.fz 1; have z2 : w.heap.size + 1 < w1.heap.size := b2.lt; clear hb hb1 b1 b2))
    exact bodyPost_ret (v := .tuple #[.agg #[.int .i64 0, .slice none 0 0], .int .i64 q]) (by simp [results, Try.results11, go_sem, *]) rfl ⟨(0, []), q, .inl ⟨by rw [HQ.out]; exact HF.out, rfl, HQ.out.symm⟩, _, rfl, ⟨_, rfl, [], .inl ⟨rfl, rfl⟩, rfl, by simp⟩, by have h9 := HB1.out; go_grown⟩
end Go.Proofs.Ytkeeiihaijhdoaa.Sm
