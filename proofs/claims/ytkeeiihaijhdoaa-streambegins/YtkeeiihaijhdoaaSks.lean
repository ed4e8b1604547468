/- Where a machine begins; what Begin answers (the program's). -/
import Derived.Test.YtkeeiihaijhdoaaSkr
namespace Go.Proofs.Ytkeeiihaijhdoaa.Sm
open Go.ChangeShapes Go.WideShapes Go.ChangeAt Go.RowKit Go.Maps
open Go.Proofs.Ytkeeiihaijhdoaa.Pl Go.Proofs.Ytkeeiihaijhdoaa.Wt
set_option linter.unusedVariables false
set_option linter.unusedSimpArgs false
theorem numsNil (w : World) : Nums w (.slice none 0 0) [] := Or.inl ⟨rfl, rfl⟩
/-- A run and an error are answered. -/
def RunRes (r : Ru) (ec : Int) (w : World) (e : Ending) (w' : World) : Prop := ∃ v, e = .returned (.tuple #[v, .int .i64 ec]) ∧ RunV w' v r ∧ Below w.heap.size w w'
set_option maxRecDepth 100000 in
set_option maxHeartbeats 1600000 in
theorem begun_any (v : Value) (mc : Mc) (w : World) (h : Mach w v mc) (hok : okM mc) (hf : faultM mc = 0) :
    Calls Try.prog 28 #[v] w fun e w' => ∃ (mk : Nat) (K : Tbl) (kk : List Int), e = .returned (.map (some mk)) ∧ MpK w' mk K kk ∧ Clo mc (startT mc) K ∧ DomT mc.2.length K ∧ BndT 60000000000 60 K ∧ Below w.heap.size w w' := by
  have HMa := hidP h
  have HK := hidP hok
  have HF := hidP hf
  have hz := start_rng hf
  obtain ⟨z, l⟩ := mc
  obtain ⟨vs, rfl, hS⟩ := h
  obtain ⟨a, cap, rfl⟩ := hS.sl
  have h60 := (right_size hf).1
  clear hS hok hf
  simp only at hz
  have hmk := @run_makeMap Try.prog
  have HU : Hid (Below w.heap.size w ((w.alloc (.cells #[.int .i64 z, .slice a l.length cap] 24)).alloc (.map #[] 0))) := by show Below _ _ _; go_grown
  have HM0 : Hid (MpK ((w.alloc (.cells #[.int .i64 z, .slice a l.length cap] 24)).alloc (.map #[] 0)) (w.heap.size + 1) (fun _ => none) []) := by
    have h := MpK.made (w.alloc (.cells #[.int .i64 z, .slice a l.length cap] 24))
    simp only [World.size_alloc] at h
    exact h
  have HB0 : Hid (Blk ((w.alloc (.cells #[.int .i64 z, .slice a l.length cap] 24)).alloc (.map #[] 0)) w.heap.size #[.int .i64 z, .slice a l.length cap] 24) := (Blk.made w _ _).alloc _
  have HDm : Hid (DomT l.length (startT (z, l))) := startT_dom (m := (z, l)) hz.2
  have HBd : Hid (BndT 0 0 (startT (z, l))) := startT_bnd (z, l)
  by_cases h0 : 0 ≤ z
  · have HPT : Hid (startT (z, l) = putT (fun _ => none) z (0, [])) := startT_put (m := (z, l)) h0
    have hwf : wfI z := wfI_of (by omega) (by omega)
    go_enter Try.func28, Try.ntmps28
    go_wp2_with (first
      | (go_at_call 51; (with_reducible refine (put_any (w.heap.size + 1) _ (z, 0, []) _ [] _ HM0.out (mkIs_of (numsNil _)) hwf (by simp) (by simp)).mono ?_); rintro e w1 ⟨rfl, hM1, hg1⟩; have HM1 : Hid (MpK w1 (w.heap.size + 1) (startT (z, l)) (addS [] z)) := (by show MpK _ _ _ _; rw [HPT.out]; exact hM1); have HG1 : Hid (w.grownBy w1 none) := gMap (gNew HU.out) hg1 (by omega); have HB1 := hidP (HB0.out.grown hg1 (by simp)); have c0 := HB1.out.cell 0 (v := .int .i64 z) rfl; have c1 := HB1.out.cell 1 (v := .slice a l.length cap) rfl; have HK1 := hidP (HM0.out.keeps hg1); clear hM1 hg1)
      | (go_at_call 52; (with_reducible refine (closed_any _ (z, l) (w.heap.size + 1) (startT (z, l)) _ 0 0 _ (Mach.keeps (HMa.out.later HU.out (Nat.le_refl _)) HK1.out) HK.out HF.out HM1.out HDm.out HBd.out (by omega) (by omega)).mono ?_); rintro e w2 ⟨mk, K, kk, rfl, hM2, hC2, hD2, hB2, hle2, hg2⟩; have HM2 := hidP hM2; have HC2 := hidP hC2; have HD2 := hidP hD2; have HBn2 : Hid (BndT 60000000000 60 K) := (by show BndT _ _ _; simpa using hB2); have HG2 : Hid (w.grownBy w2 none) := gMap HG1.out hg2 (by omega); clear hM2 hC2 hD2 hB2 hg2))
    go_ret
    exact ⟨mk, K, kk, rfl, HM2.out, HC2.out, HD2.out, HBn2.out, gBelow HG2.out (by simp) (Nat.le_refl _)⟩
  · have HPT : Hid (startT (z, l) = fun _ => none) := startT_none (m := (z, l)) (by simp only; omega)
    go_enter Try.func28, Try.ntmps28
    go_wp2_with (first
      | (go_at_call 52; (with_reducible refine (closed_any _ (z, l) (w.heap.size + 1) (startT (z, l)) [] 0 0 _ (HMa.out.later HU.out (Nat.le_refl _)) HK.out HF.out (by rw [HPT.out]; exact HM0.out) HDm.out HBd.out (by omega) (by omega)).mono ?_); rintro e w2 ⟨mk, K, kk, rfl, hM2, hC2, hD2, hB2, hle2, hg2⟩; have HM2 := hidP hM2; have HC2 := hidP hC2; have HD2 := hidP hD2; have HBn2 : Hid (BndT 60000000000 60 K) := (by show BndT _ _ _; simpa using hB2); have HG2 : Hid (w.grownBy w2 none) := gMap (gNew HU.out) hg2 (by omega); clear hM2 hC2 hD2 hB2 hg2))
    go_ret
    exact ⟨mk, K, kk, rfl, HM2.out, HC2.out, HD2.out, HBn2.out, gBelow HG2.out (by simp) (Nat.le_refl _)⟩
set_option maxRecDepth 100000 in
set_option maxHeartbeats 1600000 in
theorem beginP_any (v : Value) (mc : Mc) (w : World) (h : Mach w v mc) (hok : okM mc) :
    Calls Try.prog 10 #[v] w fun e w' => ∃ r ec, BegAns mc r ec ∧ RunRes r ec w e w' := by
  have HMa := hidP h
  have HK := hidP hok
  obtain ⟨z, l⟩ := mc
  obtain ⟨vs, rfl, hS⟩ := h
  obtain ⟨a, cap, rfl⟩ := hS.sl
  clear hS hok
  have HU : Hid (Below w.heap.size w ((w.alloc (.cells #[.int .i64 z, .slice a l.length cap] 24)).alloc (.cells #[.int .i64 0, .slice none 0 0] 28))) := by show Below _ _ _; go_grown
  by_cases hf : faultM (z, l) = 0
  · have HF := hidP hf
    have h60 := (right_size hf).1
    clear hf
    go_enter Try.func10, Try.ntmps10
    go_wp2_with (first
      | (go_at_call 27; (with_reducible refine (coreCheck_any _ (z, l) _ (HMa.out.later HU.out (Nat.le_refl _)) HK.out 0 HF.out).mono ?_); rintro e w1 ⟨rfl, hb⟩; obtain ⟨s1, b1, b2, hb1⟩ := boxedTwo hb (by simp); have HB1 := hidP hb1; have BM1 := hidP b1; have BR1 := hidP b2; have c0 := b1.cell 0 (v := .int .i64 z) rfl; have c1 := b1.cell 1 (v := .slice a l.length cap) rfl; clear hb hb1 b1 b2)
      | (go_at_call 28; (with_reducible refine (begun_any _ (z, l) _ (HMa.out.later HB1.out (Nat.le_refl _)) HK.out HF.out).mono ?_); rintro e w2 ⟨mk, K, kk, rfl, hM2, hC2, hD2, hB2, hb2⟩; have HM2 := hidP hM2; have HC2 := hidP hC2; have HBn2 : Hid (∀ q k, K q = some k → k.2.length ≤ 1000000) := (fun q k hk => by have := (hB2 q k hk).2.2; omega); have HB2 : Hid (Below w.heap.size w w2) := HB1.out.trans (hb2.mono HB1.out.size); have BM2 := hidP (BM1.out.below hb2 BM1.out.lt); have BR2 := hidP (BR1.out.below hb2 BR1.out.lt); clear hM2 hC2 hD2 hB2 hb2)
      | (go_at_call 29; (with_reducible refine (haveOver_any mk K kk _ HM2.out).mono ?_); rintro e w3 ⟨ov, rfl, hov, hb3⟩; have HOV : Hid (ov = true ↔ OverT K) := hov; have HB3 : Hid (Below w.heap.size w w3) := HB2.out.trans (hb3.mono HB2.out.size); have HM3 := hidP (HM2.out.below hb3); have BM3 := BM2.out.below hb3 BM2.out.lt; have BR3 := hidP (BR2.out.below hb3 BR2.out.lt); have d0 := BM3.cell 0 (v := .int .i64 z) rfl; have d1 := BM3.cell 1 (v := .slice a l.length cap) rfl; have y0 := BR3.out.cell 0 (v := .int .i64 0) rfl; have y1 := BR3.out.cell 1 (v := .slice none 0 0) rfl; have t0 := BR3.out.fz 0; have t1 := BR3.out.fz 1; have z2 : w.heap.size + 1 < w3.heap.size := BR3.out.lt; clear hov hb3 BM3; rcases ov with _ | _)
      | (go_at_call 30; (with_reducible refine (inOrder_any _ (z, l) mk K kk _ (HMa.out.later HB3.out (Nat.le_refl _)) h60 HM3.out HBn2.out).mono ?_); rintro e w4 ⟨v4, rfl, hm4, hb4⟩; have HM4 := hidP hm4; obtain ⟨a4, c4, rfl⟩ := hm4.sl; have HB4 : Hid (Below w.heap.size w w4) := HB3.out.trans (hb4.mono HB3.out.size); have BR4 := hidP (BR3.out.below hb4 BR3.out.lt); have x0 := BR4.out.cell 0 (v := .int .i64 0) rfl; have x1 := BR4.out.cell 1 (v := .slice none 0 0) rfl; have tt0 := BR4.out.fz 0; have tt1 := BR4.out.fz 1; have z4 : w.heap.size + 1 < w4.heap.size := BR4.out.lt; clear hm4 hb4))
    · exact bodyPost_ret (v := .tuple #[.agg #[.int .i64 0, .slice a4 (ordL l.length K).length c4], .int .i64 0]) (by simp [results, Try.results10, go_sem, *]) rfl ⟨(0, ordL l.length K), 0, .inr ⟨HF.out, K, HC2.out, .inr ⟨(by simpa using HOV.out), rfl, rfl⟩⟩, _, rfl, ⟨_, rfl, ((HM4.out.set (by show w.heap.size + 1 < _; omega) _).set (by show w.heap.size + 1 < _; omega) _).marks⟩, by have h9 := HB4.out; go_grown⟩
    · exact bodyPost_ret (v := .tuple #[.agg #[.int .i64 0, .slice none 0 0], .int .i64 4]) (by simp [results, Try.results10, go_sem, *]) rfl ⟨(0, []), 4, .inr ⟨HF.out, K, HC2.out, .inl ⟨by simpa using HOV.out, rfl, rfl⟩⟩, _, rfl, ⟨_, rfl, [], .inl ⟨rfl, rfl⟩, rfl, by simp⟩, by have h9 := HB3.out; go_grown⟩
  · have HF := hidP hf
    generalize hq : faultM (z, l) = q at *
    have HQ := hidP hq
    clear hq
    go_enter Try.func10, Try.ntmps10
    go_wp2_with (first
      | (go_at_call 27; (with_reducible refine (coreCheck_any _ (z, l) _ (HMa.out.later HU.out (Nat.le_refl _)) HK.out q HQ.out).mono ?_); rintro e w1 ⟨rfl, hb⟩; obtain ⟨s1, b1, b2, hb1⟩ := boxedTwo hb (by simp); have HB1 := hidP hb1; have y0 := b2.cell 0 (v := .int .i64 0) rfl; have y1 := b2.cell 1 (v := .slice none 0 0) rfl; have t0 := b2.fz 0; have t1 := b2.fz 1; have z2 : w.heap.size + 1 < w1.heap.size := b2.lt; clear hb hb1 b1 b2))
    exact bodyPost_ret (v := .tuple #[.agg #[.int .i64 0, .slice none 0 0], .int .i64 q]) (by simp [results, Try.results10, go_sem, *]) rfl ⟨(0, []), q, .inl ⟨by rw [HQ.out]; exact HF.out, rfl, HQ.out.symm⟩, _, rfl, ⟨_, rfl, [], .inl ⟨rfl, rfl⟩, rfl, by simp⟩, by have h9 := HB1.out; go_grown⟩
end Go.Proofs.Ytkeeiihaijhdoaa.Sm
