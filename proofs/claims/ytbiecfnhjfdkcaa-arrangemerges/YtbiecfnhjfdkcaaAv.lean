/- The reference's arranging (P5), the third kind. -/
import Derived.Test.YtbiecfnhjfdkcaaAq
import Derived.Test.YtbiecfnhjfdkcaaAx
namespace Go.Proofs.Ytbiecfnhjfdkcaa.Wt
open Go.ChangeShapes Go.WideShapes Go.ChangeAt Go.RowKit
open Go.Proofs.Ytbiecfnhjfdkcaa.Pl
set_option linter.unusedVariables false
set_option linter.unusedSimpArgs false
set_option maxRecDepth 100000 in
set_option maxHeartbeats 3200000 in
theorem refArranged_ok2 (v : Value) (m : Mc) (w : World) (h : Mach w v m) (hok : okM m) (hr : faultM m = 0) :
    Calls Try.prog 15 #[v, .int .i64 2] w fun e w' => ∃ v', e = .returned (.tuple #[v', .int .i64 0]) ∧ Mach w' v' (mapM (arrL 2) m) ∧ Below w.heap.size w w' := by
  obtain ⟨z, l⟩ := m
  obtain ⟨vs, rfl, hS⟩ := h
  obtain ⟨a, cap, rfl, hc⟩ := hS.get
  have HM : Hid (Mach w (.agg #[.int .i64 z, .slice a l.length cap]) (z, l)) := ⟨_, rfl, hS⟩
  have HK : Hid (okM (z, l)) := hok
  have HR : Hid (faultM (z, l) = 0) := hr
  have h60 := (right_size hr).1
  have HC : Hid (∀ j, j < l.length → ∃ b off va, a = some ⟨b, off, none⟩ ∧ b < w.heap.size ∧ w.cell? ⟨b, off + j * 2, none⟩ = some (.int .i64 (el l j).1) ∧ w.cell? ⟨b, off + j * 2 + 1, none⟩ = some va ∧ Arcs w va (el l j).2) := hc
  clear hS hc hok hr
  simp only
  generalize hn : l.length = n at *
  have HN : Hid (l.length = n) := hn
  clear hn
  go_enter Try.func15, Try.ntmps15
  go_wp2_with (first
      | (go_at_call 34; (with_reducible refine (fault_any _ (z, l) _ (HM.out.later (B := w.heap.size) (by go_grown) (Nat.le_refl _)) HK.out _ HR.out).mono ?_); rintro e w1 ⟨rfl, hb⟩; obtain ⟨s1, k0, k1, hb1⟩ := boxed2 hb (by simp); have HB1 : Hid (Below w.heap.size w w1) := hb1; have K0 : Hid (Blk w1 w.heap.size #[.int .i64 z, .slice a n cap] 27) := k0; have K1 : Hid (Blk w1 (w.heap.size + 1) #[.int .i64 0, .slice none 0 0] 27) := k1; have c0 := k0.cell 0 (v := .int .i64 z) rfl; clear hb hb1 k0 k1))
  go_loopw [8] (fun i wr => ∃ (k : Nat) (vo : Value), k ≤ n ∧ i = .int .i64 k ∧ Hid (OwnSts wr (w1.heap.size + 1) vo ((l.take k).map fun s => (s.1, arrL 2 s.2))) ∧ Hid (Blk wr w.heap.size #[.int .i64 z, .slice a n cap] 27) ∧ Hid (Blk wr (w.heap.size + 1) #[.int .i64 0, .slice none 0 0] 27) ∧ Hid (Blk wr w1.heap.size #[.int .i64 z, vo] 27) ∧ Hid (Below w.heap.size w wr) ∧ w1.heap.size + 1 ≤ wr.heap.size) (fun i _ => n - (intOf i).toNat)
  case atStart => exact ⟨0, _, Nat.zero_le _, rfl, OwnSts.nil _ _, K0.out.alloc _, K1.out.alloc _, Blk.made _ _ _, HB1.out.alloc HB1.out.size _, by simp⟩
  case round =>
    obtain ⟨k, vo, hk, rfl, hown, b0, b1, b2, hb, hs⟩ := hrel
    have c1 := b0.out.cell 1 (v := .slice a n cap) rfl
    by_cases hlt : k < n
    · obtain ⟨b, off, va, rfl, hbl, g0, g1, gA⟩ := HC.out k hlt
      have g0 := (hb.out.cell (p := ⟨b, off + k * 2, none⟩) hbl).trans g0
      have g1 := (hb.out.cell (p := ⟨b, off + k * 2 + 1, none⟩) hbl).trans g1
      have GA : Hid (Arcs wr va (el l k).2) := gA.later hb.out (Nat.le_refl _)
      have HLK : Hid ((el l k).2.length * 32 ≤ 140737488351232) := HK.out.2 k (by show k < l.length; rw [HN.out]; exact hlt)
      have hk0' : (0 : Int) ≤ (k : Int) := Int.natCast_nonneg _
      have hk1' : (k : Int) < (n : Int) := by omega
      have HT : Hid ((l.take (k + 1)).map (fun s => (s.1, arrL 2 s.2)) = (l.take k).map (fun s => (s.1, arrL 2 s.2)) ++ [((el l k).1, arrL 2 (el l k).2)]) := map_take_el (by rw [HN.out]; exact hlt)
      have HTL : Hid (((l.take k).map fun s => (s.1, arrL 2 s.2)).length ≤ n) := by show _ ≤ _; simp; omega
      clear gA
      generalize hm : (l.take k).map (fun s => (s.1, arrL 2 s.2)) = M at *
      clear hm
      generalize (el l k).1 = f at *
      generalize (el l k).2 = ar at *
      have HG : Hid (arrL 2 ar = lightL (ordL ar)) := by show _ = _; rw [← sortS_false]; rfl
      have HL1 : Hid ((ordL ar).length * 32 ≤ 140737488351232) := by show _ ≤ _; rw [ordL_length]; exact HLK.out
      have hbs := hs
      go_wp2_with (first
        | (go_at_call 35; (with_reducible refine (refInOrder_any _ ar _ GA.out HLK.out).mono ?_); rintro e w4 ⟨v4, rfl, ho4, hb4⟩; have HB4 : Hid (Below wr.heap.size wr w4) := hb4; have GA4 : Hid (Arcs w4 v4 (ordL ar)) := Row.ofOwn encA_len ho4 rfl; clear ho4 hb4)
        | (go_at_call 37; (with_reducible refine (lightest_any _ (ordL ar) _ GA4.out HL1.out).mono ?_); rintro e w9 ⟨v9, rfl, ho9, hb9⟩; have HO9 : Hid (w9.ownsRow (w1.heap.size + 1) 43 4 v9 (arrL 2 ar).length ((arrL 2 ar).flatMap encA)) := (by rw [HG.out]; exact own_mono' ho9 (Nat.le_trans hbs HB4.out.size)); have HB9 : Hid (Below wr.heap.size wr w9) := HB4.out.trans (hb9.mono HB4.out.size); clear ho9 hb9))
      -- the list is there
      have OV : w9.ownsRow (w1.heap.size + 1) 43 4 v9 (arrL 2 ar).length ((arrL 2 ar).flatMap encA) := HO9.out
      have BV : Below wr.heap.size wr w9 := HB9.out
      obtain ⟨a9, c9, rfl⟩ := own_sl OV
      obtain ⟨v3, w3, r3, ho3, B3⟩ := run_push (W := w9.drew.alloc (.cells #[.int .i64 f, .slice a9 (arrL 2 ar).length c9] 41)) (f, arrL 2 ar) M _ vo (w1.heap.size + 1) (w1 := w9) rfl rfl rfl rfl (OwnSts.kept hown.out (grown_of_below' BV)) OV (by have := HTL.out; omega) (Nat.le_trans hs BV.size)
      obtain ⟨a3, cp3, rfl⟩ := ho3.sts.sl
      have B93 : Below wr.heap.size wr w9 := BV
      have HS9 : HeldG w.heap.size w1.heap.size b off n cap k vo f w9.drew := HeldG.below (w := wr) ⟨b2.out.cell 1 rfl, c1, g0⟩ (BV.mono hs).drew (by omega) (by omega)
      have HS8 : HeldG w.heap.size w1.heap.size b off n cap k vo f (w9.drew.alloc (.cells #[.int .i64 f, .slice a9 (arrL 2 ar).length c9] 41)) := HS9.below ((Below.refl _ _).alloc (by have := BV.size; show _ ≤ w9.heap.size; omega) _) (by omega) (by omega)
      have HS3 : HeldG w.heap.size w1.heap.size b off n cap k vo f w3 := HeldG.below (w := w9) HS9 B3 (by omega) (by omega)
      have HB3 : Hid (Below w.heap.size w w3) := (hb.out.trans (BV.mono hb.out.size)).trans (B3.mono (by omega))
      have D0 : Hid (Blk w3 w.heap.size #[.int .i64 z, .slice (some ⟨b, off, none⟩) n cap] 27) := (b0.out.below BV (by omega)).below B3 (by omega)
      have D1 : Hid (Blk w3 (w.heap.size + 1) #[.int .i64 0, .slice none 0 0] 27) := (b1.out.below BV (by omega)).below B3 (by omega)
      have D2 : Hid (Blk w3 w1.heap.size #[.int .i64 z, vo] 27) := (b2.out.below BV (by omega)).below B3 (by omega)
      have e1 := D2.out.cell 1 (v := vo) rfl
      have e2 := D2.out.fz 1
      have HOS : Hid (OwnSts w3 (w1.heap.size + 1) (.slice a3 (M ++ [(f, arrL 2 ar)]).length cp3) (M ++ [(f, arrL 2 ar)])) := ho3
      have HZ3 : Hid (w1.heap.size + 1 ≤ w3.heap.size) := Nat.le_trans (Nat.le_trans hs BV.size) B3.size
      clear ho3 B3 BV OV hown b0 b1 b2 hb HO9 HB9 GA g0 g1 c1 B93
      generalize (M ++ [(f, arrL 2 ar)]).length = q at *
      refine region_anyL (HeldG w.heap.size w1.heap.size b off n cap k vo f) 13 (by kernel_rfl) ?_
      refine anyL_take (i := 0) (v := ?v0_1) at0 (by kernel_rfl) (by kernel_rfl) (by kernel_rfl) (by kernel_rfl) (fun _ _ _ h => h) rfl ?y0_1 HS9 ?r0_1
      case y0_1 => intro wx hx; obtain ⟨h1, h2, h3⟩ := hx; go_simp; try (with_reducible rfl)
      simp only [Act.put, List.setIfInBounds_toArray, List.set_cons_zero, List.set_cons_succ]
      refine anyL_take (i := 1) (v := ?v1_2) (atS at0) (by kernel_rfl) (by kernel_rfl) (by kernel_rfl) (by kernel_rfl) (fun _ _ _ h => h) rfl ?y1_2 HS9 ?r1_2
      case y1_2 => intro wx hx; obtain ⟨h1, h2, h3⟩ := hx; go_simp; try (with_reducible rfl)
      simp only [Act.put, List.setIfInBounds_toArray, List.set_cons_zero, List.set_cons_succ]
      refine anyL_take (i := 2) (v := ?v2_3) (atS (atS at0)) (by kernel_rfl) (by kernel_rfl) (by kernel_rfl) (by kernel_rfl) (fun _ _ _ h => h) rfl ?y2_3 HS9 ?r2_3
      case y2_3 => intro wx hx; obtain ⟨h1, h2, h3⟩ := hx; go_simp; try (with_reducible rfl)
      simp only [Act.put, List.setIfInBounds_toArray, List.set_cons_zero, List.set_cons_succ]
      refine anyL_take (i := 3) (v := ?v3_4) (atS (atS (atS at0))) (by kernel_rfl) (by kernel_rfl) (by kernel_rfl) (by kernel_rfl) (fun _ _ _ h => h) rfl ?y3_4 HS9 ?r3_4
      case y3_4 => intro wx hx; obtain ⟨h1, h2, h3⟩ := hx; go_simp; try (with_reducible rfl)
      simp only [Act.put, List.setIfInBounds_toArray, List.set_cons_zero, List.set_cons_succ]
      refine anyL_take (i := 4) (v := ?v4_5) (atS (atS (atS (atS at0)))) (by kernel_rfl) (by kernel_rfl) (by kernel_rfl) (by kernel_rfl) (fun _ _ _ h => h) rfl ?y4_5 HS9 ?r4_5
      case y4_5 => intro wx hx; obtain ⟨h1, h2, h3⟩ := hx; go_simp; try (with_reducible rfl)
      simp only [Act.put, List.setIfInBounds_toArray, List.set_cons_zero, List.set_cons_succ]
      refine anyL_take (i := 5) (v := ?v5_6) (atS (atS (atS (atS (atS at0))))) (by kernel_rfl) (by kernel_rfl) (by kernel_rfl) (by kernel_rfl) (fun _ _ _ h => h) rfl ?y5_6 HS9 ?r5_6
      case y5_6 => intro wx hx; obtain ⟨h1, h2, h3⟩ := hx; go_simp; try (with_reducible rfl)
      simp only [Act.put, List.setIfInBounds_toArray, List.set_cons_zero, List.set_cons_succ]
      refine anyL_take (i := 6) (v := ?v6_7) (atS (atS (atS (atS (atS (atS at0)))))) (by kernel_rfl) (by kernel_rfl) (by kernel_rfl) (by kernel_rfl) (fun _ _ _ h => h) rfl ?y6_7 HS9 ?r6_7
      case y6_7 => intro wx hx; obtain ⟨h1, h2, h3⟩ := hx; go_simp; try (with_reducible rfl)
      simp only [Act.put, List.setIfInBounds_toArray, List.set_cons_zero, List.set_cons_succ]
      refine anyL_take (i := 7) (v := ?v7_8) (atS (atS (atS (atS (atS (atS (atS at0))))))) (by kernel_rfl) (by kernel_rfl) (by kernel_rfl) (by kernel_rfl) (fun _ _ _ h => h) rfl ?y7_8 HS9 ?r7_8
      case y7_8 => intro wx hx; obtain ⟨h1, h2, h3⟩ := hx; go_simp; try (with_reducible rfl)
      simp only [Act.put, List.setIfInBounds_toArray, List.set_cons_zero, List.set_cons_succ]
      refine anyL_take (i := 8) (v := ?v8_9) (atS (atS (atS (atS (atS (atS (atS (atS at0)))))))) (by kernel_rfl) (by kernel_rfl) (by kernel_rfl) (by kernel_rfl) (fun _ _ _ h => h) rfl ?y8_9 HS9 ?r8_9
      case y8_9 => intro wx hx; obtain ⟨h1, h2, h3⟩ := hx; go_simp; try (with_reducible rfl)
      simp only [Act.put, List.setIfInBounds_toArray, List.set_cons_zero, List.set_cons_succ]
      refine anyL_take (i := 9) (v := ?v9_10) (atS (atS (atS (atS (atS (atS (atS (atS (atS at0))))))))) (by kernel_rfl) (by kernel_rfl) (by kernel_rfl) (by kernel_rfl) (fun _ _ _ h => h) rfl ?y9_10 HS9 ?r9_10
      case y9_10 => intro wx hx; obtain ⟨h1, h2, h3⟩ := hx; go_simp; try (with_reducible rfl)
      simp only [Act.put, List.setIfInBounds_toArray, List.set_cons_zero, List.set_cons_succ]
      refine anyL_one (i := 10) (atS (atS (atS (atS (atS (atS (atS (atS (atS (atS at0)))))))))) (by kernel_rfl) rfl (fun K hK => ?_)
      go_simp
      refine hK _ _ (.inr HS8) ?_
      try simp only [Act.put, List.setIfInBounds_toArray, List.set_cons_zero, List.set_cons_succ]
      refine anyL_one (i := 11) (atS (atS (atS (atS (atS (atS (atS (atS (atS (atS (atS at0))))))))))) (by kernel_rfl) rfl (fun K hK => ?_)
      refine wp_append_run (.tmp 49) (.tmp 58) 25 (by rfl) (by rfl) (by rfl) r3 (hK _ _ (.inr HS3) ?_)
      simp only [Act.put, List.setIfInBounds_toArray, List.set_cons_zero, List.set_cons_succ]
      refine anyL_take (i := 12) (v := ?v12_11) (atS (atS (atS (atS (atS (atS (atS (atS (atS (atS (atS (atS at0)))))))))))) (by kernel_rfl) (by kernel_rfl) (by kernel_rfl) (by kernel_rfl) (fun _ _ _ h => h) rfl ?y12_11 HS3 ?r12_11
      case y12_11 => intro wx hx; obtain ⟨h1, h2, h3⟩ := hx; go_simp; try (with_reducible rfl)
      simp only [Act.put, List.setIfInBounds_toArray, List.set_cons_zero, List.set_cons_succ]
      refine anyL_one (i := 13) (atS (atS (atS (atS (atS (atS (atS (atS (atS (atS (atS (atS (atS at0))))))))))))) (by kernel_rfl) rfl (fun K hK => ?_)
      go_simp
      refine hK _ _ (.inl rfl) (anyL_done (by kernel_rfl) (NoPanic.normal ?_))
      try simp only [Act.put, List.setIfInBounds_toArray, List.set_cons_zero, List.set_cons_succ]
      clear HS9 HS8 HS3 r3
      go_wp2
      go_roundw
      case rel => exact ⟨k + 1, _, by omega, by go_num, by rw [HT.out]; exact HOS.out.setCell (by show w1.heap.size < _; omega) _, D0.out.setO _ _ (by show w.heap.size ≠ w1.heap.size; omega), D1.out.setO _ _ (by show w.heap.size + 1 ≠ w1.heap.size; omega), D2.out.set 1 _, HB3.out.setCell (by show _ ≤ w1.heap.size; omega) _, by simp [World.setCell]; exact HZ3.out⟩
      case measure => simp [intOf]; omega
    · have hke : k = n := by omega
      have HX : Hid (OwnSts wr (w1.heap.size + 1) vo (l.map fun s => (s.1, arrL 2 s.2))) := by have h := hown.out; rw [hke, ← HN.out, List.take_length] at h; exact h
      have hnl : ¬ (k : Int) < (n : Int) := by omega
      obtain ⟨av, cv, rfl⟩ := HX.out.sts.sl
      have e0 := b1.out.cell 0 (v := .int .i64 0) rfl
      have e1 := b1.out.cell 1 (v := .slice none 0 0) rfl
      have e2 := b1.out.fz 0
      have e3 := b1.out.fz 1
      have d0 := b2.out.cell 0 (v := .int .i64 z) rfl
      have d1 := b2.out.cell 1 (v := .slice av (l.map fun s => (s.1, arrL 2 s.2)).length cv) rfl
      have HB : Hid (Below w.heap.size w wr) := hb
      clear hke hown b0 b1 b2 hb
      generalize (l.map fun s => (s.1, arrL 2 s.2)).length = q at *
      go_wp2
      exact bodyPost_ret (v := .tuple #[.agg #[.int .i64 z, .slice av q cv], .int .i64 0]) (by simp [results, Try.results15, go_sem, *]) rfl ⟨_, rfl, ⟨_, rfl, ((HX.out.setCell (by show w.heap.size + 1 < _; omega) _).setCell (by show w.heap.size + 1 < _; omega) _).sts⟩, by (have h := HB.out); go_grown⟩
set_option maxRecDepth 100000 in
theorem refArranged2 (v : Value) (m : Mc) (w : World) (h : Mach w v m) (hok : okM m) (r : Int) (hr : faultM m = r) :
    Calls Try.prog 15 #[v, .int .i64 2] w fun e w' => ∃ v', e = .returned (.tuple #[v', .int .i64 r]) ∧ Mach w' v' (resR r (mapM (arrL 2) m)) ∧ Below w.heap.size w w' := by
  by_cases h0 : r = 0
  · subst h0
    exact refArranged_ok2 v m w h hok hr
  · obtain ⟨z, l⟩ := m
    obtain ⟨vs, rfl, hS⟩ := h
    obtain ⟨a, cap, rfl⟩ := hS.sl
    have HM : Hid (Mach w (.agg #[.int .i64 z, .slice a l.length cap]) (z, l)) := ⟨_, rfl, hS⟩
    have HK : Hid (okM (z, l)) := hok
    have HR : Hid (faultM (z, l) = r) := hr
    have HE : Hid (resR r (mapM (arrL 2) (z, l)) = (0, [])) := by show _ = _; rw [resR, if_neg h0]
    clear hS hok hr
    simp only
    have hne : (r != 0) = true := by simpa using h0
    generalize l.length = n at *
    go_enter Try.func15, Try.ntmps15
    go_wp2_with (first
        | (go_at_call 34; (with_reducible refine (fault_any _ (z, l) _ (HM.out.later (B := w.heap.size) (by go_grown) (Nat.le_refl _)) HK.out _ HR.out).mono ?_); rintro e w1 ⟨rfl, hb⟩; obtain ⟨s1, k0, k1, hb1⟩ := boxed2 hb (by simp); have HB1 : Hid (Below w.heap.size w w1) := hb1; have e0 := k1.cell 0 (v := .int .i64 0) rfl; have e1 := k1.cell 1 (v := .slice none 0 0) rfl; have f0 := k1.fz 0; have f1 := k1.fz 1; clear hb hb1 k0 k1))
    exact bodyPost_ret (v := .tuple #[.agg #[.int .i64 0, .slice none 0 0], .int .i64 r]) (by simp [results, Try.results15, go_sem, *]) rfl ⟨_, rfl, by rw [HE.out]; exact ⟨_, rfl, [], .inl ⟨rfl, rfl⟩, rfl, by simp⟩, by (have h := HB1.out); go_grown⟩
end Go.Proofs.Ytbiecfnhjfdkcaa.Wt
