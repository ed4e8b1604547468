/- arrange.Sorted and arrange.ByOut. -/
import Derived.Test.YtbiecfnhjfdkcaaAr
namespace Go.Proofs.Ytbiecfnhjfdkcaa.Wt
open Go.ChangeShapes Go.WideShapes Go.ChangeAt Go.RowKit
open Go.Proofs.Ytbiecfnhjfdkcaa.Pl
set_option linter.unusedVariables false
set_option linter.unusedSimpArgs false
set_option maxRecDepth 100000 in
set_option maxHeartbeats 1000000 in
theorem sorted_any (v : Value) (m : Mc) (w : World) (h : Mach w v m) (hok : okM m) (r : Int) (hr : faultM m = r) :
    Calls Try.prog 14 #[v] w fun e w' => ∃ v', e = .returned (.tuple #[v', .int .i64 r]) ∧ MachFrom w.heap.size w' v' (resM r (mapM (sortS false) m)) ∧ Below w.heap.size w w' := by
  obtain ⟨z, l⟩ := m
  obtain ⟨vs, rfl, hS⟩ := h
  obtain ⟨a, cap, rfl⟩ := hS.sl
  have HM : Hid (Mach w (.agg #[.int .i64 z, .slice a l.length cap]) (z, l)) := ⟨_, rfl, hS⟩
  have HK : Hid (okM (z, l)) := hok
  have HR : Hid (faultM (z, l) = r) := hr
  clear hS hok hr
  simp only
  generalize l.length = n at *
  have eg : ∀ args w, (callFunc 48 args).run Try.prog w = .ok (.enter 48 args) w := enters_of Try.func48 (by kernel_rfl) rfl
  go_enter Try.func14, Try.ntmps14
  go_wp2
  have k0 : Blk ((w.alloc (.cells #[.int .i64 z, .slice a n cap] 27)).alloc (.cells #[.int .i64 0, .slice none 0 0] 27)).drew w.heap.size #[.int .i64 z, .slice a n cap] 27 := (Blk.made w _ _).alloc _
  have HS : HeldN w.heap.size z (.slice a n cap) ((w.alloc (.cells #[.int .i64 z, .slice a n cap] 27)).alloc (.cells #[.int .i64 0, .slice none 0 0] 27)).drew := ⟨k0.cell 0 rfl, k0.cell 1 rfl⟩
  refine region_anyL (HeldN w.heap.size z (.slice a n cap)) 1000 (by kernel_rfl) ?_
  refine anyL_take (i := 0) (v := ?v0_1) at0 (by kernel_rfl) (by kernel_rfl) (by kernel_rfl) (by kernel_rfl) (fun _ _ _ h => h) rfl ?y0_1 HS ?r0_1
  case y0_1 => intro wx hx; obtain ⟨h1, h2⟩ := hx; go_simp; try (with_reducible rfl)
  simp only [Act.put, List.setIfInBounds_toArray, List.set_cons_zero, List.set_cons_succ]
  refine anyL_take (i := 1) (v := ?v1_2) (atS at0) (by kernel_rfl) (by kernel_rfl) (by kernel_rfl) (by kernel_rfl) (fun _ _ _ h => h) rfl ?y1_2 HS ?r1_2
  case y1_2 => intro wx hx; obtain ⟨h1, h2⟩ := hx; go_simp; try (with_reducible rfl)
  simp only [Act.put, List.setIfInBounds_toArray, List.set_cons_zero, List.set_cons_succ]
  refine anyL_one (i := 2) (atS (atS at0)) (by kernel_rfl) rfl (fun K hK => ?_)
  go_simp
  refine (sortedBy_any false _ _ _ ⟨rfl, rfl⟩).mono ?_
  rintro e w1 ⟨fv, rfl, ⟨F, Ky, rfl, hF, hKy, hcF⟩, hb⟩
  obtain ⟨s1, b0, b1, hb1⟩ := boxed2 (below_undrew hb) (by simp [World.drew])
  have HS1 : HeldN w.heap.size z (.slice a n cap) w1 := ⟨b0.cell 0 rfl, b0.cell 1 rfl⟩
  refine hK _ _ (.inr HS1) ?_
  try simp only [Act.put, List.setIfInBounds_toArray, List.set_cons_zero, List.set_cons_succ]
  refine anyL_one (i := 3) (atS (atS (atS at0))) (by kernel_rfl) rfl (fun K hK => ?_)
  go_simp
  refine (arranged_any _ (z, l) _ (HM.out.later hb1 (Nat.le_refl _)) HK.out _ _ (sortS false) eg (put_sort false Ky F w1 hKy hF hcF) r HR.out).mono ?_
  rintro e w2 ⟨v2, rfl, hm2, hb2⟩
  obtain ⟨a2, c2, rfl⟩ := hm2.sl
  generalize hMe : resM r (mapM (sortS false) (z, l)) = M at *
  have HMe : Hid (resM r (mapM (sortS false) (z, l)) = M) := hMe
  clear hMe
  have b02 := b0.below hb2 b0.lt
  have b12 := b1.below hb2 b1.lt
  have HS2 : HeldN w.heap.size z (.slice a n cap) w2 := ⟨b02.cell 0 rfl, b02.cell 1 rfl⟩
  have HB2 : Hid (Below w.heap.size w w2) := hb1.trans (hb2.mono hb1.size)
  have HM2 : Hid (MachFrom w.heap.size ((w2.setCell ⟨w.heap.size + 1, 0, none⟩ (.int .i64 M.1)).setCell ⟨w.heap.size + 1, 1, none⟩ (.slice a2 M.2.length c2)) (.agg #[.int .i64 M.1, .slice a2 M.2.length c2]) M) := ((hm2.set (by show w.heap.size + 1 < _; omega) _).set (by show w.heap.size + 1 < _; omega) _).mono (by omega)
  have e0 := b12.cell 0 (v := .int .i64 0) rfl
  have e1 := b12.cell 1 (v := .slice none 0 0) rfl
  have f0 := b12.fz 0
  have f1 := b12.fz 1
  refine hK _ _ (.inr HS2) ?_
  try simp only [Act.put, List.setIfInBounds_toArray, List.set_cons_zero, List.set_cons_succ]
  refine anyL_take (i := 4) (v := ?v4_3) (atS (atS (atS (atS at0)))) (by kernel_rfl) (by kernel_rfl) (by kernel_rfl) (by kernel_rfl) (fun _ _ _ h => h) rfl ?y4_3 HS2 ?r4_3
  case y4_3 => intro wx hx; obtain ⟨h1, h2⟩ := hx; go_simp; try (with_reducible rfl)
  simp only [Act.put, List.setIfInBounds_toArray, List.set_cons_zero, List.set_cons_succ]
  refine anyL_take (i := 5) (v := ?v5_4) (atS (atS (atS (atS (atS at0))))) (by kernel_rfl) (by kernel_rfl) (by kernel_rfl) (by kernel_rfl) (fun _ _ _ h => h) rfl ?y5_4 HS2 ?r5_4
  case y5_4 => intro wx hx; obtain ⟨h1, h2⟩ := hx; go_simp; try (with_reducible rfl)
  simp only [Act.put, List.setIfInBounds_toArray, List.set_cons_zero, List.set_cons_succ]
  refine anyL_one (i := 6) (atS (atS (atS (atS (atS (atS at0)))))) (by kernel_rfl) rfl (fun K hK => ?_)
  go_simp
  have b03 := (b02.setO (⟨w.heap.size + 1, 0, none⟩ : Addr) (.int .i64 M.1) (by show w.heap.size ≠ w.heap.size + 1; omega)).setO (⟨w.heap.size + 1, 1, none⟩ : Addr) (.slice a2 M.2.length c2) (by show w.heap.size ≠ w.heap.size + 1; omega)
  have HS3 : HeldN w.heap.size z (.slice a n cap) _ := ⟨b03.cell 0 rfl, b03.cell 1 rfl⟩
  refine hK _ _ (.inr HS3) ?_
  try simp only [Act.put, List.setIfInBounds_toArray, List.set_cons_zero, List.set_cons_succ]
  refine anyL_take (i := 7) (v := ?v7_5) (atS (atS (atS (atS (atS (atS (atS at0))))))) (by kernel_rfl) (by kernel_rfl) (by kernel_rfl) (by kernel_rfl) (fun _ _ _ h => h) rfl ?y7_5 HS3 ?r7_5
  case y7_5 => intro wx hx; obtain ⟨h1, h2⟩ := hx; go_simp; try (with_reducible rfl)
  simp only [Act.put, List.setIfInBounds_toArray, List.set_cons_zero, List.set_cons_succ]
  refine anyL_done (by kernel_rfl) (NoPanic.normal ?_)
  clear b0 b1 b02 b03 HS HS1 HS2 HS3 hm2 hb hb1 hb2 k0
  have b12' := (b12.set 0 (.int .i64 M.1)).set 1 (.slice a2 M.2.length c2)
  have x0 := b12'.cell 0 (v := .int .i64 M.1) rfl
  have x1 := b12'.cell 1 (v := .slice a2 M.2.length c2) rfl
  clear b12 b12' e0 e1 f0 f1
  have HB3 : Hid (Below w.heap.size w ((w2.setCell ⟨w.heap.size + 1, 0, none⟩ (.int .i64 M.1)).setCell ⟨w.heap.size + 1, 1, none⟩ (.slice a2 M.2.length c2))) := (HB2.out.setCell (by show _ ≤ w.heap.size + 1; omega) _).setCell (by show _ ≤ w.heap.size + 1; omega) _
  generalize (w2.setCell ⟨w.heap.size + 1, 0, none⟩ (.int .i64 M.1)).setCell ⟨w.heap.size + 1, 1, none⟩ (.slice a2 M.2.length c2) = w3 at *
  go_wp2
  exact bodyPost_ret (v := .tuple #[.agg #[.int .i64 M.1, .slice a2 M.2.length c2], .int .i64 r]) (by simp [results, Try.results14, go_sem, *]) rfl ⟨_, rfl, by rw [HMe.out]; exact HM2.out, HB3.out⟩
set_option maxRecDepth 100000 in
set_option maxHeartbeats 1000000 in
theorem byOut_any (v : Value) (m : Mc) (w : World) (h : Mach w v m) (hok : okM m) (r : Int) (hr : faultM m = r) :
    Calls Try.prog 17 #[v] w fun e w' => ∃ v', e = .returned (.tuple #[v', .int .i64 r]) ∧ MachFrom w.heap.size w' v' (resM r (mapM (sortS true) m)) ∧ Below w.heap.size w w' := by
  obtain ⟨z, l⟩ := m
  obtain ⟨vs, rfl, hS⟩ := h
  obtain ⟨a, cap, rfl⟩ := hS.sl
  have HM : Hid (Mach w (.agg #[.int .i64 z, .slice a l.length cap]) (z, l)) := ⟨_, rfl, hS⟩
  have HK : Hid (okM (z, l)) := hok
  have HR : Hid (faultM (z, l) = r) := hr
  clear hS hok hr
  simp only
  generalize l.length = n at *
  have eg : ∀ args w, (callFunc 48 args).run Try.prog w = .ok (.enter 48 args) w := enters_of Try.func48 (by kernel_rfl) rfl
  go_enter Try.func17, Try.ntmps17
  go_wp2
  have k0 : Blk ((w.alloc (.cells #[.int .i64 z, .slice a n cap] 27)).alloc (.cells #[.int .i64 0, .slice none 0 0] 27)).drew w.heap.size #[.int .i64 z, .slice a n cap] 27 := (Blk.made w _ _).alloc _
  have HS : HeldN w.heap.size z (.slice a n cap) ((w.alloc (.cells #[.int .i64 z, .slice a n cap] 27)).alloc (.cells #[.int .i64 0, .slice none 0 0] 27)).drew := ⟨k0.cell 0 rfl, k0.cell 1 rfl⟩
  refine region_anyL (HeldN w.heap.size z (.slice a n cap)) 1000 (by kernel_rfl) ?_
  refine anyL_take (i := 0) (v := ?v0_6) at0 (by kernel_rfl) (by kernel_rfl) (by kernel_rfl) (by kernel_rfl) (fun _ _ _ h => h) rfl ?y0_6 HS ?r0_6
  case y0_6 => intro wx hx; obtain ⟨h1, h2⟩ := hx; go_simp; try (with_reducible rfl)
  simp only [Act.put, List.setIfInBounds_toArray, List.set_cons_zero, List.set_cons_succ]
  refine anyL_take (i := 1) (v := ?v1_7) (atS at0) (by kernel_rfl) (by kernel_rfl) (by kernel_rfl) (by kernel_rfl) (fun _ _ _ h => h) rfl ?y1_7 HS ?r1_7
  case y1_7 => intro wx hx; obtain ⟨h1, h2⟩ := hx; go_simp; try (with_reducible rfl)
  simp only [Act.put, List.setIfInBounds_toArray, List.set_cons_zero, List.set_cons_succ]
  refine anyL_one (i := 2) (atS (atS at0)) (by kernel_rfl) rfl (fun K hK => ?_)
  go_simp
  refine (sortedBy_any true _ _ _ ⟨rfl, rfl⟩).mono ?_
  rintro e w1 ⟨fv, rfl, ⟨F, Ky, rfl, hF, hKy, hcF⟩, hb⟩
  obtain ⟨s1, b0, b1, hb1⟩ := boxed2 (below_undrew hb) (by simp [World.drew])
  have HS1 : HeldN w.heap.size z (.slice a n cap) w1 := ⟨b0.cell 0 rfl, b0.cell 1 rfl⟩
  refine hK _ _ (.inr HS1) ?_
  try simp only [Act.put, List.setIfInBounds_toArray, List.set_cons_zero, List.set_cons_succ]
  refine anyL_one (i := 3) (atS (atS (atS at0))) (by kernel_rfl) rfl (fun K hK => ?_)
  go_simp
  refine (arranged_any _ (z, l) _ (HM.out.later hb1 (Nat.le_refl _)) HK.out _ _ (sortS true) eg (put_sort true Ky F w1 hKy hF hcF) r HR.out).mono ?_
  rintro e w2 ⟨v2, rfl, hm2, hb2⟩
  obtain ⟨a2, c2, rfl⟩ := hm2.sl
  generalize hMe : resM r (mapM (sortS true) (z, l)) = M at *
  have HMe : Hid (resM r (mapM (sortS true) (z, l)) = M) := hMe
  clear hMe
  have b02 := b0.below hb2 b0.lt
  have b12 := b1.below hb2 b1.lt
  have HS2 : HeldN w.heap.size z (.slice a n cap) w2 := ⟨b02.cell 0 rfl, b02.cell 1 rfl⟩
  have HB2 : Hid (Below w.heap.size w w2) := hb1.trans (hb2.mono hb1.size)
  have HM2 : Hid (MachFrom w.heap.size ((w2.setCell ⟨w.heap.size + 1, 0, none⟩ (.int .i64 M.1)).setCell ⟨w.heap.size + 1, 1, none⟩ (.slice a2 M.2.length c2)) (.agg #[.int .i64 M.1, .slice a2 M.2.length c2]) M) := ((hm2.set (by show w.heap.size + 1 < _; omega) _).set (by show w.heap.size + 1 < _; omega) _).mono (by omega)
  have e0 := b12.cell 0 (v := .int .i64 0) rfl
  have e1 := b12.cell 1 (v := .slice none 0 0) rfl
  have f0 := b12.fz 0
  have f1 := b12.fz 1
  refine hK _ _ (.inr HS2) ?_
  try simp only [Act.put, List.setIfInBounds_toArray, List.set_cons_zero, List.set_cons_succ]
  refine anyL_take (i := 4) (v := ?v4_8) (atS (atS (atS (atS at0)))) (by kernel_rfl) (by kernel_rfl) (by kernel_rfl) (by kernel_rfl) (fun _ _ _ h => h) rfl ?y4_8 HS2 ?r4_8
  case y4_8 => intro wx hx; obtain ⟨h1, h2⟩ := hx; go_simp; try (with_reducible rfl)
  simp only [Act.put, List.setIfInBounds_toArray, List.set_cons_zero, List.set_cons_succ]
  refine anyL_take (i := 5) (v := ?v5_9) (atS (atS (atS (atS (atS at0))))) (by kernel_rfl) (by kernel_rfl) (by kernel_rfl) (by kernel_rfl) (fun _ _ _ h => h) rfl ?y5_9 HS2 ?r5_9
  case y5_9 => intro wx hx; obtain ⟨h1, h2⟩ := hx; go_simp; try (with_reducible rfl)
  simp only [Act.put, List.setIfInBounds_toArray, List.set_cons_zero, List.set_cons_succ]
  refine anyL_one (i := 6) (atS (atS (atS (atS (atS (atS at0)))))) (by kernel_rfl) rfl (fun K hK => ?_)
  go_simp
  have b03 := (b02.setO (⟨w.heap.size + 1, 0, none⟩ : Addr) (.int .i64 M.1) (by show w.heap.size ≠ w.heap.size + 1; omega)).setO (⟨w.heap.size + 1, 1, none⟩ : Addr) (.slice a2 M.2.length c2) (by show w.heap.size ≠ w.heap.size + 1; omega)
  have HS3 : HeldN w.heap.size z (.slice a n cap) _ := ⟨b03.cell 0 rfl, b03.cell 1 rfl⟩
  refine hK _ _ (.inr HS3) ?_
  try simp only [Act.put, List.setIfInBounds_toArray, List.set_cons_zero, List.set_cons_succ]
  refine anyL_take (i := 7) (v := ?v7_10) (atS (atS (atS (atS (atS (atS (atS at0))))))) (by kernel_rfl) (by kernel_rfl) (by kernel_rfl) (by kernel_rfl) (fun _ _ _ h => h) rfl ?y7_10 HS3 ?r7_10
  case y7_10 => intro wx hx; obtain ⟨h1, h2⟩ := hx; go_simp; try (with_reducible rfl)
  simp only [Act.put, List.setIfInBounds_toArray, List.set_cons_zero, List.set_cons_succ]
  refine anyL_done (by kernel_rfl) (NoPanic.normal ?_)
  clear b0 b1 b02 b03 HS HS1 HS2 HS3 hm2 hb hb1 hb2 k0
  have b12' := (b12.set 0 (.int .i64 M.1)).set 1 (.slice a2 M.2.length c2)
  have x0 := b12'.cell 0 (v := .int .i64 M.1) rfl
  have x1 := b12'.cell 1 (v := .slice a2 M.2.length c2) rfl
  clear b12 b12' e0 e1 f0 f1
  have HB3 : Hid (Below w.heap.size w ((w2.setCell ⟨w.heap.size + 1, 0, none⟩ (.int .i64 M.1)).setCell ⟨w.heap.size + 1, 1, none⟩ (.slice a2 M.2.length c2))) := (HB2.out.setCell (by show _ ≤ w.heap.size + 1; omega) _).setCell (by show _ ≤ w.heap.size + 1; omega) _
  generalize (w2.setCell ⟨w.heap.size + 1, 0, none⟩ (.int .i64 M.1)).setCell ⟨w.heap.size + 1, 1, none⟩ (.slice a2 M.2.length c2) = w3 at *
  go_wp2
  exact bodyPost_ret (v := .tuple #[.agg #[.int .i64 M.1, .slice a2 M.2.length c2], .int .i64 r]) (by simp [results, Try.results17, go_sem, *]) rfl ⟨_, rfl, by rw [HMe.out]; exact HM2.out, HB3.out⟩
end Go.Proofs.Ytbiecfnhjfdkcaa.Wt
