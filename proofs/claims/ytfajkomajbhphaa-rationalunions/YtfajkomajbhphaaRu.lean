/- The reference: one or the other. -/
import Derived.Test.YtfajkomajbhphaaRb
namespace Go.Proofs.Ytfajkomajbhphaa.Wt
open Go.ChangeShapes Go.WideShapes Go.ChangeAt Go.RowKit
open Go.Proofs.Ytfajkomajbhphaa.Pl
set_option linter.unusedVariables false
set_option linter.unusedSimpArgs false
theorem res_united (tm : Array Value) (W : World) (R : Nat) (ec : Int) (x0 x1 : Value) (hB : Blk W R #[x0, x1] 24) (h2 : tm.getD 4 undef = .pointer (some ⟨R, 0, none⟩)) (h3 : tm.getD 5 undef = .int .i64 ec) : (results Try.f11 tm).run Try.prog W = .ok (.tuple #[.agg #[x0, x1], .int .i64 ec]) W := by
  have c0 := hB.cell 0 (v := x0) rfl
  have c1 := hB.cell 1 (v := x1) rfl
  simp only [Array.getD_eq_getD_getElem?] at h2 h3
  simp [results, Try.results11, go_sem, h2, h3, c0, c1]
set_option maxRecDepth 100000 in
theorem united_bad (va vb : Value) (ma mb : Mc) (w : World) (ha : Mach w va ma) (hoka : okM ma) (hb : Mach w vb mb) (hokb : okM mb) (r : Int) (h0 : r ≠ 0) (hr : faultM ma = r ∨ faultM ma = 0 ∧ faultM mb = r) :
    Calls Try.prog 11 #[va, vb] w fun e w' => RatRes (0, []) r w e w' := by
  obtain ⟨za, la⟩ := ma
  obtain ⟨zb, lb⟩ := mb
  have HMA : Hid (Mach w va (za, la)) := ha
  have HKA : Hid (okM (za, la)) := hoka
  have HMB : Hid (Mach w vb (zb, lb)) := hb
  have HKB : Hid (okM (zb, lb)) := hokb
  obtain ⟨vsa, rfl, hSA⟩ := ha
  obtain ⟨vsb, rfl, hSB⟩ := hb
  obtain ⟨aa, capa, rfl⟩ := hSA.sl
  obtain ⟨ab, capb, rfl⟩ := hSB.sl
  clear hSA hSB
  have h0' : (r != 0) = true := bne_iff_ne.2 h0
  have h0'' : (r == 0) = false := by simpa using h0
  rcases hr with hr | ⟨hr, hr2⟩
  · have HRA : Hid (faultM (za, la) = r) := hr
    clear hr hoka hokb
    go_enter Try.func11, Try.ntmps11
    go_wp2_with (first
      | (go_at_call 27; (with_reducible refine (fault_any _ (za, la) _ (HMA.out.later (B := w.heap.size) (by go_grown) (Nat.le_refl _)) HKA.out r HRA.out).mono ?_); rintro e w1 ⟨rfl, hb⟩; obtain ⟨s1, b1, b2, b3, hb1⟩ := boxedThree hb (by simp); have HB1 : Hid (Below w.heap.size w w1) := hb1; have KA := hidP b1; have KB := hidP b2; have KR := hidP b3; have p0 := b2.cell 0 (v := .int .i64 zb) rfl; have p1 := b2.cell 1 (v := .slice ab lb.length capb) rfl; have e0 := b3.cell 0 (v := .int .i64 0) rfl; have e1 := b3.cell 1 (v := .slice none 0 0) rfl; have g0 := b3.fz 0; have g1 := b3.fz 1; clear b1 b2 b3 hb1 hb))
    exact bodyPost_ret (res_united _ _ (w.heap.size + 2) r _ _ ((KR.out.set 0 (.int .i64 0)).set 1 (.slice none 0 0)) rfl rfl) rfl ⟨_, rfl, mach_zeroR _, (HB1.out.setCell (p := ⟨w.heap.size + 2, 0, none⟩) (by show _ ≤ w.heap.size + 2; omega) _).setCell (p := ⟨w.heap.size + 2, 1, none⟩) (by show _ ≤ w.heap.size + 2; omega) _⟩
  · have HRA : Hid (faultM (za, la) = 0) := hr
    have HRB : Hid (faultM (zb, lb) = r) := hr2
    clear hr hr2 hoka hokb
    go_enter Try.func11, Try.ntmps11
    go_wp2_with (first
      | (go_at_call 27; (with_reducible refine (fault_any _ (za, la) _ (HMA.out.later (B := w.heap.size) (by go_grown) (Nat.le_refl _)) HKA.out 0 HRA.out).mono ?_); rintro e w1 ⟨rfl, hb⟩; obtain ⟨s1, b1, b2, b3, hb1⟩ := boxedThree hb (by simp); have HB1 : Hid (Below w.heap.size w w1) := hb1; have KA := hidP b1; have KB := hidP b2; have KR := hidP b3; have p0 := b2.cell 0 (v := .int .i64 zb) rfl; have p1 := b2.cell 1 (v := .slice ab lb.length capb) rfl; have e0 := b3.cell 0 (v := .int .i64 0) rfl; have e1 := b3.cell 1 (v := .slice none 0 0) rfl; have g0 := b3.fz 0; have g1 := b3.fz 1; clear b1 b2 b3 hb1 hb)
      | (go_at_call 27; (with_reducible refine (fault_any _ (zb, lb) _ (HMB.out.later HB1.out (Nat.le_refl _)) HKB.out r HRB.out).mono ?_); rintro e w2 ⟨rfl, hb⟩; have hs2 := hb.size; have HB2 := hidP (HB1.out.trans (hb.mono HB1.out.size)); have KA2 := hidP (KA.out.below hb KA.out.lt); have KB2 := hidP (KB.out.below hb KB.out.lt); have KR2 := hidP (KR.out.below hb KR.out.lt); have t0 := KA2.out.cell 0 (v := .int .i64 za) rfl; have t1 := KA2.out.cell 1 (v := .slice aa la.length capa) rfl; have e0 := KR2.out.cell 0 (v := .int .i64 0) rfl; have e1 := KR2.out.cell 1 (v := .slice none 0 0) rfl; have g0 := KR2.out.fz 0; have g1 := KR2.out.fz 1; clear hb))
    exact bodyPost_ret (res_united _ _ (w.heap.size + 2) r _ _ ((KR2.out.set 0 (.int .i64 0)).set 1 (.slice none 0 0)) rfl rfl) rfl ⟨_, rfl, mach_zeroR _, (HB2.out.setCell (p := ⟨w.heap.size + 2, 0, none⟩) (by show _ ≤ w.heap.size + 2; omega) _).setCell (p := ⟨w.heap.size + 2, 1, none⟩) (by show _ ≤ w.heap.size + 2; omega) _⟩
set_option maxRecDepth 100000 in
set_option maxHeartbeats 3200000 in
theorem united_ok (va vb : Value) (ma mb : Mc) (w : World) (ha : Mach w va ma) (hoka : okM ma) (hb : Mach w vb mb) (hokb : okM mb) (hra : faultM ma = 0) (hrb : faultM mb = 0) :
    Calls Try.prog 11 #[va, vb] w fun e w' => RatRes (fitM (uniM ma mb)) (fitE (uniM ma mb)) w e w' := by
  obtain ⟨za, la⟩ := ma
  obtain ⟨zb, lb⟩ := mb
  have HMA : Hid (Mach w va (za, la)) := ha
  have HKA : Hid (okM (za, la)) := hoka
  have HMB : Hid (Mach w vb (zb, lb)) := hb
  have HKB : Hid (okM (zb, lb)) := hokb
  obtain ⟨vsa, rfl, hSA⟩ := ha
  obtain ⟨vsb, rfl, hSB⟩ := hb
  have HRA : Hid (faultM (za, la) = 0) := hra
  have HRB : Hid (faultM (zb, lb) = 0) := hrb
  obtain ⟨⟨hza1, hza2⟩, _⟩ := right_parts hra
  obtain ⟨⟨hzb1, hzb2⟩, _⟩ := right_parts hrb
  obtain ⟨ha60, ha400⟩ := right_size hra
  obtain ⟨hb60, hb400⟩ := right_size hrb
  simp only at hza1 hza2 hzb1 hzb2
  obtain ⟨aa, capa, rfl, hca⟩ := hSA.get
  obtain ⟨ab, capb, rfl, hcb⟩ := hSB.get
  have HCA : Hid (∀ j, j < la.length → ∃ b off va, aa = some ⟨b, off, none⟩ ∧ b < w.heap.size ∧ w.cell? ⟨b, off + j * 2, none⟩ = some (.int .i64 (el la j).1) ∧ w.cell? ⟨b, off + j * 2 + 1, none⟩ = some va ∧ Arcs w va (el la j).2) := hca
  have HCB : Hid (∀ j, j < lb.length → ∃ b off va, ab = some ⟨b, off, none⟩ ∧ b < w.heap.size ∧ w.cell? ⟨b, off + j * 2, none⟩ = some (.int .i64 (el lb j).1) ∧ w.cell? ⟨b, off + j * 2 + 1, none⟩ = some va ∧ Arcs w va (el lb j).2) := hcb
  have HSTA : Hid (∀ j, j < la.length → finB (el la j).1 = true ∧ (el la j).2.length ≤ 400 ∧ ∀ p ∈ (el la j).2, 0 ≤ p.2.2.2 ∧ p.2.2.2 ≤ 1000) := right_states hra
  have HSTB : Hid (∀ j, j < lb.length → finB (el lb j).1 = true ∧ (el lb j).2.length ≤ 400 ∧ ∀ p ∈ (el lb j).2, 0 ≤ p.2.2.2 ∧ p.2.2.2 ≤ 1000) := right_states hrb
  obtain ⟨na, hna⟩ : ∃ na, la.length = na := ⟨_, rfl⟩
  obtain ⟨nb, hnb⟩ : ∃ nb, lb.length = nb := ⟨_, rfl⟩
  obtain ⟨TA, hTA⟩ : ∃ TA : Nat → List St, ∀ j, (1000000001, hopA za 1 0 ++ hopA zb (1 + (na : Int)) 0) :: (la.take j).map (fun s => shS 1 s.1 [] s) = TA j := ⟨_, fun _ => rfl⟩
  obtain ⟨TB, hTB⟩ : ∃ TB : Nat → List St, ∀ j, (1000000001, hopA za 1 0 ++ hopA zb (1 + (na : Int)) 0) :: (la.map (fun s => shS 1 s.1 [] s) ++ (lb.take j).map (fun s => shS (1 + (na : Int)) s.1 [] s)) = TB j := ⟨_, fun _ => rfl⟩
  have HA0 : Hid (TA 0 = [(1000000001, hopA za 1 0 ++ hopA zb (1 + (na : Int)) 0)]) := by show _ = _; rw [← hTA]; simp
  have HAS : Hid (∀ j, j < na → TA (j + 1) = TA j ++ [((el la j).1, (el la j).2.map (shA 1) ++ [])]) := fun j hj => by rw [← hTA, ← hTA, take_el (by omega)]; simp [shS]
  have HAL : Hid (∀ j, j ≤ na → (TA j).length = j + 1) := fun j hj => by rw [← hTA]; simp; omega
  have HAB : Hid (TA na = TB 0) := by show _ = _; rw [← hTA, ← hTB, ← hna, List.take_length]; simp
  have HBS : Hid (∀ j, j < nb → TB (j + 1) = TB j ++ [((el lb j).1, (el lb j).2.map (shA (1 + (na : Int))) ++ [])]) := fun j hj => by rw [← hTB, ← hTB, take_el (by omega)]; simp [shS]
  have HBL : Hid (∀ j, j ≤ nb → (TB j).length = na + j + 1) := fun j hj => by rw [← hTB]; simp; omega
  have HBN : Hid (TB nb = (uniM (za, la) (zb, lb)).2) := by show _ = _; rw [← hTB, ← hnb, List.take_length, ← hna]; rfl
  have HOKS : Hid (okM (uniM (za, la) (zb, lb))) := by
    have h5 := uniM_len (za, la) (zb, lb)
    have h6 := uniM_arcs (za, la) (zb, lb)
    simp only at h5 h6
    exact small_ok (by omega) (by omega)
  have HNA := hidP hna
  have HNB := hidP hnb
  clear hSA hSB hca hcb hra hrb hoka hokb hTA hTB
  rw [hna] at HCA HSTA ha60 hza2 HMA ⊢
  rw [hnb] at HCB HSTB hb60 hzb2 HMB ⊢
  clear hna hnb
  have uw : IntKind.i64.wrap (1 + (na : Int)) = 1 + (na : Int) := wrapI (by omega) (by omega)
  go_enter Try.func11, Try.ntmps11
  go_wp2_with (first
    | (go_at_call 27; (with_reducible refine (fault_any _ (za, la) _ (HMA.out.later (B := w.heap.size) (by go_grown) (Nat.le_refl _)) HKA.out 0 HRA.out).mono ?_); rintro e w1 ⟨rfl, hb⟩; obtain ⟨s1, b1, b2, b3, hb1⟩ := boxedThree hb (by simp); have HB1 : Hid (Below w.heap.size w w1) := hb1; have KA := hidP b1; have KB := hidP b2; have KR := hidP b3; have p0 := b2.cell 0 (v := .int .i64 zb) rfl; have p1 := b2.cell 1 (v := .slice ab nb capb) rfl; have e0 := b3.cell 0 (v := .int .i64 0) rfl; have e1 := b3.cell 1 (v := .slice none 0 0) rfl; have g0 := b3.fz 0; have g1 := b3.fz 1; clear b1 b2 b3 hb1 hb)
    | (go_at_call 27; (with_reducible refine (fault_any _ (zb, lb) _ (HMB.out.later HB1.out (Nat.le_refl _)) HKB.out 0 HRB.out).mono ?_); rintro e w2 ⟨rfl, hb⟩; have hs2 := hb.size; have HB2 := hidP (HB1.out.trans (hb.mono HB1.out.size)); have KA2 := hidP (KA.out.below hb KA.out.lt); have KB2 := hidP (KB.out.below hb KB.out.lt); have KR2 := hidP (KR.out.below hb KR.out.lt); have t0 := KA2.out.cell 0 (v := .int .i64 za) rfl; have t1 := KA2.out.cell 1 (v := .slice aa na capa) rfl; have e0 := KR2.out.cell 0 (v := .int .i64 0) rfl; have e1 := KR2.out.cell 1 (v := .slice none 0 0) rfl; have g0 := KR2.out.fz 0; have g1 := KR2.out.fz 1; clear hb))
  have hsr0 := KR2.out.lt
  have HF0 := hidP (Blk.made w2 #[.int .i64 1000000001, .slice none 0 0] 44)
  have HB3 : Hid (Below w2.heap.size w2 (w2.alloc (.cells #[.int .i64 1000000001, .slice none 0 0] 44))) := (Below.refl _ _).alloc (Nat.le_refl _) _
  have HZW : ∀ W, Below w2.heap.size w2 W → HeldZ (w.heap.size) (w.heap.size + 1) za zb W := fun W hW => ⟨(KA2.out.below hW KA2.out.lt).cell 0 rfl, (KB2.out.below hW KB2.out.lt).cell 0 rfl⟩
  have HSD := HZW _ HB3.out.drew
  refine region_anyL (HeldZ (w.heap.size) (w.heap.size + 1) za zb) 10 (by kernel_rfl) ?_
  refine anyL_take (i := 0) (v := ?v0_1) at0 (by kernel_rfl) (by kernel_rfl) (by kernel_rfl) (by kernel_rfl) (fun _ _ _ h => h) rfl ?y0_1 HSD ?r0_1
  case y0_1 => intro wx hx; obtain ⟨h0, h1⟩ := hx; go_simp; try (with_reducible rfl)
  simp only [Act.put, List.setIfInBounds_toArray, List.set_cons_zero, List.set_cons_succ]
  refine anyL_take (i := 1) (v := ?v1_2) (atS at0) (by kernel_rfl) (by kernel_rfl) (by kernel_rfl) (by kernel_rfl) (fun _ _ _ h => h) rfl ?y1_2 HSD ?r1_2
  case y1_2 => intro wx hx; obtain ⟨h0, h1⟩ := hx; go_simp; try (with_reducible rfl)
  simp only [Act.put, List.setIfInBounds_toArray, List.set_cons_zero, List.set_cons_succ]
  refine anyL_take (i := 3) (v := ?v3_3) (atS (atS (atS at0))) (by kernel_rfl) (by kernel_rfl) (by kernel_rfl) (by kernel_rfl) (fun _ _ _ h => h) rfl ?y3_3 HSD ?r3_3
  case y3_3 => intro wx hx; obtain ⟨h0, h1⟩ := hx; go_simp; try (with_reducible rfl)
  simp only [Act.put, List.setIfInBounds_toArray, List.set_cons_zero, List.set_cons_succ]
  refine anyL_take (i := 4) (v := ?v4_4) (atS (atS (atS (atS at0)))) (by kernel_rfl) (by kernel_rfl) (by kernel_rfl) (by kernel_rfl) (fun _ _ _ h => h) rfl ?y4_4 HSD ?r4_4
  case y4_4 => intro wx hx; obtain ⟨h0, h1⟩ := hx; go_simp; try (with_reducible rfl)
  simp only [Act.put, List.setIfInBounds_toArray, List.set_cons_zero, List.set_cons_succ]
  refine anyL_take (i := 5) (v := ?v5_5) (atS (atS (atS (atS (atS at0))))) (by kernel_rfl) (by kernel_rfl) (by kernel_rfl) (by kernel_rfl) (fun _ _ _ h => h) rfl ?y5_5 HSD ?r5_5
  case y5_5 => intro wx hx; obtain ⟨h0, h1⟩ := hx; go_simp; try (with_reducible rfl)
  simp only [Act.put, List.setIfInBounds_toArray, List.set_cons_zero, List.set_cons_succ]
  refine anyL_take (i := 6) (v := ?v6_6) (atS (atS (atS (atS (atS (atS at0)))))) (by kernel_rfl) (by kernel_rfl) (by kernel_rfl) (by kernel_rfl) (fun _ _ _ h => h) rfl ?y6_6 HSD ?r6_6
  case y6_6 => intro wx hx; obtain ⟨h0, h1⟩ := hx; go_simp; try (with_reducible rfl)
  simp only [Act.put, List.setIfInBounds_toArray, List.set_cons_zero, List.set_cons_succ]
  refine anyL_one (i := 2) (atS (atS at0)) (by kernel_rfl) rfl (fun K hK => ?_)
  go_simp
  refine (hops_any _ _ _ _ (by omega) (by omega)).mono ?_
  rintro e w4 ⟨v4, rfl, ho4, hb4⟩
  obtain ⟨a4, c4, hv4⟩ := ho4.sl
  subst hv4
  replace hb4 : Below (w2.heap.size + 1) (w2.alloc (.cells #[.int .i64 1000000001, .slice none 0 0] 44)) w4 := Below.trans (Below.refl _ _).drew (hb4.mono (by show _ ≤ (w2.alloc _).heap.size; simp))
  have hs4 := hb4.size
  rw [World.size_alloc] at hs4
  have HB4 := hidP (HB3.out.trans (hb4.mono (by omega)))
  have HS4 := HZW _ HB4.out
  have HH1 : Hid (OwnArcs w4 (w2.heap.size + 1) (.slice a4 (hopA za 1 0).length c4) (hopA za 1 0)) := ho4.mono (by show _ ≤ (w2.alloc _).heap.size; simp)
  have hh1 := hopA_le za 1 0
  generalize hopA za 1 0 = H1 at *
  refine hK _ _ (.inr HS4) ?_
  try simp only [Act.put, List.setIfInBounds_toArray, List.set_cons_zero, List.set_cons_succ]
  refine anyL_one (i := 7) (atS (atS (atS (atS (atS (atS (atS at0))))))) (by kernel_rfl) rfl (fun K hK => ?_)
  go_simp
  refine (hops_any _ _ _ _ (by omega) (by omega)).mono ?_
  rintro e w5 ⟨v5, rfl, ho5, hb5⟩
  obtain ⟨a5, c5, hv5⟩ := ho5.sl
  subst hv5
  have hs5 := hb5.size
  have HB5 := hidP (HB4.out.trans (hb5.mono (by omega)))
  have HS5 := HZW _ HB5.out
  have HF5 := hidP (((HF0.out.below hb4 (by omega)).below hb5 (by omega)))
  have hh2 := hopA_le zb (1 + (na : Int)) 0
  generalize hopA zb (1 + (na : Int)) 0 = H2 at *
  obtain ⟨a6, n6, c6, w6, hr6, ho6, hg6, hb6⟩ := arcs_join (w5 := w5) (B := w2.heap.size + 1) (HH1.out.later hb5) ho5.arcs (by omega) (by omega)
  have R6 := hidP hr6
  have HF6 := hidP (HF5.out.below hb6 (Nat.lt_succ_self _))
  have HB6 := hidP (HB5.out.trans (hb6.mono (by omega)))
  have HS6 := HZW _ HB6.out
  have f6 := HF6.out.fz 1
  have c6' := HF6.out.cell 1 (v := .slice none 0 0) rfl
  have HO6 : Hid (OwnArcs (w6.setCell ⟨w2.heap.size, 1, none⟩ (.slice a6 n6 c6)) (w2.heap.size + 1) (.slice a6 n6 c6) (H1 ++ H2)) := ownsRow_setCell_below ho6 (a := ⟨w2.heap.size, 1, none⟩) (Nat.lt_succ_self _) _
  have HF7 := hidP (HF6.out.set 1 (.slice a6 n6 c6))
  have HB7 := hidP (HB6.out.setCell (p := ⟨w2.heap.size, 1, none⟩) (Nat.le_refl _) (.slice a6 n6 c6))
  clear hr6 ho6 hg6 hb6 hb5 ho5 ho4 hb4 HF0
  refine hK _ _ (.inr HS5) ?_
  try simp only [Act.put, List.setIfInBounds_toArray, List.set_cons_zero, List.set_cons_succ]
  refine anyL_one (i := 8) (atS (atS (atS (atS (atS (atS (atS (atS at0)))))))) (by kernel_rfl) rfl (fun K hK => ?_)
  refine wp_append_run (.tmp 30) (.tmp 35) 42 rfl rfl rfl R6.out ?_
  refine hK _ _ (.inr HS6) ?_
  try simp only [Act.put, List.setIfInBounds_toArray, List.set_cons_zero, List.set_cons_succ]
  refine anyL_one (i := 9) (atS (atS (atS (atS (atS (atS (atS (atS (atS at0))))))))) (by kernel_rfl) rfl (fun K hK => ?_)
  go_simp
  refine hK _ _ (.inr HS6) ?_
  try simp only [Act.put, List.setIfInBounds_toArray, List.set_cons_zero, List.set_cons_succ]
  refine anyL_one (i := 10) (atS (atS (atS (atS (atS (atS (atS (atS (atS (atS at0)))))))))) (by kernel_rfl) rfl (fun K hK => ?_)
  go_simp
  refine hK _ _ (.inl rfl) (anyL_done (by kernel_rfl) (NoPanic.normal ?_))
  try simp only [Act.put, List.setIfInBounds_toArray, List.set_cons_zero, List.set_cons_succ]
  clear HSD HS4 HS5 HS6 HZW
  generalize w6.setCell ⟨w2.heap.size, 1, none⟩ (.slice a6 n6 c6) = wS at *
  have q0 := HF7.out.cell 0 (v := .int .i64 1000000001) rfl
  have q1 := HF7.out.cell 1 (v := .slice a6 n6 c6) rfl
  have hsS := HF7.out.lt
  go_wp2
  have HOM : Hid (OwnSts ((wS.alloc (.cells #[.int .i64 1000000001, .slice a6 n6 c6] 44)).alloc (.cells #[.int .i64 0, .slice (some ⟨wS.heap.size, 0, none⟩) 1 1] 24)) (w2.heap.size + 1) (.slice (some ⟨wS.heap.size, 0, none⟩) (0 + 1) 1) (TA 0)) := by
    rw [HA0.out]
    exact (OwnSts.one (f := 1000000001) HO6.out (by omega)).laterB ((Below.refl _ _).alloc (Nat.le_refl _) _)
  have HMM : Hid (Blk ((wS.alloc (.cells #[.int .i64 1000000001, .slice a6 n6 c6] 44)).alloc (.cells #[.int .i64 0, .slice (some ⟨wS.heap.size, 0, none⟩) 1 1] 24)) (wS.heap.size + 1) #[.int .i64 0, .slice (some ⟨wS.heap.size, 0, none⟩) (0 + 1) 1] 24) := by
    have := Blk.made (wS.alloc (.cells #[.int .i64 1000000001, .slice a6 n6 c6] 44)) #[.int .i64 0, .slice (some ⟨wS.heap.size, 0, none⟩) 1 1] 24
    rwa [World.size_alloc] at this
  have HB8 : Hid (Below w2.heap.size w2 ((wS.alloc (.cells #[.int .i64 1000000001, .slice a6 n6 c6] 44)).alloc (.cells #[.int .i64 0, .slice (some ⟨wS.heap.size, 0, none⟩) 1 1] 24))) := (HB7.out.alloc (by omega) _).alloc (by simp; omega) _
  have KA3 := hidP (KA2.out.below HB8.out KA2.out.lt)
  have KB3 := hidP (KB2.out.below HB8.out KB2.out.lt)
  have KR3 := hidP (KR2.out.below HB8.out KR2.out.lt)
  have HBM := hidP (HB2.out.trans (HB8.out.mono (by omega)))
  clear KA KB KR KA2 KB2 KR2 HB1 HB3 HB4 HB5 HB6 HB7 HF5 HF6 HF7 HO6 HH1 t0 t1 e0 e1 g0 g1 p0 p1 q0 q1
  generalize (wS.alloc (.cells #[.int .i64 1000000001, .slice a6 n6 c6] 44)).alloc (.cells #[.int .i64 0, .slice (some ⟨wS.heap.size, 0, none⟩) 1 1] 24) = wM at *
  go_loopw [10] (fun s6 wr => ∃ (i : Nat) (av : Option Addr) (cv : Nat), s6 = .int .i64 i ∧ i ≤ na ∧ Hid (Blk wr (wS.heap.size + 1) #[.int .i64 0, .slice av (i + 1) cv] 24) ∧ Hid (OwnSts wr (w2.heap.size + 1) (.slice av (i + 1) cv) (TA i)) ∧ Hid (Below (w2.heap.size + 1) wM wr)) (fun s6 _ => na - (intOf s6).toNat)
  case atStart => exact ⟨0, _, _, by go_num, Nat.zero_le _, HMM, HOM, Below.refl _ _⟩
  case round =>
    obtain ⟨i, av, cv, rfl, hi, hm, ho, hb⟩ := hrel
    have KSr := hidP (KA3.out.below hb.out (by omega))
    have d1 := KSr.out.cell 1 (v := .slice aa na capa) rfl
    have HBw := hidP (HBM.out.trans (hb.out.mono (by omega)))
    have hsr := hb.out.size
    have hmlt := hm.out.lt
    by_cases hin : i < na
    · have hin' : (i : Int) < (na : Int) := by omega
      have hi0 : (0 : Int) ≤ (i : Int) := by omega
      obtain ⟨b, off, va, rfl, hbl, y0, y1, gA⟩ := HCA.out i hin
      obtain ⟨hfin, hal, hto⟩ := HSTA.out i hin
      have HTi := hidP (HAS.out i hin)
      have HLn := hidP (HAL.out i hi)
      have x0 : ∀ W, Below w.heap.size w W → W.cell? ⟨b, off + i * 2, none⟩ = some (.int .i64 (el la i).1) := fun W hW => (hW.cell (p := ⟨b, off + i * 2, none⟩) hbl).trans y0
      have x1 : ∀ W, Below w.heap.size w W → W.cell? ⟨b, off + i * 2 + 1, none⟩ = some va := fun W hW => (hW.cell (p := ⟨b, off + i * 2 + 1, none⟩) hbl).trans y1
      obtain ⟨a2, cap2, hva, hvx⟩ := gA.get
      subst hva
      have HGA : Hid (∀ W, Below w.heap.size w W → Arcs W (.slice a2 (el la i).2.length cap2) (el la i).2) := fun W hW => gA.later hW (Nat.le_refl _)
      have HTO := hidP hto
      have hfe : (el la i).1 ≠ 1000000001 → 0 ≤ (el la i).1 ∧ (el la i).1 ≤ 1000000000 := fun g => by
        simp [finB, inB] at hfin
        omega
      clear gA hto hfin y0 y1 hvx
      generalize (el la i).1 = fin at *
      generalize (el la i).2 = ar at *
      generalize TA i = Lst at *
      generalize hLn : i + 1 = Ln at *
      have z0 := x0 _ HBw.out
      have z1 := x1 _ HBw.out
      obtain ⟨va, hva⟩ : ∃ va, Value.slice a2 ar.length cap2 = va := ⟨_, rfl⟩
      rw [hva] at z1 x1
      clear hfe
      obtain ⟨NL, hNL⟩ : ∃ NL, ar.map (shA (1)) ++ [] = NL := ⟨_, rfl⟩
      rw [hNL] at HTi
      have FSh : Hid (∀ W, Below wr.heap.size wr W → Calls Try.prog 29 #[.agg #[.int .i64 fin, va], .int .i64 1, .int .i64 fin, Value.slice none 0 0] W fun e w' => ∃ v, e = .returned (.agg #[.int .i64 fin, v]) ∧ OwnArcs w' W.heap.size v NL ∧ Below W.heap.size W w') := fun W hq => by
        have hW := HBw.out.trans (hq.mono HBw.out.size)
        rw [← hva, ← hNL]
        exact shifted_any fin (1) fin a2 none cap2 0 ar [] W (HGA.out W hW) (OwnArcs.nil W 0).arcs hal (by simp) (by omega) HTO.out
      have HMq := hm
      have HOq := ho
      have HBq := hb
      have HSq := KSr
      clear hNL hva
      have HSD := HeldP.mk' (W := wr.drew) HMq.out HSq.out (x0 _ HBw.out.drew) (x1 _ HBw.out.drew)
      go_wp2
      refine region_anyL (HeldP (wS.heap.size + 1) (.slice av Ln cv) (w.heap.size) (.slice (some ⟨b, off, none⟩) na capa) b (off + i * 2) fin va) 17 (by kernel_rfl) ?_
      refine anyL_take (i := 0) (v := ?v0_7) at0 (by kernel_rfl) (by kernel_rfl) (by kernel_rfl) (by kernel_rfl) (fun _ _ _ h => h) rfl ?y0_7 HSD ?r0_7
      case y0_7 => intro wx hx; obtain ⟨h0, h1, h2, h3⟩ := hx; go_simp; try (with_reducible rfl)
      simp only [Act.put, List.setIfInBounds_toArray, List.set_cons_zero, List.set_cons_succ]
      refine anyL_take (i := 1) (v := ?v1_8) (atS at0) (by kernel_rfl) (by kernel_rfl) (by kernel_rfl) (by kernel_rfl) (fun _ _ _ h => h) rfl ?y1_8 HSD ?r1_8
      case y1_8 => intro wx hx; obtain ⟨h0, h1, h2, h3⟩ := hx; go_simp; try (with_reducible rfl)
      simp only [Act.put, List.setIfInBounds_toArray, List.set_cons_zero, List.set_cons_succ]
      refine anyL_take (i := 2) (v := ?v2_9) (atS (atS at0)) (by kernel_rfl) (by kernel_rfl) (by kernel_rfl) (by kernel_rfl) (fun _ _ _ h => h) rfl ?y2_9 HSD ?r2_9
      case y2_9 => intro wx hx; obtain ⟨h0, h1, h2, h3⟩ := hx; go_simp; try (with_reducible rfl)
      simp only [Act.put, List.setIfInBounds_toArray, List.set_cons_zero, List.set_cons_succ]
      refine anyL_take (i := 3) (v := ?v3_10) (atS (atS (atS at0))) (by kernel_rfl) (by kernel_rfl) (by kernel_rfl) (by kernel_rfl) (fun _ _ _ h => h) rfl ?y3_10 HSD ?r3_10
      case y3_10 => intro wx hx; obtain ⟨h0, h1, h2, h3⟩ := hx; go_simp; try (with_reducible rfl)
      simp only [Act.put, List.setIfInBounds_toArray, List.set_cons_zero, List.set_cons_succ]
      refine anyL_take (i := 4) (v := ?v4_11) (atS (atS (atS (atS at0)))) (by kernel_rfl) (by kernel_rfl) (by kernel_rfl) (by kernel_rfl) (fun _ _ _ h => h) rfl ?y4_11 HSD ?r4_11
      case y4_11 => intro wx hx; obtain ⟨h0, h1, h2, h3⟩ := hx; go_simp; try (with_reducible rfl)
      simp only [Act.put, List.setIfInBounds_toArray, List.set_cons_zero, List.set_cons_succ]
      refine anyL_take (i := 5) (v := ?v5_12) (atS (atS (atS (atS (atS at0))))) (by kernel_rfl) (by kernel_rfl) (by kernel_rfl) (by kernel_rfl) (fun _ _ _ h => h) rfl ?y5_12 HSD ?r5_12
      case y5_12 => intro wx hx; obtain ⟨h0, h1, h2, h3⟩ := hx; go_simp; try (with_reducible rfl)
      simp only [Act.put, List.setIfInBounds_toArray, List.set_cons_zero, List.set_cons_succ]
      refine anyL_take (i := 6) (v := ?v6_13) (atS (atS (atS (atS (atS (atS at0)))))) (by kernel_rfl) (by kernel_rfl) (by kernel_rfl) (by kernel_rfl) (fun _ _ _ h => h) rfl ?y6_13 HSD ?r6_13
      case y6_13 => intro wx hx; obtain ⟨h0, h1, h2, h3⟩ := hx; go_simp; try (with_reducible rfl)
      simp only [Act.put, List.setIfInBounds_toArray, List.set_cons_zero, List.set_cons_succ]
      refine anyL_take (i := 7) (v := ?v7_14) (atS (atS (atS (atS (atS (atS (atS at0))))))) (by kernel_rfl) (by kernel_rfl) (by kernel_rfl) (by kernel_rfl) (fun _ _ _ h => h) rfl ?y7_14 HSD ?r7_14
      case y7_14 => intro wx hx; obtain ⟨h0, h1, h2, h3⟩ := hx; go_simp; try (with_reducible rfl)
      simp only [Act.put, List.setIfInBounds_toArray, List.set_cons_zero, List.set_cons_succ]
      refine anyL_take (i := 8) (v := ?v8_15) (atS (atS (atS (atS (atS (atS (atS (atS at0)))))))) (by kernel_rfl) (by kernel_rfl) (by kernel_rfl) (by kernel_rfl) (fun _ _ _ h => h) rfl ?y8_15 HSD ?r8_15
      case y8_15 => intro wx hx; obtain ⟨h0, h1, h2, h3⟩ := hx; go_simp; try (with_reducible rfl)
      simp only [Act.put, List.setIfInBounds_toArray, List.set_cons_zero, List.set_cons_succ]
      refine anyL_take (i := 9) (v := ?v9_16) (atS (atS (atS (atS (atS (atS (atS (atS (atS at0))))))))) (by kernel_rfl) (by kernel_rfl) (by kernel_rfl) (by kernel_rfl) (fun _ _ _ h => h) rfl ?y9_16 HSD ?r9_16
      case y9_16 => intro wx hx; obtain ⟨h0, h1, h2, h3⟩ := hx; go_simp; try (with_reducible rfl)
      simp only [Act.put, List.setIfInBounds_toArray, List.set_cons_zero, List.set_cons_succ]
      refine anyL_take (i := 10) (v := ?v10_17) (atS (atS (atS (atS (atS (atS (atS (atS (atS (atS at0)))))))))) (by kernel_rfl) (by kernel_rfl) (by kernel_rfl) (by kernel_rfl) (fun _ _ _ h => h) rfl ?y10_17 HSD ?r10_17
      case y10_17 => intro wx hx; obtain ⟨h0, h1, h2, h3⟩ := hx; go_simp; try (with_reducible rfl)
      simp only [Act.put, List.setIfInBounds_toArray, List.set_cons_zero, List.set_cons_succ]
      refine anyL_take (i := 11) (v := ?v11_18) (atS (atS (atS (atS (atS (atS (atS (atS (atS (atS (atS at0))))))))))) (by kernel_rfl) (by kernel_rfl) (by kernel_rfl) (by kernel_rfl) (fun _ _ _ h => h) rfl ?y11_18 HSD ?r11_18
      case y11_18 => intro wx hx; obtain ⟨h0, h1, h2, h3⟩ := hx; go_simp; try (with_reducible rfl)
      simp only [Act.put, List.setIfInBounds_toArray, List.set_cons_zero, List.set_cons_succ]
      refine anyL_take (i := 12) (v := ?v12_19) (atS (atS (atS (atS (atS (atS (atS (atS (atS (atS (atS (atS at0)))))))))))) (by kernel_rfl) (by kernel_rfl) (by kernel_rfl) (by kernel_rfl) (fun _ _ _ h => h) rfl ?y12_19 HSD ?r12_19
      case y12_19 => intro wx hx; obtain ⟨h0, h1, h2, h3⟩ := hx; go_simp; try (with_reducible rfl)
      simp only [Act.put, List.setIfInBounds_toArray, List.set_cons_zero, List.set_cons_succ]
      refine anyL_one (i := 13) (atS (atS (atS (atS (atS (atS (atS (atS (atS (atS (atS (atS (atS at0))))))))))))) (by kernel_rfl) rfl (fun K hK => ?_)
      go_simp
      with_reducible refine (FSh.out _ (Below.refl _ _).drew).mono ?_
      rintro e1 w5 ⟨v5, rfl, ho5, hb5⟩
      obtain ⟨a5, c5, hv5⟩ := ho5.sl
      subst hv5
      have hb5' : Below wr.heap.size wr w5 := Below.trans (Below.refl _ _).drew hb5
      have hs5 := hb5'.size
      have HM5 := HMq.out.below hb5' HMq.out.lt
      have HS5 := HSq.out.below hb5' HSq.out.lt
      have HBw5 := hidP (HBw.out.trans (hb5'.mono HBw.out.size))
      obtain ⟨a6, c6, w6, hr6, hM6, hb6, hO7, hM7, hb7⟩ := push_step (w5 := w5) (B := w2.heap.size + 1) (Mb := wS.heap.size + 1) (fin, NL) (HOq.out.laterB hb5') (ho5.mono (by show _ ≤ wr.heap.size; omega)) HM5 (by omega) (by omega) (by have := HLn.out; omega)
      rw [HLn.out] at hr6 hO7 hM7 hb7
      have HB6 : Below w.heap.size w w6 := HBw5.out.trans (hb6.mono (by omega))
      have HS6 := HS5.below hb6 (by omega)
      have HSA := HeldP.mk' (W := w5.alloc (.cells #[.int .i64 fin, .slice a5 NL.length c5] 44)) (HM5.alloc _) (HS5.alloc _) (x0 _ (HBw5.out.alloc HBw5.out.size _)) (x1 _ (HBw5.out.alloc HBw5.out.size _))
      have HSE := HeldP.mk' HM5 HS5 (x0 _ HBw5.out) (x1 _ HBw5.out)
      have HSG := HeldP.mk' hM6 HS6 (x0 _ HB6) (x1 _ HB6)
      have R6 := hidP hr6
      have f6 := hM6.fz 1
      have c6' := hM6.cell 1 (v := .slice av Ln cv) rfl
      have HO7 := hidP hO7
      have HM7 := hidP hM7
      have HB7 := hidP ((HBq.out.trans (hb5'.mono (by omega))).trans hb7)
      clear hr6 hM6 hb6 hO7 hM7 hb7 HM5 HS5 HS6 ho5 hb5 HB6
      refine hK _ _ (.inr HSE) ?_
      try simp only [Act.put, List.setIfInBounds_toArray, List.set_cons_zero, List.set_cons_succ]
      refine anyL_one (i := 14) (atS (atS (atS (atS (atS (atS (atS (atS (atS (atS (atS (atS (atS (atS at0)))))))))))))) (by kernel_rfl) rfl (fun K hK => ?_)
      go_simp
      refine hK _ _ (.inr HSA) ?_
      try simp only [Act.put, List.setIfInBounds_toArray, List.set_cons_zero, List.set_cons_succ]
      refine anyL_one (i := 15) (atS (atS (atS (atS (atS (atS (atS (atS (atS (atS (atS (atS (atS (atS (atS at0))))))))))))))) (by kernel_rfl) rfl (fun K hK => ?_)
      refine wp_append_run (.tmp 47) (.tmp 60) 22 rfl rfl rfl R6.out ?_
      refine hK _ _ (.inr HSG) ?_
      try simp only [Act.put, List.setIfInBounds_toArray, List.set_cons_zero, List.set_cons_succ]
      refine anyL_one (i := 16) (atS (atS (atS (atS (atS (atS (atS (atS (atS (atS (atS (atS (atS (atS (atS (atS at0)))))))))))))))) (by kernel_rfl) rfl (fun K hK => ?_)
      go_simp
      refine hK _ _ (.inr HSG) ?_
      try simp only [Act.put, List.setIfInBounds_toArray, List.set_cons_zero, List.set_cons_succ]
      refine anyL_one (i := 17) (atS (atS (atS (atS (atS (atS (atS (atS (atS (atS (atS (atS (atS (atS (atS (atS (atS at0))))))))))))))))) (by kernel_rfl) rfl (fun K hK => ?_)
      go_simp
      refine hK _ _ (.inl rfl) (anyL_done (by kernel_rfl) (NoPanic.normal ?_))
      try simp only [Act.put, List.setIfInBounds_toArray, List.set_cons_zero, List.set_cons_succ]
      clear HSD HSA HSE HSG
      go_wp2
      go_roundw
      case rel => subst hLn; exact ⟨i + 1, a6, c6, by go_num, by omega, HM7, by rw [HTi.out]; exact HO7, HB7⟩
      case measure => simp [intOf]; omega
    · have hin' : ¬ (i : Int) < (na : Int) := by omega
      obtain rfl : na = i := by omega
      rw [HAB.out] at ho
      have hm0 := hm
      have ho0 := ho
      have hb0 := hb
      clear KSr d1 HBw hsr hmlt hm ho hb
      go_wp2
      go_loopw [11] (fun s6 wr => ∃ (i : Nat) (av : Option Addr) (cv : Nat), s6 = .int .i64 i ∧ i ≤ nb ∧ Hid (Blk wr (wS.heap.size + 1) #[.int .i64 0, .slice av (na + i + 1) cv] 24) ∧ Hid (OwnSts wr (w2.heap.size + 1) (.slice av (na + i + 1) cv) (TB i)) ∧ Hid (Below (w2.heap.size + 1) wM wr)) (fun s6 _ => nb - (intOf s6).toNat)
      case atStart => exact ⟨0, _, _, by go_num, Nat.zero_le _, hm0, ho0, hb0⟩
      case round =>
        obtain ⟨i, av, cv, rfl, hi, hm, ho, hb⟩ := hrel
        have KSr := hidP (KB3.out.below hb.out (by omega))
        have d1 := KSr.out.cell 1 (v := .slice ab nb capb) rfl
        have HBw := hidP (HBM.out.trans (hb.out.mono (by omega)))
        have hsr := hb.out.size
        have hmlt := hm.out.lt
        by_cases hin : i < nb
        · have hin' : (i : Int) < (nb : Int) := by omega
          have hi0 : (0 : Int) ≤ (i : Int) := by omega
          obtain ⟨b, off, va, rfl, hbl, y0, y1, gA⟩ := HCB.out i hin
          obtain ⟨hfin, hal, hto⟩ := HSTB.out i hin
          have HTi := hidP (HBS.out i hin)
          have HLn := hidP (HBL.out i hi)
          have x0 : ∀ W, Below w.heap.size w W → W.cell? ⟨b, off + i * 2, none⟩ = some (.int .i64 (el lb i).1) := fun W hW => (hW.cell (p := ⟨b, off + i * 2, none⟩) hbl).trans y0
          have x1 : ∀ W, Below w.heap.size w W → W.cell? ⟨b, off + i * 2 + 1, none⟩ = some va := fun W hW => (hW.cell (p := ⟨b, off + i * 2 + 1, none⟩) hbl).trans y1
          obtain ⟨a2, cap2, hva, hvx⟩ := gA.get
          subst hva
          have HGA : Hid (∀ W, Below w.heap.size w W → Arcs W (.slice a2 (el lb i).2.length cap2) (el lb i).2) := fun W hW => gA.later hW (Nat.le_refl _)
          have HTO := hidP hto
          have hfe : (el lb i).1 ≠ 1000000001 → 0 ≤ (el lb i).1 ∧ (el lb i).1 ≤ 1000000000 := fun g => by
            simp [finB, inB] at hfin
            omega
          clear gA hto hfin y0 y1 hvx
          generalize (el lb i).1 = fin at *
          generalize (el lb i).2 = ar at *
          generalize TB i = Lst at *
          generalize hLn : na + i + 1 = Ln at *
          have z0 := x0 _ HBw.out
          have z1 := x1 _ HBw.out
          obtain ⟨va, hva⟩ : ∃ va, Value.slice a2 ar.length cap2 = va := ⟨_, rfl⟩
          rw [hva] at z1 x1
          clear hfe
          obtain ⟨NL, hNL⟩ : ∃ NL, ar.map (shA (1 + (na : Int))) ++ [] = NL := ⟨_, rfl⟩
          rw [hNL] at HTi
          have FSh : Hid (∀ W, Below wr.heap.size wr W → Calls Try.prog 29 #[.agg #[.int .i64 fin, va], .int .i64 (1 + (na : Int)), .int .i64 fin, Value.slice none 0 0] W fun e w' => ∃ v, e = .returned (.agg #[.int .i64 fin, v]) ∧ OwnArcs w' W.heap.size v NL ∧ Below W.heap.size W w') := fun W hq => by
            have hW := HBw.out.trans (hq.mono HBw.out.size)
            rw [← hva, ← hNL]
            exact shifted_any fin (1 + (na : Int)) fin a2 none cap2 0 ar [] W (HGA.out W hW) (OwnArcs.nil W 0).arcs hal (by simp) (by omega) HTO.out
          have HMq := hm
          have HOq := ho
          have HBq := hb
          have HSq := KSr
          clear hNL hva
          have HSD := HeldP.mk' (W := wr.drew) HMq.out HSq.out (x0 _ HBw.out.drew) (x1 _ HBw.out.drew)
          go_wp2
          refine region_anyL (HeldP (wS.heap.size + 1) (.slice av Ln cv) (w.heap.size + 1) (.slice (some ⟨b, off, none⟩) nb capb) b (off + i * 2) fin va) 19 (by kernel_rfl) ?_
          refine anyL_take (i := 0) (v := ?v0_20) at0 (by kernel_rfl) (by kernel_rfl) (by kernel_rfl) (by kernel_rfl) (fun _ _ _ h => h) rfl ?y0_20 HSD ?r0_20
          case y0_20 => intro wx hx; obtain ⟨h0, h1, h2, h3⟩ := hx; go_simp; try (with_reducible rfl)
          simp only [Act.put, List.setIfInBounds_toArray, List.set_cons_zero, List.set_cons_succ]
          refine anyL_take (i := 1) (v := ?v1_21) (atS at0) (by kernel_rfl) (by kernel_rfl) (by kernel_rfl) (by kernel_rfl) (fun _ _ _ h => h) rfl ?y1_21 HSD ?r1_21
          case y1_21 => intro wx hx; obtain ⟨h0, h1, h2, h3⟩ := hx; go_simp; try (with_reducible rfl)
          simp only [Act.put, List.setIfInBounds_toArray, List.set_cons_zero, List.set_cons_succ]
          refine anyL_take (i := 2) (v := ?v2_22) (atS (atS at0)) (by kernel_rfl) (by kernel_rfl) (by kernel_rfl) (by kernel_rfl) (fun _ _ _ h => h) rfl ?y2_22 HSD ?r2_22
          case y2_22 => intro wx hx; obtain ⟨h0, h1, h2, h3⟩ := hx; go_simp; try (with_reducible rfl)
          simp only [Act.put, List.setIfInBounds_toArray, List.set_cons_zero, List.set_cons_succ]
          refine anyL_take (i := 3) (v := ?v3_23) (atS (atS (atS at0))) (by kernel_rfl) (by kernel_rfl) (by kernel_rfl) (by kernel_rfl) (fun _ _ _ h => h) rfl ?y3_23 HSD ?r3_23
          case y3_23 => intro wx hx; obtain ⟨h0, h1, h2, h3⟩ := hx; go_simp; try (with_reducible rfl)
          simp only [Act.put, List.setIfInBounds_toArray, List.set_cons_zero, List.set_cons_succ]
          refine anyL_take (i := 4) (v := ?v4_24) (atS (atS (atS (atS at0)))) (by kernel_rfl) (by kernel_rfl) (by kernel_rfl) (by kernel_rfl) (fun _ _ _ h => h) rfl ?y4_24 HSD ?r4_24
          case y4_24 => intro wx hx; obtain ⟨h0, h1, h2, h3⟩ := hx; go_simp; try (with_reducible rfl)
          simp only [Act.put, List.setIfInBounds_toArray, List.set_cons_zero, List.set_cons_succ]
          refine anyL_take (i := 5) (v := ?v5_25) (atS (atS (atS (atS (atS at0))))) (by kernel_rfl) (by kernel_rfl) (by kernel_rfl) (by kernel_rfl) (fun _ _ _ h => h) rfl ?y5_25 HSD ?r5_25
          case y5_25 => intro wx hx; obtain ⟨h0, h1, h2, h3⟩ := hx; go_simp; try (with_reducible rfl)
          simp only [Act.put, List.setIfInBounds_toArray, List.set_cons_zero, List.set_cons_succ]
          refine anyL_take (i := 6) (v := ?v6_26) (atS (atS (atS (atS (atS (atS at0)))))) (by kernel_rfl) (by kernel_rfl) (by kernel_rfl) (by kernel_rfl) (fun _ _ _ h => h) rfl ?y6_26 HSD ?r6_26
          case y6_26 => intro wx hx; obtain ⟨h0, h1, h2, h3⟩ := hx; go_simp; try (with_reducible rfl)
          simp only [Act.put, List.setIfInBounds_toArray, List.set_cons_zero, List.set_cons_succ]
          refine anyL_take (i := 7) (v := ?v7_27) (atS (atS (atS (atS (atS (atS (atS at0))))))) (by kernel_rfl) (by kernel_rfl) (by kernel_rfl) (by kernel_rfl) (fun _ _ _ h => h) rfl ?y7_27 HSD ?r7_27
          case y7_27 => intro wx hx; obtain ⟨h0, h1, h2, h3⟩ := hx; go_simp; try (with_reducible rfl)
          simp only [Act.put, List.setIfInBounds_toArray, List.set_cons_zero, List.set_cons_succ]
          refine anyL_take (i := 8) (v := ?v8_28) (atS (atS (atS (atS (atS (atS (atS (atS at0)))))))) (by kernel_rfl) (by kernel_rfl) (by kernel_rfl) (by kernel_rfl) (fun _ _ _ h => h) rfl ?y8_28 HSD ?r8_28
          case y8_28 => intro wx hx; obtain ⟨h0, h1, h2, h3⟩ := hx; go_simp; try (with_reducible rfl)
          simp only [Act.put, List.setIfInBounds_toArray, List.set_cons_zero, List.set_cons_succ]
          refine anyL_take (i := 9) (v := ?v9_29) (atS (atS (atS (atS (atS (atS (atS (atS (atS at0))))))))) (by kernel_rfl) (by kernel_rfl) (by kernel_rfl) (by kernel_rfl) (fun _ _ _ h => h) rfl ?y9_29 HSD ?r9_29
          case y9_29 => intro wx hx; obtain ⟨h0, h1, h2, h3⟩ := hx; go_simp; try (with_reducible rfl)
          simp only [Act.put, List.setIfInBounds_toArray, List.set_cons_zero, List.set_cons_succ]
          refine anyL_take (i := 10) (v := ?v10_30) (atS (atS (atS (atS (atS (atS (atS (atS (atS (atS at0)))))))))) (by kernel_rfl) (by kernel_rfl) (by kernel_rfl) (by kernel_rfl) (fun _ _ _ h => h) rfl ?y10_30 HSD ?r10_30
          case y10_30 => intro wx hx; obtain ⟨h0, h1, h2, h3⟩ := hx; go_simp; try (with_reducible rfl)
          simp only [Act.put, List.setIfInBounds_toArray, List.set_cons_zero, List.set_cons_succ]
          refine anyL_take (i := 11) (v := ?v11_31) (atS (atS (atS (atS (atS (atS (atS (atS (atS (atS (atS at0))))))))))) (by kernel_rfl) (by kernel_rfl) (by kernel_rfl) (by kernel_rfl) (fun _ _ _ h => h) rfl ?y11_31 HSD ?r11_31
          case y11_31 => intro wx hx; obtain ⟨h0, h1, h2, h3⟩ := hx; go_simp; try (with_reducible rfl)
          simp only [Act.put, List.setIfInBounds_toArray, List.set_cons_zero, List.set_cons_succ]
          refine anyL_take (i := 12) (v := ?v12_32) (atS (atS (atS (atS (atS (atS (atS (atS (atS (atS (atS (atS at0)))))))))))) (by kernel_rfl) (by kernel_rfl) (by kernel_rfl) (by kernel_rfl) (fun _ _ _ h => h) rfl ?y12_32 HSD ?r12_32
          case y12_32 => intro wx hx; obtain ⟨h0, h1, h2, h3⟩ := hx; go_simp; try (with_reducible rfl)
          simp only [Act.put, List.setIfInBounds_toArray, List.set_cons_zero, List.set_cons_succ]
          refine anyL_take (i := 13) (v := ?v13_33) (atS (atS (atS (atS (atS (atS (atS (atS (atS (atS (atS (atS (atS at0))))))))))))) (by kernel_rfl) (by kernel_rfl) (by kernel_rfl) (by kernel_rfl) (fun _ _ _ h => h) rfl ?y13_33 HSD ?r13_33
          case y13_33 => intro wx hx; obtain ⟨h0, h1, h2, h3⟩ := hx; go_simp; try (with_reducible rfl)
          simp only [Act.put, List.setIfInBounds_toArray, List.set_cons_zero, List.set_cons_succ]
          refine anyL_take (i := 14) (v := ?v14_34) (atS (atS (atS (atS (atS (atS (atS (atS (atS (atS (atS (atS (atS (atS at0)))))))))))))) (by kernel_rfl) (by kernel_rfl) (by kernel_rfl) (by kernel_rfl) (fun _ _ _ h => h) rfl ?y14_34 HSD ?r14_34
          case y14_34 => intro wx hx; obtain ⟨h0, h1, h2, h3⟩ := hx; go_simp; try (with_reducible rfl)
          simp only [Act.put, List.setIfInBounds_toArray, List.set_cons_zero, List.set_cons_succ]
          refine anyL_one (i := 15) (atS (atS (atS (atS (atS (atS (atS (atS (atS (atS (atS (atS (atS (atS (atS at0))))))))))))))) (by kernel_rfl) rfl (fun K hK => ?_)
          go_simp
          with_reducible refine (FSh.out _ (Below.refl _ _).drew).mono ?_
          rintro e1 w5 ⟨v5, rfl, ho5, hb5⟩
          obtain ⟨a5, c5, hv5⟩ := ho5.sl
          subst hv5
          have hb5' : Below wr.heap.size wr w5 := Below.trans (Below.refl _ _).drew hb5
          have hs5 := hb5'.size
          have HM5 := HMq.out.below hb5' HMq.out.lt
          have HS5 := HSq.out.below hb5' HSq.out.lt
          have HBw5 := hidP (HBw.out.trans (hb5'.mono HBw.out.size))
          obtain ⟨a6, c6, w6, hr6, hM6, hb6, hO7, hM7, hb7⟩ := push_step (w5 := w5) (B := w2.heap.size + 1) (Mb := wS.heap.size + 1) (fin, NL) (HOq.out.laterB hb5') (ho5.mono (by show _ ≤ wr.heap.size; omega)) HM5 (by omega) (by omega) (by have := HLn.out; omega)
          rw [HLn.out] at hr6 hO7 hM7 hb7
          have HB6 : Below w.heap.size w w6 := HBw5.out.trans (hb6.mono (by omega))
          have HS6 := HS5.below hb6 (by omega)
          have HSA := HeldP.mk' (W := w5.alloc (.cells #[.int .i64 fin, .slice a5 NL.length c5] 44)) (HM5.alloc _) (HS5.alloc _) (x0 _ (HBw5.out.alloc HBw5.out.size _)) (x1 _ (HBw5.out.alloc HBw5.out.size _))
          have HSE := HeldP.mk' HM5 HS5 (x0 _ HBw5.out) (x1 _ HBw5.out)
          have HSG := HeldP.mk' hM6 HS6 (x0 _ HB6) (x1 _ HB6)
          have R6 := hidP hr6
          have f6 := hM6.fz 1
          have c6' := hM6.cell 1 (v := .slice av Ln cv) rfl
          have HO7 := hidP hO7
          have HM7 := hidP hM7
          have HB7 := hidP ((HBq.out.trans (hb5'.mono (by omega))).trans hb7)
          clear hr6 hM6 hb6 hO7 hM7 hb7 HM5 HS5 HS6 ho5 hb5 HB6
          refine hK _ _ (.inr HSE) ?_
          try simp only [Act.put, List.setIfInBounds_toArray, List.set_cons_zero, List.set_cons_succ]
          refine anyL_one (i := 16) (atS (atS (atS (atS (atS (atS (atS (atS (atS (atS (atS (atS (atS (atS (atS (atS at0)))))))))))))))) (by kernel_rfl) rfl (fun K hK => ?_)
          go_simp
          refine hK _ _ (.inr HSA) ?_
          try simp only [Act.put, List.setIfInBounds_toArray, List.set_cons_zero, List.set_cons_succ]
          refine anyL_one (i := 17) (atS (atS (atS (atS (atS (atS (atS (atS (atS (atS (atS (atS (atS (atS (atS (atS (atS at0))))))))))))))))) (by kernel_rfl) rfl (fun K hK => ?_)
          refine wp_append_run (.tmp 71) (.tmp 86) 22 rfl rfl rfl R6.out ?_
          refine hK _ _ (.inr HSG) ?_
          try simp only [Act.put, List.setIfInBounds_toArray, List.set_cons_zero, List.set_cons_succ]
          refine anyL_one (i := 18) (atS (atS (atS (atS (atS (atS (atS (atS (atS (atS (atS (atS (atS (atS (atS (atS (atS (atS at0)))))))))))))))))) (by kernel_rfl) rfl (fun K hK => ?_)
          go_simp
          refine hK _ _ (.inr HSG) ?_
          try simp only [Act.put, List.setIfInBounds_toArray, List.set_cons_zero, List.set_cons_succ]
          refine anyL_one (i := 19) (atS (atS (atS (atS (atS (atS (atS (atS (atS (atS (atS (atS (atS (atS (atS (atS (atS (atS (atS at0))))))))))))))))))) (by kernel_rfl) rfl (fun K hK => ?_)
          go_simp
          refine hK _ _ (.inl rfl) (anyL_done (by kernel_rfl) (NoPanic.normal ?_))
          try simp only [Act.put, List.setIfInBounds_toArray, List.set_cons_zero, List.set_cons_succ]
          clear HSD HSA HSE HSG
          go_wp2
          go_roundw
          case rel => subst hLn; exact ⟨i + 1, a6, c6, by go_num, by omega, HM7, by rw [HTi.out]; exact HO7, HB7⟩
          case measure => simp [intOf]; omega
        · have hin' : ¬ (i : Int) < (nb : Int) := by omega
          obtain rfl : i = nb := by omega
          have HLn := HBL.out i (Nat.le_refl _)
          rw [HBN.out] at ho HLn
          have m0 := hm.out.cell 0 (v := .int .i64 0) rfl
          have m1 := hm.out.cell 1 (v := .slice av (na + i + 1) cv) rfl
          have KRr := hidP (KR3.out.below hb.out (by omega))
          have HFT : Hid (∀ W, OwnSts W (w2.heap.size + 1) (.slice av (na + i + 1) cv) (uniM (za, la) (zb, lb)).2 → Calls Try.prog 30 #[.agg #[.int .i64 0, .slice av (na + i + 1) cv]] W fun e w' => e = .returned (.tuple #[fitV (uniM (za, la) (zb, lb)) (.agg #[.int .i64 0, .slice av (na + i + 1) cv]), .int .i64 (fitE (uniM (za, la) (zb, lb)))]) ∧ Below W.heap.size W w') := fun W hW => fits_any _ (uniM (za, la) (zb, lb)) W ⟨_, rfl, hW.sts⟩ HOKS.out
          have HFV : Hid (∃ x0 x1, fitV (uniM (za, la) (zb, lb)) (.agg #[.int .i64 0, .slice av (na + i + 1) cv]) = .agg #[.int .i64 x0, x1] ∧ (∃ a9 n9 c9, x1 = .slice a9 n9 c9) ∧ ∀ W, OwnSts W (w2.heap.size + 1) (.slice av (na + i + 1) cv) (uniM (za, la) (zb, lb)).2 → Mach W (.agg #[.int .i64 x0, x1]) (fitM (uniM (za, la) (zb, lb)))) := by
            unfold fitV fitM
            by_cases hsz : sizeB (uniM (za, la) (zb, lb)) = true
            · rw [if_pos hsz, if_pos hsz]
              exact ⟨0, _, rfl, ⟨_, _, _, rfl⟩, fun W hW => ⟨_, rfl, hW.sts⟩⟩
            · rw [if_neg hsz, if_neg hsz]
              exact ⟨0, _, rfl, ⟨_, _, _, rfl⟩, fun W hW => mach_zeroR W⟩
          obtain ⟨x0, x1, hfv, ⟨a9, n9, c9, rfl⟩, hMF⟩ := HFV.out
          rw [hfv] at HFT
          have HMF := hidP hMF
          clear hfv hMF HFV HLn
          obtain ⟨fe, hfee⟩ : ∃ fe, fitE (uniM (za, la) (zb, lb)) = fe := ⟨_, rfl⟩
          rw [hfee] at HFT
          have HFE := hidP hfee
          clear hfee
          go_wp2_with (first
            | (go_at_call 30; (with_reducible refine (HFT.out _ ho.out).mono ?_); rintro e w8 ⟨rfl, hb8⟩; have HO8 := hidP (ho.out.laterB hb8); have HB8 := hidP (HBw.out.trans (hb8.mono HBw.out.size)); have KR8 := hidP ((KRr.out.below hb8 KRr.out.lt).alloc (.cells #[.int .i64 x0, .slice a9 n9 c9] 24)); have q0 := KR8.out.cell 0 (v := .int .i64 0) rfl; have q1 := KR8.out.cell 1 (v := .slice none 0 0) rfl; have g0 := KR8.out.fz 0; have g1 := KR8.out.fz 1; clear hb8))
          have HO9 := HO8.out.laterB ((Below.refl _ _).alloc (Nat.le_refl _) (.cells #[.int .i64 x0, .slice a9 n9 c9] 24))
          exact bodyPost_ret (res_united _ _ (w.heap.size + 2) fe _ _ ((KR8.out.set 0 (.int .i64 x0)).set 1 (.slice a9 n9 c9)) rfl rfl) rfl ⟨_, by rw [HFE.out], HMF.out _ ((HO9.setCell (a := ⟨w.heap.size + 2, 0, none⟩) (by show w.heap.size + 2 < _; omega) _).setCell (a := ⟨w.heap.size + 2, 1, none⟩) (by show w.heap.size + 2 < _; omega) _), ((HB8.out.alloc HB8.out.size _).setCell (p := ⟨w.heap.size + 2, 0, none⟩) (by show _ ≤ w.heap.size + 2; omega) _).setCell (p := ⟨w.heap.size + 2, 1, none⟩) (by show _ ≤ w.heap.size + 2; omega) _⟩
theorem united_any (va vb : Value) (ma mb : Mc) (w : World) (ha : Mach w va ma) (hoka : okM ma) (hb : Mach w vb mb) (hokb : okM mb) :
    Calls Try.prog 11 #[va, vb] w fun e w' => RatRes (ratM ma mb (uniM ma mb)) (ratE ma mb (uniM ma mb)) w e w' := by
  by_cases h0 : faultM ma = 0
  · by_cases h1 : faultM mb = 0
    · have e1 : ratM ma mb (uniM ma mb) = fitM (uniM ma mb) := by unfold ratM; rw [if_neg (by simp [h0]), if_neg (by simp [h1])]
      have e2 : ratE ma mb (uniM ma mb) = fitE (uniM ma mb) := by unfold ratE; rw [if_neg (by simp [h0]), if_neg (by simp [h1])]
      rw [e1, e2]
      exact united_ok va vb ma mb w ha hoka hb hokb h0 h1
    · have e1 : ratM ma mb (uniM ma mb) = (0, []) := by unfold ratM; rw [if_neg (by simp [h0]), if_pos h1]
      have e2 : ratE ma mb (uniM ma mb) = faultM mb := by unfold ratE; rw [if_neg (by simp [h0]), if_pos h1]
      rw [e1, e2]
      exact united_bad va vb ma mb w ha hoka hb hokb _ h1 (.inr ⟨h0, rfl⟩)
  · have e1 : ratM ma mb (uniM ma mb) = (0, []) := by unfold ratM; rw [if_pos h0]
    have e2 : ratE ma mb (uniM ma mb) = faultM ma := by unfold ratE; rw [if_pos h0]
    rw [e1, e2]
    exact united_bad va vb ma mb w ha hoka hb hokb _ h0 (.inl rfl)
end Go.Proofs.Ytfajkomajbhphaa.Wt
