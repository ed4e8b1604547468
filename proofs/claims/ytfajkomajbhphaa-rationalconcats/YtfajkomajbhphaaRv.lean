/- The reference: one behind the other. -/
import Derived.Test.YtfajkomajbhphaaRb
namespace Go.Proofs.Ytfajkomajbhphaa.Wt
open Go.ChangeShapes Go.WideShapes Go.ChangeAt Go.RowKit
open Go.Proofs.Ytfajkomajbhphaa.Pl
set_option linter.unusedVariables false
set_option linter.unusedSimpArgs false
theorem res_chained (tm : Array Value) (W : World) (R : Nat) (ec : Int) (x0 x1 : Value) (hB : Blk W R #[x0, x1] 24) (h2 : tm.getD 4 undef = .pointer (some ⟨R, 0, none⟩)) (h3 : tm.getD 5 undef = .int .i64 ec) : (results Try.f14 tm).run Try.prog W = .ok (.tuple #[.agg #[x0, x1], .int .i64 ec]) W := by
  have c0 := hB.cell 0 (v := x0) rfl
  have c1 := hB.cell 1 (v := x1) rfl
  simp only [Array.getD_eq_getD_getElem?] at h2 h3
  simp [results, Try.results14, go_sem, h2, h3, c0, c1]
set_option maxRecDepth 100000 in
theorem chained_bad (va vb : Value) (ma mb : Mc) (w : World) (ha : Mach w va ma) (hoka : okM ma) (hb : Mach w vb mb) (hokb : okM mb) (r : Int) (h0 : r ≠ 0) (hr : faultM ma = r ∨ faultM ma = 0 ∧ faultM mb = r) :
    Calls Try.prog 14 #[va, vb] w fun e w' => RatRes (0, []) r w e w' := by
  obtain ⟨za, la⟩ := ma
  obtain ⟨zb, lb⟩ := mb
  have HMA : Hid (Mach w va (za, la)) := ha
  have HKA : Hid (okM (za, la)) := hoka
  have HMB : Hid (Mach w vb (zb, lb)) := hb
  have HKB : Hid (okM (zb, lb)) := hokb
  obtain ⟨vsa, rfl, hSA⟩ := ha
  obtain ⟨vsb, rfl, hSB⟩ := hb
  obtain ⟨aa, capa, rfl⟩ := hSA.sl
  obtain ⟨ab, capb, rfl⟩ := hSB.sl
  clear hSA hSB
  have h0' : (r != 0) = true := bne_iff_ne.2 h0
  have h0'' : (r == 0) = false := by simpa using h0
  rcases hr with hr | ⟨hr, hr2⟩
  · have HRA : Hid (faultM (za, la) = r) := hr
    clear hr hoka hokb
    go_enter Try.func14, Try.ntmps14
    go_wp2_with (first
      | (go_at_call 27; (with_reducible refine (fault_any _ (za, la) _ (HMA.out.later (B := w.heap.size) (by go_grown) (Nat.le_refl _)) HKA.out r HRA.out).mono ?_); rintro e w1 ⟨rfl, hb⟩; obtain ⟨s1, b1, b2, b3, hb1⟩ := boxedThree hb (by simp); have HB1 : Hid (Below w.heap.size w w1) := hb1; have KA := hidP b1; have KB := hidP b2; have KR := hidP b3; have p0 := b2.cell 0 (v := .int .i64 zb) rfl; have p1 := b2.cell 1 (v := .slice ab lb.length capb) rfl; have e0 := b3.cell 0 (v := .int .i64 0) rfl; have e1 := b3.cell 1 (v := .slice none 0 0) rfl; have g0 := b3.fz 0; have g1 := b3.fz 1; clear b1 b2 b3 hb1 hb))
    exact bodyPost_ret (res_chained _ _ (w.heap.size + 2) r _ _ ((KR.out.set 0 (.int .i64 0)).set 1 (.slice none 0 0)) rfl rfl) rfl ⟨_, rfl, mach_zeroR _, (HB1.out.setCell (p := ⟨w.heap.size + 2, 0, none⟩) (by show _ ≤ w.heap.size + 2; omega) _).setCell (p := ⟨w.heap.size + 2, 1, none⟩) (by show _ ≤ w.heap.size + 2; omega) _⟩
  · have HRA : Hid (faultM (za, la) = 0) := hr
    have HRB : Hid (faultM (zb, lb) = r) := hr2
    clear hr hr2 hoka hokb
    go_enter Try.func14, Try.ntmps14
    go_wp2_with (first
      | (go_at_call 27; (with_reducible refine (fault_any _ (za, la) _ (HMA.out.later (B := w.heap.size) (by go_grown) (Nat.le_refl _)) HKA.out 0 HRA.out).mono ?_); rintro e w1 ⟨rfl, hb⟩; obtain ⟨s1, b1, b2, b3, hb1⟩ := boxedThree hb (by simp); have HB1 : Hid (Below w.heap.size w w1) := hb1; have KA := hidP b1; have KB := hidP b2; have KR := hidP b3; have p0 := b2.cell 0 (v := .int .i64 zb) rfl; have p1 := b2.cell 1 (v := .slice ab lb.length capb) rfl; have e0 := b3.cell 0 (v := .int .i64 0) rfl; have e1 := b3.cell 1 (v := .slice none 0 0) rfl; have g0 := b3.fz 0; have g1 := b3.fz 1; clear b1 b2 b3 hb1 hb)
      | (go_at_call 27; (with_reducible refine (fault_any _ (zb, lb) _ (HMB.out.later HB1.out (Nat.le_refl _)) HKB.out r HRB.out).mono ?_); rintro e w2 ⟨rfl, hb⟩; have hs2 := hb.size; have HB2 := hidP (HB1.out.trans (hb.mono HB1.out.size)); have KA2 := hidP (KA.out.below hb KA.out.lt); have KB2 := hidP (KB.out.below hb KB.out.lt); have KR2 := hidP (KR.out.below hb KR.out.lt); have t0 := KA2.out.cell 0 (v := .int .i64 za) rfl; have t1 := KA2.out.cell 1 (v := .slice aa la.length capa) rfl; have e0 := KR2.out.cell 0 (v := .int .i64 0) rfl; have e1 := KR2.out.cell 1 (v := .slice none 0 0) rfl; have g0 := KR2.out.fz 0; have g1 := KR2.out.fz 1; clear hb))
    exact bodyPost_ret (res_chained _ _ (w.heap.size + 2) r _ _ ((KR2.out.set 0 (.int .i64 0)).set 1 (.slice none 0 0)) rfl rfl) rfl ⟨_, rfl, mach_zeroR _, (HB2.out.setCell (p := ⟨w.heap.size + 2, 0, none⟩) (by show _ ≤ w.heap.size + 2; omega) _).setCell (p := ⟨w.heap.size + 2, 1, none⟩) (by show _ ≤ w.heap.size + 2; omega) _⟩
set_option maxRecDepth 100000 in
set_option maxHeartbeats 3200000 in
theorem chained_ok (va vb : Value) (ma mb : Mc) (w : World) (ha : Mach w va ma) (hoka : okM ma) (hb : Mach w vb mb) (hokb : okM mb) (hra : faultM ma = 0) (hrb : faultM mb = 0) :
    Calls Try.prog 14 #[va, vb] w fun e w' => RatRes (fitM (catM ma mb)) (fitE (catM ma mb)) w e w' := by
  obtain ⟨za, la⟩ := ma
  obtain ⟨zb, lb⟩ := mb
  have HMA : Hid (Mach w va (za, la)) := ha
  have HKA : Hid (okM (za, la)) := hoka
  have HMB : Hid (Mach w vb (zb, lb)) := hb
  have HKB : Hid (okM (zb, lb)) := hokb
  obtain ⟨vsa, rfl, hSA⟩ := ha
  obtain ⟨vsb, rfl, hSB⟩ := hb
  have HRA : Hid (faultM (za, la) = 0) := hra
  have HRB : Hid (faultM (zb, lb) = 0) := hrb
  obtain ⟨⟨hza1, hza2⟩, _⟩ := right_parts hra
  obtain ⟨⟨hzb1, hzb2⟩, _⟩ := right_parts hrb
  obtain ⟨ha60, ha400⟩ := right_size hra
  obtain ⟨hb60, hb400⟩ := right_size hrb
  simp only at hza1 hza2 hzb1 hzb2
  obtain ⟨aa, capa, rfl, hca⟩ := hSA.get
  obtain ⟨ab, capb, rfl, hcb⟩ := hSB.get
  have HCA : Hid (∀ j, j < la.length → ∃ b off va, aa = some ⟨b, off, none⟩ ∧ b < w.heap.size ∧ w.cell? ⟨b, off + j * 2, none⟩ = some (.int .i64 (el la j).1) ∧ w.cell? ⟨b, off + j * 2 + 1, none⟩ = some va ∧ Arcs w va (el la j).2) := hca
  have HCB : Hid (∀ j, j < lb.length → ∃ b off va, ab = some ⟨b, off, none⟩ ∧ b < w.heap.size ∧ w.cell? ⟨b, off + j * 2, none⟩ = some (.int .i64 (el lb j).1) ∧ w.cell? ⟨b, off + j * 2 + 1, none⟩ = some va ∧ Arcs w va (el lb j).2) := hcb
  have HSTA : Hid (∀ j, j < la.length → finB (el la j).1 = true ∧ (el la j).2.length ≤ 400 ∧ ∀ p ∈ (el la j).2, 0 ≤ p.2.2.2 ∧ p.2.2.2 ≤ 1000) := right_states hra
  have HSTB : Hid (∀ j, j < lb.length → finB (el lb j).1 = true ∧ (el lb j).2.length ≤ 400 ∧ ∀ p ∈ (el lb j).2, 0 ≤ p.2.2.2 ∧ p.2.2.2 ≤ 1000) := right_states hrb
  obtain ⟨na, hna⟩ : ∃ na, la.length = na := ⟨_, rfl⟩
  obtain ⟨nb, hnb⟩ : ∃ nb, lb.length = nb := ⟨_, rfl⟩
  obtain ⟨TA, hTA⟩ : ∃ TA : Nat → List St, ∀ j, (la.take j).map (fun s => shS 0 1000000001 (endA s.1 zb (na : Int)) s) = TA j := ⟨_, fun _ => rfl⟩
  obtain ⟨TB, hTB⟩ : ∃ TB : Nat → List St, ∀ j, la.map (fun s => shS 0 1000000001 (endA s.1 zb (na : Int)) s) ++ (lb.take j).map (fun s => shS (na : Int) s.1 [] s) = TB j := ⟨_, fun _ => rfl⟩
  have HA0 : Hid (TA 0 = []) := by show _ = _; rw [← hTA]; simp
  have HAS : Hid (∀ j, j < na → TA (j + 1) = TA j ++ [(1000000001, (el la j).2.map (shA 0) ++ endA (el la j).1 zb (na : Int))]) := fun j hj => by rw [← hTA, ← hTA, take_el (by omega)]; simp [shS]
  have HAL : Hid (∀ j, j ≤ na → (TA j).length = j + 0) := fun j hj => by rw [← hTA]; simp; omega
  have HAB : Hid (TA na = TB 0) := by show _ = _; rw [← hTA, ← hTB, ← hna, List.take_length]; simp
  have HBS : Hid (∀ j, j < nb → TB (j + 1) = TB j ++ [((el lb j).1, (el lb j).2.map (shA (na : Int)) ++ [])]) := fun j hj => by rw [← hTB, ← hTB, take_el (by omega)]; simp [shS]
  have HBL : Hid (∀ j, j ≤ nb → (TB j).length = na + j + 0) := fun j hj => by rw [← hTB]; simp; omega
  have HBN : Hid (TB nb = (catM (za, la) (zb, lb)).2) := by show _ = _; rw [← hTB, ← hnb, List.take_length, ← hna]; rfl
  have HOKS : Hid (okM (catM (za, la) (zb, lb))) := by
    have h5 := catM_len (za, la) (zb, lb)
    have h6 := catM_arcs (za, la) (zb, lb)
    simp only at h5 h6
    exact small_ok (by omega) (by omega)
  have HNA := hidP hna
  have HNB := hidP hnb
  clear hSA hSB hca hcb hra hrb hoka hokb hTA hTB
  rw [hna] at HCA HSTA ha60 hza2 HMA ⊢
  rw [hnb] at HCB HSTB hb60 hzb2 HMB ⊢
  clear hna hnb
  have uw : IntKind.i64.wrap (1 + (na : Int)) = 1 + (na : Int) := wrapI (by omega) (by omega)
  go_enter Try.func14, Try.ntmps14
  go_wp2_with (first
    | (go_at_call 27; (with_reducible refine (fault_any _ (za, la) _ (HMA.out.later (B := w.heap.size) (by go_grown) (Nat.le_refl _)) HKA.out 0 HRA.out).mono ?_); rintro e w1 ⟨rfl, hb⟩; obtain ⟨s1, b1, b2, b3, hb1⟩ := boxedThree hb (by simp); have HB1 : Hid (Below w.heap.size w w1) := hb1; have KA := hidP b1; have KB := hidP b2; have KR := hidP b3; have p0 := b2.cell 0 (v := .int .i64 zb) rfl; have p1 := b2.cell 1 (v := .slice ab nb capb) rfl; have e0 := b3.cell 0 (v := .int .i64 0) rfl; have e1 := b3.cell 1 (v := .slice none 0 0) rfl; have g0 := b3.fz 0; have g1 := b3.fz 1; clear b1 b2 b3 hb1 hb)
    | (go_at_call 27; (with_reducible refine (fault_any _ (zb, lb) _ (HMB.out.later HB1.out (Nat.le_refl _)) HKB.out 0 HRB.out).mono ?_); rintro e w2 ⟨rfl, hb⟩; have hs2 := hb.size; have HB2 := hidP (HB1.out.trans (hb.mono HB1.out.size)); have KA2 := hidP (KA.out.below hb KA.out.lt); have KB2 := hidP (KB.out.below hb KB.out.lt); have KR2 := hidP (KR.out.below hb KR.out.lt); have t0 := KA2.out.cell 0 (v := .int .i64 za) rfl; have t1 := KA2.out.cell 1 (v := .slice aa na capa) rfl; have e0 := KR2.out.cell 0 (v := .int .i64 0) rfl; have e1 := KR2.out.cell 1 (v := .slice none 0 0) rfl; have g0 := KR2.out.fz 0; have g1 := KR2.out.fz 1; clear hb))
  have hsr0 := KR2.out.lt
  have HMM := hidP (Blk.made w2 #[.int .i64 za, .slice none 0 0] 24)
  have HB8 : Hid (Below w2.heap.size w2 (w2.alloc (.cells #[.int .i64 za, .slice none 0 0] 24))) := (Below.refl _ _).alloc (Nat.le_refl _) _
  have HOM : Hid (OwnSts (w2.alloc (.cells #[.int .i64 za, .slice none 0 0] 24)) w2.heap.size (.slice none 0 0) (TA 0)) := by rw [HA0.out]; exact OwnSts.nil _ _
  have KA3 := hidP (KA2.out.below HB8.out KA2.out.lt)
  have KB3 := hidP (KB2.out.below HB8.out KB2.out.lt)
  have KR3 := hidP (KR2.out.below HB8.out KR2.out.lt)
  have HBM := hidP (HB2.out.trans (HB8.out.mono (by omega)))
  clear KA KB KR KA2 KB2 KR2 HB1 t0 t1 e0 e1 g0 g1 p0 p1
  generalize w2.alloc (.cells #[.int .i64 za, .slice none 0 0] 24) = wM at *
  go_loopw [9] (fun s6 wr => ∃ (i : Nat) (av : Option Addr) (cv : Nat), s6 = .int .i64 i ∧ i ≤ na ∧ Hid (Blk wr (w2.heap.size) #[.int .i64 za, .slice av (i) cv] 24) ∧ Hid (OwnSts wr (w2.heap.size) (.slice av (i) cv) (TA i)) ∧ Hid (Below (w2.heap.size) wM wr)) (fun s6 _ => na - (intOf s6).toNat)
  case atStart => exact ⟨0, _, _, by go_num, Nat.zero_le _, HMM, HOM, Below.refl _ _⟩
  case round =>
    obtain ⟨i, av, cv, rfl, hi, hm, ho, hb⟩ := hrel
    have KSr := hidP (KA3.out.below hb.out (by omega))
    have d1 := KSr.out.cell 1 (v := .slice aa na capa) rfl
    have HBw := hidP (HBM.out.trans (hb.out.mono (by omega)))
    have hsr := hb.out.size
    have hmlt := hm.out.lt
    by_cases hin : i < na
    · have hin' : (i : Int) < (na : Int) := by omega
      have hi0 : (0 : Int) ≤ (i : Int) := by omega
      obtain ⟨b, off, va, rfl, hbl, y0, y1, gA⟩ := HCA.out i hin
      obtain ⟨hfin, hal, hto⟩ := HSTA.out i hin
      have HTi := hidP (HAS.out i hin)
      have HLn := hidP (HAL.out i hi)
      have x0 : ∀ W, Below w.heap.size w W → W.cell? ⟨b, off + i * 2, none⟩ = some (.int .i64 (el la i).1) := fun W hW => (hW.cell (p := ⟨b, off + i * 2, none⟩) hbl).trans y0
      have x1 : ∀ W, Below w.heap.size w W → W.cell? ⟨b, off + i * 2 + 1, none⟩ = some va := fun W hW => (hW.cell (p := ⟨b, off + i * 2 + 1, none⟩) hbl).trans y1
      obtain ⟨a2, cap2, hva, hvx⟩ := gA.get
      subst hva
      have HGA : Hid (∀ W, Below w.heap.size w W → Arcs W (.slice a2 (el la i).2.length cap2) (el la i).2) := fun W hW => gA.later hW (Nat.le_refl _)
      have HTO := hidP hto
      have hfe : (el la i).1 ≠ 1000000001 → 0 ≤ (el la i).1 ∧ (el la i).1 ≤ 1000000000 := fun g => by
        simp [finB, inB] at hfin
        omega
      clear gA hto hfin y0 y1 hvx
      generalize (el la i).1 = fin at *
      generalize (el la i).2 = ar at *
      generalize TA i = Lst at *
      obtain ⟨Ln, hLn⟩ : ∃ Ln, i = Ln := ⟨_, rfl⟩
      rw [hLn] at HLn hm ho
      have z0 := x0 _ HBw.out
      have z1 := x1 _ HBw.out
      obtain ⟨va, hva⟩ : ∃ va, Value.slice a2 ar.length cap2 = va := ⟨_, rfl⟩
      rw [hva] at z1 x1
      have HLi := hidP hLn
      clear hLn
      by_cases hf : fin = 1000000001
      · have hf' : (fin != 1000000001) = false := by simpa using hf
        have hE : endA fin zb (na : Int) = [] := by unfold endA; rw [if_pos hf]
        rw [hE] at HTi
        clear hE hf hfe
        obtain ⟨NL, hNL⟩ : ∃ NL, ar.map (shA (0)) ++ [] = NL := ⟨_, rfl⟩
        rw [hNL] at HTi
        have FSh : Hid (∀ W, Below wr.heap.size wr W → Calls Try.prog 29 #[.agg #[.int .i64 fin, va], .int .i64 0, .int .i64 1000000001, Value.slice none 0 0] W fun e w' => ∃ v, e = .returned (.agg #[.int .i64 1000000001, v]) ∧ OwnArcs w' W.heap.size v NL ∧ Below W.heap.size W w') := fun W hq => by
          have hW := HBw.out.trans (hq.mono HBw.out.size)
          rw [← hva, ← hNL]
          exact shifted_any fin (0) 1000000001 a2 none cap2 0 ar [] W (HGA.out W hW) (OwnArcs.nil W 0).arcs hal (by simp) (by omega) HTO.out
        have HMq := hm
        have HOq := ho
        have HBq := hb
        have HSq := KSr
        clear hNL hva
        have HSD := HeldP.mk' (W := wr.drew) HMq.out HSq.out (x0 _ HBw.out.drew) (x1 _ HBw.out.drew)
        go_wp2
        refine region_anyL (HeldP (w2.heap.size) (.slice av Ln cv) (w.heap.size) (.slice (some ⟨b, off, none⟩) na capa) b (off + i * 2) fin va) 12 (by kernel_rfl) ?_
        refine anyL_take (i := 0) (v := ?v0_1) at0 (by kernel_rfl) (by kernel_rfl) (by kernel_rfl) (by kernel_rfl) (fun _ _ _ h => h) rfl ?y0_1 HSD ?r0_1
        case y0_1 => intro wx hx; obtain ⟨h0, h1, h2, h3⟩ := hx; go_simp; try (with_reducible rfl)
        simp only [Act.put, List.setIfInBounds_toArray, List.set_cons_zero, List.set_cons_succ]
        refine anyL_take (i := 1) (v := ?v1_2) (atS at0) (by kernel_rfl) (by kernel_rfl) (by kernel_rfl) (by kernel_rfl) (fun _ _ _ h => h) rfl ?y1_2 HSD ?r1_2
        case y1_2 => intro wx hx; obtain ⟨h0, h1, h2, h3⟩ := hx; go_simp; try (with_reducible rfl)
        simp only [Act.put, List.setIfInBounds_toArray, List.set_cons_zero, List.set_cons_succ]
        refine anyL_take (i := 2) (v := ?v2_3) (atS (atS at0)) (by kernel_rfl) (by kernel_rfl) (by kernel_rfl) (by kernel_rfl) (fun _ _ _ h => h) rfl ?y2_3 HSD ?r2_3
        case y2_3 => intro wx hx; obtain ⟨h0, h1, h2, h3⟩ := hx; go_simp; try (with_reducible rfl)
        simp only [Act.put, List.setIfInBounds_toArray, List.set_cons_zero, List.set_cons_succ]
        refine anyL_take (i := 3) (v := ?v3_4) (atS (atS (atS at0))) (by kernel_rfl) (by kernel_rfl) (by kernel_rfl) (by kernel_rfl) (fun _ _ _ h => h) rfl ?y3_4 HSD ?r3_4
        case y3_4 => intro wx hx; obtain ⟨h0, h1, h2, h3⟩ := hx; go_simp; try (with_reducible rfl)
        simp only [Act.put, List.setIfInBounds_toArray, List.set_cons_zero, List.set_cons_succ]
        refine anyL_take (i := 4) (v := ?v4_5) (atS (atS (atS (atS at0)))) (by kernel_rfl) (by kernel_rfl) (by kernel_rfl) (by kernel_rfl) (fun _ _ _ h => h) rfl ?y4_5 HSD ?r4_5
        case y4_5 => intro wx hx; obtain ⟨h0, h1, h2, h3⟩ := hx; go_simp; try (with_reducible rfl)
        simp only [Act.put, List.setIfInBounds_toArray, List.set_cons_zero, List.set_cons_succ]
        refine anyL_take (i := 5) (v := ?v5_6) (atS (atS (atS (atS (atS at0))))) (by kernel_rfl) (by kernel_rfl) (by kernel_rfl) (by kernel_rfl) (fun _ _ _ h => h) rfl ?y5_6 HSD ?r5_6
        case y5_6 => intro wx hx; obtain ⟨h0, h1, h2, h3⟩ := hx; go_simp; try (with_reducible rfl)
        simp only [Act.put, List.setIfInBounds_toArray, List.set_cons_zero, List.set_cons_succ]
        refine anyL_take (i := 6) (v := ?v6_7) (atS (atS (atS (atS (atS (atS at0)))))) (by kernel_rfl) (by kernel_rfl) (by kernel_rfl) (by kernel_rfl) (fun _ _ _ h => h) rfl ?y6_7 HSD ?r6_7
        case y6_7 => intro wx hx; obtain ⟨h0, h1, h2, h3⟩ := hx; go_simp; try (with_reducible rfl)
        simp only [Act.put, List.setIfInBounds_toArray, List.set_cons_zero, List.set_cons_succ]
        refine anyL_take (i := 7) (v := ?v7_8) (atS (atS (atS (atS (atS (atS (atS at0))))))) (by kernel_rfl) (by kernel_rfl) (by kernel_rfl) (by kernel_rfl) (fun _ _ _ h => h) rfl ?y7_8 HSD ?r7_8
        case y7_8 => intro wx hx; obtain ⟨h0, h1, h2, h3⟩ := hx; go_simp; try (with_reducible rfl)
        simp only [Act.put, List.setIfInBounds_toArray, List.set_cons_zero, List.set_cons_succ]
        refine anyL_one (i := 8) (atS (atS (atS (atS (atS (atS (atS (atS at0)))))))) (by kernel_rfl) rfl (fun K hK => ?_)
        go_simp
        with_reducible refine (FSh.out _ (Below.refl _ _).drew).mono ?_
        rintro e1 w5 ⟨v5, rfl, ho5, hb5⟩
        obtain ⟨a5, c5, hv5⟩ := ho5.sl
        subst hv5
        have hb5' : Below wr.heap.size wr w5 := Below.trans (Below.refl _ _).drew hb5
        have hs5 := hb5'.size
        have HM5 := HMq.out.below hb5' HMq.out.lt
        have HS5 := HSq.out.below hb5' HSq.out.lt
        have HBw5 := hidP (HBw.out.trans (hb5'.mono HBw.out.size))
        obtain ⟨a6, c6, w6, hr6, hM6, hb6, hO7, hM7, hb7⟩ := push_step (w5 := w5) (B := w2.heap.size) (Mb := w2.heap.size) (1000000001, NL) (HOq.out.laterB hb5') (ho5.mono (by show _ ≤ wr.heap.size; omega)) HM5 (by omega) (by omega) (by have := HLn.out; have := HLi.out; omega)
        rw [HLn.out] at hr6 hO7 hM7 hb7
        have HB6 : Below w.heap.size w w6 := HBw5.out.trans (hb6.mono (by omega))
        have HS6 := HS5.below hb6 (by omega)
        have HSA := HeldP.mk' (W := w5.alloc (.cells #[.int .i64 1000000001, .slice a5 NL.length c5] 44)) (HM5.alloc _) (HS5.alloc _) (x0 _ (HBw5.out.alloc HBw5.out.size _)) (x1 _ (HBw5.out.alloc HBw5.out.size _))
        have HSE := HeldP.mk' HM5 HS5 (x0 _ HBw5.out) (x1 _ HBw5.out)
        have HSG := HeldP.mk' hM6 HS6 (x0 _ HB6) (x1 _ HB6)
        have R6 := hidP hr6
        have f6 := hM6.fz 1
        have c6' := hM6.cell 1 (v := .slice av Ln cv) rfl
        have HO7 := hidP hO7
        have HM7 := hidP hM7
        have HB7 := hidP ((HBq.out.trans (hb5'.mono (by omega))).trans hb7)
        clear hr6 hM6 hb6 hO7 hM7 hb7 HM5 HS5 HS6 ho5 hb5 HB6
        refine hK _ _ (.inr HSE) ?_
        try simp only [Act.put, List.setIfInBounds_toArray, List.set_cons_zero, List.set_cons_succ]
        refine anyL_one (i := 9) (atS (atS (atS (atS (atS (atS (atS (atS (atS at0))))))))) (by kernel_rfl) rfl (fun K hK => ?_)
        go_simp
        refine hK _ _ (.inr HSA) ?_
        try simp only [Act.put, List.setIfInBounds_toArray, List.set_cons_zero, List.set_cons_succ]
        refine anyL_one (i := 10) (atS (atS (atS (atS (atS (atS (atS (atS (atS (atS at0)))))))))) (by kernel_rfl) rfl (fun K hK => ?_)
        refine wp_append_run (.tmp 53) (.tmp 61) 22 rfl rfl rfl R6.out ?_
        refine hK _ _ (.inr HSG) ?_
        try simp only [Act.put, List.setIfInBounds_toArray, List.set_cons_zero, List.set_cons_succ]
        refine anyL_one (i := 11) (atS (atS (atS (atS (atS (atS (atS (atS (atS (atS (atS at0))))))))))) (by kernel_rfl) rfl (fun K hK => ?_)
        go_simp
        refine hK _ _ (.inr HSG) ?_
        try simp only [Act.put, List.setIfInBounds_toArray, List.set_cons_zero, List.set_cons_succ]
        refine anyL_one (i := 12) (atS (atS (atS (atS (atS (atS (atS (atS (atS (atS (atS (atS at0)))))))))))) (by kernel_rfl) rfl (fun K hK => ?_)
        go_simp
        refine hK _ _ (.inl rfl) (anyL_done (by kernel_rfl) (NoPanic.normal ?_))
        try simp only [Act.put, List.setIfInBounds_toArray, List.set_cons_zero, List.set_cons_succ]
        clear HSD HSA HSE HSG
        go_wp2
        go_roundw
        case rel => have hLn := HLi.out; subst hLn; exact ⟨i + 1, a6, c6, by go_num, by omega, HM7, by rw [HTi.out]; exact HO7, HB7⟩
        case measure => simp [intOf]; omega
      · have hf' : (fin != 1000000001) = true := bne_iff_ne.2 hf
        have hE : endA fin zb (na : Int) = hopA zb (na : Int) fin := by unfold endA; rw [if_neg hf]
        rw [hE] at HTi
        have hfr := hfe hf
        clear hE hf hfe
        have HSZ : HeldQ (w.heap.size + 1) zb (w.heap.size) (.slice (some ⟨b, off, none⟩) na capa) b (off + i * 2) fin wr.drew := ⟨(KB3.out.below hb.out (by omega)).cell 0 rfl, KSr.out.cell 1 rfl, z0⟩
        go_wp2
        refine region_anyL (HeldQ (w.heap.size + 1) zb (w.heap.size) (.slice (some ⟨b, off, none⟩) na capa) b (off + i * 2) fin) 100 (by kernel_rfl) ?_
        refine anyL_take (i := 0) (v := ?v0_9) at0 (by kernel_rfl) (by kernel_rfl) (by kernel_rfl) (by kernel_rfl) (fun _ _ _ h => h) rfl ?y0_9 HSZ ?r0_9
        case y0_9 => intro wx hx; obtain ⟨h0, h1, h2⟩ := hx; go_simp; try (with_reducible rfl)
        simp only [Act.put, List.setIfInBounds_toArray, List.set_cons_zero, List.set_cons_succ]
        refine anyL_take (i := 1) (v := ?v1_10) (atS at0) (by kernel_rfl) (by kernel_rfl) (by kernel_rfl) (by kernel_rfl) (fun _ _ _ h => h) rfl ?y1_10 HSZ ?r1_10
        case y1_10 => intro wx hx; obtain ⟨h0, h1, h2⟩ := hx; go_simp; try (with_reducible rfl)
        simp only [Act.put, List.setIfInBounds_toArray, List.set_cons_zero, List.set_cons_succ]
        refine anyL_take (i := 2) (v := ?v2_11) (atS (atS at0)) (by kernel_rfl) (by kernel_rfl) (by kernel_rfl) (by kernel_rfl) (fun _ _ _ h => h) rfl ?y2_11 HSZ ?r2_11
        case y2_11 => intro wx hx; obtain ⟨h0, h1, h2⟩ := hx; go_simp; try (with_reducible rfl)
        simp only [Act.put, List.setIfInBounds_toArray, List.set_cons_zero, List.set_cons_succ]
        refine anyL_take (i := 3) (v := ?v3_12) (atS (atS (atS at0))) (by kernel_rfl) (by kernel_rfl) (by kernel_rfl) (by kernel_rfl) (fun _ _ _ h => h) rfl ?y3_12 HSZ ?r3_12
        case y3_12 => intro wx hx; obtain ⟨h0, h1, h2⟩ := hx; go_simp; try (with_reducible rfl)
        simp only [Act.put, List.setIfInBounds_toArray, List.set_cons_zero, List.set_cons_succ]
        refine anyL_take (i := 4) (v := ?v4_13) (atS (atS (atS (atS at0)))) (by kernel_rfl) (by kernel_rfl) (by kernel_rfl) (by kernel_rfl) (fun _ _ _ h => h) rfl ?y4_13 HSZ ?r4_13
        case y4_13 => intro wx hx; obtain ⟨h0, h1, h2⟩ := hx; go_simp; try (with_reducible rfl)
        simp only [Act.put, List.setIfInBounds_toArray, List.set_cons_zero, List.set_cons_succ]
        refine anyL_take (i := 5) (v := ?v5_14) (atS (atS (atS (atS (atS at0))))) (by kernel_rfl) (by kernel_rfl) (by kernel_rfl) (by kernel_rfl) (fun _ _ _ h => h) rfl ?y5_14 HSZ ?r5_14
        case y5_14 => intro wx hx; obtain ⟨h0, h1, h2⟩ := hx; go_simp; try (with_reducible rfl)
        simp only [Act.put, List.setIfInBounds_toArray, List.set_cons_zero, List.set_cons_succ]
        refine anyL_take (i := 6) (v := ?v6_15) (atS (atS (atS (atS (atS (atS at0)))))) (by kernel_rfl) (by kernel_rfl) (by kernel_rfl) (by kernel_rfl) (fun _ _ _ h => h) rfl ?y6_15 HSZ ?r6_15
        case y6_15 => intro wx hx; obtain ⟨h0, h1, h2⟩ := hx; go_simp; try (with_reducible rfl)
        simp only [Act.put, List.setIfInBounds_toArray, List.set_cons_zero, List.set_cons_succ]
        refine anyL_take (i := 7) (v := ?v7_16) (atS (atS (atS (atS (atS (atS (atS at0))))))) (by kernel_rfl) (by kernel_rfl) (by kernel_rfl) (by kernel_rfl) (fun _ _ _ h => h) rfl ?y7_16 HSZ ?r7_16
        case y7_16 => intro wx hx; obtain ⟨h0, h1, h2⟩ := hx; go_simp; try (with_reducible rfl)
        simp only [Act.put, List.setIfInBounds_toArray, List.set_cons_zero, List.set_cons_succ]
        refine anyL_take (i := 8) (v := ?v8_17) (atS (atS (atS (atS (atS (atS (atS (atS at0)))))))) (by kernel_rfl) (by kernel_rfl) (by kernel_rfl) (by kernel_rfl) (fun _ _ _ h => h) rfl ?y8_17 HSZ ?r8_17
        case y8_17 => intro wx hx; obtain ⟨h0, h1, h2⟩ := hx; go_simp; try (with_reducible rfl)
        simp only [Act.put, List.setIfInBounds_toArray, List.set_cons_zero, List.set_cons_succ]
        refine anyL_one (i := 9) (atS (atS (atS (atS (atS (atS (atS (atS (atS at0))))))))) (by kernel_rfl) rfl (fun K hK => ?_)
        go_simp
        refine (hops_any _ _ _ _ (by omega) (by omega)).mono ?_
        rintro e w4 ⟨v4, rfl, ho4, hb4⟩
        obtain ⟨a4, c4, hv4⟩ := ho4.sl
        subst hv4
        replace hb4 : Below wr.heap.size wr w4 := Below.trans (Below.refl _ _).drew hb4
        have HSZ4 : HeldQ (w.heap.size + 1) zb (w.heap.size) (.slice (some ⟨b, off, none⟩) na capa) b (off + i * 2) fin w4 := ⟨(hb4.cell (p := ⟨w.heap.size + 1, 0, none⟩) (by show w.heap.size + 1 < _; omega)).trans HSZ.1, (hb4.cell (p := ⟨w.heap.size, 1, none⟩) (by show w.heap.size < _; omega)).trans HSZ.2.1, (hb4.cell (p := ⟨b, off + i * 2, none⟩) (by show b < _; omega)).trans HSZ.2.2⟩
        refine hK _ _ (.inr HSZ4) ?_
        try simp only [Act.put, List.setIfInBounds_toArray, List.set_cons_zero, List.set_cons_succ]
        refine anyL_one (i := 10) (atS (atS (atS (atS (atS (atS (atS (atS (atS (atS at0)))))))))) (by kernel_rfl) rfl (fun K hK => ?_)
        go_simp
        refine hK _ _ (.inr HSZ4) (anyL_done (by kernel_rfl) (NoPanic.normal ?_))
        try simp only [Act.put, List.setIfInBounds_toArray, List.set_cons_zero, List.set_cons_succ]
        clear HSZ HSZ4
        have HO4 := hidP ho4.arcs
        have hs4 := hb4.size
        replace HBw := hidP (HBw.out.trans (hb4.mono HBw.out.size))
        have hml : (hopA zb (na : Int) fin).length ≤ 400 := Nat.le_trans (hopA_le _ _ _) (by omega)
        generalize hopA zb (na : Int) fin = mo at *
        obtain ⟨NL, hNL⟩ : ∃ NL, ar.map (shA (0)) ++ mo = NL := ⟨_, rfl⟩
        rw [hNL] at HTi
        have FSh : Hid (∀ W, Below w4.heap.size w4 W → Calls Try.prog 29 #[.agg #[.int .i64 fin, va], .int .i64 0, .int .i64 1000000001, Value.slice a4 mo.length c4] W fun e w' => ∃ v, e = .returned (.agg #[.int .i64 1000000001, v]) ∧ OwnArcs w' W.heap.size v NL ∧ Below W.heap.size W w') := fun W hq => by
          have hW := HBw.out.trans (hq.mono HBw.out.size)
          rw [← hva, ← hNL]
          exact shifted_any fin (0) 1000000001 a2 a4 cap2 c4 ar mo W (HGA.out W hW) (HO4.out.later hq (Nat.le_refl _)) hal hml (by omega) HTO.out
        have HMq := hidP (hm.out.below hb4 hmlt)
        have HOq := hidP (ho.out.laterB hb4)
        have HBq := hidP (hb.out.trans (hb4.mono (by omega)))
        have HSq := hidP (KSr.out.below hb4 KSr.out.lt)
        clear hNL hva ho4 hb4 hm ho hb KSr
        have HSD := HeldP.mk' (W := w4.drew) HMq.out HSq.out (x0 _ HBw.out.drew) (x1 _ HBw.out.drew)
        go_wp2
        refine region_anyL (HeldP (w2.heap.size) (.slice av Ln cv) (w.heap.size) (.slice (some ⟨b, off, none⟩) na capa) b (off + i * 2) fin va) 12 (by kernel_rfl) ?_
        refine anyL_take (i := 0) (v := ?v0_18) at0 (by kernel_rfl) (by kernel_rfl) (by kernel_rfl) (by kernel_rfl) (fun _ _ _ h => h) rfl ?y0_18 HSD ?r0_18
        case y0_18 => intro wx hx; obtain ⟨h0, h1, h2, h3⟩ := hx; go_simp; try (with_reducible rfl)
        simp only [Act.put, List.setIfInBounds_toArray, List.set_cons_zero, List.set_cons_succ]
        refine anyL_take (i := 1) (v := ?v1_19) (atS at0) (by kernel_rfl) (by kernel_rfl) (by kernel_rfl) (by kernel_rfl) (fun _ _ _ h => h) rfl ?y1_19 HSD ?r1_19
        case y1_19 => intro wx hx; obtain ⟨h0, h1, h2, h3⟩ := hx; go_simp; try (with_reducible rfl)
        simp only [Act.put, List.setIfInBounds_toArray, List.set_cons_zero, List.set_cons_succ]
        refine anyL_take (i := 2) (v := ?v2_20) (atS (atS at0)) (by kernel_rfl) (by kernel_rfl) (by kernel_rfl) (by kernel_rfl) (fun _ _ _ h => h) rfl ?y2_20 HSD ?r2_20
        case y2_20 => intro wx hx; obtain ⟨h0, h1, h2, h3⟩ := hx; go_simp; try (with_reducible rfl)
        simp only [Act.put, List.setIfInBounds_toArray, List.set_cons_zero, List.set_cons_succ]
        refine anyL_take (i := 3) (v := ?v3_21) (atS (atS (atS at0))) (by kernel_rfl) (by kernel_rfl) (by kernel_rfl) (by kernel_rfl) (fun _ _ _ h => h) rfl ?y3_21 HSD ?r3_21
        case y3_21 => intro wx hx; obtain ⟨h0, h1, h2, h3⟩ := hx; go_simp; try (with_reducible rfl)
        simp only [Act.put, List.setIfInBounds_toArray, List.set_cons_zero, List.set_cons_succ]
        refine anyL_take (i := 4) (v := ?v4_22) (atS (atS (atS (atS at0)))) (by kernel_rfl) (by kernel_rfl) (by kernel_rfl) (by kernel_rfl) (fun _ _ _ h => h) rfl ?y4_22 HSD ?r4_22
        case y4_22 => intro wx hx; obtain ⟨h0, h1, h2, h3⟩ := hx; go_simp; try (with_reducible rfl)
        simp only [Act.put, List.setIfInBounds_toArray, List.set_cons_zero, List.set_cons_succ]
        refine anyL_take (i := 5) (v := ?v5_23) (atS (atS (atS (atS (atS at0))))) (by kernel_rfl) (by kernel_rfl) (by kernel_rfl) (by kernel_rfl) (fun _ _ _ h => h) rfl ?y5_23 HSD ?r5_23
        case y5_23 => intro wx hx; obtain ⟨h0, h1, h2, h3⟩ := hx; go_simp; try (with_reducible rfl)
        simp only [Act.put, List.setIfInBounds_toArray, List.set_cons_zero, List.set_cons_succ]
        refine anyL_take (i := 6) (v := ?v6_24) (atS (atS (atS (atS (atS (atS at0)))))) (by kernel_rfl) (by kernel_rfl) (by kernel_rfl) (by kernel_rfl) (fun _ _ _ h => h) rfl ?y6_24 HSD ?r6_24
        case y6_24 => intro wx hx; obtain ⟨h0, h1, h2, h3⟩ := hx; go_simp; try (with_reducible rfl)
        simp only [Act.put, List.setIfInBounds_toArray, List.set_cons_zero, List.set_cons_succ]
        refine anyL_take (i := 7) (v := ?v7_25) (atS (atS (atS (atS (atS (atS (atS at0))))))) (by kernel_rfl) (by kernel_rfl) (by kernel_rfl) (by kernel_rfl) (fun _ _ _ h => h) rfl ?y7_25 HSD ?r7_25
        case y7_25 => intro wx hx; obtain ⟨h0, h1, h2, h3⟩ := hx; go_simp; try (with_reducible rfl)
        simp only [Act.put, List.setIfInBounds_toArray, List.set_cons_zero, List.set_cons_succ]
        refine anyL_one (i := 8) (atS (atS (atS (atS (atS (atS (atS (atS at0)))))))) (by kernel_rfl) rfl (fun K hK => ?_)
        go_simp
        with_reducible refine (FSh.out _ (Below.refl _ _).drew).mono ?_
        rintro e1 w5 ⟨v5, rfl, ho5, hb5⟩
        obtain ⟨a5, c5, hv5⟩ := ho5.sl
        subst hv5
        have hb5' : Below w4.heap.size w4 w5 := Below.trans (Below.refl _ _).drew hb5
        have hs5 := hb5'.size
        have HM5 := HMq.out.below hb5' HMq.out.lt
        have HS5 := HSq.out.below hb5' HSq.out.lt
        have HBw5 := hidP (HBw.out.trans (hb5'.mono HBw.out.size))
        obtain ⟨a6, c6, w6, hr6, hM6, hb6, hO7, hM7, hb7⟩ := push_step (w5 := w5) (B := w2.heap.size) (Mb := w2.heap.size) (1000000001, NL) (HOq.out.laterB hb5') (ho5.mono (by show _ ≤ w4.heap.size; omega)) HM5 (by omega) (by omega) (by have := HLn.out; have := HLi.out; omega)
        rw [HLn.out] at hr6 hO7 hM7 hb7
        have HB6 : Below w.heap.size w w6 := HBw5.out.trans (hb6.mono (by omega))
        have HS6 := HS5.below hb6 (by omega)
        have HSA := HeldP.mk' (W := w5.alloc (.cells #[.int .i64 1000000001, .slice a5 NL.length c5] 44)) (HM5.alloc _) (HS5.alloc _) (x0 _ (HBw5.out.alloc HBw5.out.size _)) (x1 _ (HBw5.out.alloc HBw5.out.size _))
        have HSE := HeldP.mk' HM5 HS5 (x0 _ HBw5.out) (x1 _ HBw5.out)
        have HSG := HeldP.mk' hM6 HS6 (x0 _ HB6) (x1 _ HB6)
        have R6 := hidP hr6
        have f6 := hM6.fz 1
        have c6' := hM6.cell 1 (v := .slice av Ln cv) rfl
        have HO7 := hidP hO7
        have HM7 := hidP hM7
        have HB7 := hidP ((HBq.out.trans (hb5'.mono (by omega))).trans hb7)
        clear hr6 hM6 hb6 hO7 hM7 hb7 HM5 HS5 HS6 ho5 hb5 HB6
        refine hK _ _ (.inr HSE) ?_
        try simp only [Act.put, List.setIfInBounds_toArray, List.set_cons_zero, List.set_cons_succ]
        refine anyL_one (i := 9) (atS (atS (atS (atS (atS (atS (atS (atS (atS at0))))))))) (by kernel_rfl) rfl (fun K hK => ?_)
        go_simp
        refine hK _ _ (.inr HSA) ?_
        try simp only [Act.put, List.setIfInBounds_toArray, List.set_cons_zero, List.set_cons_succ]
        refine anyL_one (i := 10) (atS (atS (atS (atS (atS (atS (atS (atS (atS (atS at0)))))))))) (by kernel_rfl) rfl (fun K hK => ?_)
        refine wp_append_run (.tmp 53) (.tmp 61) 22 rfl rfl rfl R6.out ?_
        refine hK _ _ (.inr HSG) ?_
        try simp only [Act.put, List.setIfInBounds_toArray, List.set_cons_zero, List.set_cons_succ]
        refine anyL_one (i := 11) (atS (atS (atS (atS (atS (atS (atS (atS (atS (atS (atS at0))))))))))) (by kernel_rfl) rfl (fun K hK => ?_)
        go_simp
        refine hK _ _ (.inr HSG) ?_
        try simp only [Act.put, List.setIfInBounds_toArray, List.set_cons_zero, List.set_cons_succ]
        refine anyL_one (i := 12) (atS (atS (atS (atS (atS (atS (atS (atS (atS (atS (atS (atS at0)))))))))))) (by kernel_rfl) rfl (fun K hK => ?_)
        go_simp
        refine hK _ _ (.inl rfl) (anyL_done (by kernel_rfl) (NoPanic.normal ?_))
        try simp only [Act.put, List.setIfInBounds_toArray, List.set_cons_zero, List.set_cons_succ]
        clear HSD HSA HSE HSG
        go_wp2
        go_roundw
        case rel => have hLn := HLi.out; subst hLn; exact ⟨i + 1, a6, c6, by go_num, by omega, HM7, by rw [HTi.out]; exact HO7, HB7⟩
        case measure => simp [intOf]; omega
    · have hin' : ¬ (i : Int) < (na : Int) := by omega
      obtain rfl : na = i := by omega
      rw [HAB.out] at ho
      have hm0 := hm
      have ho0 := ho
      have hb0 := hb
      clear KSr d1 HBw hsr hmlt hm ho hb
      go_wp2
      go_loopw [11] (fun s6 wr => ∃ (i : Nat) (av : Option Addr) (cv : Nat), s6 = .int .i64 i ∧ i ≤ nb ∧ Hid (Blk wr (w2.heap.size) #[.int .i64 za, .slice av (na + i) cv] 24) ∧ Hid (OwnSts wr (w2.heap.size) (.slice av (na + i) cv) (TB i)) ∧ Hid (Below (w2.heap.size) wM wr)) (fun s6 _ => nb - (intOf s6).toNat)
      case atStart => exact ⟨0, _, _, by go_num, Nat.zero_le _, hm0, ho0, hb0⟩
      case round =>
        obtain ⟨i, av, cv, rfl, hi, hm, ho, hb⟩ := hrel
        have KSr := hidP (KB3.out.below hb.out (by omega))
        have d1 := KSr.out.cell 1 (v := .slice ab nb capb) rfl
        have HBw := hidP (HBM.out.trans (hb.out.mono (by omega)))
        have hsr := hb.out.size
        have hmlt := hm.out.lt
        by_cases hin : i < nb
        · have hin' : (i : Int) < (nb : Int) := by omega
          have hi0 : (0 : Int) ≤ (i : Int) := by omega
          obtain ⟨b, off, va, rfl, hbl, y0, y1, gA⟩ := HCB.out i hin
          obtain ⟨hfin, hal, hto⟩ := HSTB.out i hin
          have HTi := hidP (HBS.out i hin)
          have HLn := hidP (HBL.out i hi)
          have x0 : ∀ W, Below w.heap.size w W → W.cell? ⟨b, off + i * 2, none⟩ = some (.int .i64 (el lb i).1) := fun W hW => (hW.cell (p := ⟨b, off + i * 2, none⟩) hbl).trans y0
          have x1 : ∀ W, Below w.heap.size w W → W.cell? ⟨b, off + i * 2 + 1, none⟩ = some va := fun W hW => (hW.cell (p := ⟨b, off + i * 2 + 1, none⟩) hbl).trans y1
          obtain ⟨a2, cap2, hva, hvx⟩ := gA.get
          subst hva
          have HGA : Hid (∀ W, Below w.heap.size w W → Arcs W (.slice a2 (el lb i).2.length cap2) (el lb i).2) := fun W hW => gA.later hW (Nat.le_refl _)
          have HTO := hidP hto
          have hfe : (el lb i).1 ≠ 1000000001 → 0 ≤ (el lb i).1 ∧ (el lb i).1 ≤ 1000000000 := fun g => by
            simp [finB, inB] at hfin
            omega
          clear gA hto hfin y0 y1 hvx
          generalize (el lb i).1 = fin at *
          generalize (el lb i).2 = ar at *
          generalize TB i = Lst at *
          generalize hLn : na + i = Ln at *
          have z0 := x0 _ HBw.out
          have z1 := x1 _ HBw.out
          obtain ⟨va, hva⟩ : ∃ va, Value.slice a2 ar.length cap2 = va := ⟨_, rfl⟩
          rw [hva] at z1 x1
          clear hfe
          obtain ⟨NL, hNL⟩ : ∃ NL, ar.map (shA ((na : Int))) ++ [] = NL := ⟨_, rfl⟩
          rw [hNL] at HTi
          have FSh : Hid (∀ W, Below wr.heap.size wr W → Calls Try.prog 29 #[.agg #[.int .i64 fin, va], .int .i64 ((na : Int)), .int .i64 fin, Value.slice none 0 0] W fun e w' => ∃ v, e = .returned (.agg #[.int .i64 fin, v]) ∧ OwnArcs w' W.heap.size v NL ∧ Below W.heap.size W w') := fun W hq => by
            have hW := HBw.out.trans (hq.mono HBw.out.size)
            rw [← hva, ← hNL]
            exact shifted_any fin ((na : Int)) fin a2 none cap2 0 ar [] W (HGA.out W hW) (OwnArcs.nil W 0).arcs hal (by simp) (by omega) HTO.out
          have HMq := hm
          have HOq := ho
          have HBq := hb
          have HSq := KSr
          clear hNL hva
          have HSD := HeldP.mk' (W := wr.drew) HMq.out HSq.out (x0 _ HBw.out.drew) (x1 _ HBw.out.drew)
          go_wp2
          refine region_anyL (HeldP (w2.heap.size) (.slice av Ln cv) (w.heap.size + 1) (.slice (some ⟨b, off, none⟩) nb capb) b (off + i * 2) fin va) 18 (by kernel_rfl) ?_
          refine anyL_take (i := 0) (v := ?v0_26) at0 (by kernel_rfl) (by kernel_rfl) (by kernel_rfl) (by kernel_rfl) (fun _ _ _ h => h) rfl ?y0_26 HSD ?r0_26
          case y0_26 => intro wx hx; obtain ⟨h0, h1, h2, h3⟩ := hx; go_simp; try (with_reducible rfl)
          simp only [Act.put, List.setIfInBounds_toArray, List.set_cons_zero, List.set_cons_succ]
          refine anyL_take (i := 1) (v := ?v1_27) (atS at0) (by kernel_rfl) (by kernel_rfl) (by kernel_rfl) (by kernel_rfl) (fun _ _ _ h => h) rfl ?y1_27 HSD ?r1_27
          case y1_27 => intro wx hx; obtain ⟨h0, h1, h2, h3⟩ := hx; go_simp; try (with_reducible rfl)
          simp only [Act.put, List.setIfInBounds_toArray, List.set_cons_zero, List.set_cons_succ]
          refine anyL_take (i := 2) (v := ?v2_28) (atS (atS at0)) (by kernel_rfl) (by kernel_rfl) (by kernel_rfl) (by kernel_rfl) (fun _ _ _ h => h) rfl ?y2_28 HSD ?r2_28
          case y2_28 => intro wx hx; obtain ⟨h0, h1, h2, h3⟩ := hx; go_simp; try (with_reducible rfl)
          simp only [Act.put, List.setIfInBounds_toArray, List.set_cons_zero, List.set_cons_succ]
          refine anyL_take (i := 3) (v := ?v3_29) (atS (atS (atS at0))) (by kernel_rfl) (by kernel_rfl) (by kernel_rfl) (by kernel_rfl) (fun _ _ _ h => h) rfl ?y3_29 HSD ?r3_29
          case y3_29 => intro wx hx; obtain ⟨h0, h1, h2, h3⟩ := hx; go_simp; try (with_reducible rfl)
          simp only [Act.put, List.setIfInBounds_toArray, List.set_cons_zero, List.set_cons_succ]
          refine anyL_take (i := 4) (v := ?v4_30) (atS (atS (atS (atS at0)))) (by kernel_rfl) (by kernel_rfl) (by kernel_rfl) (by kernel_rfl) (fun _ _ _ h => h) rfl ?y4_30 HSD ?r4_30
          case y4_30 => intro wx hx; obtain ⟨h0, h1, h2, h3⟩ := hx; go_simp; try (with_reducible rfl)
          simp only [Act.put, List.setIfInBounds_toArray, List.set_cons_zero, List.set_cons_succ]
          refine anyL_take (i := 5) (v := ?v5_31) (atS (atS (atS (atS (atS at0))))) (by kernel_rfl) (by kernel_rfl) (by kernel_rfl) (by kernel_rfl) (fun _ _ _ h => h) rfl ?y5_31 HSD ?r5_31
          case y5_31 => intro wx hx; obtain ⟨h0, h1, h2, h3⟩ := hx; go_simp; try (with_reducible rfl)
          simp only [Act.put, List.setIfInBounds_toArray, List.set_cons_zero, List.set_cons_succ]
          refine anyL_take (i := 6) (v := ?v6_32) (atS (atS (atS (atS (atS (atS at0)))))) (by kernel_rfl) (by kernel_rfl) (by kernel_rfl) (by kernel_rfl) (fun _ _ _ h => h) rfl ?y6_32 HSD ?r6_32
          case y6_32 => intro wx hx; obtain ⟨h0, h1, h2, h3⟩ := hx; go_simp; try (with_reducible rfl)
          simp only [Act.put, List.setIfInBounds_toArray, List.set_cons_zero, List.set_cons_succ]
          refine anyL_take (i := 7) (v := ?v7_33) (atS (atS (atS (atS (atS (atS (atS at0))))))) (by kernel_rfl) (by kernel_rfl) (by kernel_rfl) (by kernel_rfl) (fun _ _ _ h => h) rfl ?y7_33 HSD ?r7_33
          case y7_33 => intro wx hx; obtain ⟨h0, h1, h2, h3⟩ := hx; go_simp; try (with_reducible rfl)
          simp only [Act.put, List.setIfInBounds_toArray, List.set_cons_zero, List.set_cons_succ]
          refine anyL_take (i := 8) (v := ?v8_34) (atS (atS (atS (atS (atS (atS (atS (atS at0)))))))) (by kernel_rfl) (by kernel_rfl) (by kernel_rfl) (by kernel_rfl) (fun _ _ _ h => h) rfl ?y8_34 HSD ?r8_34
          case y8_34 => intro wx hx; obtain ⟨h0, h1, h2, h3⟩ := hx; go_simp; try (with_reducible rfl)
          simp only [Act.put, List.setIfInBounds_toArray, List.set_cons_zero, List.set_cons_succ]
          refine anyL_take (i := 9) (v := ?v9_35) (atS (atS (atS (atS (atS (atS (atS (atS (atS at0))))))))) (by kernel_rfl) (by kernel_rfl) (by kernel_rfl) (by kernel_rfl) (fun _ _ _ h => h) rfl ?y9_35 HSD ?r9_35
          case y9_35 => intro wx hx; obtain ⟨h0, h1, h2, h3⟩ := hx; go_simp; try (with_reducible rfl)
          simp only [Act.put, List.setIfInBounds_toArray, List.set_cons_zero, List.set_cons_succ]
          refine anyL_take (i := 10) (v := ?v10_36) (atS (atS (atS (atS (atS (atS (atS (atS (atS (atS at0)))))))))) (by kernel_rfl) (by kernel_rfl) (by kernel_rfl) (by kernel_rfl) (fun _ _ _ h => h) rfl ?y10_36 HSD ?r10_36
          case y10_36 => intro wx hx; obtain ⟨h0, h1, h2, h3⟩ := hx; go_simp; try (with_reducible rfl)
          simp only [Act.put, List.setIfInBounds_toArray, List.set_cons_zero, List.set_cons_succ]
          refine anyL_take (i := 11) (v := ?v11_37) (atS (atS (atS (atS (atS (atS (atS (atS (atS (atS (atS at0))))))))))) (by kernel_rfl) (by kernel_rfl) (by kernel_rfl) (by kernel_rfl) (fun _ _ _ h => h) rfl ?y11_37 HSD ?r11_37
          case y11_37 => intro wx hx; obtain ⟨h0, h1, h2, h3⟩ := hx; go_simp; try (with_reducible rfl)
          simp only [Act.put, List.setIfInBounds_toArray, List.set_cons_zero, List.set_cons_succ]
          refine anyL_take (i := 12) (v := ?v12_38) (atS (atS (atS (atS (atS (atS (atS (atS (atS (atS (atS (atS at0)))))))))))) (by kernel_rfl) (by kernel_rfl) (by kernel_rfl) (by kernel_rfl) (fun _ _ _ h => h) rfl ?y12_38 HSD ?r12_38
          case y12_38 => intro wx hx; obtain ⟨h0, h1, h2, h3⟩ := hx; go_simp; try (with_reducible rfl)
          simp only [Act.put, List.setIfInBounds_toArray, List.set_cons_zero, List.set_cons_succ]
          refine anyL_take (i := 13) (v := ?v13_39) (atS (atS (atS (atS (atS (atS (atS (atS (atS (atS (atS (atS (atS at0))))))))))))) (by kernel_rfl) (by kernel_rfl) (by kernel_rfl) (by kernel_rfl) (fun _ _ _ h => h) rfl ?y13_39 HSD ?r13_39
          case y13_39 => intro wx hx; obtain ⟨h0, h1, h2, h3⟩ := hx; go_simp; try (with_reducible rfl)
          simp only [Act.put, List.setIfInBounds_toArray, List.set_cons_zero, List.set_cons_succ]
          refine anyL_one (i := 14) (atS (atS (atS (atS (atS (atS (atS (atS (atS (atS (atS (atS (atS (atS at0)))))))))))))) (by kernel_rfl) rfl (fun K hK => ?_)
          go_simp
          with_reducible refine (FSh.out _ (Below.refl _ _).drew).mono ?_
          rintro e1 w5 ⟨v5, rfl, ho5, hb5⟩
          obtain ⟨a5, c5, hv5⟩ := ho5.sl
          subst hv5
          have hb5' : Below wr.heap.size wr w5 := Below.trans (Below.refl _ _).drew hb5
          have hs5 := hb5'.size
          have HM5 := HMq.out.below hb5' HMq.out.lt
          have HS5 := HSq.out.below hb5' HSq.out.lt
          have HBw5 := hidP (HBw.out.trans (hb5'.mono HBw.out.size))
          obtain ⟨a6, c6, w6, hr6, hM6, hb6, hO7, hM7, hb7⟩ := push_step (w5 := w5) (B := w2.heap.size) (Mb := w2.heap.size) (fin, NL) (HOq.out.laterB hb5') (ho5.mono (by show _ ≤ wr.heap.size; omega)) HM5 (by omega) (by omega) (by have := HLn.out; omega)
          rw [HLn.out] at hr6 hO7 hM7 hb7
          have HB6 : Below w.heap.size w w6 := HBw5.out.trans (hb6.mono (by omega))
          have HS6 := HS5.below hb6 (by omega)
          have HSA := HeldP.mk' (W := w5.alloc (.cells #[.int .i64 fin, .slice a5 NL.length c5] 44)) (HM5.alloc _) (HS5.alloc _) (x0 _ (HBw5.out.alloc HBw5.out.size _)) (x1 _ (HBw5.out.alloc HBw5.out.size _))
          have HSE := HeldP.mk' HM5 HS5 (x0 _ HBw5.out) (x1 _ HBw5.out)
          have HSG := HeldP.mk' hM6 HS6 (x0 _ HB6) (x1 _ HB6)
          have R6 := hidP hr6
          have f6 := hM6.fz 1
          have c6' := hM6.cell 1 (v := .slice av Ln cv) rfl
          have HO7 := hidP hO7
          have HM7 := hidP hM7
          have HB7 := hidP ((HBq.out.trans (hb5'.mono (by omega))).trans hb7)
          clear hr6 hM6 hb6 hO7 hM7 hb7 HM5 HS5 HS6 ho5 hb5 HB6
          refine hK _ _ (.inr HSE) ?_
          try simp only [Act.put, List.setIfInBounds_toArray, List.set_cons_zero, List.set_cons_succ]
          refine anyL_one (i := 15) (atS (atS (atS (atS (atS (atS (atS (atS (atS (atS (atS (atS (atS (atS (atS at0))))))))))))))) (by kernel_rfl) rfl (fun K hK => ?_)
          go_simp
          refine hK _ _ (.inr HSA) ?_
          try simp only [Act.put, List.setIfInBounds_toArray, List.set_cons_zero, List.set_cons_succ]
          refine anyL_one (i := 16) (atS (atS (atS (atS (atS (atS (atS (atS (atS (atS (atS (atS (atS (atS (atS (atS at0)))))))))))))))) (by kernel_rfl) rfl (fun K hK => ?_)
          refine wp_append_run (.tmp 72) (.tmp 86) 22 rfl rfl rfl R6.out ?_
          refine hK _ _ (.inr HSG) ?_
          try simp only [Act.put, List.setIfInBounds_toArray, List.set_cons_zero, List.set_cons_succ]
          refine anyL_one (i := 17) (atS (atS (atS (atS (atS (atS (atS (atS (atS (atS (atS (atS (atS (atS (atS (atS (atS at0))))))))))))))))) (by kernel_rfl) rfl (fun K hK => ?_)
          go_simp
          refine hK _ _ (.inr HSG) ?_
          try simp only [Act.put, List.setIfInBounds_toArray, List.set_cons_zero, List.set_cons_succ]
          refine anyL_one (i := 18) (atS (atS (atS (atS (atS (atS (atS (atS (atS (atS (atS (atS (atS (atS (atS (atS (atS (atS at0)))))))))))))))))) (by kernel_rfl) rfl (fun K hK => ?_)
          go_simp
          refine hK _ _ (.inl rfl) (anyL_done (by kernel_rfl) (NoPanic.normal ?_))
          try simp only [Act.put, List.setIfInBounds_toArray, List.set_cons_zero, List.set_cons_succ]
          clear HSD HSA HSE HSG
          go_wp2
          go_roundw
          case rel => subst hLn; exact ⟨i + 1, a6, c6, by go_num, by omega, HM7, by rw [HTi.out]; exact HO7, HB7⟩
          case measure => simp [intOf]; omega
        · have hin' : ¬ (i : Int) < (nb : Int) := by omega
          obtain rfl : i = nb := by omega
          have HLn := HBL.out i (Nat.le_refl _)
          rw [HBN.out] at ho HLn
          have m0 := hm.out.cell 0 (v := .int .i64 za) rfl
          have m1 := hm.out.cell 1 (v := .slice av (na + i) cv) rfl
          have KRr := hidP (KR3.out.below hb.out (by omega))
          have HFT : Hid (∀ W, OwnSts W (w2.heap.size) (.slice av (na + i) cv) (catM (za, la) (zb, lb)).2 → Calls Try.prog 30 #[.agg #[.int .i64 za, .slice av (na + i) cv]] W fun e w' => e = .returned (.tuple #[fitV (catM (za, la) (zb, lb)) (.agg #[.int .i64 za, .slice av (na + i) cv]), .int .i64 (fitE (catM (za, la) (zb, lb)))]) ∧ Below W.heap.size W w') := fun W hW => fits_any _ (catM (za, la) (zb, lb)) W ⟨_, rfl, hW.sts⟩ HOKS.out
          have HFV : Hid (∃ x0 x1, fitV (catM (za, la) (zb, lb)) (.agg #[.int .i64 za, .slice av (na + i) cv]) = .agg #[.int .i64 x0, x1] ∧ (∃ a9 n9 c9, x1 = .slice a9 n9 c9) ∧ ∀ W, OwnSts W (w2.heap.size) (.slice av (na + i) cv) (catM (za, la) (zb, lb)).2 → Mach W (.agg #[.int .i64 x0, x1]) (fitM (catM (za, la) (zb, lb)))) := by
            unfold fitV fitM
            by_cases hsz : sizeB (catM (za, la) (zb, lb)) = true
            · rw [if_pos hsz, if_pos hsz]
              exact ⟨za, _, rfl, ⟨_, _, _, rfl⟩, fun W hW => ⟨_, rfl, hW.sts⟩⟩
            · rw [if_neg hsz, if_neg hsz]
              exact ⟨0, _, rfl, ⟨_, _, _, rfl⟩, fun W hW => mach_zeroR W⟩
          obtain ⟨x0, x1, hfv, ⟨a9, n9, c9, rfl⟩, hMF⟩ := HFV.out
          rw [hfv] at HFT
          have HMF := hidP hMF
          clear hfv hMF HFV HLn
          obtain ⟨fe, hfee⟩ : ∃ fe, fitE (catM (za, la) (zb, lb)) = fe := ⟨_, rfl⟩
          rw [hfee] at HFT
          have HFE := hidP hfee
          clear hfee
          go_wp2_with (first
            | (go_at_call 30; (with_reducible refine (HFT.out _ ho.out).mono ?_); rintro e w8 ⟨rfl, hb8⟩; have HO8 := hidP (ho.out.laterB hb8); have HB8 := hidP (HBw.out.trans (hb8.mono HBw.out.size)); have KR8 := hidP ((KRr.out.below hb8 KRr.out.lt).alloc (.cells #[.int .i64 x0, .slice a9 n9 c9] 24)); have q0 := KR8.out.cell 0 (v := .int .i64 0) rfl; have q1 := KR8.out.cell 1 (v := .slice none 0 0) rfl; have g0 := KR8.out.fz 0; have g1 := KR8.out.fz 1; clear hb8))
          have HO9 := HO8.out.laterB ((Below.refl _ _).alloc (Nat.le_refl _) (.cells #[.int .i64 x0, .slice a9 n9 c9] 24))
          exact bodyPost_ret (res_chained _ _ (w.heap.size + 2) fe _ _ ((KR8.out.set 0 (.int .i64 x0)).set 1 (.slice a9 n9 c9)) rfl rfl) rfl ⟨_, by rw [HFE.out], HMF.out _ ((HO9.setCell (a := ⟨w.heap.size + 2, 0, none⟩) (by show w.heap.size + 2 < _; omega) _).setCell (a := ⟨w.heap.size + 2, 1, none⟩) (by show w.heap.size + 2 < _; omega) _), ((HB8.out.alloc HB8.out.size _).setCell (p := ⟨w.heap.size + 2, 0, none⟩) (by show _ ≤ w.heap.size + 2; omega) _).setCell (p := ⟨w.heap.size + 2, 1, none⟩) (by show _ ≤ w.heap.size + 2; omega) _⟩
theorem chained_any (va vb : Value) (ma mb : Mc) (w : World) (ha : Mach w va ma) (hoka : okM ma) (hb : Mach w vb mb) (hokb : okM mb) :
    Calls Try.prog 14 #[va, vb] w fun e w' => RatRes (ratM ma mb (catM ma mb)) (ratE ma mb (catM ma mb)) w e w' := by
  by_cases h0 : faultM ma = 0
  · by_cases h1 : faultM mb = 0
    · have e1 : ratM ma mb (catM ma mb) = fitM (catM ma mb) := by unfold ratM; rw [if_neg (by simp [h0]), if_neg (by simp [h1])]
      have e2 : ratE ma mb (catM ma mb) = fitE (catM ma mb) := by unfold ratE; rw [if_neg (by simp [h0]), if_neg (by simp [h1])]
      rw [e1, e2]
      exact chained_ok va vb ma mb w ha hoka hb hokb h0 h1
    · have e1 : ratM ma mb (catM ma mb) = (0, []) := by unfold ratM; rw [if_neg (by simp [h0]), if_pos h1]
      have e2 : ratE ma mb (catM ma mb) = faultM mb := by unfold ratE; rw [if_neg (by simp [h0]), if_pos h1]
      rw [e1, e2]
      exact chained_bad va vb ma mb w ha hoka hb hokb _ h1 (.inr ⟨h0, rfl⟩)
  · have e1 : ratM ma mb (catM ma mb) = (0, []) := by unfold ratM; rw [if_pos h0]
    have e2 : ratE ma mb (catM ma mb) = faultM ma := by unfold ratE; rw [if_pos h0]
    rw [e1, e2]
    exact chained_bad va vb ma mb w ha hoka hb hokb _ h0 (.inl rfl)
end Go.Proofs.Ytfajkomajbhphaa.Wt
