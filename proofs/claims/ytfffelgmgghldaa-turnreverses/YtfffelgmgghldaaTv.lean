/- The reference: all from behind. -/
import Derived.Test.YtfffelgmgghldaaRf
import Derived.Test.YtfffelgmgghldaaTi
namespace Go.Proofs.Ytfffelgmgghldaa.Wt
open Go.ChangeShapes Go.WideShapes Go.ChangeAt Go.RowKit
open Go.Proofs.Ytfffelgmgghldaa.Pl
set_option linter.unusedVariables false
set_option linter.unusedSimpArgs false
theorem res_rev (tm : Array Value) (W : World) (R : Nat) (ec : Int) (x0 x1 : Value) (hB : Blk W R #[x0, x1] 24) (h2 : tm.getD 2 undef = .pointer (some ⟨R, 0, none⟩)) (h3 : tm.getD 3 undef = .int .i64 ec) : (results Try.f16 tm).run Try.prog W = .ok (.tuple #[.agg #[x0, x1], .int .i64 ec]) W := by
  have c0 := hB.cell 0 (v := x0) rfl
  have c1 := hB.cell 1 (v := x1) rfl
  simp only [Array.getD_eq_getD_getElem?] at h2 h3
  simp [results, Try.results16, go_sem, h2, h3, c0, c1]
set_option maxRecDepth 100000 in
theorem reversed_bad (v : Value) (m : Mc) (w : World) (h : Mach w v m) (hok : okM m) (h0 : faultM m ≠ 0) :
    Calls Try.prog 16 #[v] w fun e w' => RatRes (0, []) (faultM m) w e w' := by
  obtain ⟨z, l⟩ := m
  obtain ⟨r, hr⟩ : ∃ r, faultM (z, l) = r := ⟨_, rfl⟩
  have HM : Hid (Mach w v (z, l)) := h
  have HK : Hid (okM (z, l)) := hok
  have HR : Hid (faultM (z, l) = r) := hr
  have h0' : (r != 0) = true := bne_iff_ne.2 (by rw [← hr]; exact h0)
  obtain ⟨vs, rfl, hS⟩ := h
  obtain ⟨a, cap, rfl⟩ := hS.sl
  rw [hr]
  clear hS hok hr h0
  go_enter Try.func16, Try.ntmps16
  go_wp2_with (first
    | (go_at_call 25; (with_reducible refine (fault_any _ (z, l) _ (HM.out.later (B := w.heap.size) (by go_grown) (Nat.le_refl _)) HK.out r HR.out).mono ?_); rintro e w1 ⟨rfl, hb⟩; obtain ⟨s1, b1, b2, hb1⟩ := boxedTwo hb (by simp); have HB1 : Hid (Below w.heap.size w w1) := hb1; have KR := hidP b2; have e0 := b2.cell 0 (v := .int .i64 0) rfl; have e1 := b2.cell 1 (v := .slice none 0 0) rfl; have g0 := b2.fz 0; have g1 := b2.fz 1; clear b1 b2 hb1 hb))
  exact bodyPost_ret (res_rev _ _ (w.heap.size + 1) r _ _ ((KR.out.set 0 (.int .i64 0)).set 1 (.slice none 0 0)) rfl rfl) rfl ⟨_, rfl, mach_zeroR _, (HB1.out.setCell (Nat.le_succ _) _).setCell (Nat.le_succ _) _⟩
theorem OwnArcs.len {w : World} {base : Nat} {a : Option Addr} {n c : Nat} {ar : List Ar} (h : OwnArcs w base (.slice a n c) ar) : ar.length = n := by
  obtain ⟨_, _, e⟩ := h.sl
  injection e with _ h2 _
  exact h2.symm
/-- The machine turned round as it grows. -/
theorem revN (z : Int) (l : List St) : (1000000001, firstL l l.length) :: (List.range l.length).map (revS z l) = (revM (z, l)).2 := rfl
theorem revM_arcs (m : Mc) : ∀ s ∈ (revM m).2, s.2.length ≤ m.2.length + arcN m.2 := fun s hs => by
  simp only [revM, List.mem_cons, List.mem_map] at hs
  rcases hs with rfl | ⟨q, _, rfl⟩
  · have := firstL_le m.2 m.2.length
    simp only
    omega
  · have := intoL_le m.2 q m.2.length (Nat.le_refl _)
    rw [List.take_length] at this
    simp only [revS]
    omega
set_option maxRecDepth 100000 in
set_option maxHeartbeats 1600000 in
theorem reversed_ok (z : Int) (l : List St) (vs : Value) (w : World) (h : Mach w (.agg #[.int .i64 z, vs]) (z, l)) (hok : okM (z, l)) (hr : faultM (z, l) = 0) :
    Calls Try.prog 16 #[.agg #[.int .i64 z, vs]] w fun e w' => RatRes (fitM (revM (z, l))) (fitE (revM (z, l))) w e w' := by
  have HM : Hid (Mach w (.agg #[.int .i64 z, vs]) (z, l)) := h
  have HK : Hid (okM (z, l)) := hok
  have HR : Hid (faultM (z, l) = 0) := hr
  have h60 := (right_size hr).1
  have h400 := (right_size hr).2
  obtain ⟨vs', hvs, hS⟩ := h
  simp only [Value.agg.injEq, Array.mk.injEq, List.cons.injEq, and_true, true_and] at hvs
  subst hvs
  obtain ⟨a, cap, rfl, hc⟩ := hS.get
  have HC : Hid (∀ j, j < l.length → ∃ b off va, a = some ⟨b, off, none⟩ ∧ b < w.heap.size ∧ w.cell? ⟨b, off + j * 2, none⟩ = some (.int .i64 (el l j).1) ∧ w.cell? ⟨b, off + j * 2 + 1, none⟩ = some va ∧ Arcs w va (el l j).2) := hc
  have HFS : Hid (∀ j, firstL l (j + 1) = firstL l j ++ (if (el l j).1 = 1000000001 then [] else [(0, 0, (el l j).1, (j : Int) + 1)])) := fun j => rfl
  have HFL : Hid (∀ j, (firstL l j).length ≤ j) := firstL_le l
  have HT0 : Hid ([(1000000001, firstL l l.length)] = (1000000001, firstL l l.length) :: (List.range 0).map (revS z l)) := by show _ = _; simp
  have HTS : Hid (∀ j, (1000000001, firstL l l.length) :: (List.range (j + 1)).map (revS z l) = (1000000001, firstL l l.length) :: (List.range j).map (revS z l) ++ [(if (j : Int) = z then 0 else 1000000001, intoL l j l.length)]) := fun j => by rw [List.range_succ]; simp [revS]
  have HTL : Hid (∀ j, ((1000000001, firstL l l.length) :: (List.range j).map (revS z l)).length = j + 1) := fun j => by simp
  have HTN : Hid ((1000000001, firstL l l.length) :: (List.range l.length).map (revS z l) = (revM (z, l)).2) := revN z l
  have HOKS : Hid (okM (0, (revM (z, l)).2)) := by
    have h5 := revM_len (z, l)
    simp only at h5
    refine ⟨by simp only; omega, fun j hj => ?_⟩
    simp only at hj ⊢
    have h1 := revM_arcs (z, l) _ (el_mem hj)
    simp only at h1
    omega
  have HF0 : Hid (fitE (0, (revM (z, l)).2) = fitE (revM (z, l)) ∧ fitM (0, (revM (z, l)).2) = fitM (revM (z, l))) := ⟨rfl, rfl⟩
  clear hS hc hr hok
  generalize hn : l.length = n at *
  have HN : Hid (l.length = n) := hn
  clear hn
  obtain ⟨TT, hTT⟩ : ∃ TT : Nat → List St, ∀ j, (1000000001, firstL l n) :: (List.range j).map (revS z l) = TT j := ⟨_, fun _ => rfl⟩
  simp only [hTT] at HT0 HTS HTL HTN
  clear hTT
  obtain ⟨FF, hFF⟩ : ∃ FF : Nat → List Ar, ∀ j, firstL l j = FF j := ⟨_, fun _ => rfl⟩
  simp only [hFF] at HT0 HFS HFL
  have HFF0 : Hid (FF 0 = []) := by show _ = _; rw [← hFF]; rfl
  clear hFF
  go_enter Try.func16, Try.ntmps16
  go_wp2_with (first
    | (go_at_call 25; (with_reducible refine (fault_any _ (z, l) _ (HM.out.later (B := w.heap.size) (by go_grown) (Nat.le_refl _)) HK.out 0 HR.out).mono ?_); rintro e w1 ⟨rfl, hb⟩; obtain ⟨s1, b1, b2, hb1⟩ := boxedTwo hb (by simp); have HB1 : Hid (Below w.heap.size w w1) := hb1; have KS := hidP b1; have KR := hidP b2; have e0 := b1.cell 0 (v := .int .i64 z) rfl; clear b1 b2 hb1 hb))
  have HSB := hidP (Blk.made w1 #[.int .i64 1000000001, .slice none 0 0] 44)
  have HOA : Hid (OwnArcs (w1.alloc (.cells #[.int .i64 1000000001, .slice none 0 0] 44)) (w1.heap.size + 1) (.slice none 0 0) (FF 0)) := by rw [HFF0.out]; exact OwnArcs.nil _ _
  have HBI : Hid (Below w1.heap.size w1 (w1.alloc (.cells #[.int .i64 1000000001, .slice none 0 0] 44))) := (Below.refl _ _).alloc (Nat.le_refl _) _
  go_loopw [6] (fun s6 wr => ∃ (i : Nat) (aj : Option Addr) (nj cj : Nat), s6 = .int .i64 i ∧ i ≤ n ∧ Hid (Blk wr w1.heap.size #[.int .i64 1000000001, .slice aj nj cj] 44) ∧ Hid (OwnArcs wr (w1.heap.size + 1) (.slice aj nj cj) (FF i)) ∧ Hid (Below w1.heap.size w1 wr)) (fun s6 _ => n - (intOf s6).toNat)
  case atStart => exact ⟨0, _, _, _, by go_num, Nat.zero_le _, HSB, HOA, HBI⟩
  case round =>
    obtain ⟨i, aj, nj, cj, rfl, hi, hs, hoa, hb⟩ := hrel
    clear HSB HOA HBI
    have HLJ := hidP hoa.out.len
    have KSr := hidP (KS.out.below hb.out KS.out.lt)
    have d1 := KSr.out.cell 1 (v := .slice a n cap) rfl
    have HBw := hidP (HB1.out.trans (hb.out.mono HB1.out.size))
    have hsr := hb.out.size
    have hmlt := hs.out.lt
    by_cases hin : i < n
    · have hin' : (i : Int) < (n : Int) := by omega
      have hi0 : (0 : Int) ≤ (i : Int) := by omega
      obtain ⟨b, off, va, rfl, hbl, y0, y1, gA⟩ := HC.out i hin
      have HFi := hidP (HFS.out i)
      have HFl := hidP (HFL.out i)
      clear gA
      generalize (el l i).1 = fin at *
      have HX : Hid (∀ W, Below w.heap.size w W → ∀ vm sv, Blk W w1.heap.size #[.int .i64 1000000001, vm] 44 → Blk W w.heap.size #[.int .i64 z, sv] 24 → HeldP w1.heap.size vm w.heap.size sv b (off + i * 2) fin va W) := fun W hW vm sv h1 h2 => ⟨h1.cell 1 rfl, h2.cell 1 rfl, (hW.cell (p := ⟨b, off + i * 2, none⟩) hbl).trans y0, (hW.cell (p := ⟨b, off + i * 2 + 1, none⟩) hbl).trans y1⟩
      have z0 := (HBw.out.cell (p := ⟨b, off + i * 2, none⟩) hbl).trans y0
      generalize FF i = Lst at *
      clear y0 y1
      by_cases hf : fin = 1000000001
      · have hf' : (fin != 1000000001) = false := by simpa using hf
        rw [if_pos hf, List.append_nil] at HFi
        clear hf
        go_wp2
        go_roundw
        case rel => exact ⟨i + 1, _, _, _, by go_num, by omega, hs, by rw [HFi.out]; exact hoa, hb⟩
        case measure => simp [intOf]; omega
      · have hf' : (fin != 1000000001) = true := bne_iff_ne.2 hf
        rw [if_neg hf] at HFi
        clear hf
        have hw1 : IntKind.i64.wrap ((i : Int) + 1) = (i : Int) + 1 := wrapI (by omega) (by omega)
        obtain ⟨a4, c4, w4, hr4, ho4, hb4⟩ := OwnArcs.push (W := wr.drew) (base := w1.heap.size + 1) (v := .slice aj nj cj) (ar := Lst) hoa.out (0, 0, fin, (i : Int) + 1) (by have := HFl.out; omega) (by show _ ≤ wr.heap.size; omega)
        rw [HLJ.out] at hr4 ho4
        have R4 := hidP hr4
        have HO4 := hidP ho4
        have HD : Below w1.heap.size w1 wr.drew := hb.out.drew
        have HS4 := hidP (Blk.below (w := wr.drew) hs.out hb4 (Nat.lt_succ_self _))
        have HB4 := hidP (HD.trans (hb4.mono (Nat.le_succ _)))
        have HBw4 := hidP (HB1.out.trans (HB4.out.mono HB1.out.size))
        have HSD := HX.out wr.drew HBw.out.drew _ _ hs.out KSr.out
        have HSA := HX.out (wr.drew.alloc (.cells #[.int .i64 0, .int .i64 0, .int .i64 fin, .int .i64 ((i : Int) + 1)] 47)) (HBw.out.drew.alloc HBw.out.size _) _ _ (Blk.alloc (w := wr.drew) hs.out _) (Blk.alloc (w := wr.drew) KSr.out _)
        have HSG := HX.out w4 HBw4.out _ _ HS4.out (KS.out.below HB4.out KS.out.lt)
        have s4 := HS4.out.cell 1 (v := .slice aj nj cj) rfl
        have g4 := HS4.out.fz 1
        clear hr4 ho4 hb4 HD
        go_wp2
        refine region_anyL (HeldP w1.heap.size (.slice aj nj cj) w.heap.size (.slice (some ⟨b, off, none⟩) n cap) b (off + i * 2) fin va) 14 (by kernel_rfl) ?_
        refine anyL_take (i := 0) (v := ?v0_1) at0 (by kernel_rfl) (by kernel_rfl) (by kernel_rfl) (by kernel_rfl) (fun _ _ _ h => h) rfl ?y0_1 HSD ?r0_1
        case y0_1 => intro wx hx; obtain ⟨h0, h1, h2, h3⟩ := hx; go_simp; try (with_reducible rfl)
        simp only [Act.put, List.setIfInBounds_toArray, List.set_cons_zero, List.set_cons_succ]
        refine anyL_take (i := 1) (v := ?v1_2) (atS at0) (by kernel_rfl) (by kernel_rfl) (by kernel_rfl) (by kernel_rfl) (fun _ _ _ h => h) rfl ?y1_2 HSD ?r1_2
        case y1_2 => intro wx hx; obtain ⟨h0, h1, h2, h3⟩ := hx; go_simp; try (with_reducible rfl)
        simp only [Act.put, List.setIfInBounds_toArray, List.set_cons_zero, List.set_cons_succ]
        refine anyL_take (i := 2) (v := ?v2_3) (atS (atS at0)) (by kernel_rfl) (by kernel_rfl) (by kernel_rfl) (by kernel_rfl) (fun _ _ _ h => h) rfl ?y2_3 HSD ?r2_3
        case y2_3 => intro wx hx; obtain ⟨h0, h1, h2, h3⟩ := hx; go_simp; try (with_reducible rfl)
        simp only [Act.put, List.setIfInBounds_toArray, List.set_cons_zero, List.set_cons_succ]
        refine anyL_take (i := 3) (v := ?v3_4) (atS (atS (atS at0))) (by kernel_rfl) (by kernel_rfl) (by kernel_rfl) (by kernel_rfl) (fun _ _ _ h => h) rfl ?y3_4 HSD ?r3_4
        case y3_4 => intro wx hx; obtain ⟨h0, h1, h2, h3⟩ := hx; go_simp; try (with_reducible rfl)
        simp only [Act.put, List.setIfInBounds_toArray, List.set_cons_zero, List.set_cons_succ]
        refine anyL_take (i := 4) (v := ?v4_5) (atS (atS (atS (atS at0)))) (by kernel_rfl) (by kernel_rfl) (by kernel_rfl) (by kernel_rfl) (fun _ _ _ h => h) rfl ?y4_5 HSD ?r4_5
        case y4_5 => intro wx hx; obtain ⟨h0, h1, h2, h3⟩ := hx; go_simp; try (with_reducible rfl)
        simp only [Act.put, List.setIfInBounds_toArray, List.set_cons_zero, List.set_cons_succ]
        refine anyL_take (i := 5) (v := ?v5_6) (atS (atS (atS (atS (atS at0))))) (by kernel_rfl) (by kernel_rfl) (by kernel_rfl) (by kernel_rfl) (fun _ _ _ h => h) rfl ?y5_6 HSD ?r5_6
        case y5_6 => intro wx hx; obtain ⟨h0, h1, h2, h3⟩ := hx; go_simp; try (with_reducible rfl)
        simp only [Act.put, List.setIfInBounds_toArray, List.set_cons_zero, List.set_cons_succ]
        refine anyL_take (i := 6) (v := ?v6_7) (atS (atS (atS (atS (atS (atS at0)))))) (by kernel_rfl) (by kernel_rfl) (by kernel_rfl) (by kernel_rfl) (fun _ _ _ h => h) rfl ?y6_7 HSD ?r6_7
        case y6_7 => intro wx hx; obtain ⟨h0, h1, h2, h3⟩ := hx; go_simp; try (with_reducible rfl)
        simp only [Act.put, List.setIfInBounds_toArray, List.set_cons_zero, List.set_cons_succ]
        refine anyL_take (i := 7) (v := ?v7_8) (atS (atS (atS (atS (atS (atS (atS at0))))))) (by kernel_rfl) (by kernel_rfl) (by kernel_rfl) (by kernel_rfl) (fun _ _ _ h => h) rfl ?y7_8 HSD ?r7_8
        case y7_8 => intro wx hx; obtain ⟨h0, h1, h2, h3⟩ := hx; go_simp; try (with_reducible rfl)
        simp only [Act.put, List.setIfInBounds_toArray, List.set_cons_zero, List.set_cons_succ]
        refine anyL_take (i := 8) (v := ?v8_9) (atS (atS (atS (atS (atS (atS (atS (atS at0)))))))) (by kernel_rfl) (by kernel_rfl) (by kernel_rfl) (by kernel_rfl) (fun _ _ _ h => h) rfl ?y8_9 HSD ?r8_9
        case y8_9 => intro wx hx; obtain ⟨h0, h1, h2, h3⟩ := hx; go_simp; try (with_reducible rfl)
        simp only [Act.put, List.setIfInBounds_toArray, List.set_cons_zero, List.set_cons_succ]
        refine anyL_take (i := 9) (v := ?v9_10) (atS (atS (atS (atS (atS (atS (atS (atS (atS at0))))))))) (by kernel_rfl) (by kernel_rfl) (by kernel_rfl) (by kernel_rfl) (fun _ _ _ h => h) rfl ?y9_10 HSD ?r9_10
        case y9_10 => intro wx hx; obtain ⟨h0, h1, h2, h3⟩ := hx; go_simp; try (with_reducible rfl)
        simp only [Act.put, List.setIfInBounds_toArray, List.set_cons_zero, List.set_cons_succ]
        refine anyL_take (i := 10) (v := ?v10_11) (atS (atS (atS (atS (atS (atS (atS (atS (atS (atS at0)))))))))) (by kernel_rfl) (by kernel_rfl) (by kernel_rfl) (by kernel_rfl) (fun _ _ _ h => h) rfl ?y10_11 HSD ?r10_11
        case y10_11 => intro wx hx; obtain ⟨h0, h1, h2, h3⟩ := hx; go_simp; try (with_reducible rfl)
        simp only [Act.put, List.setIfInBounds_toArray, List.set_cons_zero, List.set_cons_succ]
        refine anyL_one (i := 11) (atS (atS (atS (atS (atS (atS (atS (atS (atS (atS (atS at0))))))))))) (by kernel_rfl) rfl (fun K hK => ?_)
        go_simp
        refine hK _ _ (.inr HSA) ?_
        try simp only [Act.put, List.setIfInBounds_toArray, List.set_cons_zero, List.set_cons_succ]
        refine anyL_one (i := 12) (atS (atS (atS (atS (atS (atS (atS (atS (atS (atS (atS (atS at0)))))))))))) (by kernel_rfl) rfl (fun K hK => ?_)
        refine wp_append_run (.tmp 34) (.tmp 44) 42 rfl rfl rfl R4.out ?_
        refine hK _ _ (.inr HSG) ?_
        try simp only [Act.put, List.setIfInBounds_toArray, List.set_cons_zero, List.set_cons_succ]
        refine anyL_one (i := 13) (atS (atS (atS (atS (atS (atS (atS (atS (atS (atS (atS (atS (atS at0))))))))))))) (by kernel_rfl) rfl (fun K hK => ?_)
        go_simp
        refine hK _ _ (.inr HSG) ?_
        try simp only [Act.put, List.setIfInBounds_toArray, List.set_cons_zero, List.set_cons_succ]
        refine anyL_one (i := 14) (atS (atS (atS (atS (atS (atS (atS (atS (atS (atS (atS (atS (atS (atS at0)))))))))))))) (by kernel_rfl) rfl (fun K hK => ?_)
        go_simp
        refine hK _ _ (.inl rfl) (anyL_done (by kernel_rfl) (NoPanic.normal ?_))
        try simp only [Act.put, List.setIfInBounds_toArray, List.set_cons_zero, List.set_cons_succ]
        clear HSD HSA HSG
        go_wp2
        go_roundw
        case rel => exact ⟨i + 1, _, _, _, by go_num, by omega, HS4.out.set 1 _, by rw [HFi.out]; exact ownsRow_setCell_below HO4.out (a := ⟨w1.heap.size, 1, none⟩) (Nat.lt_succ_self _) _, HB4.out.setCell (p := ⟨w1.heap.size, 1, none⟩) (Nat.le_refl _) _⟩
        case measure => simp [intOf]; omega
    · have hin' : ¬ (i : Int) < (n : Int) := by omega
      obtain rfl : n = i := by omega
      have hs1 := hs.out.cell 0 (v := .int .i64 1000000001) rfl
      have hs2 := hs.out.cell 1 (v := .slice aj nj cj) rfl
      go_wp2
      obtain ⟨w2, rfl⟩ : ∃ w2, w2 = wr := ⟨_, rfl⟩
      have HOM : Hid (OwnSts ((w2.alloc (.cells #[.int .i64 1000000001, .slice aj nj cj] 44)).alloc (.cells #[.int .i64 0, .slice (some ⟨w2.heap.size, 0, none⟩) 1 1] 24)) w1.heap.size (.slice (some ⟨w2.heap.size, 0, none⟩) 1 1) (TT 0)) := by
        rw [← HT0.out]
        exact (OwnSts.one (f := 1000000001) (hoa.out.mono (Nat.le_succ _)) hsr).laterB ((Below.refl _ _).alloc (Nat.le_refl _) _)
      have HMM : Hid (Blk ((w2.alloc (.cells #[.int .i64 1000000001, .slice aj nj cj] 44)).alloc (.cells #[.int .i64 0, .slice (some ⟨w2.heap.size, 0, none⟩) 1 1] 24)) (w2.heap.size + 1) #[.int .i64 0, .slice (some ⟨w2.heap.size, 0, none⟩) 1 1] 24) := by
        have := Blk.made (w2.alloc (.cells #[.int .i64 1000000001, .slice aj nj cj] 44)) #[.int .i64 0, .slice (some ⟨w2.heap.size, 0, none⟩) 1 1] 24
        rwa [World.size_alloc] at this
      have HBM : Hid (Below w1.heap.size w1 ((w2.alloc (.cells #[.int .i64 1000000001, .slice aj nj cj] 44)).alloc (.cells #[.int .i64 0, .slice (some ⟨w2.heap.size, 0, none⟩) 1 1] 24))) := (hb.out.alloc hsr _).alloc (by simp; omega) _
      clear hs hoa hb KSr d1 HBw hmlt hs1 hs2 HLJ hin' hin hi
      go_loopw [8] (fun s6 wr => ∃ (i : Nat) (av : Option Addr) (cv : Nat), s6 = .int .i64 i ∧ i ≤ n ∧ Hid (Blk wr (w2.heap.size + 1) #[.int .i64 0, .slice av (i + 1) cv] 24) ∧ Hid (OwnSts wr w1.heap.size (.slice av (i + 1) cv) (TT i)) ∧ Hid (Below w1.heap.size w1 wr)) (fun s6 _ => n - (intOf s6).toNat)
      case atStart => exact ⟨0, _, _, by go_num, Nat.zero_le _, HMM, HOM, HBM⟩
      case round =>
        obtain ⟨i, av, cv, rfl, hi, hm, ho, hb⟩ := hrel
        clear HOM HMM HBM
        have KSr := hidP (KS.out.below hb.out KS.out.lt)
        have d0 := KSr.out.cell 0 (v := .int .i64 z) rfl
        have d1 := KSr.out.cell 1 (v := .slice a n cap) rfl
        have HBw := hidP (HB1.out.trans (hb.out.mono HB1.out.size))
        have hsr := hb.out.size
        have hmlt := hm.out.lt
        by_cases hin : i < n
        · have hin' : (i : Int) < (n : Int) := by omega
          have hi0 : (0 : Int) ≤ (i : Int) := by omega
          have HTi := hidP (HTS.out i)
          have HLn := hidP (HTL.out i)
          have HCI : Hid (Calls Try.prog 31 #[.agg #[.int .i64 z, .slice a n cap], .int .i64 (i : Int)] wr fun e w' => ∃ v, e = .returned v ∧ OwnArcs w' wr.heap.size v (intoL l i l.length) ∧ Below wr.heap.size wr w') := into_any z l _ i wr (HM.out.later (B := w.heap.size) HBw.out (Nat.le_refl _)) HR.out
          rw [HN.out] at HCI
          generalize intoL l i n = NL at *
          generalize TT i = Lst at *
          generalize hLn : i + 1 = Ln at *
          have HLN := hidP hLn
          clear hLn
          by_cases hz : (i : Int) = z
          · have hz' : ((i : Int) == z) = true := by simpa using hz
            rw [if_pos hz] at HTi
            clear hz
            go_wp2_with (first
              | (go_at_call 31; (with_reducible refine HCI.out.mono ?_); rintro e w5 ⟨v5, rfl, ho5, hb5⟩; obtain ⟨a5, n5, c5, hv5, HL5⟩ := ho5.slN; subst hv5; have hs5 := hb5.size; have KS5 := hidP (KSr.out.below hb5 KSr.out.lt); have hm5 := hm.out.below hb5 hmlt; have k0 := (KS5.out.alloc (.cells #[.int .i64 1000000001, .slice a5 n5 c5] 44)).cell 0 (v := .int .i64 z) rfl; have kf := (Blk.made w5 #[.int .i64 1000000001, .slice a5 n5 c5] 44).fz 0; have ho6 := ho5.later ((Below.refl _ _).alloc (Nat.le_refl _) (.cells #[.int .i64 0, .slice a5 n5 c5] 44)); have hb6' : Below wr.heap.size wr (w5.alloc (.cells #[.int .i64 0, .slice a5 n5 c5] 44)) := hb5.alloc hb5.size _; have hm6 := hm5.alloc (.cells #[.int .i64 0, .slice a5 n5 c5] 44); have s0 := (Blk.made w5 #[.int .i64 0, .slice a5 n5 c5] 44).cell 0 (v := .int .i64 0) rfl; have s1' := (Blk.made w5 #[.int .i64 0, .slice a5 n5 c5] 44).cell 1 (v := .slice a5 n5 c5) rfl; have hm61 := hm6.cell 1 (v := .slice av Ln cv) rfl; obtain ⟨a6, c6, w6, hr6, hM6, hb6, hO7, hM7, hb7⟩ := push_step (w5 := w5.alloc (.cells #[.int .i64 0, .slice a5 n5 c5] 44)) (B := w1.heap.size) (Mb := w2.heap.size + 1) (0, NL) (ho.out.laterB hb6') (ho6.mono (by omega)) hm6 (by rw [World.size_alloc]; omega) (by omega) (by have := HLn.out; have := HLN.out; omega); rw [HLn.out] at hr6 hO7 hM7 hb7; simp only [World.size_alloc] at hr6; have R6 := hidP hr6; have f6 := hM6.fz 1; have c6' := hM6.cell 1 (v := .slice av Ln cv) rfl; have HO7 := hidP hO7; have HM7 := hidP hM7; have HB7 := hidP ((hb.out.trans (hb6'.mono hsr)).trans hb7); clear hr6 hM6 hb6 hO7 hM7 hb7 ho5 hb5 hm5 hm6 ho6 hb6')
              | (at_builtin; refine wpListAppendRun rfl _ _ 22 rfl rfl rfl R6.out ?_; clear R6))
            go_roundw
            case rel => have hLn := HLN.out; subst hLn; exact ⟨i + 1, a6, c6, by go_num, by omega, HM7, by rw [HTi.out]; exact HO7, HB7⟩
            case measure => simp [intOf]; omega
          · have hz' : ((i : Int) == z) = false := by simpa using hz
            rw [if_neg hz] at HTi
            clear hz
            go_wp2_with (first
              | (go_at_call 31; (with_reducible refine HCI.out.mono ?_); rintro e w5 ⟨v5, rfl, ho5, hb5⟩; obtain ⟨a5, n5, c5, hv5, HL5⟩ := ho5.slN; subst hv5; have hs5 := hb5.size; have KS5 := hidP (KSr.out.below hb5 KSr.out.lt); have hm5 := hm.out.below hb5 hmlt; have k0 := (KS5.out.alloc (.cells #[.int .i64 1000000001, .slice a5 n5 c5] 44)).cell 0 (v := .int .i64 z) rfl; have kf := (Blk.made w5 #[.int .i64 1000000001, .slice a5 n5 c5] 44).fz 0; have ho6 := ho5.later ((Below.refl _ _).alloc (Nat.le_refl _) (.cells #[.int .i64 1000000001, .slice a5 n5 c5] 44)); have hb6' : Below wr.heap.size wr (w5.alloc (.cells #[.int .i64 1000000001, .slice a5 n5 c5] 44)) := hb5.alloc hb5.size _; have hm6 := hm5.alloc (.cells #[.int .i64 1000000001, .slice a5 n5 c5] 44); have s0 := (Blk.made w5 #[.int .i64 1000000001, .slice a5 n5 c5] 44).cell 0 (v := .int .i64 1000000001) rfl; have s1' := (Blk.made w5 #[.int .i64 1000000001, .slice a5 n5 c5] 44).cell 1 (v := .slice a5 n5 c5) rfl; have hm61 := hm6.cell 1 (v := .slice av Ln cv) rfl; obtain ⟨a6, c6, w6, hr6, hM6, hb6, hO7, hM7, hb7⟩ := push_step (w5 := w5.alloc (.cells #[.int .i64 1000000001, .slice a5 n5 c5] 44)) (B := w1.heap.size) (Mb := w2.heap.size + 1) (1000000001, NL) (ho.out.laterB hb6') (ho6.mono (by omega)) hm6 (by rw [World.size_alloc]; omega) (by omega) (by have := HLn.out; have := HLN.out; omega); rw [HLn.out] at hr6 hO7 hM7 hb7; simp only [World.size_alloc] at hr6; have R6 := hidP hr6; have f6 := hM6.fz 1; have c6' := hM6.cell 1 (v := .slice av Ln cv) rfl; have HO7 := hidP hO7; have HM7 := hidP hM7; have HB7 := hidP ((hb.out.trans (hb6'.mono hsr)).trans hb7); clear hr6 hM6 hb6 hO7 hM7 hb7 ho5 hb5 hm5 hm6 ho6 hb6')
              | (at_builtin; refine wpListAppendRun rfl _ _ 22 rfl rfl rfl R6.out ?_; clear R6))
            go_roundw
            case rel => have hLn := HLN.out; subst hLn; exact ⟨i + 1, a6, c6, by go_num, by omega, HM7, by rw [HTi.out]; exact HO7, HB7⟩
            case measure => simp [intOf]; omega
        · have hin' : ¬ (i : Int) < (n : Int) := by omega
          obtain rfl : i = n := by omega
          have HLn := HTL.out i
          rw [HTN.out] at ho HLn
          have m0 := hm.out.cell 0 (v := .int .i64 0) rfl
          have m1 := hm.out.cell 1 (v := .slice av (i + 1) cv) rfl
          have KRr := hidP (KR.out.below hb.out KR.out.lt)
          have hkr := KR.out.lt
          have HFT : Hid (∀ W, OwnSts W w1.heap.size (.slice av (i + 1) cv) (revM (z, l)).2 → Calls Try.prog 32 #[.agg #[.int .i64 0, .slice av (i + 1) cv]] W fun e w' => e = .returned (.tuple #[fitV (revM (z, l)) (.agg #[.int .i64 0, .slice av (i + 1) cv]), .int .i64 (fitE (revM (z, l)))]) ∧ Below W.heap.size W w') := fun W hW => fits_any _ (0, (revM (z, l)).2) W ⟨_, rfl, hW.sts⟩ HOKS.out
          have HFV : Hid (∃ x0 x1, fitV (revM (z, l)) (.agg #[.int .i64 0, .slice av (i + 1) cv]) = .agg #[.int .i64 x0, x1] ∧ (∃ a9 n9 c9, x1 = .slice a9 n9 c9) ∧ ∀ W, OwnSts W w1.heap.size (.slice av (i + 1) cv) (revM (z, l)).2 → Mach W (.agg #[.int .i64 x0, x1]) (fitM (revM (z, l)))) := by
            unfold fitV fitM
            by_cases hsz : sizeB (revM (z, l)) = true
            · rw [if_pos hsz, if_pos hsz]
              exact ⟨0, _, rfl, ⟨_, _, _, rfl⟩, fun W hW => ⟨_, rfl, hW.sts⟩⟩
            · rw [if_neg hsz, if_neg hsz]
              exact ⟨0, _, rfl, ⟨_, _, _, rfl⟩, fun W hW => mach_zeroR W⟩
          obtain ⟨x0, x1, hfv, ⟨a9, n9, c9, rfl⟩, hMF⟩ := HFV.out
          rw [hfv] at HFT
          have HMF := hidP hMF
          clear hfv hMF HFV HLn HTL HTS HT0
          obtain ⟨fe, hfee⟩ : ∃ fe, fitE (revM (z, l)) = fe := ⟨_, rfl⟩
          rw [hfee] at HFT
          have HFE := hidP hfee
          clear hfee
          go_wp2_with (first
            | (go_at_call 32; (with_reducible refine (HFT.out _ ho.out).mono ?_); rintro e w8 ⟨rfl, hb8⟩; have HO8 := hidP (ho.out.laterB hb8); have HB8 := hidP (HBw.out.trans (hb8.mono HBw.out.size)); have KR8 := hidP ((KRr.out.below hb8 KRr.out.lt).alloc (.cells #[.int .i64 x0, .slice a9 n9 c9] 24)); have q0 := KR8.out.cell 0 (v := .int .i64 0) rfl; have q1 := KR8.out.cell 1 (v := .slice none 0 0) rfl; have g0 := KR8.out.fz 0; have g1 := KR8.out.fz 1; clear hb8))
          have HO9 := HO8.out.laterB ((Below.refl _ _).alloc (Nat.le_refl _) (.cells #[.int .i64 x0, .slice a9 n9 c9] 24))
          exact bodyPost_ret (res_rev _ _ (w.heap.size + 1) fe _ _ ((KR8.out.set 0 (.int .i64 x0)).set 1 (.slice a9 n9 c9)) rfl rfl) rfl ⟨_, by rw [HFE.out], HMF.out _ ((HO9.setCell (a := ⟨w.heap.size + 1, 0, none⟩) hkr _).setCell (a := ⟨w.heap.size + 1, 1, none⟩) hkr _), ((HB8.out.alloc HB8.out.size _).setCell (Nat.le_succ _) _).setCell (Nat.le_succ _) _⟩
theorem reversed_any (v : Value) (m : Mc) (w : World) (h : Mach w v m) (hok : okM m) :
    Calls Try.prog 16 #[v] w fun e w' => RatRes (ratM m (-1, []) (revM m)) (ratE m (-1, []) (revM m)) w e w' := by
  by_cases h0 : faultM m = 0
  · have e1 : ratM m (-1, []) (revM m) = fitM (revM m) := by unfold ratM; rw [if_neg (by simp [h0]), if_neg (by decide)]
    have e2 : ratE m (-1, []) (revM m) = fitE (revM m) := by unfold ratE; rw [if_neg (by simp [h0]), if_neg (by decide)]
    rw [e1, e2]
    obtain ⟨z, l⟩ := m
    obtain ⟨vs, rfl, hS⟩ := id h
    exact reversed_ok z l vs w h hok h0
  · have e1 : ratM m (-1, []) (revM m) = (0, []) := by unfold ratM; rw [if_pos h0]
    have e2 : ratE m (-1, []) (revM m) = faultM m := by unfold ratE; rw [if_pos h0]
    rw [e1, e2]
    exact reversed_bad v m w h hok h0
end Go.Proofs.Ytfffelgmgghldaa.Wt
