/- The reference: again and again. -/
import Derived.Test.YtfajkomajbhphaaRb
namespace Go.Proofs.Ytfajkomajbhphaa.Wt
open Go.ChangeShapes Go.WideShapes Go.ChangeAt Go.RowKit
open Go.Proofs.Ytfajkomajbhphaa.Pl
set_option linter.unusedVariables false
set_option linter.unusedSimpArgs false
theorem res_sta (tm : Array Value) (W : World) (R : Nat) (ec : Int) (x0 x1 : Value) (hB : Blk W R #[x0, x1] 24) (h2 : tm.getD 2 undef = .pointer (some ⟨R, 0, none⟩)) (h3 : tm.getD 3 undef = .int .i64 ec) : (results Try.f16 tm).run Try.prog W = .ok (.tuple #[.agg #[x0, x1], .int .i64 ec]) W := by
  have c0 := hB.cell 0 (v := x0) rfl
  have c1 := hB.cell 1 (v := x1) rfl
  simp only [Array.getD_eq_getD_getElem?] at h2 h3
  simp [results, Try.results16, go_sem, h2, h3, c0, c1]
set_option maxRecDepth 100000 in
theorem starred_bad (v : Value) (m : Mc) (w : World) (h : Mach w v m) (hok : okM m) (h0 : faultM m ≠ 0) :
    Calls Try.prog 16 #[v] w fun e w' => RatRes (0, []) (faultM m) w e w' := by
  obtain ⟨z, l⟩ := m
  obtain ⟨r, hr⟩ : ∃ r, faultM (z, l) = r := ⟨_, rfl⟩
  have HM : Hid (Mach w v (z, l)) := h
  have HK : Hid (okM (z, l)) := hok
  have HR : Hid (faultM (z, l) = r) := hr
  have h0' : (r != 0) = true := bne_iff_ne.2 (by rw [← hr]; exact h0)
  obtain ⟨vs, rfl, hS⟩ := h
  obtain ⟨a, cap, rfl⟩ := hS.sl
  rw [hr]
  clear hS hok hr h0
  go_enter Try.func16, Try.ntmps16
  go_wp2_with (first
    | (go_at_call 27; (with_reducible refine (fault_any _ (z, l) _ (HM.out.later (B := w.heap.size) (by go_grown) (Nat.le_refl _)) HK.out r HR.out).mono ?_); rintro e w1 ⟨rfl, hb⟩; obtain ⟨s1, b1, b2, hb1⟩ := boxedTwo hb (by simp); have HB1 : Hid (Below w.heap.size w w1) := hb1; have KR := hidP b2; have e0 := b2.cell 0 (v := .int .i64 0) rfl; have e1 := b2.cell 1 (v := .slice none 0 0) rfl; have g0 := b2.fz 0; have g1 := b2.fz 1; clear b1 b2 hb1 hb))
  exact bodyPost_ret (res_sta _ _ (w.heap.size + 1) r _ _ ((KR.out.set 0 (.int .i64 0)).set 1 (.slice none 0 0)) rfl rfl) rfl ⟨_, rfl, mach_zeroR _, (HB1.out.setCell (Nat.le_succ _) _).setCell (Nat.le_succ _) _⟩
set_option maxRecDepth 100000 in
set_option maxHeartbeats 1600000 in
theorem starred_ok (z : Int) (l : List St) (vs : Value) (w : World) (h : Mach w (.agg #[.int .i64 z, vs]) (z, l)) (hok : okM (z, l)) (hr : faultM (z, l) = 0) :
    Calls Try.prog 16 #[.agg #[.int .i64 z, vs]] w fun e w' => RatRes (fitM (staM (z, l))) (fitE (staM (z, l))) w e w' := by
  have HM : Hid (Mach w (.agg #[.int .i64 z, vs]) (z, l)) := h
  have HK : Hid (okM (z, l)) := hok
  have HR : Hid (faultM (z, l) = 0) := hr
  obtain ⟨⟨hz1, hz2⟩, hst⟩ := right_parts hr
  have h60 := (right_size hr).1
  have h400 := (right_size hr).2
  simp only at hz1 hz2 hst h60 h400
  obtain ⟨vs', hvs, hS⟩ := h
  simp only [Value.agg.injEq, Array.mk.injEq, List.cons.injEq, and_true, true_and] at hvs
  subst hvs
  obtain ⟨a, cap, rfl, hc⟩ := hS.get
  have HC : Hid (∀ j, j < l.length → ∃ b off va, a = some ⟨b, off, none⟩ ∧ b < w.heap.size ∧ w.cell? ⟨b, off + j * 2, none⟩ = some (.int .i64 (el l j).1) ∧ w.cell? ⟨b, off + j * 2 + 1, none⟩ = some va ∧ Arcs w va (el l j).2) := hc
  have HST : Hid (∀ j, j < l.length → finB (el l j).1 = true ∧ (el l j).2.length ≤ 400 ∧ ∀ p ∈ (el l j).2, 0 ≤ p.2.2.2 ∧ p.2.2.2 ≤ 1000) := fun j hj => by
    have h1 := arcN_take hj
    have h2 := arcN_takeR l (j + 1)
    have h3 := hst (el l j) (el_mem hj)
    refine ⟨stB_fin h3, by omega, fun p hp => ?_⟩
    simp only [stB, Bool.and_eq_true, List.all_eq_true] at h3
    have h4 := h3.2 p hp
    simp only [arcB, inB, Bool.and_eq_true, decide_eq_true_eq] at h4
    omega
  have HT0 : Hid ([(0, hopA z 1 0)] = (0, hopA z 1 0) :: (l.take 0).map (fun s => shS 1 1000000001 (endA s.1 0 0) s)) := by show _ = _; simp
  have HTS : Hid (∀ j, j < l.length → (0, hopA z 1 0) :: (l.take (j + 1)).map (fun s => shS 1 1000000001 (endA s.1 0 0) s) = (0, hopA z 1 0) :: (l.take j).map (fun s => shS 1 1000000001 (endA s.1 0 0) s) ++ [(1000000001, (el l j).2.map (shA 1) ++ endA (el l j).1 0 0)]) := fun j hj => by rw [take_el hj]; simp [shS]
  have HTL : Hid (∀ j, j ≤ l.length → ((0, hopA z 1 0) :: (l.take j).map (fun s => shS 1 1000000001 (endA s.1 0 0) s)).length = j + 1) := fun j hj => by simp; omega
  have HTN : Hid ((0, hopA z 1 0) :: (l.take l.length).map (fun s => shS 1 1000000001 (endA s.1 0 0) s) = (staM (z, l)).2) := by show _ = _; rw [List.take_length]; rfl
  have HOKS : Hid (okM (0, (staM (z, l)).2)) := by
    have h5 := staM_len (z, l)
    have h6 := staM_arcs (z, l)
    simp only at h5 h6
    refine ⟨by simp only; omega, fun j hj => ?_⟩
    simp only at hj ⊢
    have h1 := arcN_take hj
    have h2 := arcN_takeR (staM (z, l)).2 (j + 1)
    omega
  have HF0 : Hid (fitE (0, (staM (z, l)).2) = fitE (staM (z, l)) ∧ fitM (0, (staM (z, l)).2) = fitM (staM (z, l))) := ⟨rfl, rfl⟩
  have HBX : Hid (Below w.heap.size w w) := Below.refl _ _
  clear hS hc hr hok hst
  generalize hn : l.length = n at *
  have HN : Hid (l.length = n) := hn
  clear hn
  obtain ⟨TT, hTT⟩ : ∃ TT : Nat → List St, ∀ j, (0, hopA z 1 0) :: (l.take j).map (fun s => shS 1 1000000001 (endA s.1 0 0) s) = TT j := ⟨_, fun _ => rfl⟩
  simp only [hTT] at HT0 HTS HTL HTN
  clear hTT
  go_enter Try.func16, Try.ntmps16
  go_wp2_with (first
    | (go_at_call 27; (with_reducible refine (fault_any _ (z, l) _ (HM.out.later (B := w.heap.size) (by go_grown) (Nat.le_refl _)) HK.out 0 HR.out).mono ?_); rintro e w1 ⟨rfl, hb⟩; obtain ⟨s1, b1, b2, hb1⟩ := boxedTwo hb (by simp); have HB1 : Hid (Below w.heap.size w w1) := hb1; have KS := hidP b1; have KR := hidP b2; have e0 := b1.cell 0 (v := .int .i64 z) rfl; clear b1 b2 hb1 hb)
    | (go_at_call 28; (with_reducible refine (hops_any _ _ _ _ (by omega) (by omega)).mono ?_); rintro e w2 ⟨v2, rfl, ho2, hb2⟩; obtain ⟨a2, c2, hv2⟩ := ho2.sl; subst hv2; generalize hh : (hopA z 1 0).length = hl at *; have HO2 := hidP ho2; have hs2 := hb2.size; have HB2 := hidP hb2; clear ho2 hb2))
  have HOM : Hid (OwnSts ((w2.alloc (.cells #[.int .i64 0, .slice a2 hl c2] 44)).alloc (.cells #[.int .i64 0, .slice (some ⟨w2.heap.size, 0, none⟩) 1 1] 24)) w1.heap.size (.slice (some ⟨w2.heap.size, 0, none⟩) 1 1) (TT 0)) := by
    rw [← HT0.out]
    exact (OwnSts.one (f := 0) HO2.out hs2).laterB ((Below.refl _ _).alloc (Nat.le_refl _) _)
  have HMM : Hid (Blk ((w2.alloc (.cells #[.int .i64 0, .slice a2 hl c2] 44)).alloc (.cells #[.int .i64 0, .slice (some ⟨w2.heap.size, 0, none⟩) 1 1] 24)) (w2.heap.size + 1) #[.int .i64 0, .slice (some ⟨w2.heap.size, 0, none⟩) 1 1] 24) := by
    have := Blk.made (w2.alloc (.cells #[.int .i64 0, .slice a2 hl c2] 44)) #[.int .i64 0, .slice (some ⟨w2.heap.size, 0, none⟩) 1 1] 24
    rwa [World.size_alloc] at this
  have HBM : Hid (Below w1.heap.size w1 ((w2.alloc (.cells #[.int .i64 0, .slice a2 hl c2] 44)).alloc (.cells #[.int .i64 0, .slice (some ⟨w2.heap.size, 0, none⟩) 1 1] 24))) := (HB2.out.alloc hs2 _).alloc (by simp; omega) _
  go_loopw [6] (fun s6 wr => ∃ (i : Nat) (av : Option Addr) (cv : Nat), s6 = .int .i64 i ∧ i ≤ n ∧ Hid (Blk wr (w2.heap.size + 1) #[.int .i64 0, .slice av (i + 1) cv] 24) ∧ Hid (OwnSts wr w1.heap.size (.slice av (i + 1) cv) (TT i)) ∧ Hid (Below w1.heap.size w1 wr)) (fun s6 _ => n - (intOf s6).toNat)
  case atStart => exact ⟨0, _, _, by go_num, Nat.zero_le _, HMM, HOM, HBM⟩
  case round =>
    obtain ⟨i, av, cv, rfl, hi, hm, ho, hb⟩ := hrel
    clear HOM HMM HBM
    have KSr := hidP (KS.out.below hb.out KS.out.lt)
    have d1 := KSr.out.cell 1 (v := .slice a n cap) rfl
    have HBw := hidP (HB1.out.trans (hb.out.mono HB1.out.size))
    have hsr := hb.out.size
    have hmlt := hm.out.lt
    by_cases hin : i < n
    · have hin' : (i : Int) < (n : Int) := by omega
      have hi0 : (0 : Int) ≤ (i : Int) := by omega
      obtain ⟨b, off, va, rfl, hbl, y0, y1, gA⟩ := HC.out i hin
      obtain ⟨hfin, hal, hto⟩ := HST.out i hin
      have HTi : Hid (TT (i + 1) = TT i ++ [(1000000001, (el l i).2.map (shA 1) ++ endA (el l i).1 0 0)]) := HTS.out i hin
      have HLn : Hid ((TT i).length = i + 1) := HTL.out i hi
      have x0 : ∀ W, Below w.heap.size w W → W.cell? ⟨b, off + i * 2, none⟩ = some (.int .i64 (el l i).1) := fun W hW => (hW.cell (p := ⟨b, off + i * 2, none⟩) hbl).trans y0
      have x1 : ∀ W, Below w.heap.size w W → W.cell? ⟨b, off + i * 2 + 1, none⟩ = some va := fun W hW => (hW.cell (p := ⟨b, off + i * 2 + 1, none⟩) hbl).trans y1
      obtain ⟨a2, cap2, hva, _⟩ := gA.get
      subst hva
      have HGA : Hid (∀ W, Below w.heap.size w W → Arcs W (.slice a2 (el l i).2.length cap2) (el l i).2) := fun W hW => gA.later hW (Nat.le_refl _)
      have HTO := hidP hto
      have hfe : (el l i).1 ≠ 1000000001 → 0 ≤ (el l i).1 ∧ (el l i).1 ≤ 1000000000 := fun g => by
        simp [finB, inB] at hfin
        omega
      clear gA hto hfin y0 y1
      generalize (el l i).1 = fin at *
      generalize (el l i).2 = ar at *
      generalize TT i = Lst at *
      generalize hLn : i + 1 = Ln at *
      have z0 := x0 _ HBw.out
      have z1 := x1 _ HBw.out
      obtain ⟨va, hva⟩ : ∃ va, Value.slice a2 ar.length cap2 = va := ⟨_, rfl⟩
      rw [hva] at z1 x1
      by_cases hf : fin = 1000000001
      · have hf' : (fin != 1000000001) = false := by simpa using hf
        have hE : endA fin 0 0 = [] := by unfold endA; rw [if_pos hf]
        rw [hE] at HTi
        clear hE hf hfe
        obtain ⟨NL, hNL⟩ : ∃ NL, ar.map (shA 1) ++ [] = NL := ⟨_, rfl⟩
        rw [hNL] at HTi
        have FSh : Hid (∀ W, Below wr.heap.size wr W → Calls Try.prog 29 #[.agg #[.int .i64 fin, va], .int .i64 1, .int .i64 1000000001, Value.slice none 0 0] W fun e w' => ∃ v, e = .returned (.agg #[.int .i64 1000000001, v]) ∧ OwnArcs w' W.heap.size v NL ∧ Below W.heap.size W w') := fun W hq => by
          have hW := HBw.out.trans (hq.mono HBw.out.size)
          rw [← hva, ← hNL]
          exact shifted_any fin 1 1000000001 a2 none cap2 0 ar [] W (HGA.out W hW) (OwnArcs.nil W 0).arcs hal (by simp) (by omega) HTO.out
        have HMq := hm
        have HOq := ho
        have HBq := hb
        have HSq := KSr
        clear hNL hva
        have HSD := HeldP.mk' (W := wr.drew) HMq.out HSq.out (x0 _ HBw.out.drew) (x1 _ HBw.out.drew)
        go_wp2
        refine region_anyL (HeldP (w2.heap.size + 1) (.slice av Ln cv) (w.heap.size) (.slice (some ⟨b, off, none⟩) n cap) b (off + i * 2) fin va) 12 (by kernel_rfl) ?_
        refine anyL_take (i := 0) (v := ?v0_1) at0 (by kernel_rfl) (by kernel_rfl) (by kernel_rfl) (by kernel_rfl) (fun _ _ _ h => h) rfl ?y0_1 HSD ?r0_1
        case y0_1 => intro wx hx; obtain ⟨h0, h1, h2, h3⟩ := hx; go_simp; try (with_reducible rfl)
        simp only [Act.put, List.setIfInBounds_toArray, List.set_cons_zero, List.set_cons_succ]
        refine anyL_take (i := 1) (v := ?v1_2) (atS at0) (by kernel_rfl) (by kernel_rfl) (by kernel_rfl) (by kernel_rfl) (fun _ _ _ h => h) rfl ?y1_2 HSD ?r1_2
        case y1_2 => intro wx hx; obtain ⟨h0, h1, h2, h3⟩ := hx; go_simp; try (with_reducible rfl)
        simp only [Act.put, List.setIfInBounds_toArray, List.set_cons_zero, List.set_cons_succ]
        refine anyL_take (i := 2) (v := ?v2_3) (atS (atS at0)) (by kernel_rfl) (by kernel_rfl) (by kernel_rfl) (by kernel_rfl) (fun _ _ _ h => h) rfl ?y2_3 HSD ?r2_3
        case y2_3 => intro wx hx; obtain ⟨h0, h1, h2, h3⟩ := hx; go_simp; try (with_reducible rfl)
        simp only [Act.put, List.setIfInBounds_toArray, List.set_cons_zero, List.set_cons_succ]
        refine anyL_take (i := 3) (v := ?v3_4) (atS (atS (atS at0))) (by kernel_rfl) (by kernel_rfl) (by kernel_rfl) (by kernel_rfl) (fun _ _ _ h => h) rfl ?y3_4 HSD ?r3_4
        case y3_4 => intro wx hx; obtain ⟨h0, h1, h2, h3⟩ := hx; go_simp; try (with_reducible rfl)
        simp only [Act.put, List.setIfInBounds_toArray, List.set_cons_zero, List.set_cons_succ]
        refine anyL_take (i := 4) (v := ?v4_5) (atS (atS (atS (atS at0)))) (by kernel_rfl) (by kernel_rfl) (by kernel_rfl) (by kernel_rfl) (fun _ _ _ h => h) rfl ?y4_5 HSD ?r4_5
        case y4_5 => intro wx hx; obtain ⟨h0, h1, h2, h3⟩ := hx; go_simp; try (with_reducible rfl)
        simp only [Act.put, List.setIfInBounds_toArray, List.set_cons_zero, List.set_cons_succ]
        refine anyL_take (i := 5) (v := ?v5_6) (atS (atS (atS (atS (atS at0))))) (by kernel_rfl) (by kernel_rfl) (by kernel_rfl) (by kernel_rfl) (fun _ _ _ h => h) rfl ?y5_6 HSD ?r5_6
        case y5_6 => intro wx hx; obtain ⟨h0, h1, h2, h3⟩ := hx; go_simp; try (with_reducible rfl)
        simp only [Act.put, List.setIfInBounds_toArray, List.set_cons_zero, List.set_cons_succ]
        refine anyL_take (i := 6) (v := ?v6_7) (atS (atS (atS (atS (atS (atS at0)))))) (by kernel_rfl) (by kernel_rfl) (by kernel_rfl) (by kernel_rfl) (fun _ _ _ h => h) rfl ?y6_7 HSD ?r6_7
        case y6_7 => intro wx hx; obtain ⟨h0, h1, h2, h3⟩ := hx; go_simp; try (with_reducible rfl)
        simp only [Act.put, List.setIfInBounds_toArray, List.set_cons_zero, List.set_cons_succ]
        refine anyL_take (i := 7) (v := ?v7_8) (atS (atS (atS (atS (atS (atS (atS at0))))))) (by kernel_rfl) (by kernel_rfl) (by kernel_rfl) (by kernel_rfl) (fun _ _ _ h => h) rfl ?y7_8 HSD ?r7_8
        case y7_8 => intro wx hx; obtain ⟨h0, h1, h2, h3⟩ := hx; go_simp; try (with_reducible rfl)
        simp only [Act.put, List.setIfInBounds_toArray, List.set_cons_zero, List.set_cons_succ]
        refine anyL_one (i := 8) (atS (atS (atS (atS (atS (atS (atS (atS at0)))))))) (by kernel_rfl) rfl (fun K hK => ?_)
        go_simp
        with_reducible refine (FSh.out _ (Below.refl _ _).drew).mono ?_
        rintro e1 w5 ⟨v5, rfl, ho5, hb5⟩
        obtain ⟨a5, c5, hv5⟩ := ho5.sl
        subst hv5
        have hb5' : Below wr.heap.size wr w5 := Below.trans (Below.refl _ _).drew hb5
        have hs5 := hb5'.size
        have HM5 := HMq.out.below hb5' HMq.out.lt
        have HS5 := HSq.out.below hb5' HSq.out.lt
        have HBw5 := hidP (HBw.out.trans (hb5'.mono HBw.out.size))
        obtain ⟨a6, c6, w6, hr6, hM6, hb6, hO7, hM7, hb7⟩ := push_step (w5 := w5) (B := w1.heap.size) (Mb := w2.heap.size + 1) (1000000001, NL) (HOq.out.laterB hb5') (ho5.mono (by show _ ≤ wr.heap.size; omega)) HM5 (by omega) (by omega) (by have := HLn.out; omega)
        rw [HLn.out] at hr6 hO7 hM7 hb7
        have HB6 : Below w.heap.size w w6 := HBw5.out.trans (hb6.mono (by omega))
        have HS6 := HS5.below hb6 (by omega)
        have HSA := HeldP.mk' (W := w5.alloc (.cells #[.int .i64 1000000001, .slice a5 NL.length c5] 44)) (HM5.alloc _) (HS5.alloc _) (x0 _ (HBw5.out.alloc HBw5.out.size _)) (x1 _ (HBw5.out.alloc HBw5.out.size _))
        have HSE := HeldP.mk' HM5 HS5 (x0 _ HBw5.out) (x1 _ HBw5.out)
        have HSG := HeldP.mk' hM6 HS6 (x0 _ HB6) (x1 _ HB6)
        have R6 := hidP hr6
        have f6 := hM6.fz 1
        have c6' := hM6.cell 1 (v := .slice av Ln cv) rfl
        have HO7 := hidP hO7
        have HM7 := hidP hM7
        have HB7 := hidP ((HBq.out.trans (hb5'.mono (by omega))).trans hb7)
        clear hr6 hM6 hb6 hO7 hM7 hb7 HM5 HS5 HS6 ho5 hb5 HB6
        refine hK _ _ (.inr HSE) ?_
        try simp only [Act.put, List.setIfInBounds_toArray, List.set_cons_zero, List.set_cons_succ]
        refine anyL_one (i := 9) (atS (atS (atS (atS (atS (atS (atS (atS (atS at0))))))))) (by kernel_rfl) rfl (fun K hK => ?_)
        go_simp
        refine hK _ _ (.inr HSA) ?_
        try simp only [Act.put, List.setIfInBounds_toArray, List.set_cons_zero, List.set_cons_succ]
        refine anyL_one (i := 10) (atS (atS (atS (atS (atS (atS (atS (atS (atS (atS at0)))))))))) (by kernel_rfl) rfl (fun K hK => ?_)
        refine wp_append_run (.tmp 44) (.tmp 52) 22 rfl rfl rfl R6.out ?_
        refine hK _ _ (.inr HSG) ?_
        try simp only [Act.put, List.setIfInBounds_toArray, List.set_cons_zero, List.set_cons_succ]
        refine anyL_one (i := 11) (atS (atS (atS (atS (atS (atS (atS (atS (atS (atS (atS at0))))))))))) (by kernel_rfl) rfl (fun K hK => ?_)
        go_simp
        refine hK _ _ (.inr HSG) ?_
        try simp only [Act.put, List.setIfInBounds_toArray, List.set_cons_zero, List.set_cons_succ]
        refine anyL_one (i := 12) (atS (atS (atS (atS (atS (atS (atS (atS (atS (atS (atS (atS at0)))))))))))) (by kernel_rfl) rfl (fun K hK => ?_)
        go_simp
        refine hK _ _ (.inl rfl) (anyL_done (by kernel_rfl) (NoPanic.normal ?_))
        try simp only [Act.put, List.setIfInBounds_toArray, List.set_cons_zero, List.set_cons_succ]
        clear HSD HSA HSE HSG
        go_wp2
        go_roundw
        case rel => subst hLn; exact ⟨i + 1, a6, c6, by go_num, by omega, HM7, by rw [HTi.out]; exact HO7, HB7⟩
        case measure => simp [intOf]; omega
      · have hf' : (fin != 1000000001) = true := bne_iff_ne.2 hf
        have hE : endA fin 0 0 = hopA 0 0 fin := by unfold endA; rw [if_neg hf]
        rw [hE] at HTi
        obtain ⟨NL, hNL⟩ : ∃ NL, ar.map (shA 1) ++ hopA 0 0 fin = NL := ⟨_, rfl⟩
        rw [hNL] at HTi
        have hfr := hfe hf
        clear hE hf hfe
        go_wp2_with (first
          | (go_at_call 28; (with_reducible refine (hops_any _ _ _ _ (by omega) (by omega)).mono ?_); rintro e w4 ⟨v4, rfl, ho4, hb4⟩; obtain ⟨a4, c4, hv4⟩ := ho4.sl; subst hv4))
        have HO4 := hidP ho4.arcs
        have hs4 := hb4.size
        replace HBw := hidP (HBw.out.trans (hb4.mono HBw.out.size))
        have hml : (hopA 0 0 fin).length ≤ 400 := Nat.le_trans (hopA_le 0 0 fin) (by omega)
        generalize hopA 0 0 fin = mo at *
        have FSh : Hid (∀ W, Below w4.heap.size w4 W → Calls Try.prog 29 #[.agg #[.int .i64 fin, va], .int .i64 1, .int .i64 1000000001, Value.slice a4 mo.length c4] W fun e w' => ∃ v, e = .returned (.agg #[.int .i64 1000000001, v]) ∧ OwnArcs w' W.heap.size v NL ∧ Below W.heap.size W w') := fun W hq => by
          have hW := HBw.out.trans (hq.mono HBw.out.size)
          rw [← hva, ← hNL]
          exact shifted_any fin 1 1000000001 a2 a4 cap2 c4 ar mo W (HGA.out W hW) (HO4.out.later hq (Nat.le_refl _)) hal hml (by omega) HTO.out
        have HMq := hidP (hm.out.below hb4 hmlt)
        have HOq := hidP (ho.out.laterB hb4)
        have HBq := hidP (hb.out.trans (hb4.mono hsr))
        have HSq := hidP (KSr.out.below hb4 KSr.out.lt)
        clear hNL hva ho4 hb4 hm ho hb KSr
        have HSD := HeldP.mk' (W := w4.drew) HMq.out HSq.out (x0 _ HBw.out.drew) (x1 _ HBw.out.drew)
        skip
        refine region_anyL (HeldP (w2.heap.size + 1) (.slice av Ln cv) (w.heap.size) (.slice (some ⟨b, off, none⟩) n cap) b (off + i * 2) fin va) 12 (by kernel_rfl) ?_
        refine anyL_take (i := 0) (v := ?v0_9) at0 (by kernel_rfl) (by kernel_rfl) (by kernel_rfl) (by kernel_rfl) (fun _ _ _ h => h) rfl ?y0_9 HSD ?r0_9
        case y0_9 => intro wx hx; obtain ⟨h0, h1, h2, h3⟩ := hx; go_simp; try (with_reducible rfl)
        simp only [Act.put, List.setIfInBounds_toArray, List.set_cons_zero, List.set_cons_succ]
        refine anyL_take (i := 1) (v := ?v1_10) (atS at0) (by kernel_rfl) (by kernel_rfl) (by kernel_rfl) (by kernel_rfl) (fun _ _ _ h => h) rfl ?y1_10 HSD ?r1_10
        case y1_10 => intro wx hx; obtain ⟨h0, h1, h2, h3⟩ := hx; go_simp; try (with_reducible rfl)
        simp only [Act.put, List.setIfInBounds_toArray, List.set_cons_zero, List.set_cons_succ]
        refine anyL_take (i := 2) (v := ?v2_11) (atS (atS at0)) (by kernel_rfl) (by kernel_rfl) (by kernel_rfl) (by kernel_rfl) (fun _ _ _ h => h) rfl ?y2_11 HSD ?r2_11
        case y2_11 => intro wx hx; obtain ⟨h0, h1, h2, h3⟩ := hx; go_simp; try (with_reducible rfl)
        simp only [Act.put, List.setIfInBounds_toArray, List.set_cons_zero, List.set_cons_succ]
        refine anyL_take (i := 3) (v := ?v3_12) (atS (atS (atS at0))) (by kernel_rfl) (by kernel_rfl) (by kernel_rfl) (by kernel_rfl) (fun _ _ _ h => h) rfl ?y3_12 HSD ?r3_12
        case y3_12 => intro wx hx; obtain ⟨h0, h1, h2, h3⟩ := hx; go_simp; try (with_reducible rfl)
        simp only [Act.put, List.setIfInBounds_toArray, List.set_cons_zero, List.set_cons_succ]
        refine anyL_take (i := 4) (v := ?v4_13) (atS (atS (atS (atS at0)))) (by kernel_rfl) (by kernel_rfl) (by kernel_rfl) (by kernel_rfl) (fun _ _ _ h => h) rfl ?y4_13 HSD ?r4_13
        case y4_13 => intro wx hx; obtain ⟨h0, h1, h2, h3⟩ := hx; go_simp; try (with_reducible rfl)
        simp only [Act.put, List.setIfInBounds_toArray, List.set_cons_zero, List.set_cons_succ]
        refine anyL_take (i := 5) (v := ?v5_14) (atS (atS (atS (atS (atS at0))))) (by kernel_rfl) (by kernel_rfl) (by kernel_rfl) (by kernel_rfl) (fun _ _ _ h => h) rfl ?y5_14 HSD ?r5_14
        case y5_14 => intro wx hx; obtain ⟨h0, h1, h2, h3⟩ := hx; go_simp; try (with_reducible rfl)
        simp only [Act.put, List.setIfInBounds_toArray, List.set_cons_zero, List.set_cons_succ]
        refine anyL_take (i := 6) (v := ?v6_15) (atS (atS (atS (atS (atS (atS at0)))))) (by kernel_rfl) (by kernel_rfl) (by kernel_rfl) (by kernel_rfl) (fun _ _ _ h => h) rfl ?y6_15 HSD ?r6_15
        case y6_15 => intro wx hx; obtain ⟨h0, h1, h2, h3⟩ := hx; go_simp; try (with_reducible rfl)
        simp only [Act.put, List.setIfInBounds_toArray, List.set_cons_zero, List.set_cons_succ]
        refine anyL_take (i := 7) (v := ?v7_16) (atS (atS (atS (atS (atS (atS (atS at0))))))) (by kernel_rfl) (by kernel_rfl) (by kernel_rfl) (by kernel_rfl) (fun _ _ _ h => h) rfl ?y7_16 HSD ?r7_16
        case y7_16 => intro wx hx; obtain ⟨h0, h1, h2, h3⟩ := hx; go_simp; try (with_reducible rfl)
        simp only [Act.put, List.setIfInBounds_toArray, List.set_cons_zero, List.set_cons_succ]
        refine anyL_one (i := 8) (atS (atS (atS (atS (atS (atS (atS (atS at0)))))))) (by kernel_rfl) rfl (fun K hK => ?_)
        go_simp
        with_reducible refine (FSh.out _ (Below.refl _ _).drew).mono ?_
        rintro e1 w5 ⟨v5, rfl, ho5, hb5⟩
        obtain ⟨a5, c5, hv5⟩ := ho5.sl
        subst hv5
        have hb5' : Below w4.heap.size w4 w5 := Below.trans (Below.refl _ _).drew hb5
        have hs5 := hb5'.size
        have HM5 := HMq.out.below hb5' HMq.out.lt
        have HS5 := HSq.out.below hb5' HSq.out.lt
        have HBw5 := hidP (HBw.out.trans (hb5'.mono HBw.out.size))
        obtain ⟨a6, c6, w6, hr6, hM6, hb6, hO7, hM7, hb7⟩ := push_step (w5 := w5) (B := w1.heap.size) (Mb := w2.heap.size + 1) (1000000001, NL) (HOq.out.laterB hb5') (ho5.mono (by show _ ≤ w4.heap.size; omega)) HM5 (by omega) (by omega) (by have := HLn.out; omega)
        rw [HLn.out] at hr6 hO7 hM7 hb7
        have HB6 : Below w.heap.size w w6 := HBw5.out.trans (hb6.mono (by omega))
        have HS6 := HS5.below hb6 (by omega)
        have HSA := HeldP.mk' (W := w5.alloc (.cells #[.int .i64 1000000001, .slice a5 NL.length c5] 44)) (HM5.alloc _) (HS5.alloc _) (x0 _ (HBw5.out.alloc HBw5.out.size _)) (x1 _ (HBw5.out.alloc HBw5.out.size _))
        have HSE := HeldP.mk' HM5 HS5 (x0 _ HBw5.out) (x1 _ HBw5.out)
        have HSG := HeldP.mk' hM6 HS6 (x0 _ HB6) (x1 _ HB6)
        have R6 := hidP hr6
        have f6 := hM6.fz 1
        have c6' := hM6.cell 1 (v := .slice av Ln cv) rfl
        have HO7 := hidP hO7
        have HM7 := hidP hM7
        have HB7 := hidP ((HBq.out.trans (hb5'.mono (by omega))).trans hb7)
        clear hr6 hM6 hb6 hO7 hM7 hb7 HM5 HS5 HS6 ho5 hb5 HB6
        refine hK _ _ (.inr HSE) ?_
        try simp only [Act.put, List.setIfInBounds_toArray, List.set_cons_zero, List.set_cons_succ]
        refine anyL_one (i := 9) (atS (atS (atS (atS (atS (atS (atS (atS (atS at0))))))))) (by kernel_rfl) rfl (fun K hK => ?_)
        go_simp
        refine hK _ _ (.inr HSA) ?_
        try simp only [Act.put, List.setIfInBounds_toArray, List.set_cons_zero, List.set_cons_succ]
        refine anyL_one (i := 10) (atS (atS (atS (atS (atS (atS (atS (atS (atS (atS at0)))))))))) (by kernel_rfl) rfl (fun K hK => ?_)
        refine wp_append_run (.tmp 44) (.tmp 52) 22 rfl rfl rfl R6.out ?_
        refine hK _ _ (.inr HSG) ?_
        try simp only [Act.put, List.setIfInBounds_toArray, List.set_cons_zero, List.set_cons_succ]
        refine anyL_one (i := 11) (atS (atS (atS (atS (atS (atS (atS (atS (atS (atS (atS at0))))))))))) (by kernel_rfl) rfl (fun K hK => ?_)
        go_simp
        refine hK _ _ (.inr HSG) ?_
        try simp only [Act.put, List.setIfInBounds_toArray, List.set_cons_zero, List.set_cons_succ]
        refine anyL_one (i := 12) (atS (atS (atS (atS (atS (atS (atS (atS (atS (atS (atS (atS at0)))))))))))) (by kernel_rfl) rfl (fun K hK => ?_)
        go_simp
        refine hK _ _ (.inl rfl) (anyL_done (by kernel_rfl) (NoPanic.normal ?_))
        try simp only [Act.put, List.setIfInBounds_toArray, List.set_cons_zero, List.set_cons_succ]
        clear HSD HSA HSE HSG
        go_wp2
        go_roundw
        case rel => subst hLn; exact ⟨i + 1, a6, c6, by go_num, by omega, HM7, by rw [HTi.out]; exact HO7, HB7⟩
        case measure => simp [intOf]; omega
    · have hin' : ¬ (i : Int) < (n : Int) := by omega
      obtain rfl : i = n := by omega
      have HLn := HTL.out i (Nat.le_refl _)
      rw [HTN.out] at ho HLn
      have m0 := hm.out.cell 0 (v := .int .i64 0) rfl
      have m1 := hm.out.cell 1 (v := .slice av (i + 1) cv) rfl
      have KRr := hidP (KR.out.below hb.out KR.out.lt)
      have hkr := KR.out.lt
      have HFT : Hid (∀ W, OwnSts W w1.heap.size (.slice av (i + 1) cv) (staM (z, l)).2 → Calls Try.prog 30 #[.agg #[.int .i64 0, .slice av (i + 1) cv]] W fun e w' => e = .returned (.tuple #[fitV (staM (z, l)) (.agg #[.int .i64 0, .slice av (i + 1) cv]), .int .i64 (fitE (staM (z, l)))]) ∧ Below W.heap.size W w') := fun W hW => fits_any _ (0, (staM (z, l)).2) W ⟨_, rfl, hW.sts⟩ HOKS.out
      have HFV : Hid (∃ x0 x1, fitV (staM (z, l)) (.agg #[.int .i64 0, .slice av (i + 1) cv]) = .agg #[.int .i64 x0, x1] ∧ (∃ a9 n9 c9, x1 = .slice a9 n9 c9) ∧ ∀ W, OwnSts W w1.heap.size (.slice av (i + 1) cv) (staM (z, l)).2 → Mach W (.agg #[.int .i64 x0, x1]) (fitM (staM (z, l)))) := by
        unfold fitV fitM
        by_cases hsz : sizeB (staM (z, l)) = true
        · rw [if_pos hsz, if_pos hsz]
          exact ⟨0, _, rfl, ⟨_, _, _, rfl⟩, fun W hW => ⟨_, rfl, hW.sts⟩⟩
        · rw [if_neg hsz, if_neg hsz]
          exact ⟨0, _, rfl, ⟨_, _, _, rfl⟩, fun W hW => mach_zeroR W⟩
      obtain ⟨x0, x1, hfv, ⟨a9, n9, c9, rfl⟩, hMF⟩ := HFV.out
      rw [hfv] at HFT
      have HMF := hidP hMF
      clear hfv hMF HFV HLn HTL HTS HT0
      obtain ⟨fe, hfee⟩ : ∃ fe, fitE (staM (z, l)) = fe := ⟨_, rfl⟩
      rw [hfee] at HFT
      have HFE := hidP hfee
      clear hfee
      go_wp2_with (first
        | (go_at_call 30; (with_reducible refine (HFT.out _ ho.out).mono ?_); rintro e w8 ⟨rfl, hb8⟩; have HO8 := hidP (ho.out.laterB hb8); have HB8 := hidP (HBw.out.trans (hb8.mono HBw.out.size)); have KR8 := hidP ((KRr.out.below hb8 KRr.out.lt).alloc (.cells #[.int .i64 x0, .slice a9 n9 c9] 24)); have q0 := KR8.out.cell 0 (v := .int .i64 0) rfl; have q1 := KR8.out.cell 1 (v := .slice none 0 0) rfl; have g0 := KR8.out.fz 0; have g1 := KR8.out.fz 1; clear hb8))
      have HO9 := HO8.out.laterB ((Below.refl _ _).alloc (Nat.le_refl _) (.cells #[.int .i64 x0, .slice a9 n9 c9] 24))
      exact bodyPost_ret (res_sta _ _ (w.heap.size + 1) fe _ _ ((KR8.out.set 0 (.int .i64 x0)).set 1 (.slice a9 n9 c9)) rfl rfl) rfl ⟨_, by rw [HFE.out], HMF.out _ ((HO9.setCell (a := ⟨w.heap.size + 1, 0, none⟩) hkr _).setCell (a := ⟨w.heap.size + 1, 1, none⟩) hkr _), ((HB8.out.alloc HB8.out.size _).setCell (Nat.le_succ _) _).setCell (Nat.le_succ _) _⟩
theorem starred_any (v : Value) (m : Mc) (w : World) (h : Mach w v m) (hok : okM m) :
    Calls Try.prog 16 #[v] w fun e w' => RatRes (ratM m (-1, []) (staM m)) (ratE m (-1, []) (staM m)) w e w' := by
  by_cases h0 : faultM m = 0
  · have e1 : ratM m (-1, []) (staM m) = fitM (staM m) := by unfold ratM; rw [if_neg (by simp [h0]), if_neg (by decide)]
    have e2 : ratE m (-1, []) (staM m) = fitE (staM m) := by unfold ratE; rw [if_neg (by simp [h0]), if_neg (by decide)]
    rw [e1, e2]
    obtain ⟨z, l⟩ := m
    obtain ⟨vs, rfl, hS⟩ := id h
    exact starred_ok z l vs w h hok h0
  · have e1 : ratM m (-1, []) (staM m) = (0, []) := by unfold ratM; rw [if_pos h0]
    have e2 : ratE m (-1, []) (staM m) = faultM m := by unfold ratE; rw [if_pos h0]
    rw [e1, e2]
    exact starred_bad v m w h hok h0
end Go.Proofs.Ytfajkomajbhphaa.Wt
