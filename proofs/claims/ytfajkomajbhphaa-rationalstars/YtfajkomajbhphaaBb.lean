/- The program's builder of machines: all states of a machine behind those that are there. -/
import Derived.Test.YtfajkomajbhphaaBa
namespace Go.Proofs.Ytfajkomajbhphaa.Wt
open Go.ChangeShapes Go.WideShapes Go.ChangeAt Go.RowKit
open Go.Proofs.Ytfajkomajbhphaa.Pl
set_option linter.unusedVariables false
set_option linter.unusedSimpArgs false
def HeldD (b : Nat) (vs : Value) (sb : Nat) (f : Int) (va : Value) (w : World) : Prop := w.cell? ⟨b, 1, none⟩ = some vs ∧ w.cell? ⟨sb, 0, none⟩ = some (.int .i64 f) ∧ w.cell? ⟨sb, 1, none⟩ = some va
theorem HeldD.mk' {W : World} {b sb : Nat} {vs va : Value} {z f : Int} (h1 : Blk W b #[.int .i64 z, vs] 49) (h2 : Blk W sb #[.int .i64 f, va] 44) : HeldD b vs sb f va W := ⟨h1.cell 1 rfl, h2.cell 0 rfl, h2.cell 1 rfl⟩
set_option maxRecDepth 100000 in
set_option maxHeartbeats 1600000 in
/-- b.add(m). -/
theorem add_any (b base : Nat) (z : Int) (l : List St) (m : Mc) (v : Value) (w0 W : World) (h : Bui W 49 base b z l) (hb : b < base) (hbW : base ≤ W.heap.size) (hm : Mach w0 v m) (h0 : Below w0.heap.size w0 W) (h0b : w0.heap.size ≤ b) (hr : faultM m = 0) (hll : l.length ≤ 1000) :
    Calls Try.prog 24 #[.pointer (some ⟨b, 0, none⟩), v] W fun e W' => e = .returned (.int .i64 (if m.1 = -1 then -1 else m.1 + (l.length : Int))) ∧ Bui W' 49 base b z (l ++ m.2.map (fun s => shS (l.length : Int) s.1 [] s)) ∧ Below b W W' ∧ Kept (some b) W W' := by
  obtain ⟨zm, lm⟩ := m
  have HST := hidP (right_states hr)
  have h60 := (right_size hr).1
  obtain ⟨⟨hz1, hz2⟩, _⟩ := right_parts hr
  simp only at hz1 hz2 h60 HST
  obtain ⟨vs, rfl, hS⟩ := hm
  obtain ⟨a, cap, rfl, hc⟩ := hS.get
  have HC : Hid (∀ j, j < lm.length → ∃ b off va, a = some ⟨b, off, none⟩ ∧ b < w0.heap.size ∧ w0.cell? ⟨b, off + j * 2, none⟩ = some (.int .i64 (el lm j).1) ∧ w0.cell? ⟨b, off + j * 2 + 1, none⟩ = some va ∧ Arcs w0 va (el lm j).2) := hc
  have H0 := hidP h0
  obtain ⟨vl, h1, h2⟩ := h
  obtain ⟨al, cl, hvl⟩ := h2.sl
  subst hvl
  have HB := hidP h1
  have HO := hidP h2
  have hlt := h1.lt
  have c1 := h1.cell 1 (v := .slice al l.length cl) rfl
  have HT0 : Hid (l = l ++ (lm.take 0).map (fun s => shS (l.length : Int) s.1 [] s)) := by show _ = _; simp
  have HTS : Hid (∀ j, j < lm.length → l ++ (lm.take (j + 1)).map (fun s => shS (l.length : Int) s.1 [] s) = l ++ (lm.take j).map (fun s => shS (l.length : Int) s.1 [] s) ++ [((el lm j).1, (el lm j).2.map (shA (l.length : Int)))]) := fun j hj => by rw [take_el hj]; simp [shS]
  have HTL : Hid (∀ j, j ≤ lm.length → (l ++ (lm.take j).map (fun s => shS (l.length : Int) s.1 [] s)).length = l.length + j) := fun j hj => by simp; omega
  have HTN : Hid (l ++ (lm.take lm.length).map (fun s => shS (l.length : Int) s.1 [] s) = l ++ lm.map (fun s => shS (l.length : Int) s.1 [] s)) := by show _ = _; rw [List.take_length]
  obtain ⟨TT, hTT⟩ : ∃ TT : Nat → List St, ∀ j, l ++ (lm.take j).map (fun s => shS (l.length : Int) s.1 [] s) = TT j := ⟨_, fun _ => rfl⟩
  simp only [hTT] at HT0 HTS HTL HTN
  rw [← HTN.out]
  clear hTT hS hc h0 h1 h2
  generalize hn : lm.length = n at *
  have HN : Hid (lm.length = n) := hn
  generalize hk : l.length = k at *
  have HLK : Hid (l.length = k) := hk
  clear hn hk
  have hd0 : 0 ≤ (k : Int) ∧ (k : Int) ≤ 1000 := by omega
  have hB0 : Below b W (W.alloc (.cells #[.int .i64 zm, .slice a n cap] 24)) := (Below.refl b W).alloc (Nat.le_of_lt hlt) _
  have HX0 : Hid (Kept (some b) W (W.alloc (.cells #[.int .i64 zm, .slice a n cap] 24))) := (Kept.of ((Below.refl _ _).alloc (Nat.le_refl _) _)).any _
  have HBx := hidP hB0
  clear hB0
  go_enter Try.func24, Try.ntmps24
  go_wp2
  go_loopw [17] (fun i wr => ∃ (j : Nat) (vo : Value), j ≤ n ∧ i = .int .i64 j ∧ Hid (Blk wr W.heap.size #[.int .i64 zm, .slice a n cap] 24) ∧ Hid (Blk wr b #[.int .i64 z, vo] 49) ∧ Hid (OwnApt wr base vo (TT j)) ∧ Hid (Below b W wr) ∧ Hid (Kept (some b) W wr)) (fun i _ => n - (intOf i).toNat)
  case atStart => exact ⟨0, _, Nat.zero_le _, rfl, Blk.made W _ _, HB.out.alloc _, by rw [← HT0.out]; exact HO.out.later ((Below.refl _ _).alloc (Nat.le_refl _) _), HBx, HX0⟩
  case round =>
    obtain ⟨j, vo, hj, rfl, hbx, hbb, ho, hbl, hkp⟩ := hrel
    have hsr := hbl.out.size
    have HBw := hidP (H0.out.trans (hbl.out.mono h0b))
    by_cases hjn : j < n
    · have hj0 : (0 : Int) ≤ (j : Int) := by omega
      have hj1 : (j : Int) < (n : Int) := by omega
      obtain ⟨b3, off, va, rfl, hb3, y0, y1, gA⟩ := HC.out j hjn
      obtain ⟨hfin, hal, hto⟩ := HST.out j hjn
      have HTi := hidP (HTS.out j hjn)
      have HLn := hidP (HTL.out j hj)
      have x0 := (HBw.out.cell (p := ⟨b3, off + j * 2, none⟩) hb3).trans y0
      have x1 := (HBw.out.cell (p := ⟨b3, off + j * 2 + 1, none⟩) hb3).trans y1
      obtain ⟨a2, cap2, hva, _⟩ := gA.get
      obtain ⟨vo', hvo'⟩ : ∃ vo', vo = vo' := ⟨_, rfl⟩
      obtain ⟨av, cv, hv⟩ := ho.out.sl
      rw [HLn.out] at hv
      subst hv
      clear hvo'
      have HSH : Hid (∀ W2, Below w0.heap.size w0 W2 → Calls Try.prog 45 #[va, .int .i64 (k : Int)] W2 fun e w' => ∃ v', e = .returned v' ∧ OwnArcs w' W2.heap.size v' ((el lm j).2.map (shA (k : Int))) ∧ Below W2.heap.size W2 w') := fun W2 hW => shiftedP_any va (el lm j).2 (k : Int) W2 (gA.later hW (Nat.le_refl _)) hal hd0 hto
      subst hva
      clear gA hto hfin y0 y1
      generalize (el lm j).1 = fin at *
      generalize (el lm j).2.map (shA (k : Int)) = NL at *
      generalize (el lm j).2.length = an at *
      generalize TT j = Lst at *
      have hA : Below wr.heap.size wr (wr.alloc (.cells #[.int .i64 fin, .slice a2 an cap2] 44)) := (Below.refl _ _).alloc (Nat.le_refl _) _
      have hS1 := Blk.made wr #[.int .i64 fin, .slice a2 an cap2] 44
      obtain ⟨W1, hW1⟩ : ∃ W1, W1 = wr.alloc (.cells #[.int .i64 fin, .slice a2 an cap2] 44) := ⟨_, rfl⟩
      have hs1 : W1.heap.size = wr.heap.size + 1 := by rw [hW1]; simp
      rw [← hW1] at hA hS1
      have HA := hidP hA
      have hB1 := hbb.out.below hA hbb.out.lt
      have hO1 : OwnApt W1.drew base (.slice av (k + j) cv) Lst := ho.out.later hA.drew
      have HSD := HeldD.mk' hB1.drew hS1.drew
      have HS1 := hidP hS1
      have HB1 := hidP hB1
      have HO1 := hidP hO1
      clear hA hS1 hB1 hO1
      go_wp2
      rw [← hW1]
      have HLT : Hid (W1.heap.size = wr.heap.size + 1) := hs1
      clear hW1 hs1
      refine region_anyL (HeldD b (.slice av (k + j) cv) wr.heap.size fin (.slice a2 an cap2)) 18 (by kernel_rfl) ?_
      refine anyL_take (i := 0) (v := ?v0_1) at0 (by kernel_rfl) (by kernel_rfl) (by kernel_rfl) (by kernel_rfl) (fun _ _ _ h => h) rfl ?y0_1 HSD ?r0_1
      case y0_1 => intro wx hx; obtain ⟨h1, h2, h3⟩ := hx; go_simp; try (with_reducible rfl)
      simp only [Act.put, List.setIfInBounds_toArray, List.set_cons_zero, List.set_cons_succ]
      refine anyL_take (i := 1) (v := ?v1_2) (atS at0) (by kernel_rfl) (by kernel_rfl) (by kernel_rfl) (by kernel_rfl) (fun _ _ _ h => h) rfl ?y1_2 HSD ?r1_2
      case y1_2 => intro wx hx; obtain ⟨h1, h2, h3⟩ := hx; go_simp; try (with_reducible rfl)
      simp only [Act.put, List.setIfInBounds_toArray, List.set_cons_zero, List.set_cons_succ]
      refine anyL_take (i := 2) (v := ?v2_3) (atS (atS at0)) (by kernel_rfl) (by kernel_rfl) (by kernel_rfl) (by kernel_rfl) (fun _ _ _ h => h) rfl ?y2_3 HSD ?r2_3
      case y2_3 => intro wx hx; obtain ⟨h1, h2, h3⟩ := hx; go_simp; try (with_reducible rfl)
      simp only [Act.put, List.setIfInBounds_toArray, List.set_cons_zero, List.set_cons_succ]
      refine anyL_take (i := 3) (v := ?v3_4) (atS (atS (atS at0))) (by kernel_rfl) (by kernel_rfl) (by kernel_rfl) (by kernel_rfl) (fun _ _ _ h => h) rfl ?y3_4 HSD ?r3_4
      case y3_4 => intro wx hx; obtain ⟨h1, h2, h3⟩ := hx; go_simp; try (with_reducible rfl)
      simp only [Act.put, List.setIfInBounds_toArray, List.set_cons_zero, List.set_cons_succ]
      refine anyL_take (i := 4) (v := ?v4_5) (atS (atS (atS (atS at0)))) (by kernel_rfl) (by kernel_rfl) (by kernel_rfl) (by kernel_rfl) (fun _ _ _ h => h) rfl ?y4_5 HSD ?r4_5
      case y4_5 => intro wx hx; obtain ⟨h1, h2, h3⟩ := hx; go_simp; try (with_reducible rfl)
      simp only [Act.put, List.setIfInBounds_toArray, List.set_cons_zero, List.set_cons_succ]
      refine anyL_take (i := 5) (v := ?v5_6) (atS (atS (atS (atS (atS at0))))) (by kernel_rfl) (by kernel_rfl) (by kernel_rfl) (by kernel_rfl) (fun _ _ _ h => h) rfl ?y5_6 HSD ?r5_6
      case y5_6 => intro wx hx; obtain ⟨h1, h2, h3⟩ := hx; go_simp; try (with_reducible rfl)
      simp only [Act.put, List.setIfInBounds_toArray, List.set_cons_zero, List.set_cons_succ]
      refine anyL_take (i := 6) (v := ?v6_7) (atS (atS (atS (atS (atS (atS at0)))))) (by kernel_rfl) (by kernel_rfl) (by kernel_rfl) (by kernel_rfl) (fun _ _ _ h => h) rfl ?y6_7 HSD ?r6_7
      case y6_7 => intro wx hx; obtain ⟨h1, h2, h3⟩ := hx; go_simp; try (with_reducible rfl)
      simp only [Act.put, List.setIfInBounds_toArray, List.set_cons_zero, List.set_cons_succ]
      refine anyL_take (i := 7) (v := ?v7_8) (atS (atS (atS (atS (atS (atS (atS at0))))))) (by kernel_rfl) (by kernel_rfl) (by kernel_rfl) (by kernel_rfl) (fun _ _ _ h => h) rfl ?y7_8 HSD ?r7_8
      case y7_8 => intro wx hx; obtain ⟨h1, h2, h3⟩ := hx; go_simp; try (with_reducible rfl)
      simp only [Act.put, List.setIfInBounds_toArray, List.set_cons_zero, List.set_cons_succ]
      refine anyL_take (i := 8) (v := ?v8_9) (atS (atS (atS (atS (atS (atS (atS (atS at0)))))))) (by kernel_rfl) (by kernel_rfl) (by kernel_rfl) (by kernel_rfl) (fun _ _ _ h => h) rfl ?y8_9 HSD ?r8_9
      case y8_9 => intro wx hx; obtain ⟨h1, h2, h3⟩ := hx; go_simp; try (with_reducible rfl)
      simp only [Act.put, List.setIfInBounds_toArray, List.set_cons_zero, List.set_cons_succ]
      refine anyL_take (i := 9) (v := ?v9_10) (atS (atS (atS (atS (atS (atS (atS (atS (atS at0))))))))) (by kernel_rfl) (by kernel_rfl) (by kernel_rfl) (by kernel_rfl) (fun _ _ _ h => h) rfl ?y9_10 HSD ?r9_10
      case y9_10 => intro wx hx; obtain ⟨h1, h2, h3⟩ := hx; go_simp; try (with_reducible rfl)
      simp only [Act.put, List.setIfInBounds_toArray, List.set_cons_zero, List.set_cons_succ]
      refine anyL_take (i := 10) (v := ?v10_11) (atS (atS (atS (atS (atS (atS (atS (atS (atS (atS at0)))))))))) (by kernel_rfl) (by kernel_rfl) (by kernel_rfl) (by kernel_rfl) (fun _ _ _ h => h) rfl ?y10_11 HSD ?r10_11
      case y10_11 => intro wx hx; obtain ⟨h1, h2, h3⟩ := hx; go_simp; try (with_reducible rfl)
      simp only [Act.put, List.setIfInBounds_toArray, List.set_cons_zero, List.set_cons_succ]
      refine anyL_one (i := 11) (atS (atS (atS (atS (atS (atS (atS (atS (atS (atS (atS at0))))))))))) (by kernel_rfl) rfl (fun K hK => ?_)
      go_simp
      with_reducible refine (HSH.out _ (HBw.out.trans (HA.out.drew.mono (by have := HBw.out.size; omega)))).mono ?_
      rintro e1 w5 ⟨v5, rfl, ho5, hb5⟩
      have hs5 := hb5.size
      obtain ⟨a5, c5, hv5⟩ := ho5.sl
      subst hv5
      have B5 := HB1.out.drew.below hb5 HB1.out.lt
      have S5 := HS1.out.drew.below hb5 HS1.out.lt
      obtain ⟨a6, c6, w6, hr6, ho6, hb6, hk6, hg6⟩ := HO1.out.pushA hb5 ho5 fin (by have := HLn.out; omega) (by show base ≤ W1.heap.size; have := HLT.out; omega)
      rw [HLn.out] at hr6 ho6
      have hlo := ho.out.lt
      have B6 : Blk w6 b #[.int .i64 z, .slice av (k + j) cv] 49 := hk6.blk B5 (by simp) (by decide) (by decide)
      have S6 : Blk w6 wr.heap.size #[.int .i64 fin, .slice a2 an cap2] 44 := (S5.alloc _).grown hg6 (fun e => by have := (hlo _ e.symm).2; omega)
      have HSE := HeldD.mk' B5 S5
      have HSF := HeldD.mk' (W := w5.alloc (.cells #[.int .i64 fin, .slice a5 NL.length c5] 44)) (B5.alloc _) (S5.alloc _)
      have HSG := HeldD.mk' B6 S6
      have R6 := hidP hr6
      have f6 := B6.fz 1
      have c6' := B6.cell 1 (v := .slice av (k + j) cv) rfl
      have HO7 : Hid (OwnApt (w6.setCell ⟨b, 1, none⟩ (.slice a6 (k + j + 1) c6)) base (.slice a6 (k + j + 1) c6) (Lst ++ [(fin, NL)])) := ho6.setCell (a := ⟨b, 1, none⟩) hb _
      have HB7 : Hid (Blk (w6.setCell ⟨b, 1, none⟩ (.slice a6 (k + j + 1) c6)) b #[.int .i64 z, .slice a6 (k + j + 1) c6] 49) := B6.set 1 _
      have hkA : Kept none wr w6 := ((Kept.of HA.out.drew).trans (Kept.of hb5)).trans hk6
      have hBA : Below b wr w6 := ((HA.out.drew.mono (Nat.le_of_lt hbb.out.lt)).trans (hb5.mono (by show b ≤ W1.heap.size; have := HLT.out; have := hbb.out.lt; omega))).trans (hb6.mono (Nat.le_of_lt hb))
      have HX7 : Hid (Blk (w6.setCell ⟨b, 1, none⟩ (.slice a6 (k + j + 1) c6)) W.heap.size #[.int .i64 zm, .slice (some ⟨b3, off, none⟩) n cap] 24) := (hkA.blk hbx.out (by simp) (by decide) (by decide)).setO ⟨b, 1, none⟩ _ (by show W.heap.size ≠ b; omega)
      have HL7 : Hid (Below b W (w6.setCell ⟨b, 1, none⟩ (.slice a6 (k + j + 1) c6))) := (hbl.out.trans hBA).setCell (p := ⟨b, 1, none⟩) (Nat.le_refl _) _
      have HK7 : Hid (Kept (some b) W (w6.setCell ⟨b, 1, none⟩ (.slice a6 (k + j + 1) c6))) := (hkp.out.trans (hkA.any _)).trans (Kept.setM w6 b 1 _)
      clear hr6 ho6 hb6 hk6 hg6 B5 S5 B6 S6 hkA hBA ho5 hb5 hlo
      refine hK _ _ (.inr HSE) ?_
      try simp only [Act.put, List.setIfInBounds_toArray, List.set_cons_zero, List.set_cons_succ]
      refine anyL_one (i := 12) (atS (atS (atS (atS (atS (atS (atS (atS (atS (atS (atS (atS at0)))))))))))) (by kernel_rfl) rfl (fun K hK => ?_)
      go_simp
      refine hK _ _ (.inr HSE) ?_
      try simp only [Act.put, List.setIfInBounds_toArray, List.set_cons_zero, List.set_cons_succ]
      refine anyL_one (i := 13) (atS (atS (atS (atS (atS (atS (atS (atS (atS (atS (atS (atS (atS at0))))))))))))) (by kernel_rfl) rfl (fun K hK => ?_)
      go_simp
      refine hK _ _ (.inr HSF) ?_
      try simp only [Act.put, List.setIfInBounds_toArray, List.set_cons_zero, List.set_cons_succ]
      refine anyL_one (i := 14) (atS (atS (atS (atS (atS (atS (atS (atS (atS (atS (atS (atS (atS (atS at0)))))))))))))) (by kernel_rfl) rfl (fun K hK => ?_)
      refine wp_append_run (.tmp 26) (.tmp 34) 22 rfl rfl rfl R6.out ?_
      refine hK _ _ (.inr HSG) ?_
      try simp only [Act.put, List.setIfInBounds_toArray, List.set_cons_zero, List.set_cons_succ]
      refine anyL_one (i := 15) (atS (atS (atS (atS (atS (atS (atS (atS (atS (atS (atS (atS (atS (atS (atS at0))))))))))))))) (by kernel_rfl) rfl (fun K hK => ?_)
      go_simp
      refine hK _ _ (.inr HSG) ?_
      try simp only [Act.put, List.setIfInBounds_toArray, List.set_cons_zero, List.set_cons_succ]
      refine anyL_one (i := 16) (atS (atS (atS (atS (atS (atS (atS (atS (atS (atS (atS (atS (atS (atS (atS (atS at0)))))))))))))))) (by kernel_rfl) rfl (fun K hK => ?_)
      go_simp
      refine hK _ _ (.inr HSG) ?_
      try simp only [Act.put, List.setIfInBounds_toArray, List.set_cons_zero, List.set_cons_succ]
      refine anyL_one (i := 17) (atS (atS (atS (atS (atS (atS (atS (atS (atS (atS (atS (atS (atS (atS (atS (atS (atS at0))))))))))))))))) (by kernel_rfl) rfl (fun K hK => ?_)
      go_simp
      refine hK _ _ (.inr HSG) ?_
      try simp only [Act.put, List.setIfInBounds_toArray, List.set_cons_zero, List.set_cons_succ]
      refine anyL_one (i := 18) (atS (atS (atS (atS (atS (atS (atS (atS (atS (atS (atS (atS (atS (atS (atS (atS (atS (atS at0)))))))))))))))))) (by kernel_rfl) rfl (fun K hK => ?_)
      go_simp
      refine hK _ _ (.inl rfl) (anyL_done (by kernel_rfl) (NoPanic.normal ?_))
      try simp only [Act.put, List.setIfInBounds_toArray, List.set_cons_zero, List.set_cons_succ]
      clear HSD HSE HSF HSG f6 c6'
      go_wp2
      go_roundw
      case rel => exact ⟨j + 1, _, by omega, by go_num, HX7, HB7, by rw [HTi.out]; exact HO7, HL7, HK7⟩
      case measure => simp [intOf]; omega
    · have hnj : ¬ (j : Int) < (n : Int) := by omega
      obtain rfl : j = n := by omega
      have d0 := hbx.out.cell 0 (v := .int .i64 zm) rfl
      by_cases hz : zm = -1
      · have hz' : (zm == -1) = true := by simpa using hz
        have HR : Hid ((if zm = -1 then (-1 : Int) else zm + (k : Int)) = -1) := if_pos hz
        go_wp2
        go_ret
        exact ⟨by first | rfl | (rw [HR.out]; rfl), ⟨_, hbb.out, ho.out⟩, hbl.out, hkp.out⟩
      · have hz' : (zm == -1) = false := by simpa using hz
        have HR : Hid ((if zm = -1 then (-1 : Int) else zm + (k : Int)) = zm + (k : Int)) := if_neg hz
        have hwz : IntKind.i64.wrap (zm + (k : Int)) = zm + (k : Int) := wrapI (by omega) (by omega)
        go_wp2
        go_ret
        exact ⟨by first | rfl | (rw [HR.out]; rfl), ⟨_, hbb.out, ho.out⟩, hbl.out, hkp.out⟩
end Go.Proofs.Ytfajkomajbhphaa.Wt
