/- The program's builder of machines: all states of a machine behind those that are there. -/
import Derived.Test.YtfpibdaedfilaaaHal
import Derived.Test.YtfpibdaedfilaaaHaj
namespace Go.Proofs.Ytfpibdaedfilaaa.Wt
open Go.ChangeShapes Go.WideShapes Go.ChangeAt Go.RowKit
open Go.Proofs.Ytfpibdaedfilaaa.Pl
set_option linter.unusedVariables false
set_option linter.unusedSimpArgs false
def HeldD (b : Nat) (vs : Value) (sb : Nat) (f : Int) (va : Value) (w : World) : Prop := w.cell? ⟨b, 1, none⟩ = some vs ∧ w.cell? ⟨sb, 0, none⟩ = some (.int .i64 f) ∧ w.cell? ⟨sb, 1, none⟩ = some va
theorem HeldD.mk' {W : World} {b sb : Nat} {vs va : Value} {z f : Int} (h1 : Blk W b #[.int .i64 z, vs] 84) (h2 : Blk W sb #[.int .i64 f, va] 56) : HeldD b vs sb f va W := ⟨h1.cell 1 rfl, h2.cell 0 rfl, h2.cell 1 rfl⟩
set_option maxRecDepth 100000 in
set_option maxHeartbeats 1600000 in
theorem add_any (b base : Nat) (z : Int) (l : List St) (m : Mc) (v : Value) (w0 W : World) (h : Bui W 84 base b z l) (hb : b < base) (hbW : base ≤ W.heap.size) (hm : Mach w0 v m) (h0 : Below w0.heap.size w0 W) (h0b : w0.heap.size ≤ b) (hr : faultM m = 0) (hll : l.length ≤ 1000) :
  Calls Try.prog 39 #[.pointer (some ⟨b, 0, none⟩), v] W fun e W' => e = .returned (.int .i64 (if m.1 = -1 then -1 else m.1 + (l.length : Int))) ∧ Bui W' 84 base b z (l ++ m.2.map (fun s => shS (l.length : Int) s.1 [] s)) ∧ Below b W W' ∧ Kept (some b) W W' := by
 obtain ⟨zm, lm⟩ := m
 have HST := hidP (right_states hr)
 have h60 := (right_size hr).1
 obtain ⟨⟨hz1, hz2⟩, _⟩ := right_parts hr
 simp only at hz1 hz2 h60 HST
 obtain ⟨vs, rfl, hS⟩ := hm
 obtain ⟨a, cap, rfl, hc⟩ := hS.get
 have HC : Hid (∀ j, j < lm.length → ∃ b off va, a = some ⟨b, off, none⟩ ∧ b < w0.heap.size ∧ w0.cell? ⟨b, off + j * 2, none⟩ = some (.int .i64 (el lm j).1) ∧ w0.cell? ⟨b, off + j * 2 + 1, none⟩ = some va ∧ Arcs w0 va (el lm j).2) := hc
 have H0 := hidP h0
 obtain ⟨vl, h1, h2⟩ := h
 obtain ⟨al, cl, hvl⟩ := h2.sl
 subst hvl
 have HB := hidP h1
 have HO := hidP h2
 have hlt := h1.lt
 have c1 := h1.cell 1 (v := .slice al l.length cl) rfl
 have HT0 : Hid (l = l ++ (lm.take 0).map (fun s => shS (l.length : Int) s.1 [] s)) := by show _ = _; simp
 have HTS : Hid (∀ j, j < lm.length → l ++ (lm.take (j + 1)).map (fun s => shS (l.length : Int) s.1 [] s) = l ++ (lm.take j).map (fun s => shS (l.length : Int) s.1 [] s) ++ [((el lm j).1, (el lm j).2.map (shA (l.length : Int)))]) := fun j hj => by rw [take_el hj]; simp [shS]
 have HTL : Hid (∀ j, j ≤ lm.length → (l ++ (lm.take j).map (fun s => shS (l.length : Int) s.1 [] s)).length = l.length + j) := fun j hj => by simp; omega
 have HTN : Hid (l ++ (lm.take lm.length).map (fun s => shS (l.length : Int) s.1 [] s) = l ++ lm.map (fun s => shS (l.length : Int) s.1 [] s)) := by show _ = _; rw [List.take_length]
 obtain ⟨TT, hTT⟩ : ∃ TT : Nat → List St, ∀ j, l ++ (lm.take j).map (fun s => shS (l.length : Int) s.1 [] s) = TT j := ⟨_, fun _ => rfl⟩
 simp only [hTT] at HT0 HTS HTL HTN
 rw [← HTN.out]
 clear hTT hS hc h0 h1 h2
 generalize hn : lm.length = n at *
 have HN : Hid (lm.length = n) := hn
 generalize hk : l.length = k at *
 have HLK : Hid (l.length = k) := hk
 clear hn hk
 have hd0 : 0 ≤ (k : Int) ∧ (k : Int) ≤ 1000 := by omega
 have hB0 : Below b W (W.alloc (.cells #[.int .i64 zm, .slice a n cap] 27)) := (Below.refl b W).alloc (Nat.le_of_lt hlt) _
 have HX0 : Hid (Kept (some b) W (W.alloc (.cells #[.int .i64 zm, .slice a n cap] 27))) := (Kept.of ((Below.refl _ _).alloc (Nat.le_refl _) _)).any _
 have HBx := hidP hB0
 clear hB0
 go_enter Try.func39, Try.ntmps39
 go_wp2
 go_loopw [17] (fun i wr => ∃ (j : Nat) (vo : Value), j ≤ n ∧ i = .int .i64 j ∧ Hid (Blk wr W.heap.size #[.int .i64 zm, .slice a n cap] 27) ∧ Hid (Blk wr b #[.int .i64 z, vo] 84) ∧ Hid (OwnApt wr base vo (TT j)) ∧ Hid (Below b W wr) ∧ Hid (Kept (some b) W wr)) (fun i _ => n - (intOf i).toNat)
 case atStart => exact ⟨0, _, Nat.zero_le _, rfl, Blk.made W _ _, HB.out.alloc _, by rw [← HT0.out]; exact HO.out.later ((Below.refl _ _).alloc (Nat.le_refl _) _), HBx, HX0⟩
 case round =>
  obtain ⟨j, vo, hj, rfl, hbx, hbb, ho, hbl, hkp⟩ := hrel
  have hsr := hbl.out.size
  have HBw := hidP (H0.out.trans (hbl.out.mono h0b))
  by_cases hjn : j < n
  ·have hj0 : (0 : Int) ≤ (j : Int) := by omega
   have hj1 : (j : Int) < (n : Int) := by omega
   obtain ⟨b3, off, va, rfl, hb3, y0, y1, gA⟩ := HC.out j hjn
   obtain ⟨hfin, hal, hto⟩ := HST.out j hjn
   have HTi := hidP (HTS.out j hjn)
   have HLn := hidP (HTL.out j hj)
   have x0 := (HBw.out.cell (p := ⟨b3, off + j * 2, none⟩) hb3).trans y0
   have x1 := (HBw.out.cell (p := ⟨b3, off + j * 2 + 1, none⟩) hb3).trans y1
   obtain ⟨a2, cap2, hva, _⟩ := gA.get
   obtain ⟨vo', hvo'⟩ : ∃ vo', vo = vo' := ⟨_, rfl⟩
   obtain ⟨av, cv, hv⟩ := ho.out.sl
   rw [HLn.out] at hv
   subst hv
   clear hvo'
   have HSH : Hid (∀ W2, Below w0.heap.size w0 W2 → Calls Try.prog 62 #[va, .int .i64 (k : Int)] W2 fun e w' => ∃ v', e = .returned v' ∧ OwnArcs w' W2.heap.size v' ((el lm j).2.map (shA (k : Int))) ∧ Below W2.heap.size W2 w') := fun W2 hW => shiftedP_any va (el lm j).2 (k : Int) W2 (gA.later hW (Nat.le_refl _)) hal hd0 hto
   subst hva
   clear gA hto hfin y0 y1
   generalize (el lm j).1 = fin at *
   generalize (el lm j).2.map (shA (k : Int)) = NL at *
   generalize (el lm j).2.length = an at *
   generalize TT j = Lst at *
   have hA : Below wr.heap.size wr (wr.alloc (.cells #[.int .i64 fin, .slice a2 an cap2] 56)) := (Below.refl _ _).alloc (Nat.le_refl _) _
   have hS1 := Blk.made wr #[.int .i64 fin, .slice a2 an cap2] 56
   obtain ⟨W1, hW1⟩ : ∃ W1, W1 = wr.alloc (.cells #[.int .i64 fin, .slice a2 an cap2] 56) := ⟨_, rfl⟩
   have hs1 : W1.heap.size = wr.heap.size + 1 := by rw [hW1]; simp
   rw [← hW1] at hA hS1
   have HA := hidP hA
   have hB1 := hbb.out.below hA hbb.out.lt
   have hO1 : OwnApt W1.drew base (.slice av (k + j) cv) Lst := ho.out.later hA.drew
   have HSD := HeldD.mk' hB1.drew hS1.drew
   have HS1 := hidP hS1
   have HB1 := hidP hB1
   have HO1 := hidP hO1
   clear hA hS1 hB1 hO1
   go_wp2
   rw [← hW1]
   have HLT : Hid (W1.heap.size = wr.heap.size + 1) := hs1
   clear hW1 hs1
   refine region_anyL (HeldD b (.slice av (k + j) cv) wr.heap.size fin (.slice a2 an cap2)) 18 (by kernel_rfl) ?_
   refine anyL_tk (i := 0) (v := ?v0_1) aZ0 (by kernel_rfl) ?y0_1 HSD ?r0_1
   case y0_1 => intro wx hx; obtain ⟨h1, h2, h3⟩ := hx; go_simp; try (with_reducible rfl)
   simp only [Act.put, List.setIfInBounds_toArray, List.set_cons_zero, List.set_cons_succ]
   refine anyL_tk (i := 1) (v := ?v1_2) aZ1 (by kernel_rfl) ?y1_2 HSD ?r1_2
   case y1_2 => intro wx hx; obtain ⟨h1, h2, h3⟩ := hx; go_simp; try (with_reducible rfl)
   simp only [Act.put, List.setIfInBounds_toArray, List.set_cons_zero, List.set_cons_succ]
   refine anyL_tk (i := 2) (v := ?v2_3) aZ2 (by kernel_rfl) ?y2_3 HSD ?r2_3
   case y2_3 => intro wx hx; obtain ⟨h1, h2, h3⟩ := hx; go_simp; try (with_reducible rfl)
   simp only [Act.put, List.setIfInBounds_toArray, List.set_cons_zero, List.set_cons_succ]
   refine anyL_tk (i := 3) (v := ?v3_4) aZ3 (by kernel_rfl) ?y3_4 HSD ?r3_4
   case y3_4 => intro wx hx; obtain ⟨h1, h2, h3⟩ := hx; go_simp; try (with_reducible rfl)
   simp only [Act.put, List.setIfInBounds_toArray, List.set_cons_zero, List.set_cons_succ]
   refine anyL_tk (i := 4) (v := ?v4_5) aZ4 (by kernel_rfl) ?y4_5 HSD ?r4_5
   case y4_5 => intro wx hx; obtain ⟨h1, h2, h3⟩ := hx; go_simp; try (with_reducible rfl)
   simp only [Act.put, List.setIfInBounds_toArray, List.set_cons_zero, List.set_cons_succ]
   refine anyL_tk (i := 5) (v := ?v5_6) aZ5 (by kernel_rfl) ?y5_6 HSD ?r5_6
   case y5_6 => intro wx hx; obtain ⟨h1, h2, h3⟩ := hx; go_simp; try (with_reducible rfl)
   simp only [Act.put, List.setIfInBounds_toArray, List.set_cons_zero, List.set_cons_succ]
   refine anyL_tk (i := 6) (v := ?v6_7) aZ6 (by kernel_rfl) ?y6_7 HSD ?r6_7
   case y6_7 => intro wx hx; obtain ⟨h1, h2, h3⟩ := hx; go_simp; try (with_reducible rfl)
   simp only [Act.put, List.setIfInBounds_toArray, List.set_cons_zero, List.set_cons_succ]
   refine anyL_tk (i := 7) (v := ?v7_8) aZ7 (by kernel_rfl) ?y7_8 HSD ?r7_8
   case y7_8 => intro wx hx; obtain ⟨h1, h2, h3⟩ := hx; go_simp; try (with_reducible rfl)
   simp only [Act.put, List.setIfInBounds_toArray, List.set_cons_zero, List.set_cons_succ]
   refine anyL_tk (i := 8) (v := ?v8_9) aZ8 (by kernel_rfl) ?y8_9 HSD ?r8_9
   case y8_9 => intro wx hx; obtain ⟨h1, h2, h3⟩ := hx; go_simp; try (with_reducible rfl)
   simp only [Act.put, List.setIfInBounds_toArray, List.set_cons_zero, List.set_cons_succ]
   refine anyL_tk (i := 9) (v := ?v9_10) aZ9 (by kernel_rfl) ?y9_10 HSD ?r9_10
   case y9_10 => intro wx hx; obtain ⟨h1, h2, h3⟩ := hx; go_simp; try (with_reducible rfl)
   simp only [Act.put, List.setIfInBounds_toArray, List.set_cons_zero, List.set_cons_succ]
   refine anyL_tk (i := 10) (v := ?v10_11) aZ10 (by kernel_rfl) ?y10_11 HSD ?r10_11
   case y10_11 => intro wx hx; obtain ⟨h1, h2, h3⟩ := hx; go_simp; try (with_reducible rfl)
   simp only [Act.put, List.setIfInBounds_toArray, List.set_cons_zero, List.set_cons_succ]
   refine anyL_one (i := 11) aZ11 (by kernel_rfl) rfl (fun K hK => ?_)
   go_simp
   with_reducible refine (HSH.out _ (HBw.out.trans (HA.out.drew.mono (by have := HBw.out.size; omega)))).mono ?_
   rintro e1 w5 ⟨v5, rfl, ho5, hb5⟩
   have hs5 := hb5.size
   obtain ⟨a5, c5, hv5⟩ := ho5.sl
   subst hv5
   have B5 := HB1.out.drew.below hb5 HB1.out.lt
   have S5 := HS1.out.drew.below hb5 HS1.out.lt
   obtain ⟨a6, c6, w6, hr6, ho6, hb6, hk6, hg6⟩ := HO1.out.pushA hb5 ho5 fin (by have := HLn.out; omega) (by show base ≤ W1.heap.size; have := HLT.out; omega)
   rw [HLn.out] at hr6 ho6
   have hlo := ho.out.lt
   have B6 : Blk w6 b #[.int .i64 z, .slice av (k + j) cv] 84 := hk6.blk B5 (by simp) (by decide) (by decide)
   have S6 : Blk w6 wr.heap.size #[.int .i64 fin, .slice a2 an cap2] 56 := (S5.alloc _).grown hg6 (fun e => by have := (hlo _ e.symm).2; omega)
   have HSE := HeldD.mk' B5 S5
   have HSF := HeldD.mk' (W := w5.alloc (.cells #[.int .i64 fin, .slice a5 NL.length c5] 56)) (B5.alloc _) (S5.alloc _)
   have HSG := HeldD.mk' B6 S6
   have R6 := hidP hr6
   have f6 := B6.fz 1
   have c6' := B6.cell 1 (v := .slice av (k + j) cv) rfl
   have HO7 : Hid (OwnApt (w6.setCell ⟨b, 1, none⟩ (.slice a6 (k + j + 1) c6)) base (.slice a6 (k + j + 1) c6) (Lst ++ [(fin, NL)])) := ho6.setCell (a := ⟨b, 1, none⟩) hb _
   have HB7 : Hid (Blk (w6.setCell ⟨b, 1, none⟩ (.slice a6 (k + j + 1) c6)) b #[.int .i64 z, .slice a6 (k + j + 1) c6] 84) := B6.set 1 _
   have hkA : Kept none wr w6 := ((Kept.of HA.out.drew).trans (Kept.of hb5)).trans hk6
   have hBA : Below b wr w6 := ((HA.out.drew.mono (Nat.le_of_lt hbb.out.lt)).trans (hb5.mono (by show b ≤ W1.heap.size; have := HLT.out; have := hbb.out.lt; omega))).trans (hb6.mono (Nat.le_of_lt hb))
   have HX7 : Hid (Blk (w6.setCell ⟨b, 1, none⟩ (.slice a6 (k + j + 1) c6)) W.heap.size #[.int .i64 zm, .slice (some ⟨b3, off, none⟩) n cap] 27) := (hkA.blk hbx.out (by simp) (by decide) (by decide)).setO ⟨b, 1, none⟩ _ (by show W.heap.size ≠ b; omega)
   have HL7 : Hid (Below b W (w6.setCell ⟨b, 1, none⟩ (.slice a6 (k + j + 1) c6))) := (hbl.out.trans hBA).setCell (p := ⟨b, 1, none⟩) (Nat.le_refl _) _
   have HK7 : Hid (Kept (some b) W (w6.setCell ⟨b, 1, none⟩ (.slice a6 (k + j + 1) c6))) := (hkp.out.trans (hkA.any _)).trans (Kept.setM w6 b 1 _)
   clear hr6 ho6 hb6 hk6 hg6 B5 S5 B6 S6 hkA hBA ho5 hb5 hlo
   refine hK _ _ (.inr HSE) ?_
   try simp only [Act.put, List.setIfInBounds_toArray, List.set_cons_zero, List.set_cons_succ]
   refine anyL_one (i := 12) aZ12 (by kernel_rfl) rfl (fun K hK => ?_)
   go_simp
   refine hK _ _ (.inr HSE) ?_
   try simp only [Act.put, List.setIfInBounds_toArray, List.set_cons_zero, List.set_cons_succ]
   refine anyL_one (i := 13) aZ13 (by kernel_rfl) rfl (fun K hK => ?_)
   go_simp
   refine hK _ _ (.inr HSF) ?_
   try simp only [Act.put, List.setIfInBounds_toArray, List.set_cons_zero, List.set_cons_succ]
   refine anyL_one (i := 14) aZ14 (by kernel_rfl) rfl (fun K hK => ?_)
   refine wp_append_run (.tmp 26) (.tmp 34) 25 rfl rfl rfl R6.out ?_
   refine hK _ _ (.inr HSG) ?_
   try simp only [Act.put, List.setIfInBounds_toArray, List.set_cons_zero, List.set_cons_succ]
   refine anyL_one (i := 15) aZ15 (by kernel_rfl) rfl (fun K hK => ?_)
   go_simp
   refine hK _ _ (.inr HSG) ?_
   try simp only [Act.put, List.setIfInBounds_toArray, List.set_cons_zero, List.set_cons_succ]
   refine anyL_one (i := 16) aZ16 (by kernel_rfl) rfl (fun K hK => ?_)
   go_simp
   refine hK _ _ (.inr HSG) ?_
   try simp only [Act.put, List.setIfInBounds_toArray, List.set_cons_zero, List.set_cons_succ]
   refine anyL_one (i := 17) aZ17 (by kernel_rfl) rfl (fun K hK => ?_)
   go_simp
   refine hK _ _ (.inr HSG) ?_
   try simp only [Act.put, List.setIfInBounds_toArray, List.set_cons_zero, List.set_cons_succ]
   refine anyL_one (i := 18) aZ18 (by kernel_rfl) rfl (fun K hK => ?_)
   go_simp
   refine hK _ _ (.inl rfl) (anyL_done (by kernel_rfl) (NoPanic.normal ?_))
   try simp only [Act.put, List.setIfInBounds_toArray, List.set_cons_zero, List.set_cons_succ]
   clear HSD HSE HSF HSG f6 c6'
   go_wp2
   go_roundw
   case rel => exact ⟨j + 1, _, by omega, by go_num, HX7, HB7, by rw [HTi.out]; exact HO7, HL7, HK7⟩
   case measure => simp [intOf]; omega
  ·have hnj : ¬ (j : Int) < (n : Int) := by omega
   obtain rfl : j = n := by omega
   have d0 := hbx.out.cell 0 (v := .int .i64 zm) rfl
   by_cases hz : zm = -1
   ·have hz' : (zm == -1) = true := by simpa using hz
    have HR : Hid ((if zm = -1 then (-1 : Int) else zm + (k : Int)) = -1) := if_pos hz
    go_wp2
    go_ret
    exact ⟨by first | rfl | (rw [HR.out]; rfl), ⟨_, hbb.out, ho.out⟩, hbl.out, hkp.out⟩
   ·have hz' : (zm == -1) = false := by simpa using hz
    have HR : Hid ((if zm = -1 then (-1 : Int) else zm + (k : Int)) = zm + (k : Int)) := if_neg hz
    have hwz : IntKind.i64.wrap (zm + (k : Int)) = zm + (k : Int) := wrapI (by omega) (by omega)
    go_wp2
    go_ret
    exact ⟨by first | rfl | (rw [HR.out]; rfl), ⟨_, hbb.out, ho.out⟩, hbl.out, hkp.out⟩
theorem res_built (tm : Array Value) (W : World) (R : Nat) (ec : Int) (x0 x1 : Value) (hB : Blk W R #[x0, x1] 27) (h2 : tm.getD 2 undef = .pointer (some ⟨R, 0, none⟩)) (h3 : tm.getD 3 undef = .int .i64 ec) : (results Try.f41 tm).run Try.prog W = .ok (.tuple #[.agg #[x0, x1], .int .i64 ec]) W := by
 have c0 := hB.cell 0 (v := x0) rfl
 have c1 := hB.cell 1 (v := x1) rfl
 simp only [Array.getD_eq_getD_getElem?] at h2 h3
 simp [results, Try.results41, go_sem, h2, h3, c0, c1]
def BuiRes (base : Nat) (x : Mc) (ec : Int) (w : World) (e : Ending) (w' : World) : Prop := ∃ vs, e = .returned (.tuple #[.agg #[.int .i64 x.1, vs], .int .i64 ec]) ∧ OwnSts w' base vs x.2 ∧ Below w.heap.size w w'
theorem OwnSts.setB {w : World} {base : Nat} {v : Value} {l : List St} (h : OwnSts w base v l) {a : Addr} (ha : a.block < base) (u : Value) : OwnSts (w.setCell a u) base v l := by
 obtain ⟨vs, h1, h2, h3⟩ := h
 exact ⟨vs, ownsRow_setCell_below h1 ha u, h2, fun j hj => ⟨(h3 j hj).1, ownsRow_setCell_below (h3 j hj).2 ha u⟩⟩
theorem BuiRes.rat {base R : Nat} {x : Mc} {ec : Int} {w w1 : World} {vs : Value} (ho : OwnSts w1 base vs x.2) (hR : R < base) (hb : Below w.heap.size w w1) (hwR : w.heap.size ≤ R) : RatRes x ec w (.returned (.tuple #[.agg #[.int .i64 x.1, vs], .int .i64 ec])) ((w1.setCell ⟨R, 0, none⟩ (.int .i64 x.1)).setCell ⟨R, 1, none⟩ vs) :=
 ⟨_, rfl, ⟨vs, rfl, ((ho.setB (a := ⟨R, 0, none⟩) hR _).setB (a := ⟨R, 1, none⟩) hR _).sts⟩, (hb.setCell (p := ⟨R, 0, none⟩) hwR _).setCell (p := ⟨R, 1, none⟩) hwR _⟩
theorem built_any (b base : Nat) (z : Int) (l : List St) (W : World) (h : Bui W 84 base b z l) (hbW : base ≤ W.heap.size) (hok : okM (z, l)) :
  Calls Try.prog 41 #[.pointer (some ⟨b, 0, none⟩)] W fun e W' => BuiRes base (if faultM (z, l) = 0 then (z, l) else (0, [])) (if faultM (z, l) = 0 then 0 else 5) W e W' := by
 obtain ⟨v, h1, h2⟩ := h
 have HM : Hid (Mach W (.agg #[.int .i64 z, v]) (z, l)) := ⟨_, rfl, h2.own.sts⟩
 have HB := hidP h1
 have HO := hidP h2.own
 obtain ⟨a, cap, hv⟩ := h2.sl
 subst hv
 have HK := hidP hok
 have c0 := h1.cell 0 (v := .int .i64 z) rfl
 have c1 := h1.cell 1 (v := .slice a l.length cap) rfl
 have hlt := h1.lt
 clear h1 h2 hok
 obtain ⟨r, hr⟩ : ∃ r, faultM (z, l) = r := ⟨_, rfl⟩
 have HR := hidP hr
 rw [hr]
 clear hr
 by_cases h0 : r = 0
 ·have h0' : (r != 0) = false := by simpa using h0
  rw [if_pos h0, if_pos h0]
  clear h0
  go_enter Try.func41, Try.ntmps41
  go_wp2_with (first
   | (go_at_call 30; (with_reducible refine (coreCheck_any _ (z, l) _ (HM.out.later (B := W.heap.size) (by go_grown) (Nat.le_refl _)) HK.out r HR.out).mono ?_); rintro e w1 ⟨rfl, hb⟩; simp only [World.size_alloc] at hb; have KR := hidP ((Blk.made W _ 27).below hb (by omega)); have HB1 := hidP (((Below.refl W.heap.size W).alloc (Nat.le_refl _) _).trans (hb.mono (by omega))); have KB := hidP (HB.out.below HB1.out hlt); have e0 := KR.out.cell 0 (v := .int .i64 0) rfl; have e1 := KR.out.cell 1 (v := .slice none 0 0) rfl; have g0 := KR.out.fz 0; have g1 := KR.out.fz 1; have d0 := KB.out.cell 0 (v := .int .i64 z) rfl; have d1 := KB.out.cell 1 (v := .slice a l.length cap) rfl; clear hb))
  exact bodyPost_ret (res_built _ _ W.heap.size 0 _ _ ((KR.out.set 0 (.int .i64 z)).set 1 (.slice a l.length cap)) rfl rfl) rfl ⟨_, rfl, HO.out.laterB ((HB1.out.setCell (Nat.le_refl _) _).setCell (Nat.le_refl _) _), (HB1.out.setCell (Nat.le_refl _) _).setCell (Nat.le_refl _) _⟩
 ·have h0' : (r != 0) = true := bne_iff_ne.2 h0
  rw [if_neg h0, if_neg h0]
  clear h0
  go_enter Try.func41, Try.ntmps41
  go_wp2_with (first
   | (go_at_call 30; (with_reducible refine (coreCheck_any _ (z, l) _ (HM.out.later (B := W.heap.size) (by go_grown) (Nat.le_refl _)) HK.out r HR.out).mono ?_); rintro e w1 ⟨rfl, hb⟩; simp only [World.size_alloc] at hb; have KR := hidP ((Blk.made W _ 27).below hb (by omega)); have HB1 := hidP (((Below.refl W.heap.size W).alloc (Nat.le_refl _) _).trans (hb.mono (by omega))); have e0 := KR.out.cell 0 (v := .int .i64 0) rfl; have e1 := KR.out.cell 1 (v := .slice none 0 0) rfl; have g0 := KR.out.fz 0; have g1 := KR.out.fz 1; clear hb))
  exact bodyPost_ret (res_built _ _ W.heap.size 5 _ _ ((KR.out.set 0 (.int .i64 0)).set 1 (.slice none 0 0)) rfl rfl) rfl ⟨_, rfl, OwnSts.nil _ _, (HB1.out.setCell (Nat.le_refl _) _).setCell (Nat.le_refl _) _⟩
theorem idx2_0 (a b c d : Value) (w : World) : (Instr.index 81 (.agg #[a, b, c, d]) (.int .i64 0)).run Try.prog w = .ok (.agg #[a, b]) w := by kernel_rfl
theorem idx2_1 (a b c d : Value) (w : World) : (Instr.index 81 (.agg #[a, b, c, d]) (.int .i64 1)).run Try.prog w = .ok (.agg #[c, d]) w := by kernel_rfl
set_option maxRecDepth 100000 in
theorem check2_any (za zb : Int) (aa ab : Option Addr) (ca cb : Nat) (la lb : List St) (w : World) (ha : Mach w (.agg #[.int .i64 za, .slice aa la.length ca]) (za, la)) (hoka : okM (za, la)) (hb : Mach w (.agg #[.int .i64 zb, .slice ab lb.length cb]) (zb, lb)) (hokb : okM (zb, lb)) :
  Calls Try.prog 37 #[.agg #[.int .i64 za, .slice aa la.length ca, .int .i64 zb, .slice ab lb.length cb]] w fun e w' => e = .returned (.int .i64 (if faultM (za, la) ≠ 0 then faultM (za, la) else faultM (zb, lb))) ∧ Below w.heap.size w w' := by
 have HA := hidP ha
 have HB := hidP hb
 have HKA := hidP hoka
 have HKB := hidP hokb
 obtain ⟨ra, hra⟩ : ∃ r, faultM (za, la) = r := ⟨_, rfl⟩
 obtain ⟨rb, hrb⟩ : ∃ r, faultM (zb, lb) = r := ⟨_, rfl⟩
 have HRA := hidP hra
 have HRB := hidP hrb
 rw [hra, hrb]
 clear hoka hokb ha hb hra hrb
 obtain ⟨r, hr⟩ : ∃ r, (if ra ≠ 0 then ra else rb) = r := ⟨_, rfl⟩
 have HRR := hidP hr
 rw [hr]
 clear hr
 generalize la.length = na at *
 generalize lb.length = nb at *
 go_enter Try.func37, Try.ntmps37
 go_wp2
 go_loopw [7] (fun i wr => ∃ (k : Int), 0 ≤ k ∧ k ≤ 2 ∧ i = .int .i64 k ∧ (1 ≤ k → ra = 0) ∧ (2 ≤ k → rb = 0) ∧ Hid (Below w.heap.size w wr)) (fun i _ => 2 - (intOf i).toNat)
 case atStart => exact ⟨0, by omega, by omega, rfl, by omega, by omega, hidP (by go_grown)⟩
 case round =>
  obtain ⟨k, hk0, hk, rfl, h1, h2, hb⟩ := hrel
  have i0 := idx2_0 (.int .i64 za) (.slice aa na ca) (.int .i64 zb) (.slice ab nb cb)
  have i1 := idx2_1 (.int .i64 za) (.slice aa na ca) (.int .i64 zb) (.slice ab nb cb)
  have hsr := hb.out.size
  rcases (show k = 0 ∨ k = 1 ∨ k = 2 by omega) with rfl | rfl | rfl
  ·have HC : Hid (∀ W, Below w.heap.size w W → Calls Try.prog 30 #[.agg #[.int .i64 za, .slice aa na ca]] W fun e w' => e = .returned (.int .i64 ra) ∧ Below W.heap.size W w') := fun W hW => coreCheck_any _ (za, la) W (HA.out.later hW (Nat.le_refl _)) HKA.out ra HRA.out
   clear h1 h2
   by_cases h0 : ra = 0
   ·have h0' : (ra != 0) = false := by simpa using h0
    have H0 := hidP h0
    clear h0
    go_wp2_with (first
     | (go_at_call 30; (with_reducible refine (HC.out _ (hb.out.alloc hsr _)).mono ?_); rintro e w1 ⟨rfl, hb1⟩; simp only [World.size_alloc] at hb1; have HB1 := hidP ((hb.out.alloc hsr _).trans (hb1.mono (by omega))); clear hb1))
    go_roundw
    case rel => exact ⟨1, by omega, by omega, by go_num, fun _ => H0.out, by omega, HB1⟩
    case measure => simp [intOf]
   ·have h0' : (ra != 0) = true := bne_iff_ne.2 h0
    have HR : Hid (r = ra) := by show _ = _; rw [← HRR.out, if_pos h0]
    clear h0
    go_wp2_with (first
     | (go_at_call 30; (with_reducible refine (HC.out _ (hb.out.alloc hsr _)).mono ?_); rintro e w1 ⟨rfl, hb1⟩; simp only [World.size_alloc] at hb1; have HB1 := hidP ((hb.out.alloc hsr _).trans (hb1.mono (by omega))); clear hb1))
    go_ret
    exact ⟨by rw [HR.out]; rfl, HB1.out⟩
  ·have HC : Hid (∀ W, Below w.heap.size w W → Calls Try.prog 30 #[.agg #[.int .i64 zb, .slice ab nb cb]] W fun e w' => e = .returned (.int .i64 rb) ∧ Below W.heap.size W w') := fun W hW => coreCheck_any _ (zb, lb) W (HB.out.later hW (Nat.le_refl _)) HKB.out rb HRB.out
   have HRA0 := hidP (h1 (by omega))
   have HR : Hid (r = rb) := by show _ = _; rw [← HRR.out, if_neg (by rw [HRA0.out]; simp)]
   clear h1 h2
   by_cases h0 : rb = 0
   ·have h0' : (rb != 0) = false := by simpa using h0
    have H0 := hidP h0
    clear h0
    go_wp2_with (first
     | (go_at_call 30; (with_reducible refine (HC.out _ (hb.out.alloc hsr _)).mono ?_); rintro e w1 ⟨rfl, hb1⟩; simp only [World.size_alloc] at hb1; have HB1 := hidP ((hb.out.alloc hsr _).trans (hb1.mono (by omega))); clear hb1))
    go_roundw
    case rel => exact ⟨2, by omega, by omega, by go_num, fun _ => HRA0.out, fun _ => H0.out, HB1⟩
    case measure => simp [intOf]
   ·have h0' : (rb != 0) = true := bne_iff_ne.2 h0
    clear h0
    go_wp2_with (first
     | (go_at_call 30; (with_reducible refine (HC.out _ (hb.out.alloc hsr _)).mono ?_); rintro e w1 ⟨rfl, hb1⟩; simp only [World.size_alloc] at hb1; have HB1 := hidP ((hb.out.alloc hsr _).trans (hb1.mono (by omega))); clear hb1))
    go_ret
    exact ⟨by rw [HR.out]; rfl, HB1.out⟩
  ·have HR : Hid (r = 0) := by
    show _ = _
    rw [← HRR.out, if_neg (by rw [h1 (by omega)]; simp), h2 (by omega)]
   clear h1 h2
   go_wp2
   go_ret
   exact ⟨by rw [HR.out]; rfl, hb.out⟩
end Go.Proofs.Ytfpibdaedfilaaa.Wt
