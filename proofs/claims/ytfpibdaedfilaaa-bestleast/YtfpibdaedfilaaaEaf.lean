/- tropicakeep.paid: what arcs from the start on cost, with an end. -/
import Derived.Test.YtfpibdaedfilaaaEac
import Derived.Test.YtfpibdaedfilaaaEae
import Derived.Test.YtfpibdaedfilaaaEab
import Derived.Test.YtfpibdaedfilaaaEaa
import Derived.Deep.QuietTactic
import Derived.BigQuiet
namespace Go.Proofs.Ytfpibdaedfilaaa.Bw
open Go.ChangeShapes Go.WideShapes Go.ChangeAt Go.RowKit
open Go.Proofs.Ytfpibdaedfilaaa.Pl Go.Proofs.Ytfpibdaedfilaaa.Wt
set_option linter.unusedVariables false
set_option linter.unusedSimpArgs false
def pdA (l : List St) (ks : List Int) (z : Int) : Int := match flwL l ks z with
 | none => 1000000001
 | some r => r.2.2
theorem pdA_none {l : List St} {ks : List Int} {z : Int} (h : flwL l ks z = none) : pdA l ks z = 1000000001 := by unfold pdA; rw [h]
theorem pdA_fin {l : List St} {ks : List Int} {z : Int} {x y : List Int} {c : Int} {q : Nat} (h : FlwI l ks z ks.length x y c (q : Int)) (hc : c ≤ 1000000000) : (if c = 1000000001 ∨ (el l q).1 = 1000000001 then 1000000001 else c + (el l q).1) = pdA l ks z := by
 unfold pdA
 rw [h.fin, Int.toNat_natCast]
 by_cases hf : (el l q).1 = 1000000001
 ·rw [if_pos (.inr hf), if_pos (.inr hf)]
 ·rw [if_neg (by omega), if_neg (by omega)]
def HeldP (p1 p2 p3 p4 p5 p6 p7 : Addr) (v1 v2 v3 v4 v5 v6 v7 : Value) (w : World) : Prop := w.cell? p1 = some v1 ∧ w.cell? p2 = some v2 ∧ w.cell? p3 = some v3 ∧ w.cell? p4 = some v4 ∧ w.cell? p5 = some v5 ∧ w.cell? p6 = some v6 ∧ w.cell? p7 = some v7
theorem arc_small {l : List St} (hc : CheapL l) {q : Nat} (hq : q < l.length) : ∀ p ∈ (el l q).2, p.2.2.1 ≤ 8000 := (hc _ (el_mem hq)).2
set_option maxRecDepth 100000 in
set_option maxHeartbeats 6400000 in
theorem paid_any (q0 : Nat) (l : List St) (a : Option Addr) (cap : Nat) (vk : Value) (ks : List Int) (w : World) (h : Mach w (.agg #[.int .i64 (q0 : Int), .slice a l.length cap]) ((q0 : Int), l)) (hr : faultM ((q0 : Int), l) = 0) (hc : CheapL l) (hk : Nums w vk ks) (hl : ks.length ≤ 400) :
  Calls Try.prog 16 #[.agg #[.int .i64 (q0 : Int), .slice a l.length cap], vk] w fun e w' => e = .returned (.int .i64 (pdA l ks (q0 : Int))) ∧ Below w.heap.size w w' := by
 have h60 : l.length ≤ 60 := (right_size hr).1
 have hR : RgtL l := RgtL.of (m := ((q0 : Int), l)) hr
 have hq0 : q0 < l.length := by have := (right_parts hr).1; simp only at this; omega
 obtain ⟨ka, kc, rfl, hkc⟩ := hk.get
 have HKC : Hid (∀ j, j < ks.length → ∃ b off, ka = some ⟨b, off, none⟩ ∧ b < w.heap.size ∧ w.cell? ⟨b, off + j, none⟩ = some (.int .i64 (el ks j))) := hkc
 obtain ⟨vs', hvs, hS⟩ := h
 simp only [Value.agg.injEq, Array.mk.injEq, List.cons.injEq, and_true, true_and] at hvs
 subst hvs
 obtain ⟨a0, cap0, hv0, hcS⟩ := hS.get
 simp only [Value.slice.injEq, true_and] at hv0
 obtain ⟨rfl, rfl⟩ := hv0
 have HC : Hid (∀ j, j < l.length → ∃ b off va, a = some ⟨b, off, none⟩ ∧ b < w.heap.size ∧ w.cell? ⟨b, off + j * 2, none⟩ = some (.int .i64 (el l j).1) ∧ w.cell? ⟨b, off + j * 2 + 1, none⟩ = some va ∧ Arcs w va (el l j).2) := hcS
 have HST : Hid (∀ j, j < l.length → finB (el l j).1 = true ∧ (el l j).2.length ≤ 400 ∧ ∀ p ∈ (el l j).2, 0 ≤ p.2.2.2 ∧ p.2.2.2 ≤ 1000) := right_states hr
 have HAR : Hid (∀ q, q < l.length → ∀ p ∈ (el l q).2, 0 ≤ p.2.2.1 ∧ p.2.2.1 ≤ 8000 ∧ ∃ t : Nat, p.2.2.2 = (t : Int) ∧ t < l.length) := fun q hq p hp => ⟨(hR.arc q hq p hp).1, arc_small hc hq p hp, (hR.arc q hq p hp).2.2⟩
 have HFN : Hid (∀ q, q < l.length → 0 ≤ (el l q).1 ∧ (el l q).1 ≤ 1000000001) := hR.fin
 have HSTA : Hid (FlwI l ks (q0 : Int) 0 [] [] 0 (q0 : Int)) := FlwI.start l ks _
 have HSTO : Hid (∀ i q x y c, FlwI l ks (q0 : Int) i x y c ((q : Nat) : Int) → i < ks.length → (el ks i < 0 ∨ ((el l q).2.length : Int) ≤ el ks i) → pdA l ks (q0 : Int) = 1000000001) := fun i q x y c hF hi hs => pdA_none (hF.stop hi (by rw [Int.toNat_natCast]; omega))
 have HSTE : Hid (∀ i q x y c, FlwI l ks (q0 : Int) i x y c ((q : Nat) : Int) → i < ks.length → 0 ≤ el ks i → el ks i < ((el l q).2.length : Int) → ∃ x' y', FlwI l ks (q0 : Int) (i + 1) x' y' (c + (el (el l q).2 (el ks i).toNat).2.2.1) (el (el l q).2 (el ks i).toNat).2.2.2) := fun i q x y c hF hi h0 h1 => by
  have := hF.step hi (by omega) h0 (by rw [Int.toNat_natCast]; exact h1)
  rw [Int.toNat_natCast] at this
  exact ⟨_, _, this⟩
 have HEND : Hid (∀ q x y c, FlwI l ks (q0 : Int) ks.length x y c ((q : Nat) : Int) → c ≤ 1000000000 → (if c = 1000000001 ∨ (el l q).1 = 1000000001 then 1000000001 else c + (el l q).1) = pdA l ks (q0 : Int)) := fun q x y c h1 h2 => pdA_fin h1 h2
 clear hS hcS hkc hk hr hc hR
 generalize pdA l ks (q0 : Int) = ans at *
 generalize hn : ks.length = n at *
 generalize hN : l.length = N at *
 have KS := hidP (Blk.made w #[.int .i64 (q0 : Int), .slice a N cap] 27)
 have HB1 : Hid (Below w.heap.size w (w.alloc (.cells #[.int .i64 (q0 : Int), .slice a N cap] 27))) := (Below.refl _ _).alloc (Nat.le_refl _) _
 clear hn hN
 go_enter Try.func16, Try.ntmps16
 go_wp2
 generalize w.alloc (.cells #[.int .i64 (q0 : Int), .slice a N cap] 27) = w1 at *
 go_loopw [5, 6, 7] (fun s5 s6 s7 wr => ∃ (i q : Nat) (x y : List Int) (c : Int), s5 = .int .i64 (q : Int) ∧ s6 = .int .i64 c ∧ s7 = .int .i64 (i : Int) ∧ i ≤ n ∧ q < N ∧ Hid (FlwI l ks (q0 : Int) i x y c (q : Int)) ∧ 0 ≤ c ∧ c ≤ 8000 * (i : Int) ∧ Hid (Below w1.heap.size w1 wr)) (fun _ _ s7 _ => n - (intOf s7).toNat)
 case atStart => exact ⟨0, q0, [], [], 0, by go_num, by go_num, by go_num, Nat.zero_le _, hq0, HSTA, by omega, by omega, Below.refl _ _⟩
 case round =>
  obtain ⟨i, q, x, y, c, rfl, rfl, rfl, hi, hq, hF, hc0, hc1, hb⟩ := hrel
  have KSr := hidP (KS.out.below hb.out KS.out.lt)
  have HBw := hidP (HB1.out.trans (hb.out.mono HB1.out.size))
  obtain ⟨b, off, va, hab, hbl, y0, y1, gA⟩ := HC.out q hq
  subst hab
  obtain ⟨a2, cap2, rfl, _⟩ := gA.get
  have d1 := KSr.out.cell 1 (v := .slice (some ⟨b, off, none⟩) N cap) rfl
  have hqi : (q : Int) < (N : Int) := by omega
  have hqi0 : (0 : Int) ≤ (q : Int) := by omega
  by_cases hin : i < n
  ·have hin' : (i : Int) < (n : Int) := by omega
   have hin0 : (0 : Int) ≤ (i : Int) := by omega
   obtain ⟨kb, ko, hka, hkb, k0⟩ := HKC.out i hin
   subst hka
   have z1 := (HBw.out.cell (p := ⟨b, off + q * 2 + 1, none⟩) hbl).trans y1
   have kc0 := (HBw.out.cell (p := ⟨kb, ko + i, none⟩) hkb).trans k0
   have HX1 := HSTO.out i q x y c hF.out hin
   have HX2 := HSTE.out i q x y c hF.out hin
   have HA4 := (HST.out q hq).2.1
   have HARq := hidP (HAR.out q hq)
   clear y0 hF
   have HGA := hidP gA
   have HY1 := hidP y1
   have HK0 := hidP k0
   clear y1 k0 gA
   generalize el ks i = kk at *
   generalize (el l q).2 = ar at *
   obtain ⟨na, hna⟩ : ∃ na, ar.length = na := ⟨_, rfl⟩
   have HNA := hidP hna
   rw [hna] at z1 HX1 HX2 HGA HY1 HA4
   clear hna
   by_cases h1 : kk < 0
   ·have hans := hidP (HX1 (.inl h1))
    clear HX1 HX2
    go_wp2
    go_quiet (fail)
    go_wp2
    go_ret
    exact ⟨by rw [hans.out]; rfl, below_drewN HBw.out _⟩
   ·have h1' : 0 ≤ kk := by omega
    clear h1
    by_cases h2 : (na : Int) ≤ kk
    ·have hans := hidP (HX1 (.inr h2))
     clear HX1 HX2
     go_wp2
     go_quiet (fail)
     go_wp2
     go_ret
     exact ⟨by rw [hans.out]; rfl, below_drewN HBw.out _⟩
    ·have h2' : kk < (na : Int) := by omega
     clear h2
     obtain ⟨x', y', hF'⟩ := HX2 h1' h2'
     obtain ⟨b3, off3, ha3, hb3, x0, x1, x2, x3⟩ := arcs_at HGA.out (j := kk.toNat) (by rw [HNA.out]; omega)
     subst ha3
     have hpr := HARq.out (el ar kk.toNat) (el_mem (by rw [HNA.out]; omega))
     clear HX1 HX2
     generalize el ar kk.toNat = p at *
     obtain ⟨p0, p1, p2, p3⟩ := p
     simp only at x0 x1 x2 x3 hpr hF'
     obtain ⟨hp2, hp2', t, rfl, ht⟩ := hpr
     have HF' := hidP hF'
     clear hF'
     have hwc : IntKind.i64.wrap (c + p2) = c + p2 := wrapI (by omega) (by omega)
     have HX0 := hidP x0
     have HX1 := hidP x1
     have HX2 := hidP x2
     have HX3 := hidP x3
     clear x0 x1 x2 x3
     go_wp2
     go_quiet (fail)
     go_wp2
     have HBq : Hid (Below w1.heap.size w1 (wr.drewN nq)) := below_drewN hb.out nq
     have HBv : Hid (Below w.heap.size w (wr.drewN nq)) := below_drewN HBw.out nq
     generalize wr.drewN nq = wv at *
     clear d1 z1 kc0 KSr
     have KSv := hidP (KS.out.below HBq.out KS.out.lt)
     have HBd : Hid (Below w1.heap.size w1 wv.drew) := HBq.out.drew
     have HS : HeldP ⟨w.heap.size, 1, none⟩ ⟨b, off + q * 2 + 1, none⟩ ⟨kb, ko + i, none⟩ ⟨b3, off3 + kk.toNat * 4, none⟩ ⟨b3, off3 + kk.toNat * 4 + 1, none⟩ ⟨b3, off3 + kk.toNat * 4 + 2, none⟩ ⟨b3, off3 + kk.toNat * 4 + 3, none⟩ (.slice (some ⟨b, off, none⟩) N cap) (.slice (some ⟨b3, off3, none⟩) na cap2) (.int .i64 kk) (.int .i64 p0) (.int .i64 p1) (.int .i64 p2) (.int .i64 (t : Int)) wv.drew := ⟨KSv.out.drew.cell 1 rfl, (HBv.out.drew.cell (p := ⟨b, off + q * 2 + 1, none⟩) hbl).trans HY1.out, (HBv.out.drew.cell (p := ⟨kb, ko + i, none⟩) hkb).trans HK0.out, (HBv.out.drew.cell (p := ⟨b3, off3 + kk.toNat * 4, none⟩) hb3).trans HX0.out, (HBv.out.drew.cell (p := ⟨b3, off3 + kk.toNat * 4 + 1, none⟩) hb3).trans HX1.out, (HBv.out.drew.cell (p := ⟨b3, off3 + kk.toNat * 4 + 2, none⟩) hb3).trans HX2.out, (HBv.out.drew.cell (p := ⟨b3, off3 + kk.toNat * 4 + 3, none⟩) hb3).trans HX3.out⟩
     refine region_anyL (HeldP ⟨w.heap.size, 1, none⟩ ⟨b, off + q * 2 + 1, none⟩ ⟨kb, ko + i, none⟩ ⟨b3, off3 + kk.toNat * 4, none⟩ ⟨b3, off3 + kk.toNat * 4 + 1, none⟩ ⟨b3, off3 + kk.toNat * 4 + 2, none⟩ ⟨b3, off3 + kk.toNat * 4 + 3, none⟩ (.slice (some ⟨b, off, none⟩) N cap) (.slice (some ⟨b3, off3, none⟩) na cap2) (.int .i64 kk) (.int .i64 p0) (.int .i64 p1) (.int .i64 p2) (.int .i64 (t : Int))) 100 (by kernel_rfl) ?_
     generalize wv.drew = wd at *
     refine anyL_tk (i := 0) (v := ?v0_1) aZ0 (by kernel_rfl) ?y0_1 HS ?r0_1
     case y0_1 => intro wx hx; obtain ⟨h0, h1, h2, h3, h4, h5, h6⟩ := hx; go_simp; try (with_reducible rfl)
     simp only [Act.put, List.setIfInBounds_toArray, List.set_cons_zero, List.set_cons_succ]
     refine anyL_tk (i := 1) (v := ?v1_2) aZ1 (by kernel_rfl) ?y1_2 HS ?r1_2
     case y1_2 => intro wx hx; obtain ⟨h0, h1, h2, h3, h4, h5, h6⟩ := hx; go_simp; try (with_reducible rfl)
     simp only [Act.put, List.setIfInBounds_toArray, List.set_cons_zero, List.set_cons_succ]
     refine anyL_tk (i := 2) (v := ?v2_3) aZ2 (by kernel_rfl) ?y2_3 HS ?r2_3
     case y2_3 => intro wx hx; obtain ⟨h0, h1, h2, h3, h4, h5, h6⟩ := hx; go_simp; try (with_reducible rfl)
     simp only [Act.put, List.setIfInBounds_toArray, List.set_cons_zero, List.set_cons_succ]
     refine anyL_tk (i := 3) (v := ?v3_4) aZ3 (by kernel_rfl) ?y3_4 HS ?r3_4
     case y3_4 => intro wx hx; obtain ⟨h0, h1, h2, h3, h4, h5, h6⟩ := hx; go_simp; try (with_reducible rfl)
     simp only [Act.put, List.setIfInBounds_toArray, List.set_cons_zero, List.set_cons_succ]
     refine anyL_tk (i := 4) (v := ?v4_5) aZ4 (by kernel_rfl) ?y4_5 HS ?r4_5
     case y4_5 => intro wx hx; obtain ⟨h0, h1, h2, h3, h4, h5, h6⟩ := hx; go_simp; try (with_reducible rfl)
     simp only [Act.put, List.setIfInBounds_toArray, List.set_cons_zero, List.set_cons_succ]
     refine anyL_tk (i := 5) (v := ?v5_6) aZ5 (by kernel_rfl) ?y5_6 HS ?r5_6
     case y5_6 => intro wx hx; obtain ⟨h0, h1, h2, h3, h4, h5, h6⟩ := hx; go_simp; try (with_reducible rfl)
     simp only [Act.put, List.setIfInBounds_toArray, List.set_cons_zero, List.set_cons_succ]
     refine anyL_tk (i := 6) (v := ?v6_7) aZ6 (by kernel_rfl) ?y6_7 HS ?r6_7
     case y6_7 => intro wx hx; obtain ⟨h0, h1, h2, h3, h4, h5, h6⟩ := hx; go_simp; try (with_reducible rfl)
     simp only [Act.put, List.setIfInBounds_toArray, List.set_cons_zero, List.set_cons_succ]
     refine anyL_tk (i := 7) (v := ?v7_8) aZ7 (by kernel_rfl) ?y7_8 HS ?r7_8
     case y7_8 => intro wx hx; obtain ⟨h0, h1, h2, h3, h4, h5, h6⟩ := hx; go_simp; try (with_reducible rfl)
     simp only [Act.put, List.setIfInBounds_toArray, List.set_cons_zero, List.set_cons_succ]
     refine anyL_tk (i := 8) (v := ?v8_9) aZ8 (by kernel_rfl) ?y8_9 HS ?r8_9
     case y8_9 => intro wx hx; obtain ⟨h0, h1, h2, h3, h4, h5, h6⟩ := hx; go_simp; try (with_reducible rfl)
     simp only [Act.put, List.setIfInBounds_toArray, List.set_cons_zero, List.set_cons_succ]
     refine anyL_tk (i := 9) (v := ?v9_10) aZ9 (by kernel_rfl) ?y9_10 HS ?r9_10
     case y9_10 => intro wx hx; obtain ⟨h0, h1, h2, h3, h4, h5, h6⟩ := hx; go_simp; try (with_reducible rfl)
     simp only [Act.put, List.setIfInBounds_toArray, List.set_cons_zero, List.set_cons_succ]
     refine anyL_tk (i := 10) (v := ?v10_11) aZ10 (by kernel_rfl) ?y10_11 HS ?r10_11
     case y10_11 => intro wx hx; obtain ⟨h0, h1, h2, h3, h4, h5, h6⟩ := hx; go_simp; try (with_reducible rfl)
     simp only [Act.put, List.setIfInBounds_toArray, List.set_cons_zero, List.set_cons_succ]
     refine anyL_tk (i := 11) (v := ?v11_12) aZ11 (by kernel_rfl) ?y11_12 HS ?r11_12
     case y11_12 => intro wx hx; obtain ⟨h0, h1, h2, h3, h4, h5, h6⟩ := hx; go_simp; try (with_reducible rfl)
     simp only [Act.put, List.setIfInBounds_toArray, List.set_cons_zero, List.set_cons_succ]
     refine anyL_one (i := 12) aZ12 (by kernel_rfl) rfl (fun K hK => ?_)
     go_simp
     have hbA : ∀ o, Below wd.heap.size wd (wd.alloc o) := fun o => (Below.refl _ _).alloc (Nat.le_refl _) _
     have hkeep : ∀ o, HeldP ⟨w.heap.size, 1, none⟩ ⟨b, off + q * 2 + 1, none⟩ ⟨kb, ko + i, none⟩ ⟨b3, off3 + kk.toNat * 4, none⟩ ⟨b3, off3 + kk.toNat * 4 + 1, none⟩ ⟨b3, off3 + kk.toNat * 4 + 2, none⟩ ⟨b3, off3 + kk.toNat * 4 + 3, none⟩ (.slice (some ⟨b, off, none⟩) N cap) (.slice (some ⟨b3, off3, none⟩) na cap2) (.int .i64 kk) (.int .i64 p0) (.int .i64 p1) (.int .i64 p2) (.int .i64 (t : Int)) (wd.alloc o) := fun o => ⟨low HS.1 (hbA o), low HS.2.1 (hbA o), low HS.2.2.1 (hbA o), low HS.2.2.2.1 (hbA o), low HS.2.2.2.2.1 (hbA o), low HS.2.2.2.2.2.1 (hbA o), low HS.2.2.2.2.2.2 (hbA o)⟩
     refine hK _ _ (.inr (hkeep _)) ?_
     try simp only [Act.put, List.setIfInBounds_toArray, List.set_cons_zero, List.set_cons_succ]
     refine anyL_one (i := 13) aZ13 (by kernel_rfl) rfl (fun K hK => ?_)
     go_simp
     refine hK _ _ (.inr (hkeep _)) ?_
     try simp only [Act.put, List.setIfInBounds_toArray, List.set_cons_zero, List.set_cons_succ]
     refine anyL_done (by kernel_rfl) (NoPanic.normal ?_)
     try simp only [Act.put, List.setIfInBounds_toArray, List.set_cons_zero, List.set_cons_succ]
     have HBe : Hid (Below w1.heap.size w1 (wd.alloc (.cells #[.int .i64 p0, .int .i64 p1, .int .i64 p2, .int .i64 (t : Int)] 58))) := HBd.out.alloc HBd.out.size _
     clear hkeep hbA HS
     go_wp2
     go_roundw
     case rel => exact ⟨i + 1, t, x', y', c + p2, by go_num, by go_num, by go_num, by omega, ht, HF'.out, by omega, by push_cast; omega, HBe.out⟩
     case measure => simp [intOf]; omega
  ·have hni : (n : Int) ≤ (i : Int) := by omega
   have hin2 : i = n := by omega
   have hEN := HEND.out q x y c (by rw [← hin2]; exact hF.out) (by omega)
   have hf := HFN.out q hq
   have HBO : Hid (∀ W, Calls Try.prog 35 #[.int .i64 c, .int .i64 (el l q).1] W fun e w' => e = .returned (.int .i64 ans) ∧ W = w') := fun W => by rw [← hEN]; exact both_any _ _ W ⟨hc0, by omega⟩ hf
   have z0 := (HBw.out.cell (p := ⟨b, off + q * 2, none⟩) hbl).trans y0
   clear hEN hf y0 y1 gA hin2
   generalize (el l q).1 = fin at *
   go_wp2_with (first
    | (go_at_call 35; (with_reducible refine (HBO.out _).mono ?_); rintro e w' ⟨rfl, rfl⟩))
   go_ret
   exact ⟨rfl, HBw.out⟩
def HeldW (p1 p2 p3 : Addr) (v1 v2 v3 : Value) (w : World) : Prop := w.cell? p1 = some v1 ∧ w.cell? p2 = some v2 ∧ w.cell? p3 = some v3
set_option maxRecDepth 100000 in
set_option maxHeartbeats 6400000 in
theorem walk_any (q0 : Nat) (l : List St) (a : Option Addr) (cap : Nat) (vk : Value) (ks : List Int) (w : World) (h : Mach w (.agg #[.int .i64 (q0 : Int), .slice a l.length cap]) ((q0 : Int), l)) (hr : faultM ((q0 : Int), l) = 0) (hk : Nums w vk ks) (hwf : ∀ n ∈ ks, (Lit.int .i64 n).wf = true) :
  Calls Try.prog 18 #[.agg #[.int .i64 (q0 : Int), .slice a l.length cap], vk] w fun e w' => ∃ v' L, e = .returned v' ∧ Nums w' v' L ∧ L.length ≤ 20 ∧ Below w.heap.size w w' := by
 have h60 : l.length ≤ 60 := (right_size hr).1
 have hR : RgtL l := RgtL.of (m := ((q0 : Int), l)) hr
 have hq0 : q0 < l.length := by have := (right_parts hr).1; simp only at this; omega
 obtain ⟨ka, kc, rfl, hkc⟩ := hk.get
 have HKC : Hid (∀ j, j < ks.length → ∃ b off, ka = some ⟨b, off, none⟩ ∧ b < w.heap.size ∧ w.cell? ⟨b, off + j, none⟩ = some (.int .i64 (el ks j)) ∧ (Lit.int .i64 (el ks j)).wf = true) := fun j hj => by
  obtain ⟨b, off, h1, h2, h3⟩ := hkc j hj
  exact ⟨b, off, h1, h2, h3, hwf _ (el_mem hj)⟩
 obtain ⟨vs', hvs, hS⟩ := h
 simp only [Value.agg.injEq, Array.mk.injEq, List.cons.injEq, and_true, true_and] at hvs
 subst hvs
 obtain ⟨a0, cap0, hv0, hcS⟩ := hS.get
 simp only [Value.slice.injEq, true_and] at hv0
 obtain ⟨rfl, rfl⟩ := hv0
 have HC : Hid (∀ j, j < l.length → ∃ b off va, a = some ⟨b, off, none⟩ ∧ b < w.heap.size ∧ w.cell? ⟨b, off + j * 2, none⟩ = some (.int .i64 (el l j).1) ∧ w.cell? ⟨b, off + j * 2 + 1, none⟩ = some va ∧ Arcs w va (el l j).2) := hcS
 have HST : Hid (∀ j, j < l.length → finB (el l j).1 = true ∧ (el l j).2.length ≤ 400 ∧ ∀ p ∈ (el l j).2, 0 ≤ p.2.2.2 ∧ p.2.2.2 ≤ 1000) := right_states hr
 have HAR : Hid (∀ q, q < l.length → ∀ p ∈ (el l q).2, ∃ t : Nat, p.2.2.2 = (t : Int) ∧ t < l.length) := fun q hq p hp => (hR.arc q hq p hp).2.2
 clear hS hcS hkc hk hr hR hwf
 generalize hn : ks.length = n at *
 generalize hN : l.length = N at *
 have KS := hidP (Blk.made w #[.int .i64 (q0 : Int), .slice a N cap] 27)
 have HB1 : Hid (Below w.heap.size w (w.alloc (.cells #[.int .i64 (q0 : Int), .slice a N cap] 27))) := (Below.refl _ _).alloc (Nat.le_refl _) _
 clear hn hN
 go_enter Try.func18, Try.ntmps18
 go_wp2
 generalize w.alloc (.cells #[.int .i64 (q0 : Int), .slice a N cap] 27) = w1 at *
 have HO0 : Hid (OwnI w1 w1.heap.size (.slice none 0 0) []) := OwnI.nil _ _
 go_loopw [5, 6, 7] (fun s5 s6 s7 wr => ∃ (i q : Nat) (ao : Option Addr) (co : Nat) (L : List Int), s5 = .int .i64 (q : Int) ∧ s6 = .slice ao i co ∧ s7 = .int .i64 (i : Int) ∧ i ≤ n ∧ i ≤ 20 ∧ q < N ∧ Hid (L.length = i) ∧ Hid (OwnI wr w1.heap.size (.slice ao i co) L) ∧ Hid (Below w1.heap.size w1 wr)) (fun _ _ s7 _ => n - (intOf s7).toNat)
 case atStart => exact ⟨0, q0, _, _, [], by go_num, rfl, by go_num, Nat.zero_le _, Nat.zero_le _, hq0, rfl, HO0, Below.refl _ _⟩
 case round =>
  obtain ⟨i, q, ao, co, L, rfl, rfl, rfl, hi, hi20, hq, hL, hO, hb⟩ := hrel
  have KSr := hidP (KS.out.below hb.out KS.out.lt)
  have HBw := hidP (HB1.out.trans (hb.out.mono HB1.out.size))
  obtain ⟨b, off, va, hab, hbl, y0, y1, gA⟩ := HC.out q hq
  subst hab
  obtain ⟨a2, cap2, rfl, _⟩ := gA.get
  have d1 := KSr.out.cell 1 (v := .slice (some ⟨b, off, none⟩) N cap) rfl
  have z1 := (HBw.out.cell (p := ⟨b, off + q * 2 + 1, none⟩) hbl).trans y1
  have hqi : (q : Int) < (N : Int) := by omega
  have hqi0 : (0 : Int) ≤ (q : Int) := by omega
  have hEND : Hid (Nums wr (.slice ao i co) L ∧ L.length ≤ 20) := ⟨hO.out.nums, by rw [hL.out]; exact hi20⟩
  by_cases hin : i < n
  ·have hin' : (i : Int) < (n : Int) := by omega
   have hin0 : (0 : Int) ≤ (i : Int) := by omega
   by_cases hi2 : i < 20
   ·have hi2' : (i : Int) < 20 := by omega
    have HA4 := (HST.out q hq).2.1
    have HARq := hidP (HAR.out q hq)
    have HGA := hidP gA
    have HY1 := hidP y1
    clear y0 y1 gA
    generalize (el l q).2 = ar at *
    obtain ⟨na, hna⟩ : ∃ na, ar.length = na := ⟨_, rfl⟩
    have HNA := hidP hna
    rw [hna] at z1 HGA HY1 HA4
    clear hna
    by_cases hn0 : 0 < na
    ·have hn0' : (0 : Int) < (na : Int) := by omega
     obtain ⟨kb, ko, hka, hkb, k0, kw⟩ := HKC.out i hin
     subst hka
     have HK0 := hidP k0
     clear k0
     generalize el ks i = kk at *
     obtain ⟨j, hj⟩ : ∃ j : Nat, pkR kk (na : Int) = (j : Int) := ⟨(pkR kk (na : Int)).toNat, by have := (pkR_bd kk (na : Int) hn0').1; omega⟩
     have hjn : j < na := by have := (pkR_bd kk (na : Int) hn0').2; omega
     have HPK : Hid (∀ W, Calls Try.prog 19 #[.int .i64 kk, .int .i64 (na : Int)] W fun e w' => e = .returned (.int .i64 (j : Int)) ∧ W = w') := fun W => picked_R kk _ W kw hn0' (by omega) _ hj
     clear hj kw
     obtain ⟨b3, off3, ha3, hb3, x0, x1, x2, x3⟩ := arcs_at HGA.out (j := j) (by rw [HNA.out]; exact hjn)
     subst ha3
     obtain ⟨t, ht1, ht⟩ := HARq.out (el ar j) (el_mem (by rw [HNA.out]; exact hjn))
     rw [ht1] at x3
     have HX3 := hidP x3
     clear x0 x1 x2 x3 ht1 hEND
     go_wp2
     clear d1 z1
     have HBd : Hid (Below w1.heap.size w1 wr.drew) := hb.out.drew
     have HBv : Hid (Below w.heap.size w wr.drew) := HBw.out.drew
     have HOd : Hid (OwnI wr.drew w1.heap.size (.slice ao i co) L) := hO.out.later (Below.refl _ _).drew
     have HS : HeldW ⟨w.heap.size, 1, none⟩ ⟨b, off + q * 2 + 1, none⟩ ⟨kb, ko + i, none⟩ (.slice (some ⟨b, off, none⟩) N cap) (.slice (some ⟨b3, off3, none⟩) na cap2) (.int .i64 kk) wr.drew := ⟨KSr.out.drew.cell 1 rfl, (HBv.out.cell (p := ⟨b, off + q * 2 + 1, none⟩) hbl).trans HY1.out, (HBv.out.cell (p := ⟨kb, ko + i, none⟩) hkb).trans HK0.out⟩
     refine region_anyL (HeldW ⟨w.heap.size, 1, none⟩ ⟨b, off + q * 2 + 1, none⟩ ⟨kb, ko + i, none⟩ (.slice (some ⟨b, off, none⟩) N cap) (.slice (some ⟨b3, off3, none⟩) na cap2) (.int .i64 kk)) 100 (by kernel_rfl) ?_
     clear hb hO
     generalize wr.drew = wd at *
     refine anyL_tk (i := 0) (v := ?v0_1) aZ0 (by kernel_rfl) ?y0_1 HS ?r0_1
     case y0_1 => intro wx hx; obtain ⟨h0, h1, h2⟩ := hx; go_simp; try (with_reducible rfl)
     simp only [Act.put, List.setIfInBounds_toArray, List.set_cons_zero, List.set_cons_succ]
     refine anyL_tk (i := 1) (v := ?v1_2) aZ1 (by kernel_rfl) ?y1_2 HS ?r1_2
     case y1_2 => intro wx hx; obtain ⟨h0, h1, h2⟩ := hx; go_simp; try (with_reducible rfl)
     simp only [Act.put, List.setIfInBounds_toArray, List.set_cons_zero, List.set_cons_succ]
     refine anyL_tk (i := 2) (v := ?v2_3) aZ2 (by kernel_rfl) ?y2_3 HS ?r2_3
     case y2_3 => intro wx hx; obtain ⟨h0, h1, h2⟩ := hx; go_simp; try (with_reducible rfl)
     simp only [Act.put, List.setIfInBounds_toArray, List.set_cons_zero, List.set_cons_succ]
     refine anyL_tk (i := 3) (v := ?v3_4) aZ3 (by kernel_rfl) ?y3_4 HS ?r3_4
     case y3_4 => intro wx hx; obtain ⟨h0, h1, h2⟩ := hx; go_simp; try (with_reducible rfl)
     simp only [Act.put, List.setIfInBounds_toArray, List.set_cons_zero, List.set_cons_succ]
     refine anyL_tk (i := 4) (v := ?v4_5) aZ4 (by kernel_rfl) ?y4_5 HS ?r4_5
     case y4_5 => intro wx hx; obtain ⟨h0, h1, h2⟩ := hx; go_simp; try (with_reducible rfl)
     simp only [Act.put, List.setIfInBounds_toArray, List.set_cons_zero, List.set_cons_succ]
     refine anyL_tk (i := 5) (v := ?v5_6) aZ5 (by kernel_rfl) ?y5_6 HS ?r5_6
     case y5_6 => intro wx hx; obtain ⟨h0, h1, h2⟩ := hx; go_simp; try (with_reducible rfl)
     simp only [Act.put, List.setIfInBounds_toArray, List.set_cons_zero, List.set_cons_succ]
     refine anyL_tk (i := 6) (v := ?v6_7) aZ6 (by kernel_rfl) ?y6_7 HS ?r6_7
     case y6_7 => intro wx hx; obtain ⟨h0, h1, h2⟩ := hx; go_simp; try (with_reducible rfl)
     simp only [Act.put, List.setIfInBounds_toArray, List.set_cons_zero, List.set_cons_succ]
     refine anyL_tk (i := 7) (v := ?v7_8) aZ7 (by kernel_rfl) ?y7_8 HS ?r7_8
     case y7_8 => intro wx hx; obtain ⟨h0, h1, h2⟩ := hx; go_simp; try (with_reducible rfl)
     simp only [Act.put, List.setIfInBounds_toArray, List.set_cons_zero, List.set_cons_succ]
     refine anyL_tk (i := 8) (v := ?v8_9) aZ8 (by kernel_rfl) ?y8_9 HS ?r8_9
     case y8_9 => intro wx hx; obtain ⟨h0, h1, h2⟩ := hx; go_simp; try (with_reducible rfl)
     simp only [Act.put, List.setIfInBounds_toArray, List.set_cons_zero, List.set_cons_succ]
     refine anyL_tk (i := 9) (v := ?v9_10) aZ9 (by kernel_rfl) ?y9_10 HS ?r9_10
     case y9_10 => intro wx hx; obtain ⟨h0, h1, h2⟩ := hx; go_simp; try (with_reducible rfl)
     simp only [Act.put, List.setIfInBounds_toArray, List.set_cons_zero, List.set_cons_succ]
     refine anyL_tk (i := 10) (v := ?v10_11) aZ10 (by kernel_rfl) ?y10_11 HS ?r10_11
     case y10_11 => intro wx hx; obtain ⟨h0, h1, h2⟩ := hx; go_simp; try (with_reducible rfl)
     simp only [Act.put, List.setIfInBounds_toArray, List.set_cons_zero, List.set_cons_succ]
     refine anyL_one (i := 11) aZ11 (by kernel_rfl) rfl (fun K hK => ?_)
     go_simp
     with_reducible refine (HPK.out _).mono ?_
     rintro e w' ⟨rfl, rfl⟩
     refine hK _ _ (.inr HS) ?_
     try simp only [Act.put, List.setIfInBounds_toArray, List.set_cons_zero, List.set_cons_succ]
     refine anyL_one (i := 12) aZ12 (by kernel_rfl) rfl (fun K hK => ?_)
     go_simp
     refine hK _ _ (.inr HS) ?_
     try simp only [Act.put, List.setIfInBounds_toArray, List.set_cons_zero, List.set_cons_succ]
     refine anyL_done (by kernel_rfl) (NoPanic.normal ?_)
     try simp only [Act.put, List.setIfInBounds_toArray, List.set_cons_zero, List.set_cons_succ]
     clear HS
     obtain ⟨a4, k4, w4, r4, ho4, hb4⟩ := OwnI.push HOd.out (j : Int) (by rw [hL.out]; omega) HBd.out.size
     rw [hL.out] at r4 ho4
     have R4 := hidP r4
     have HO4 := hidP ho4
     have HB4 : Hid (Below w1.heap.size w1 w4) := HBd.out.trans hb4
     have HBw4 : Hid (Below w.heap.size w w4) := HB1.out.trans (HB4.out.mono HB1.out.size)
     have KS4 := hidP (KS.out.below HB4.out KS.out.lt)
     have d1 := KS4.out.cell 1 (v := .slice (some ⟨b, off, none⟩) N cap) rfl
     have z1 := (HBw4.out.cell (p := ⟨b, off + q * 2 + 1, none⟩) hbl).trans HY1.out
     have x3 := (HBw4.out.cell (p := ⟨b3, off3 + j * 4 + 3, none⟩) hb3).trans HX3.out
     have hj0 : (0 : Int) ≤ (j : Int) := by omega
     have hjn' : (j : Int) < (na : Int) := by omega
     clear r4 ho4 hb4
     go_wp2_with (first
      | (at_builtin; refine wpListAppendRun rfl _ _ 34 rfl rfl rfl R4.out ?_; clear R4))
     have HL4 : Hid ((L ++ [(j : Int)]).length = i + 1) := by show _ = _; rw [List.length_append, hL.out]; rfl
     go_roundw
     case rel => exact ⟨i + 1, t, a4, k4, L ++ [(j : Int)], by go_num, rfl, by go_num, by omega, by omega, ht, HL4.out, (by first | exact HO4.out | exact HO4.out.later (below_drewN (Below.refl _ _) _)), (by first | exact HB4.out | exact below_drewN HB4.out _)⟩
     case measure => simp [intOf]; omega
    ·have hn0' : (na : Int) ≤ 0 := by omega
     go_wp2
     go_ret
     first | exact ⟨_, L, rfl, hEND.out.1, hEND.out.2, HBw.out⟩ | exact ⟨_, rfl, L, hEND.out.1, hEND.out.2, HBw.out⟩
   ·have hi2' : (20 : Int) ≤ (i : Int) := by omega
    go_wp2
    go_ret
    first | exact ⟨_, L, rfl, hEND.out.1, hEND.out.2, HBw.out⟩ | exact ⟨_, rfl, L, hEND.out.1, hEND.out.2, HBw.out⟩
  ·have hni : (n : Int) ≤ (i : Int) := by omega
   go_wp2
   go_ret
   first | exact ⟨_, L, rfl, hEND.out.1, hEND.out.2, HBw.out⟩ | exact ⟨_, rfl, L, hEND.out.1, hEND.out.2, HBw.out⟩
end Go.Proofs.Ytfpibdaedfilaaa.Bw
namespace Go.Proofs.Ytfpibdaedfilaaa.Pl
set_option linter.unusedVariables false
set_option linter.unusedSimpArgs false
theorem cst_exists {P : Nat → Prop} (hb : ∀ c, P c → ∃ d, d ≤ 100000000 ∧ P d) : ∃ n, CstIs P n := by
  by_cases h : ∃ c, P c
  · obtain ⟨c, hc⟩ := h
    have key : ∀ k, (∃ d, d ≤ k ∧ P d) → ∃ c, LeastP P c ∧ c ≤ k := by
      intro k
      induction k with
      | zero =>
        rintro ⟨d, hd, hp⟩
        obtain rfl : d = 0 := by omega
        exact ⟨0, ⟨hp, fun _ _ => Nat.zero_le _⟩, Nat.le_refl _⟩
      | succ k ih =>
        rintro ⟨d, hd, hp⟩
        by_cases g : ∃ d, d ≤ k ∧ P d
        · obtain ⟨c, h1, h2⟩ := ih g
          exact ⟨c, h1, by omega⟩
        · have hdk : d = k + 1 := by
            by_cases e : d ≤ k
            · exact absurd ⟨d, e, hp⟩ g
            · omega
          subst hdk
          refine ⟨k + 1, ⟨hp, fun e he => ?_⟩, Nat.le_refl _⟩
          by_cases g2 : e ≤ k
          · exact absurd ⟨e, g2, he⟩ g
          · omega
    obtain ⟨c, h1, h2⟩ := key 100000000 (hb c hc)
    exact ⟨_, .inr ⟨c, h1, h2, rfl⟩⟩
  · exact ⟨_, .inl ⟨rfl, fun c hc => h ⟨c, hc⟩⟩⟩
end Go.Proofs.Ytfpibdaedfilaaa.Pl
