/- arrange.Sorted and arrange.ByOut. -/
import Derived.Test.YthajkkobgfighaaGreatDoorJaC
import Derived.Test.YthajkkobgfighaaGreatDoorJaA
import Derived.Test.YthajkkobgfighaaGreatDoorJap
namespace Go.Proofs.YthajkkobgfighaaGreatDoor.Wt
open Go.ChangeShapes Go.WideShapes Go.ChangeAt Go.RowKit
open Go.Proofs.YthajkkobgfighaaGreatDoor.Pl
set_option linter.unusedVariables false
set_option linter.unusedSimpArgs false
set_option maxRecDepth 100000 in
set_option maxHeartbeats 1000000 in
theorem sorted_any (v : Value) (m : Mc) (w : World) (h : Mach w v m) (hok : okM m) (r : Int) (hr : faultM m = r) :
  Calls Tryz.prog 10 #[v] w fun e w' => ∃ v', e = .returned (.tuple #[v', .int .i64 r]) ∧ MachFrom w.heap.size w' v' (resM r (mapM (sortS false) m)) ∧ Below w.heap.size w w' := by
 obtain ⟨z, l⟩ := m
 obtain ⟨vs, rfl, hS⟩ := h
 obtain ⟨a, cap, rfl⟩ := hS.sl
 have HM : Hid (Mach w (.agg #[.int .i64 z, .slice a l.length cap]) (z, l)) := ⟨_, rfl, hS⟩
 have HK : Hid (okM (z, l)) := hok
 have HR : Hid (faultM (z, l) = r) := hr
 clear hS hok hr
 simp only
 generalize l.length = n at *
 have eg : ∀ args w, (callFunc 57 args).run Tryz.prog w = .ok (.enter 57 args) w := enters_of Tryz.func57 (by kernel_rfl) rfl
 go_enter Tryz.func10, Tryz.ntmps10
 go_wp2
 have k0 : Blk ((w.alloc (.cells #[.int .i64 z, .slice a n cap] 24)).alloc (.cells #[.int .i64 0, .slice none 0 0] 24)).drew w.heap.size #[.int .i64 z, .slice a n cap] 24 := (Blk.made w _ _).alloc _
 have HS : HeldN w.heap.size z (.slice a n cap) ((w.alloc (.cells #[.int .i64 z, .slice a n cap] 24)).alloc (.cells #[.int .i64 0, .slice none 0 0] 24)).drew := ⟨k0.cell 0 rfl, k0.cell 1 rfl⟩
 refine region_anyL (HeldN w.heap.size z (.slice a n cap)) 1000 (by kernel_rfl) ?_
 refine anyL_tk (i := 0) (v := ?v0_1) aZ0 (by kernel_rfl) ?y0_1 HS ?r0_1
 case y0_1 => intro wx hx; obtain ⟨h1, h2⟩ := hx; go_simp; try (with_reducible rfl)
 simp only [Act.put, List.setIfInBounds_toArray, List.set_cons_zero, List.set_cons_succ]
 refine anyL_tk (i := 1) (v := ?v1_2) aZ1 (by kernel_rfl) ?y1_2 HS ?r1_2
 case y1_2 => intro wx hx; obtain ⟨h1, h2⟩ := hx; go_simp; try (with_reducible rfl)
 simp only [Act.put, List.setIfInBounds_toArray, List.set_cons_zero, List.set_cons_succ]
 refine anyL_one (i := 2) aZ2 (by kernel_rfl) rfl (fun K hK => ?_)
 go_simp
 refine (sortedBy_any false _ _ _ ⟨rfl, rfl⟩).mono ?_
 rintro e w1 ⟨fv, rfl, ⟨F, Ky, rfl, hF, hKy, hcF⟩, hb⟩
 obtain ⟨s1, b0, b1, hb1⟩ := boxed2 (below_undrew hb) (by simp [World.drew])
 have HS1 : HeldN w.heap.size z (.slice a n cap) w1 := ⟨b0.cell 0 rfl, b0.cell 1 rfl⟩
 refine hK _ _ (.inr HS1) ?_
 try simp only [Act.put, List.setIfInBounds_toArray, List.set_cons_zero, List.set_cons_succ]
 refine anyL_one (i := 3) aZ3 (by kernel_rfl) rfl (fun K hK => ?_)
 go_simp
 refine (arranged_any _ (z, l) _ (HM.out.later hb1 (Nat.le_refl _)) HK.out _ _ (sortS false) eg (put_sort false Ky F w1 hKy hF hcF) r HR.out).mono ?_
 rintro e w2 ⟨v2, rfl, hm2, hb2⟩
 obtain ⟨a2, c2, rfl⟩ := hm2.sl
 generalize hMe : resM r (mapM (sortS false) (z, l)) = M at *
 have HMe : Hid (resM r (mapM (sortS false) (z, l)) = M) := hMe
 clear hMe
 have b02 := b0.below hb2 b0.lt
 have b12 := b1.below hb2 b1.lt
 have HS2 : HeldN w.heap.size z (.slice a n cap) w2 := ⟨b02.cell 0 rfl, b02.cell 1 rfl⟩
 have HB2 : Hid (Below w.heap.size w w2) := hb1.trans (hb2.mono hb1.size)
 have HM2 : Hid (MachFrom w.heap.size ((w2.setCell ⟨w.heap.size + 1, 0, none⟩ (.int .i64 M.1)).setCell ⟨w.heap.size + 1, 1, none⟩ (.slice a2 M.2.length c2)) (.agg #[.int .i64 M.1, .slice a2 M.2.length c2]) M) := ((hm2.set (by show w.heap.size + 1 < _; omega) _).set (by show w.heap.size + 1 < _; omega) _).mono (by omega)
 have e0 := b12.cell 0 (v := .int .i64 0) rfl
 have e1 := b12.cell 1 (v := .slice none 0 0) rfl
 have f0 := b12.fz 0
 have f1 := b12.fz 1
 refine hK _ _ (.inr HS2) ?_
 try simp only [Act.put, List.setIfInBounds_toArray, List.set_cons_zero, List.set_cons_succ]
 refine anyL_tk (i := 4) (v := ?v4_3) aZ4 (by kernel_rfl) ?y4_3 HS2 ?r4_3
 case y4_3 => intro wx hx; obtain ⟨h1, h2⟩ := hx; go_simp; try (with_reducible rfl)
 simp only [Act.put, List.setIfInBounds_toArray, List.set_cons_zero, List.set_cons_succ]
 refine anyL_tk (i := 5) (v := ?v5_4) aZ5 (by kernel_rfl) ?y5_4 HS2 ?r5_4
 case y5_4 => intro wx hx; obtain ⟨h1, h2⟩ := hx; go_simp; try (with_reducible rfl)
 simp only [Act.put, List.setIfInBounds_toArray, List.set_cons_zero, List.set_cons_succ]
 refine anyL_one (i := 6) aZ6 (by kernel_rfl) rfl (fun K hK => ?_)
 go_simp
 have b03 := (b02.setO (⟨w.heap.size + 1, 0, none⟩ : Addr) (.int .i64 M.1) (by show w.heap.size ≠ w.heap.size + 1; omega)).setO (⟨w.heap.size + 1, 1, none⟩ : Addr) (.slice a2 M.2.length c2) (by show w.heap.size ≠ w.heap.size + 1; omega)
 have HS3 : HeldN w.heap.size z (.slice a n cap) _ := ⟨b03.cell 0 rfl, b03.cell 1 rfl⟩
 refine hK _ _ (.inr HS3) ?_
 try simp only [Act.put, List.setIfInBounds_toArray, List.set_cons_zero, List.set_cons_succ]
 refine anyL_tk (i := 7) (v := ?v7_5) aZ7 (by kernel_rfl) ?y7_5 HS3 ?r7_5
 case y7_5 => intro wx hx; obtain ⟨h1, h2⟩ := hx; go_simp; try (with_reducible rfl)
 simp only [Act.put, List.setIfInBounds_toArray, List.set_cons_zero, List.set_cons_succ]
 refine anyL_done (by kernel_rfl) (NoPanic.normal ?_)
 clear b0 b1 b02 b03 HS HS1 HS2 HS3 hm2 hb hb1 hb2 k0
 have b12' := (b12.set 0 (.int .i64 M.1)).set 1 (.slice a2 M.2.length c2)
 have x0 := b12'.cell 0 (v := .int .i64 M.1) rfl
 have x1 := b12'.cell 1 (v := .slice a2 M.2.length c2) rfl
 clear b12 b12' e0 e1 f0 f1
 have HB3 : Hid (Below w.heap.size w ((w2.setCell ⟨w.heap.size + 1, 0, none⟩ (.int .i64 M.1)).setCell ⟨w.heap.size + 1, 1, none⟩ (.slice a2 M.2.length c2))) := (HB2.out.setCell (by show _ ≤ w.heap.size + 1; omega) _).setCell (by show _ ≤ w.heap.size + 1; omega) _
 generalize (w2.setCell ⟨w.heap.size + 1, 0, none⟩ (.int .i64 M.1)).setCell ⟨w.heap.size + 1, 1, none⟩ (.slice a2 M.2.length c2) = w3 at *
 go_wp2
 exact bodyPost_ret (v := .tuple #[.agg #[.int .i64 M.1, .slice a2 M.2.length c2], .int .i64 r]) (by simp [results, Tryz.results10, go_sem, *]) rfl ⟨_, rfl, by rw [HMe.out]; exact HM2.out, HB3.out⟩
theorem wrapK {n : Int} (h0 : -9223372036854775808 ≤ n) (h1 : n ≤ 9223372036854775807) : IntKind.i64.wrap n = n := by
 have h64 : IntKind.i64.wrap n = if n % 18446744073709551616 ≥ 9223372036854775808 then n % 18446744073709551616 - 18446744073709551616 else n % 18446744073709551616 := by
  simp [IntKind.wrap, IntKind.bits, IntKind.signed]
 rw [h64]
 split <;> omega
def cells4 (w : World) (b o : Nat) (a : Ar) : Prop := w.cell? ⟨b, o, none⟩ = some (.int .i64 a.1) ∧ w.cell? ⟨b, o + 1, none⟩ = some (.int .i64 a.2.1) ∧ w.cell? ⟨b, o + 2, none⟩ = some (.int .i64 a.2.2.1) ∧ w.cell? ⟨b, o + 3, none⟩ = some (.int .i64 a.2.2.2)
theorem cells4.later {w w' : World} {b o B : Nat} {a : Ar} (h : cells4 w b o a) (hb : Below B w w') (hB : b < B) : cells4 w' b o a := ⟨(hb.cell hB).trans h.1, (hb.cell hB).trans h.2.1, (hb.cell hB).trans h.2.2.1, (hb.cell hB).trans h.2.2.2⟩
theorem below_undrewJ {B : Nat} {w w' : World} (h : Below B w.drew w') : Below B w w' := ⟨h.os, h.tape, h.output, h.size, h.block⟩
def HeldJ (b off d : Nat) (x y : Ar) (w : World) : Prop := cells4 w b (off + (d + 1) * 4) x ∧ cells4 w b (off + d * 4) y
set_option maxRecDepth 100000 in
set_option maxHeartbeats 1000000 in
theorem isSorted_any (va : Value) (l : List Ar) (w : World) (h : Arcs w va l) (hl : l.length ≤ 4398046511104) (r : Bool) (hr : sortB l = r) :
  Calls Tryz.prog 73 #[va, .func (.func 74) #[] #[]] w fun e w' => e = .returned (.bool r) ∧ Below w.heap.size w w' := by
 obtain ⟨a, cap, rfl, hc⟩ := h.get
 have eg : ∀ ar W, (callFunc 74 ar).run Tryz.prog W = .ok (.enter 74 ar) W := enters_of Tryz.func74 (by kernel_rfl) rfl
 by_cases hz : 0 < l.length
 ·have HC : Hid (∀ j, j < l.length → ∃ b off, a = some ⟨b, off, none⟩ ∧ b < w.heap.size ∧ cells4 w b (off + j * 4) (el l j)) := hc
  have HR : Hid (sortB l = r) := hr
  clear h hc hr
  generalize hn : l.length = n at *
  have HN : Hid (l.length = n) := hn
  clear hn
  have hn1 : (n : Int) - 1 = ((n - 1 : Nat) : Int) := by omega
  have hn0 : n - 1 < n := by omega
  go_enter Tryz.func73, Tryz.ntmps73
  go_wp2
  go_loopw [5] (fun i wr => ∃ c : Nat, c < n ∧ i = .int .i64 c ∧ Hid (∀ j, c ≤ j → j + 1 < n → aheadB (el l (j + 1)) (el l j) = false) ∧ Below w.heap.size w wr) (fun i _ => (intOf i).toNat)
  case atStart => exact ⟨n - 1, hn0, by rw [← hn1], (fun j h1 h2 => by omega), Below.refl _ _⟩
  case round =>
   obtain ⟨c, hcn, rfl, hok, hb⟩ := hrel
   by_cases hc0 : 0 < c
   ·obtain ⟨d, rfl⟩ : ∃ d, c = d + 1 := ⟨c - 1, by omega⟩
    obtain ⟨b, off, rfl, hbl, g1⟩ := HC.out (d + 1) hcn
    obtain ⟨b2, off2, he, _, g2⟩ := HC.out d (by omega)
    injection he with he
    injection he with he1 he2 _
    subst he1 he2
    have HS : Hid (HeldJ b off d (el l (d + 1)) (el l d) wr) := ⟨g1.later hb hbl, g2.later hb hbl⟩
    have HS0 : HeldJ b off d (el l (d + 1)) (el l d) wr.drew := HS.out
    have k1 : (0 : Int) ≤ (d : Int) + 1 := by omega
    have k2 : (d : Int) + 1 < (n : Int) := by omega
    have k3 : (0 : Int) ≤ (d : Int) := by omega
    have k4 : (d : Int) < (n : Int) := by omega
    have k5 : IntKind.i64.wrap (d : Int) = (d : Int) := wrapK (by omega) (by omega)
    clear g1 g2
    generalize hv : orI (cmpI (el l (d + 1)).1 (el l d).1) (cmpI (el l (d + 1)).2.1 (el l d).2.1) (cmpI (el l (d + 1)).2.2.2 (el l d).2.2.2) (cmpI (el l (d + 1)).2.2.1 (el l d).2.2.1) = v
    have HV : Hid (orI (cmpI (el l (d + 1)).1 (el l d).1) (cmpI (el l (d + 1)).2.1 (el l d).2.1) (cmpI (el l (d + 1)).2.2.2 (el l d).2.2.2) (cmpI (el l (d + 1)).2.2.1 (el l d).2.2.1) = v) := hv
    have hva : decide (v < 0) = aheadB (el l (d + 1)) (el l d) := by rw [← hv]; exact orI_neg _ _
    clear hv
    rcases bool_cases' (aheadB (el l (d + 1)) (el l d)) with ha | ha
    ·have HO : Hid (false = r) := by
      show _ = _
      rw [← HR.out]
      rcases bool_cases' (sortB l) with hq | hq
      ·have := sortB_iff.1 hq d (by rw [HN.out]; omega)
       rw [ha] at this; cases this
      ·exact hq.symm
     rw [ha] at hva
     have hneg : v < 0 := by simpa using hva
     clear ha hva hok
     generalize hx : el l (d + 1) = x at HS HS0 HV
     generalize hy : el l d = y at HS HS0 HV
     clear hx hy
     go_wp2
     refine region_anyL (HeldJ b off d x y) 1000 (by kernel_rfl) ?_
     refine anyL_tk (i := 0) (v := ?v0_1) aZ0 (by kernel_rfl) ?y0_1 HS0 ?r0_1
     case y0_1 => intro wx hx; obtain ⟨⟨x0, x1, x2, x3⟩, ⟨y0, y1, y2, y3⟩⟩ := hx; go_simp; try (with_reducible rfl)
     simp only [Act.put, List.setIfInBounds_toArray, List.set_cons_zero, List.set_cons_succ]
     refine anyL_tk (i := 1) (v := ?v1_2) aZ1 (by kernel_rfl) ?y1_2 HS0 ?r1_2
     case y1_2 => intro wx hx; obtain ⟨⟨x0, x1, x2, x3⟩, ⟨y0, y1, y2, y3⟩⟩ := hx; go_simp; try (with_reducible rfl)
     simp only [Act.put, List.setIfInBounds_toArray, List.set_cons_zero, List.set_cons_succ]
     refine anyL_tk (i := 2) (v := ?v2_3) aZ2 (by kernel_rfl) ?y2_3 HS0 ?r2_3
     case y2_3 => intro wx hx; obtain ⟨⟨x0, x1, x2, x3⟩, ⟨y0, y1, y2, y3⟩⟩ := hx; go_simp; try (with_reducible rfl)
     simp only [Act.put, List.setIfInBounds_toArray, List.set_cons_zero, List.set_cons_succ]
     refine anyL_tk (i := 3) (v := ?v3_4) aZ3 (by kernel_rfl) ?y3_4 HS0 ?r3_4
     case y3_4 => intro wx hx; obtain ⟨⟨x0, x1, x2, x3⟩, ⟨y0, y1, y2, y3⟩⟩ := hx; go_simp; try (with_reducible rfl)
     simp only [Act.put, List.setIfInBounds_toArray, List.set_cons_zero, List.set_cons_succ]
     refine anyL_tk (i := 4) (v := ?v4_5) aZ4 (by kernel_rfl) ?y4_5 HS0 ?r4_5
     case y4_5 => intro wx hx; obtain ⟨⟨x0, x1, x2, x3⟩, ⟨y0, y1, y2, y3⟩⟩ := hx; go_simp; try (with_reducible rfl)
     simp only [Act.put, List.setIfInBounds_toArray, List.set_cons_zero, List.set_cons_succ]
     refine anyL_tk (i := 5) (v := ?v5_6) aZ5 (by kernel_rfl) ?y5_6 HS0 ?r5_6
     case y5_6 => intro wx hx; obtain ⟨⟨x0, x1, x2, x3⟩, ⟨y0, y1, y2, y3⟩⟩ := hx; go_simp; try (with_reducible rfl)
     simp only [Act.put, List.setIfInBounds_toArray, List.set_cons_zero, List.set_cons_succ]
     refine anyL_tk (i := 6) (v := ?v6_7) aZ6 (by kernel_rfl) ?y6_7 HS0 ?r6_7
     case y6_7 => intro wx hx; obtain ⟨⟨x0, x1, x2, x3⟩, ⟨y0, y1, y2, y3⟩⟩ := hx; go_simp; try (with_reducible rfl)
     simp only [Act.put, List.setIfInBounds_toArray, List.set_cons_zero, List.set_cons_succ]
     refine anyL_tk (i := 7) (v := ?v7_8) aZ7 (by kernel_rfl) ?y7_8 HS0 ?r7_8
     case y7_8 => intro wx hx; obtain ⟨⟨x0, x1, x2, x3⟩, ⟨y0, y1, y2, y3⟩⟩ := hx; go_simp; try (with_reducible rfl)
     simp only [Act.put, List.setIfInBounds_toArray, List.set_cons_zero, List.set_cons_succ]
     refine anyL_tk (i := 8) (v := ?v8_9) aZ8 (by kernel_rfl) ?y8_9 HS0 ?r8_9
     case y8_9 => intro wx hx; obtain ⟨⟨x0, x1, x2, x3⟩, ⟨y0, y1, y2, y3⟩⟩ := hx; go_simp; try (with_reducible rfl)
     simp only [Act.put, List.setIfInBounds_toArray, List.set_cons_zero, List.set_cons_succ]
     refine anyL_tk (i := 9) (v := ?v9_10) aZ9 (by kernel_rfl) ?y9_10 HS0 ?r9_10
     case y9_10 => intro wx hx; obtain ⟨⟨x0, x1, x2, x3⟩, ⟨y0, y1, y2, y3⟩⟩ := hx; go_simp; try (with_reducible rfl)
     simp only [Act.put, List.setIfInBounds_toArray, List.set_cons_zero, List.set_cons_succ]
     refine anyL_one (i := 10) aZ10 (by kernel_rfl) rfl (fun K hK => ?_)
     go_simp
     refine (inOrder_any x y _ v HV.out).mono ?_
     rintro e w1 ⟨rfl, hb1⟩
     have HB1 : Hid (Below w.heap.size w w1) := hb.trans ((below_undrewJ hb1).mono hb.size)
     have HS1 : HeldJ b off d x y w1 := ⟨HS.out.1.later (below_undrewJ hb1) (Nat.lt_of_lt_of_le hbl hb.size), HS.out.2.later (below_undrewJ hb1) (Nat.lt_of_lt_of_le hbl hb.size)⟩
     refine hK _ _ (.inr HS1) ?_
     try simp only [Act.put, List.setIfInBounds_toArray, List.set_cons_zero, List.set_cons_succ]
     refine anyL_one (i := 11) aZ11 (by kernel_rfl) rfl (fun K hK => ?_)
     go_simp
     refine hK _ _ (.inr HS1) (anyL_done (by kernel_rfl) (NoPanic.normal ?_))
     try simp only [Act.put, List.setIfInBounds_toArray, List.set_cons_zero, List.set_cons_succ]
     clear HS0 HS1 HS hK
     go_wp2
     go_ret
     exact ⟨ret_boolK HO.out, HB1.out⟩
    ·have HO : Hid (∀ j, d ≤ j → j + 1 < n → aheadB (el l (j + 1)) (el l j) = false) := fun j h1 h2 => by
      by_cases e : j = d
      ·subst e; exact ha
      ·exact hok.out j (by omega) h2
     rw [ha] at hva
     have hneg : ¬ v < 0 := by simpa using hva
     clear ha hva hok
     generalize hx : el l (d + 1) = x at HS HS0 HV
     generalize hy : el l d = y at HS HS0 HV
     clear hx hy
     go_wp2
     refine region_anyL (HeldJ b off d x y) 1000 (by kernel_rfl) ?_
     refine anyL_tk (i := 0) (v := ?v0_11) aZ0 (by kernel_rfl) ?y0_11 HS0 ?r0_11
     case y0_11 => intro wx hx; obtain ⟨⟨x0, x1, x2, x3⟩, ⟨y0, y1, y2, y3⟩⟩ := hx; go_simp; try (with_reducible rfl)
     simp only [Act.put, List.setIfInBounds_toArray, List.set_cons_zero, List.set_cons_succ]
     refine anyL_tk (i := 1) (v := ?v1_12) aZ1 (by kernel_rfl) ?y1_12 HS0 ?r1_12
     case y1_12 => intro wx hx; obtain ⟨⟨x0, x1, x2, x3⟩, ⟨y0, y1, y2, y3⟩⟩ := hx; go_simp; try (with_reducible rfl)
     simp only [Act.put, List.setIfInBounds_toArray, List.set_cons_zero, List.set_cons_succ]
     refine anyL_tk (i := 2) (v := ?v2_13) aZ2 (by kernel_rfl) ?y2_13 HS0 ?r2_13
     case y2_13 => intro wx hx; obtain ⟨⟨x0, x1, x2, x3⟩, ⟨y0, y1, y2, y3⟩⟩ := hx; go_simp; try (with_reducible rfl)
     simp only [Act.put, List.setIfInBounds_toArray, List.set_cons_zero, List.set_cons_succ]
     refine anyL_tk (i := 3) (v := ?v3_14) aZ3 (by kernel_rfl) ?y3_14 HS0 ?r3_14
     case y3_14 => intro wx hx; obtain ⟨⟨x0, x1, x2, x3⟩, ⟨y0, y1, y2, y3⟩⟩ := hx; go_simp; try (with_reducible rfl)
     simp only [Act.put, List.setIfInBounds_toArray, List.set_cons_zero, List.set_cons_succ]
     refine anyL_tk (i := 4) (v := ?v4_15) aZ4 (by kernel_rfl) ?y4_15 HS0 ?r4_15
     case y4_15 => intro wx hx; obtain ⟨⟨x0, x1, x2, x3⟩, ⟨y0, y1, y2, y3⟩⟩ := hx; go_simp; try (with_reducible rfl)
     simp only [Act.put, List.setIfInBounds_toArray, List.set_cons_zero, List.set_cons_succ]
     refine anyL_tk (i := 5) (v := ?v5_16) aZ5 (by kernel_rfl) ?y5_16 HS0 ?r5_16
     case y5_16 => intro wx hx; obtain ⟨⟨x0, x1, x2, x3⟩, ⟨y0, y1, y2, y3⟩⟩ := hx; go_simp; try (with_reducible rfl)
     simp only [Act.put, List.setIfInBounds_toArray, List.set_cons_zero, List.set_cons_succ]
     refine anyL_tk (i := 6) (v := ?v6_17) aZ6 (by kernel_rfl) ?y6_17 HS0 ?r6_17
     case y6_17 => intro wx hx; obtain ⟨⟨x0, x1, x2, x3⟩, ⟨y0, y1, y2, y3⟩⟩ := hx; go_simp; try (with_reducible rfl)
     simp only [Act.put, List.setIfInBounds_toArray, List.set_cons_zero, List.set_cons_succ]
     refine anyL_tk (i := 7) (v := ?v7_18) aZ7 (by kernel_rfl) ?y7_18 HS0 ?r7_18
     case y7_18 => intro wx hx; obtain ⟨⟨x0, x1, x2, x3⟩, ⟨y0, y1, y2, y3⟩⟩ := hx; go_simp; try (with_reducible rfl)
     simp only [Act.put, List.setIfInBounds_toArray, List.set_cons_zero, List.set_cons_succ]
     refine anyL_tk (i := 8) (v := ?v8_19) aZ8 (by kernel_rfl) ?y8_19 HS0 ?r8_19
     case y8_19 => intro wx hx; obtain ⟨⟨x0, x1, x2, x3⟩, ⟨y0, y1, y2, y3⟩⟩ := hx; go_simp; try (with_reducible rfl)
     simp only [Act.put, List.setIfInBounds_toArray, List.set_cons_zero, List.set_cons_succ]
     refine anyL_tk (i := 9) (v := ?v9_20) aZ9 (by kernel_rfl) ?y9_20 HS0 ?r9_20
     case y9_20 => intro wx hx; obtain ⟨⟨x0, x1, x2, x3⟩, ⟨y0, y1, y2, y3⟩⟩ := hx; go_simp; try (with_reducible rfl)
     simp only [Act.put, List.setIfInBounds_toArray, List.set_cons_zero, List.set_cons_succ]
     refine anyL_one (i := 10) aZ10 (by kernel_rfl) rfl (fun K hK => ?_)
     go_simp
     refine (inOrder_any x y _ v HV.out).mono ?_
     rintro e w1 ⟨rfl, hb1⟩
     have HB1 : Hid (Below w.heap.size w w1) := hb.trans ((below_undrewJ hb1).mono hb.size)
     have HS1 : HeldJ b off d x y w1 := ⟨HS.out.1.later (below_undrewJ hb1) (Nat.lt_of_lt_of_le hbl hb.size), HS.out.2.later (below_undrewJ hb1) (Nat.lt_of_lt_of_le hbl hb.size)⟩
     refine hK _ _ (.inr HS1) ?_
     try simp only [Act.put, List.setIfInBounds_toArray, List.set_cons_zero, List.set_cons_succ]
     refine anyL_one (i := 11) aZ11 (by kernel_rfl) rfl (fun K hK => ?_)
     go_simp
     refine hK _ _ (.inr HS1) (anyL_done (by kernel_rfl) (NoPanic.normal ?_))
     try simp only [Act.put, List.setIfInBounds_toArray, List.set_cons_zero, List.set_cons_succ]
     clear HS0 HS1 HS hK
     go_wp2
     go_roundw
     case rel => exact ⟨d, by omega, by go_num, HO, HB1.out⟩
     case measure => simp [intOf]
   ·obtain rfl : c = 0 := by omega
    have HO : Hid (true = r) := by show _ = _; rw [← HR.out]; exact (sortB_iff.2 (fun i hi => hok.out i (Nat.zero_le _) (by rw [← HN.out]; exact hi))).symm
    clear hok
    go_wp2
    go_ret
    exact ⟨ret_boolK HO.out, hb⟩
 ·obtain rfl : l = [] := List.eq_nil_of_length_eq_zero (by omega)
  subst hr
  go_enter Tryz.func73, Tryz.ntmps73
  go_wp2
  refine wp_loop_rounds 1 ?_; rw [rounds_succ]
  go_wp2
  go_ret
  exact ⟨rfl, Below.refl _ _⟩
theorem isInOrder_ask (l : List St) (w : World) (hl : ∀ j, j < l.length → (el l j).2.length ≤ 4398046511104) : AskS 46 #[] (fun s => sortB s.2) l w := by
 refine ⟨enters_of Tryz.func46 (by kernel_rfl) rfl, fun j hj W va hW hA => ?_⟩
 have HL : Hid ((el l j).2.length ≤ 4398046511104) := hl j hj
 generalize el l j = s at *
 obtain ⟨f, ar⟩ := s
 simp only at hA HL ⊢
 show Calls _ _ #[.agg #[.int .i64 f, va]] W _
 obtain ⟨a, cap, rfl⟩ := hA.sl
 have HA : Hid (Arcs W (.slice a ar.length cap) ar) := hA
 clear hA
 go_enter Tryz.func46, Tryz.ntmps46
 go_wp2_with (first | (go_at_call 73; (with_reducible refine (isSorted_any _ ar _ (HA.out.later (B := W.heap.size) (by go_grown) (Nat.le_refl _)) HL.out _ rfl).mono ?_); rintro e w1 ⟨rfl, hb⟩; obtain ⟨s1, b1, hb1⟩ := boxed hb (by simp)))
 go_ret
 exact ⟨rfl, hb1⟩
end Go.Proofs.YthajkkobgfighaaGreatDoor.Wt
namespace Go.Proofs.YthajkkobgfighaaGreatDoor.Wt
open Go.ChangeShapes Go.WideShapes Go.ChangeAt Go.RowKit
open Go.Proofs.YthajkkobgfighaaGreatDoor.Pl
set_option linter.unusedVariables false
def accA (a : Ar) : Bool := decide (a.1 = a.2.1)
def fullA (a : Ar) : Bool := !(decide (a.1 = 0) && decide (a.2.1 = 0))
def freeA (a : Ar) : Bool := decide (a.2.2.1 = 0)
def freeS (s : St) : Bool := decide (s.1 = 0) || decide (s.1 = 1000000001)
theorem acc_ask (w : World) : AskA 43 #[] accA w := by
 refine ⟨enters_of Tryz.func43 (by kernel_rfl) rfl, fun a W hW => ?_⟩
 obtain ⟨a0, a1, a2, a3⟩ := a
 show Calls _ _ #[.agg #[.int .i64 a0, .int .i64 a1, .int .i64 a2, .int .i64 a3]] W _
 by_cases h : a0 = a1
 ·subst h
  go_enter Tryz.func43, Tryz.ntmps43
  go_wp2
  go_ret
  exact ⟨ret_boolK (by simp [accA]), by go_grown⟩
 ·have hne : (a0 == a1) = false := by simpa using h
  go_enter Tryz.func43, Tryz.ntmps43
  go_wp2
  go_ret
  exact ⟨ret_boolK (by simp [accA, h]), by go_grown⟩
theorem free_ask (w : World) : AskA 47 #[] freeA w := by
 refine ⟨enters_of Tryz.func47 (by kernel_rfl) rfl, fun a W hW => ?_⟩
 obtain ⟨a0, a1, a2, a3⟩ := a
 show Calls _ _ #[.agg #[.int .i64 a0, .int .i64 a1, .int .i64 a2, .int .i64 a3]] W _
 by_cases h : a2 = 0
 ·subst h
  go_enter Tryz.func47, Tryz.ntmps47
  go_wp2
  go_ret
  exact ⟨ret_boolK (by simp [freeA]), by go_grown⟩
 ·have hne : (a2 == 0) = false := by simpa using h
  go_enter Tryz.func47, Tryz.ntmps47
  go_wp2
  go_ret
  exact ⟨ret_boolK (by simp [freeA, h]), by go_grown⟩
theorem full_ask (w : World) : AskA 42 #[] fullA w := by
 refine ⟨enters_of Tryz.func42 (by kernel_rfl) rfl, fun a W hW => ?_⟩
 obtain ⟨a0, a1, a2, a3⟩ := a
 show Calls _ _ #[.agg #[.int .i64 a0, .int .i64 a1, .int .i64 a2, .int .i64 a3]] W _
 by_cases h : a0 = 0
 ·subst h
  by_cases h1 : a1 = 0
  ·subst h1
   go_enter Tryz.func42, Tryz.ntmps42
   go_wp2
   go_ret
   exact ⟨ret_boolK (by simp [fullA]), by go_grown⟩
  ·have hne : (a1 != 0) = true := by simpa using h1
   go_enter Tryz.func42, Tryz.ntmps42
   go_wp2
   go_ret
   exact ⟨ret_boolK (by simp [fullA, h1]), by go_grown⟩
 ·have hne : (a0 != 0) = true := by simpa using h
  go_enter Tryz.func42, Tryz.ntmps42
  go_wp2
  go_ret
  exact ⟨ret_boolK (by simp [fullA, h]), by go_grown⟩
theorem ends_ask (l : List St) (w : World) : AskS 48 #[] freeS l w := by
 refine ⟨enters_of Tryz.func48 (by kernel_rfl) rfl, fun j hj W va hW hA => ?_⟩
 generalize el l j = s at *
 obtain ⟨f, ar⟩ := s
 obtain ⟨a, cap, rfl⟩ := hA.sl
 show Calls _ _ #[.agg #[.int .i64 f, .slice a ar.length cap]] W _
 clear hA
 by_cases h : f = 0
 ·subst h
  go_enter Tryz.func48, Tryz.ntmps48
  go_wp2
  go_ret
  exact ⟨ret_boolK (by simp [freeS]), by go_grown⟩
 ·have hne : (f == 0) = false := by simpa using h
  by_cases h1 : f = 1000000001
  ·subst h1
   go_enter Tryz.func48, Tryz.ntmps48
   go_wp2
   go_ret
   exact ⟨ret_boolK (by simp [freeS]), by go_grown⟩
  ·have hne1 : (f == 1000000001) = false := by simpa using h1
   go_enter Tryz.func48, Tryz.ntmps48
   go_wp2
   go_ret
   exact ⟨ret_boolK (by simp [freeS, h, h1]), by go_grown⟩
end Go.Proofs.YthajkkobgfighaaGreatDoor.Wt
