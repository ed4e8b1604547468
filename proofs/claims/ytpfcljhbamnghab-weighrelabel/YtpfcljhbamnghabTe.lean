/- turn.Relabel. -/
import Derived.Test.YtpfcljhbamnghabJ12k
import Derived.Test.YtpfcljhbamnghabTk
import Derived.Test.YtpfcljhbamnghabRg
import Derived.Test.YtpfcljhbamnghabAn
namespace Go.Proofs.Ytpfcljhbamnghab.Wt
open Go.ChangeShapes Go.WideShapes Go.ChangeAt Go.RowKit Go.Maps
open Go.Proofs.Ytpfcljhbamnghab.Pl
set_option linter.unusedVariables false
set_option linter.unusedSimpArgs false
theorem OwnC.later {w w' : World} {m n : Nat} {D : DataW Unit} (h : OwnC w m n D) (hb : Below w.heap.size w w') : OwnC w' m n D := World.ownsMap.kept h (grown_of_below hb) (by simp)
def HeldE (p q : Nat) (mi mo : Nat) (b : Nat) (y : Int) (w : World) : Prop := w.cell? ⟨p, 0, none⟩ = some (.map (some mi)) ∧ w.cell? ⟨q, 0, none⟩ = some (.map (some mo)) ∧ w.cell? ⟨b, 1, none⟩ = some (.int .i64 y)
set_option maxRecDepth 100000 in
set_option maxHeartbeats 1600000 in
theorem relab_do (w : World) (p q mi mo ni no : Nat) (ins outs : List Ch) (hp : Blk w p #[.map (some mi)] 77) (hq : Blk w q #[.map (some mo)] 77) (hi : OwnC w mi ni (chM ins ins.length)) (ho : OwnC w mo no (chM outs outs.length)) (ti : twcB ins = false) (to : twcB outs = false) :
    DoA 46 #[.pointer (some ⟨p, 0, none⟩), .pointer (some ⟨q, 0, none⟩)] (relA ins outs) w := by
  intro W a hW hl
  obtain ⟨a0, a1, a2, a3⟩ := a
  obtain ⟨l0, l1, l2, l3⟩ := hl
  simp only at l0 l1 l2 l3
  have HI : Hid (∀ W', Below w.heap.size w W' → Calls Try.prog 47 #[.map (some mi), .int .i64 a0] W' fun e w' => e = .returned (.int .i64 (chgF ins a0)) ∧ W' = w') := fun W' hW' => of_any mi ni ins a0 W' (hi.later hW') ti (WalkArith.wf_i64 (by omega))
  have HO : Hid (∀ W', Below w.heap.size w W' → Calls Try.prog 47 #[.map (some mo), .int .i64 a1] W' fun e w' => e = .returned (.int .i64 (chgF outs a1)) ∧ W' = w') := fun W' hW' => of_any mo no outs a1 W' (ho.later hW') to (WalkArith.wf_i64 (by omega))
  show Calls Try.prog 46 #[.agg #[.int .i64 a0, .int .i64 a1, .int .i64 a2, .int .i64 a3], .pointer (some ⟨p, 0, none⟩), .pointer (some ⟨q, 0, none⟩)] W fun e w' => e = .returned (.agg #[.int .i64 (chgF ins a0), .int .i64 (chgF outs a1), .int .i64 a2, .int .i64 a3]) ∧ Below W.heap.size W w'
  generalize chgF ins a0 = y0 at *
  generalize chgF outs a1 = y1 at *
  have P1 := hidP (hp.below hW hp.lt)
  have Q1 := hidP (hq.below hW hq.lt)
  have HW := hidP hW
  have hpl : p < W.heap.size := Nat.lt_of_lt_of_le hp.lt hW.size
  have hql : q < W.heap.size := Nat.lt_of_lt_of_le hq.lt hW.size
  clear hp hq hi ho hW l0 l1 l2 l3
  go_enter Try.func46, Try.ntmps46
  go_wp2
  have k0 := (Blk.made W #[.int .i64 a0, .int .i64 a1, .int .i64 a2, .int .i64 a3] 55).alloc (.cells #[.int .i64 0, .int .i64 0, .int .i64 0, .int .i64 0] 55)
  have k1 := Blk.made (W.alloc (.cells #[.int .i64 a0, .int .i64 a1, .int .i64 a2, .int .i64 a3] 55)) #[.int .i64 0, .int .i64 0, .int .i64 0, .int .i64 0] 55
  rw [World.size_alloc] at k1
  have B0 : Below W.heap.size W ((W.alloc (.cells #[.int .i64 a0, .int .i64 a1, .int .i64 a2, .int .i64 a3] 55)).alloc (.cells #[.int .i64 0, .int .i64 0, .int .i64 0, .int .i64 0] 55)) := ((Below.refl _ _).alloc (Nat.le_refl _) _).alloc (by simp) _
  have p1 := P1.out.below B0 hpl
  have q1 := Q1.out.below B0 hql
  obtain ⟨W2, hW2⟩ : ∃ W2, W2 = (W.alloc (.cells #[.int .i64 a0, .int .i64 a1, .int .i64 a2, .int .i64 a3] 55)).alloc (.cells #[.int .i64 0, .int .i64 0, .int .i64 0, .int .i64 0] 55) := ⟨_, rfl⟩
  rw [← hW2] at k0 k1 B0 p1 q1 ⊢
  clear hW2
  have HB2 : Below w.heap.size w W2.drew := (HW.out.trans (B0.mono HW.out.size)).drew
  have HS : HeldE p q mi mo W.heap.size a1 W2.drew := ⟨p1.cell 0 rfl, q1.cell 0 rfl, k0.cell 1 rfl⟩
  have c0 : W2.drew.cell? ⟨W.heap.size, 0, none⟩ = some (.int .i64 a0) := k0.cell 0 rfl
  have c1 : W2.drew.cell? ⟨W.heap.size, 1, none⟩ = some (.int .i64 a1) := k0.cell 1 rfl
  have g0 : W2.drew.frozen? ⟨W.heap.size, 0, none⟩ = false := k0.fz 0
  have g1 : W2.drew.frozen? ⟨W.heap.size, 1, none⟩ = false := k0.fz 1
  have c0w := k0.cell 0 (v := .int .i64 a0) rfl
  have c1w := k0.cell 1 (v := .int .i64 a1) rfl
  have g0w := k0.fz 0
  have g1w := k0.fz 1
  have KA := hidP (((k0.set 0 (.int .i64 y0)).set 1 (.int .i64 y1)).drew)
  have KR := hidP (((k1.setO ⟨W.heap.size, 0, none⟩ (.int .i64 y0) (by show W.heap.size + 1 ≠ W.heap.size; omega)).setO ⟨W.heap.size, 1, none⟩ (.int .i64 y1) (by show W.heap.size + 1 ≠ W.heap.size; omega)).drew)
  have HE := hidP (((B0.setCell (p := ⟨W.heap.size, 0, none⟩) (Nat.le_refl _) (.int .i64 y0)).setCell (p := ⟨W.heap.size, 1, none⟩) (Nat.le_refl _) (.int .i64 y1)).drew)
  refine region_anyL (HeldE p q mi mo W.heap.size a1) 11 (by kernel_rfl) ?_
  refine anyL_take (i := 0) (v := ?v0_1) at0 (by kernel_rfl) (by kernel_rfl) (by kernel_rfl) (by kernel_rfl) (fun _ _ _ h => h) rfl ?y0_1 HS ?r0_1
  case y0_1 => intro wx hx; obtain ⟨h1, h2, h3⟩ := hx; go_simp; try (with_reducible rfl)
  simp only [Act.put, List.setIfInBounds_toArray, List.set_cons_zero, List.set_cons_succ]
  refine anyL_take (i := 1) (v := ?v1_2) (atS at0) (by kernel_rfl) (by kernel_rfl) (by kernel_rfl) (by kernel_rfl) (fun _ _ _ h => h) rfl ?y1_2 HS ?r1_2
  case y1_2 => intro wx hx; obtain ⟨h1, h2, h3⟩ := hx; go_simp; try (with_reducible rfl)
  simp only [Act.put, List.setIfInBounds_toArray, List.set_cons_zero, List.set_cons_succ]
  refine anyL_take (i := 4) (v := ?v4_3) (atS (atS (atS (atS at0)))) (by kernel_rfl) (by kernel_rfl) (by kernel_rfl) (by kernel_rfl) (fun _ _ _ h => h) rfl ?y4_3 HS ?r4_3
  case y4_3 => intro wx hx; obtain ⟨h1, h2, h3⟩ := hx; go_simp; try (with_reducible rfl)
  simp only [Act.put, List.setIfInBounds_toArray, List.set_cons_zero, List.set_cons_succ]
  refine anyL_take (i := 5) (v := ?v5_4) (atS (atS (atS (atS (atS at0))))) (by kernel_rfl) (by kernel_rfl) (by kernel_rfl) (by kernel_rfl) (fun _ _ _ h => h) rfl ?y5_4 HS ?r5_4
  case y5_4 => intro wx hx; obtain ⟨h1, h2, h3⟩ := hx; go_simp; try (with_reducible rfl)
  simp only [Act.put, List.setIfInBounds_toArray, List.set_cons_zero, List.set_cons_succ]
  refine anyL_take (i := 6) (v := ?v6_5) (atS (atS (atS (atS (atS (atS at0)))))) (by kernel_rfl) (by kernel_rfl) (by kernel_rfl) (by kernel_rfl) (fun _ _ _ h => h) rfl ?y6_5 HS ?r6_5
  case y6_5 => intro wx hx; obtain ⟨h1, h2, h3⟩ := hx; go_simp; try (with_reducible rfl)
  simp only [Act.put, List.setIfInBounds_toArray, List.set_cons_zero, List.set_cons_succ]
  refine anyL_one (i := 2) (atS (atS at0)) (by kernel_rfl) rfl (fun K hK => ?_)
  go_simp
  refine hK _ _ (.inr HS) ?_
  try simp only [Act.put, List.setIfInBounds_toArray, List.set_cons_zero, List.set_cons_succ]
  refine anyL_one (i := 3) (atS (atS (atS at0))) (by kernel_rfl) rfl (fun K hK => ?_)
  go_simp
  refine (HI.out _ HB2).mono ?_
  rintro e w' ⟨rfl, rfl⟩
  refine hK _ _ (.inr HS) ?_
  try simp only [Act.put, List.setIfInBounds_toArray, List.set_cons_zero, List.set_cons_succ]
  refine anyL_take (i := 8) (v := ?v8_6) (atS (atS (atS (atS (atS (atS (atS (atS at0)))))))) (by kernel_rfl) (by kernel_rfl) (by kernel_rfl) (by kernel_rfl) (fun _ _ _ h => h) rfl ?y8_6 HS ?r8_6
  case y8_6 => intro wx hx; obtain ⟨h1, h2, h3⟩ := hx; go_simp; try (with_reducible rfl)
  simp only [Act.put, List.setIfInBounds_toArray, List.set_cons_zero, List.set_cons_succ]
  refine anyL_one (i := 7) (atS (atS (atS (atS (atS (atS (atS at0))))))) (by kernel_rfl) rfl (fun K hK => ?_)
  go_simp
  refine (HO.out _ HB2).mono ?_
  rintro e w' ⟨rfl, rfl⟩
  refine hK _ _ (.inr HS) ?_
  try simp only [Act.put, List.setIfInBounds_toArray, List.set_cons_zero, List.set_cons_succ]
  refine anyL_one (i := 9) (atS (atS (atS (atS (atS (atS (atS (atS (atS at0))))))))) (by kernel_rfl) rfl (fun K hK => ?_)
  go_simp
  have kk := k0.set 0 (.int .i64 y0)
  have HS2 : HeldE p q mi mo W.heap.size a1 (W2.drew.setCell ⟨W.heap.size, 0, none⟩ (.int .i64 y0)) := ⟨(p1.setO _ _ (by show p ≠ W.heap.size; omega)).cell 0 rfl, (q1.setO _ _ (by show q ≠ W.heap.size; omega)).cell 0 rfl, kk.cell 1 rfl⟩
  refine hK _ _ (.inr HS2) ?_
  try simp only [Act.put, List.setIfInBounds_toArray, List.set_cons_zero, List.set_cons_succ]
  refine anyL_take (i := 10) (v := ?v10_7) (atS (atS (atS (atS (atS (atS (atS (atS (atS (atS at0)))))))))) (by kernel_rfl) (by kernel_rfl) (by kernel_rfl) (by kernel_rfl) (fun _ _ _ h => h) rfl ?y10_7 HS2 ?r10_7
  case y10_7 => intro wx hx; obtain ⟨h1, h2, h3⟩ := hx; go_simp; try (with_reducible rfl)
  simp only [Act.put, List.setIfInBounds_toArray, List.set_cons_zero, List.set_cons_succ]
  refine anyL_one (i := 11) (atS (atS (atS (atS (atS (atS (atS (atS (atS (atS (atS at0))))))))))) (by kernel_rfl) rfl (fun K hK => ?_)
  go_simp
  refine hK _ _ (.inl rfl) (anyL_done (by kernel_rfl) (NoPanic.normal ?_))
  try simp only [Act.put, List.setIfInBounds_toArray, List.set_cons_zero, List.set_cons_succ]
  obtain ⟨W3, hW3⟩ : ∃ W3, W3 = ((W2.setCell ⟨W.heap.size, 0, none⟩ (.int .i64 y0)).setCell ⟨W.heap.size, 1, none⟩ (.int .i64 y1)).drew := ⟨_, rfl⟩
  rw [← hW3] at KA KR HE ⊢
  clear hW3 kk HS2 HS c0 c1 g0 g1 c0w c1w g0w g1w p1 q1 k0 k1
  have d0 := KA.out.cell 0 (v := .int .i64 y0) rfl
  have d1 := KA.out.cell 1 (v := .int .i64 y1) rfl
  have d2 := KA.out.cell 2 (v := .int .i64 a2) rfl
  have d3 := KA.out.cell 3 (v := .int .i64 a3) rfl
  have r0 := KR.out.cell 0 (v := .int .i64 0) rfl
  have r1 := KR.out.cell 1 (v := .int .i64 0) rfl
  have r2 := KR.out.cell 2 (v := .int .i64 0) rfl
  have r3 := KR.out.cell 3 (v := .int .i64 0) rfl
  have z0 := KR.out.fz 0
  have z1 := KR.out.fz 1
  have z2 := KR.out.fz 2
  have z3 := KR.out.fz 3
  have HKR := hidP ((((KR.out.set 0 (.int .i64 y0)).set 1 (.int .i64 y1)).set 2 (.int .i64 a2)).set 3 (.int .i64 a3))
  go_wp2
  have f0 := HKR.out.cell 0 (v := .int .i64 y0) rfl
  have f1 := HKR.out.cell 1 (v := .int .i64 y1) rfl
  have f2 := HKR.out.cell 2 (v := .int .i64 a2) rfl
  have f3 := HKR.out.cell 3 (v := .int .i64 a3) rfl
  exact bodyPost_ret (v := .agg #[.int .i64 y0, .int .i64 y1, .int .i64 a2, .int .i64 a3]) (by simp [results, Try.results46, go_sem, f0, f1, f2, f3]) rfl ⟨rfl, (((HE.out.setCell (by show W.heap.size ≤ W.heap.size + 1; omega) _).setCell (by show W.heap.size ≤ W.heap.size + 1; omega) _).setCell (by show W.heap.size ≤ W.heap.size + 1; omega) _).setCell (by show W.heap.size ≤ W.heap.size + 1; omega) _⟩
end Go.Proofs.Ytpfcljhbamnghab.Wt
