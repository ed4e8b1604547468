/- Whether arcs stand in order, by the program. -/
import Derived.Test.YtfhjncpakgailaaGreatDoorPag
import Derived.Test.YtfhjncpakgailaaGreatDoorPab
import Derived.Test.YtfhjncpakgailaaGreatDoorPai
import Derived.Test.YtfhjncpakgailaaGreatDoorShelg
import Derived.Sort.Grow
namespace Go.Proofs.YtfhjncpakgailaaGreatDoor.Wt
open Go.ChangeShapes Go.WideShapes Go.ChangeAt Go.RowKit
open Go.Proofs.YtfhjncpakgailaaGreatDoor.Pl
set_option linter.unusedVariables false
set_option linter.unusedSimpArgs false
theorem compare_any (a b : Int) (w : World) : Calls Tryz.prog 109 #[.int .i64 a, .int .i64 b] w fun e w' => e = .returned (.int .i64 (cmpI a b)) ∧ w = w' := by
 unfold cmpI
 by_cases h1 : a < b
 ·go_enter Tryz.func109, Tryz.ntmps109
  go_wp2_with (first | (go_at_call 142; go_in))
  go_ret
  exact ⟨rfl, rfl⟩
 ·by_cases h2 : b < a
  ·go_enter Tryz.func109, Tryz.ntmps109
   go_wp2_with (first | (go_at_call 142; go_in))
   go_ret
   exact ⟨rfl, rfl⟩
  ·go_enter Tryz.func109, Tryz.ntmps109
   go_wp2_with (first | (go_at_call 142; go_in))
   go_ret
   exact ⟨rfl, rfl⟩
theorem or_any (c0 c1 c2 c3 : Int) (b : Nat) (w : World) (h0 : w.cell? ⟨b, 0, none⟩ = some (.int .i64 c0)) (h1 : w.cell? ⟨b, 1, none⟩ = some (.int .i64 c1)) (h2 : w.cell? ⟨b, 2, none⟩ = some (.int .i64 c2)) (h3 : w.cell? ⟨b, 3, none⟩ = some (.int .i64 c3)) :
  Calls Tryz.prog 108 #[.slice (some ⟨b, 0, none⟩) 4 4] w fun e w' => e = .returned (.int .i64 (orI c0 c1 c2 c3)) ∧ w = w' := by
 unfold orI
 by_cases e0 : c0 = 0
 ·by_cases e1 : c1 = 0
  ·by_cases e2 : c2 = 0
   ·by_cases e3 : c3 = 0
    ·subst e0 e1 e2 e3
     go_enter Tryz.func108, Tryz.ntmps108
     go_wp2
     refine wp_loop_rounds 5 ?_; rw [rounds_succ]
     go_wp2
     rw [rounds_succ]
     go_wp2
     rw [rounds_succ]
     go_wp2
     rw [rounds_succ]
     go_wp2
     rw [rounds_succ]
     go_wp2
     go_ret
     exact ⟨rfl, rfl⟩
    ·have hne : (c3 != 0) = true := by simpa using e3
     subst e0 e1 e2
     go_enter Tryz.func108, Tryz.ntmps108
     go_wp2
     refine wp_loop_rounds 5 ?_; rw [rounds_succ]
     go_wp2
     rw [rounds_succ]
     go_wp2
     rw [rounds_succ]
     go_wp2
     rw [rounds_succ]
     go_wp2
     go_ret
     exact ⟨rfl, rfl⟩
   ·have hne : (c2 != 0) = true := by simpa using e2
    subst e0 e1
    go_enter Tryz.func108, Tryz.ntmps108
    go_wp2
    refine wp_loop_rounds 5 ?_; rw [rounds_succ]
    go_wp2
    rw [rounds_succ]
    go_wp2
    rw [rounds_succ]
    go_wp2
    go_ret
    exact ⟨ret_int3 (by simp [e2]), rfl⟩
  ·have hne : (c1 != 0) = true := by simpa using e1
   subst e0
   go_enter Tryz.func108, Tryz.ntmps108
   go_wp2
   refine wp_loop_rounds 5 ?_; rw [rounds_succ]
   go_wp2
   rw [rounds_succ]
   go_wp2
   go_ret
   exact ⟨ret_int3 (by simp [e1]), rfl⟩
 ·have hne : (c0 != 0) = true := by simpa using e0
  go_enter Tryz.func108, Tryz.ntmps108
  go_wp2
  refine wp_loop_rounds 5 ?_; rw [rounds_succ]
  go_wp2
  go_ret
  exact ⟨ret_int3 (by simp [e0]), rfl⟩
def HeldI (B : Nat) (a0 a1 a2 a3 b0 b1 b2 b3 : Int) (w : World) : Prop :=
 Blk w B #[.int .i64 a0, .int .i64 a1, .int .i64 a2, .int .i64 a3] 58 ∧ Blk w (B + 1) #[.int .i64 b0, .int .i64 b1, .int .i64 b2, .int .i64 b3] 58
set_option maxRecDepth 100000 in
set_option maxHeartbeats 1000000 in
theorem inOrder_any (a b : Ar) (w : World) (r : Int) (hr : orI (cmpI a.1 b.1) (cmpI a.2.1 b.2.1) (cmpI a.2.2.2 b.2.2.2) (cmpI a.2.2.1 b.2.2.1) = r) :
  Calls Tryz.prog 61 #[.agg #[.int .i64 a.1, .int .i64 a.2.1, .int .i64 a.2.2.1, .int .i64 a.2.2.2], .agg #[.int .i64 b.1, .int .i64 b.2.1, .int .i64 b.2.2.1, .int .i64 b.2.2.2]] w fun e w' => e = .returned (.int .i64 r) ∧ Below w.heap.size w w' := by
 obtain ⟨a0, a1, a2, a3⟩ := a
 obtain ⟨b0, b1, b2, b3⟩ := b
 simp only at hr ⊢
 have HR : Hid (orI (cmpI a0 b0) (cmpI a1 b1) (cmpI a3 b3) (cmpI a2 b2) = r) := hr
 clear hr
 go_enter Tryz.func61, Tryz.ntmps61
 go_wp2
 refine region_anyL (HeldI w.heap.size a0 a1 a2 a3 b0 b1 b2 b3) 1000 (by kernel_rfl) ?_
 have hk := Blk.made (w.alloc (.cells #[.int .i64 a0, .int .i64 a1, .int .i64 a2, .int .i64 a3] 58)) #[.int .i64 b0, .int .i64 b1, .int .i64 b2, .int .i64 b3] 58
 simp only [World.size_alloc] at hk
 have HS : HeldI w.heap.size a0 a1 a2 a3 b0 b1 b2 b3 ((w.alloc (.cells #[.int .i64 a0, .int .i64 a1, .int .i64 a2, .int .i64 a3] 58)).alloc (.cells #[.int .i64 b0, .int .i64 b1, .int .i64 b2, .int .i64 b3] 58)).drew := ⟨((Blk.made w _ _).alloc _).drew, hk.drew⟩
 have HU : Below w.heap.size w ((w.alloc (.cells #[.int .i64 a0, .int .i64 a1, .int .i64 a2, .int .i64 a3] 58)).alloc (.cells #[.int .i64 b0, .int .i64 b1, .int .i64 b2, .int .i64 b3] 58)).drew := Below.drew (by go_grown)
 clear hk
 generalize hw0 : ((w.alloc (.cells #[.int .i64 a0, .int .i64 a1, .int .i64 a2, .int .i64 a3] 58)).alloc (.cells #[.int .i64 b0, .int .i64 b1, .int .i64 b2, .int .i64 b3] 58)).drew = w0 at *
 clear hw0
 refine anyL_tk (i := 0) (v := ?v0_1) aZ0 (by kernel_rfl) ?y0_1 HS ?r0_1
 case y0_1 => intro wx hx; have p0 := hx.1.cell 0 rfl; have p1 := hx.1.cell 1 rfl; have p2 := hx.1.cell 2 rfl; have p3 := hx.1.cell 3 rfl; have q0 := hx.2.cell 0 rfl; have q1 := hx.2.cell 1 rfl; have q2 := hx.2.cell 2 rfl; have q3 := hx.2.cell 3 rfl; go_simp; try (with_reducible rfl)
 simp only [Act.put, List.setIfInBounds_toArray, List.set_cons_zero, List.set_cons_succ]
 refine anyL_tk (i := 1) (v := ?v1_2) aZ1 (by kernel_rfl) ?y1_2 HS ?r1_2
 case y1_2 => intro wx hx; have p0 := hx.1.cell 0 rfl; have p1 := hx.1.cell 1 rfl; have p2 := hx.1.cell 2 rfl; have p3 := hx.1.cell 3 rfl; have q0 := hx.2.cell 0 rfl; have q1 := hx.2.cell 1 rfl; have q2 := hx.2.cell 2 rfl; have q3 := hx.2.cell 3 rfl; go_simp; try (with_reducible rfl)
 simp only [Act.put, List.setIfInBounds_toArray, List.set_cons_zero, List.set_cons_succ]
 refine anyL_tk (i := 2) (v := ?v2_3) aZ2 (by kernel_rfl) ?y2_3 HS ?r2_3
 case y2_3 => intro wx hx; have p0 := hx.1.cell 0 rfl; have p1 := hx.1.cell 1 rfl; have p2 := hx.1.cell 2 rfl; have p3 := hx.1.cell 3 rfl; have q0 := hx.2.cell 0 rfl; have q1 := hx.2.cell 1 rfl; have q2 := hx.2.cell 2 rfl; have q3 := hx.2.cell 3 rfl; go_simp; try (with_reducible rfl)
 simp only [Act.put, List.setIfInBounds_toArray, List.set_cons_zero, List.set_cons_succ]
 refine anyL_tk (i := 3) (v := ?v3_4) aZ3 (by kernel_rfl) ?y3_4 HS ?r3_4
 case y3_4 => intro wx hx; have p0 := hx.1.cell 0 rfl; have p1 := hx.1.cell 1 rfl; have p2 := hx.1.cell 2 rfl; have p3 := hx.1.cell 3 rfl; have q0 := hx.2.cell 0 rfl; have q1 := hx.2.cell 1 rfl; have q2 := hx.2.cell 2 rfl; have q3 := hx.2.cell 3 rfl; go_simp; try (with_reducible rfl)
 simp only [Act.put, List.setIfInBounds_toArray, List.set_cons_zero, List.set_cons_succ]
 refine anyL_tk (i := 5) (v := ?v5_5) aZ5 (by kernel_rfl) ?y5_5 HS ?r5_5
 case y5_5 => intro wx hx; have p0 := hx.1.cell 0 rfl; have p1 := hx.1.cell 1 rfl; have p2 := hx.1.cell 2 rfl; have p3 := hx.1.cell 3 rfl; have q0 := hx.2.cell 0 rfl; have q1 := hx.2.cell 1 rfl; have q2 := hx.2.cell 2 rfl; have q3 := hx.2.cell 3 rfl; go_simp; try (with_reducible rfl)
 simp only [Act.put, List.setIfInBounds_toArray, List.set_cons_zero, List.set_cons_succ]
 refine anyL_tk (i := 6) (v := ?v6_6) aZ6 (by kernel_rfl) ?y6_6 HS ?r6_6
 case y6_6 => intro wx hx; have p0 := hx.1.cell 0 rfl; have p1 := hx.1.cell 1 rfl; have p2 := hx.1.cell 2 rfl; have p3 := hx.1.cell 3 rfl; have q0 := hx.2.cell 0 rfl; have q1 := hx.2.cell 1 rfl; have q2 := hx.2.cell 2 rfl; have q3 := hx.2.cell 3 rfl; go_simp; try (with_reducible rfl)
 simp only [Act.put, List.setIfInBounds_toArray, List.set_cons_zero, List.set_cons_succ]
 refine anyL_tk (i := 7) (v := ?v7_7) aZ7 (by kernel_rfl) ?y7_7 HS ?r7_7
 case y7_7 => intro wx hx; have p0 := hx.1.cell 0 rfl; have p1 := hx.1.cell 1 rfl; have p2 := hx.1.cell 2 rfl; have p3 := hx.1.cell 3 rfl; have q0 := hx.2.cell 0 rfl; have q1 := hx.2.cell 1 rfl; have q2 := hx.2.cell 2 rfl; have q3 := hx.2.cell 3 rfl; go_simp; try (with_reducible rfl)
 simp only [Act.put, List.setIfInBounds_toArray, List.set_cons_zero, List.set_cons_succ]
 refine anyL_tk (i := 8) (v := ?v8_8) aZ8 (by kernel_rfl) ?y8_8 HS ?r8_8
 case y8_8 => intro wx hx; have p0 := hx.1.cell 0 rfl; have p1 := hx.1.cell 1 rfl; have p2 := hx.1.cell 2 rfl; have p3 := hx.1.cell 3 rfl; have q0 := hx.2.cell 0 rfl; have q1 := hx.2.cell 1 rfl; have q2 := hx.2.cell 2 rfl; have q3 := hx.2.cell 3 rfl; go_simp; try (with_reducible rfl)
 simp only [Act.put, List.setIfInBounds_toArray, List.set_cons_zero, List.set_cons_succ]
 refine anyL_tk (i := 10) (v := ?v10_9) aZ10 (by kernel_rfl) ?y10_9 HS ?r10_9
 case y10_9 => intro wx hx; have p0 := hx.1.cell 0 rfl; have p1 := hx.1.cell 1 rfl; have p2 := hx.1.cell 2 rfl; have p3 := hx.1.cell 3 rfl; have q0 := hx.2.cell 0 rfl; have q1 := hx.2.cell 1 rfl; have q2 := hx.2.cell 2 rfl; have q3 := hx.2.cell 3 rfl; go_simp; try (with_reducible rfl)
 simp only [Act.put, List.setIfInBounds_toArray, List.set_cons_zero, List.set_cons_succ]
 refine anyL_tk (i := 11) (v := ?v11_10) aZ11 (by kernel_rfl) ?y11_10 HS ?r11_10
 case y11_10 => intro wx hx; have p0 := hx.1.cell 0 rfl; have p1 := hx.1.cell 1 rfl; have p2 := hx.1.cell 2 rfl; have p3 := hx.1.cell 3 rfl; have q0 := hx.2.cell 0 rfl; have q1 := hx.2.cell 1 rfl; have q2 := hx.2.cell 2 rfl; have q3 := hx.2.cell 3 rfl; go_simp; try (with_reducible rfl)
 simp only [Act.put, List.setIfInBounds_toArray, List.set_cons_zero, List.set_cons_succ]
 refine anyL_tk (i := 12) (v := ?v12_11) aZ12 (by kernel_rfl) ?y12_11 HS ?r12_11
 case y12_11 => intro wx hx; have p0 := hx.1.cell 0 rfl; have p1 := hx.1.cell 1 rfl; have p2 := hx.1.cell 2 rfl; have p3 := hx.1.cell 3 rfl; have q0 := hx.2.cell 0 rfl; have q1 := hx.2.cell 1 rfl; have q2 := hx.2.cell 2 rfl; have q3 := hx.2.cell 3 rfl; go_simp; try (with_reducible rfl)
 simp only [Act.put, List.setIfInBounds_toArray, List.set_cons_zero, List.set_cons_succ]
 refine anyL_tk (i := 13) (v := ?v13_12) aZ13 (by kernel_rfl) ?y13_12 HS ?r13_12
 case y13_12 => intro wx hx; have p0 := hx.1.cell 0 rfl; have p1 := hx.1.cell 1 rfl; have p2 := hx.1.cell 2 rfl; have p3 := hx.1.cell 3 rfl; have q0 := hx.2.cell 0 rfl; have q1 := hx.2.cell 1 rfl; have q2 := hx.2.cell 2 rfl; have q3 := hx.2.cell 3 rfl; go_simp; try (with_reducible rfl)
 simp only [Act.put, List.setIfInBounds_toArray, List.set_cons_zero, List.set_cons_succ]
 refine anyL_tk (i := 15) (v := ?v15_13) aZ15 (by kernel_rfl) ?y15_13 HS ?r15_13
 case y15_13 => intro wx hx; have p0 := hx.1.cell 0 rfl; have p1 := hx.1.cell 1 rfl; have p2 := hx.1.cell 2 rfl; have p3 := hx.1.cell 3 rfl; have q0 := hx.2.cell 0 rfl; have q1 := hx.2.cell 1 rfl; have q2 := hx.2.cell 2 rfl; have q3 := hx.2.cell 3 rfl; go_simp; try (with_reducible rfl)
 simp only [Act.put, List.setIfInBounds_toArray, List.set_cons_zero, List.set_cons_succ]
 refine anyL_tk (i := 16) (v := ?v16_14) aZ16 (by kernel_rfl) ?y16_14 HS ?r16_14
 case y16_14 => intro wx hx; have p0 := hx.1.cell 0 rfl; have p1 := hx.1.cell 1 rfl; have p2 := hx.1.cell 2 rfl; have p3 := hx.1.cell 3 rfl; have q0 := hx.2.cell 0 rfl; have q1 := hx.2.cell 1 rfl; have q2 := hx.2.cell 2 rfl; have q3 := hx.2.cell 3 rfl; go_simp; try (with_reducible rfl)
 simp only [Act.put, List.setIfInBounds_toArray, List.set_cons_zero, List.set_cons_succ]
 refine anyL_tk (i := 17) (v := ?v17_15) aZ17 (by kernel_rfl) ?y17_15 HS ?r17_15
 case y17_15 => intro wx hx; have p0 := hx.1.cell 0 rfl; have p1 := hx.1.cell 1 rfl; have p2 := hx.1.cell 2 rfl; have p3 := hx.1.cell 3 rfl; have q0 := hx.2.cell 0 rfl; have q1 := hx.2.cell 1 rfl; have q2 := hx.2.cell 2 rfl; have q3 := hx.2.cell 3 rfl; go_simp; try (with_reducible rfl)
 simp only [Act.put, List.setIfInBounds_toArray, List.set_cons_zero, List.set_cons_succ]
 refine anyL_tk (i := 18) (v := ?v18_16) aZ18 (by kernel_rfl) ?y18_16 HS ?r18_16
 case y18_16 => intro wx hx; have p0 := hx.1.cell 0 rfl; have p1 := hx.1.cell 1 rfl; have p2 := hx.1.cell 2 rfl; have p3 := hx.1.cell 3 rfl; have q0 := hx.2.cell 0 rfl; have q1 := hx.2.cell 1 rfl; have q2 := hx.2.cell 2 rfl; have q3 := hx.2.cell 3 rfl; go_simp; try (with_reducible rfl)
 simp only [Act.put, List.setIfInBounds_toArray, List.set_cons_zero, List.set_cons_succ]
 refine anyL_one (i := 4) aZ4 (by kernel_rfl) rfl (fun K hK => ?_)
 go_simp
 refine (compare_any _ _ _).mono ?_
 rintro e w1 ⟨rfl, rfl⟩
 refine hK _ _ (.inr HS) ?_
 try simp only [Act.put, List.setIfInBounds_toArray, List.set_cons_zero, List.set_cons_succ]
 refine anyL_one (i := 9) aZ9 (by kernel_rfl) rfl (fun K hK => ?_)
 go_simp
 refine (compare_any _ _ _).mono ?_
 rintro e w1 ⟨rfl, rfl⟩
 refine hK _ _ (.inr HS) ?_
 try simp only [Act.put, List.setIfInBounds_toArray, List.set_cons_zero, List.set_cons_succ]
 refine anyL_one (i := 14) aZ14 (by kernel_rfl) rfl (fun K hK => ?_)
 go_simp
 refine (compare_any _ _ _).mono ?_
 rintro e w1 ⟨rfl, rfl⟩
 refine hK _ _ (.inr HS) ?_
 try simp only [Act.put, List.setIfInBounds_toArray, List.set_cons_zero, List.set_cons_succ]
 refine anyL_one (i := 19) aZ19 (by kernel_rfl) rfl (fun K hK => ?_)
 go_simp
 refine (compare_any _ _ _).mono ?_
 rintro e w1 ⟨rfl, rfl⟩
 refine hK _ _ (.inr HS) ?_
 try simp only [Act.put, List.setIfInBounds_toArray, List.set_cons_zero, List.set_cons_succ]
 refine anyL_one (i := 20) aZ20 (by kernel_rfl) rfl (fun K hK => ?_)
 go_simp
 refine hK _ _ (.inr ⟨HS.1.alloc _, HS.2.alloc _⟩) ?_
 try simp only [Act.put, List.setIfInBounds_toArray, List.set_cons_zero, List.set_cons_succ]
 refine anyL_one (i := 21) aZ21 (by kernel_rfl) rfl (fun K hK => ?_)
 go_simp
 refine (or_any (cmpI a0 b0) (cmpI a1 b1) (cmpI a3 b3) (cmpI a2 b2) _ _ (by go_cell) (by go_cell) (by go_cell) (by go_cell)).mono ?_
 rintro e w1 ⟨rfl, rfl⟩
 refine hK _ _ (.inr ⟨HS.1.alloc _, HS.2.alloc _⟩) ?_
 try simp only [Act.put, List.setIfInBounds_toArray, List.set_cons_zero, List.set_cons_succ]
 refine anyL_one (i := 22) aZ22 (by kernel_rfl) rfl (fun K hK => ?_)
 go_simp
 refine hK _ _ (.inr ⟨HS.1.alloc _, HS.2.alloc _⟩) (anyL_done (by kernel_rfl) (NoPanic.normal ?_))
 try simp only [Act.put, List.setIfInBounds_toArray, List.set_cons_zero, List.set_cons_succ]
 go_wp2
 go_ret
 exact ⟨ret_int3 HR.out, HU.alloc HU.size _⟩
theorem later_growC {W w' : World} (hb : Below W.heap.size W w') (hd : W.drawn ≤ w'.drawn) : ∃ q os', w' = Go.Sort.grow (W.drewN q) os' := by
 refine ⟨w'.drawn - W.drawn, w'.heap.extract W.heap.size w'.heap.size, ?_⟩
 obtain ⟨h1, h2, h3, h4, h5⟩ := hb
 obtain ⟨hp, tp, dr, os, ou⟩ := w'
 simp only at *
 have eh : hp = W.heap ++ hp.extract W.heap.size hp.size := by
  apply Array.ext_getElem?
  intro i
  rw [Array.getElem?_append]
  split
  ·rename_i hi; exact h5 i hi
  ·rename_i hi
   rw [Array.getElem?_extract]
   split
   ·congr 1; omega
   ·rw [Array.getElem?_eq_none]; omega
 simp only [Go.Sort.grow, World.drewN]
 rw [← eh, h1, h2, h3]
 congr 1
 omega
set_option maxRecDepth 100000 in
set_option maxHeartbeats 1000000 in
theorem inOrderC_any (a b : Ar) (w : World) (r : Int) (hr : orI (cmpI a.1 b.1) (cmpI a.2.1 b.2.1) (cmpI a.2.2.2 b.2.2.2) (cmpI a.2.2.1 b.2.2.1) = r) :
  Calls Tryz.prog 140 #[.agg #[.int .i64 a.1, .int .i64 a.2.1, .int .i64 a.2.2.1, .int .i64 a.2.2.2], .agg #[.int .i64 b.1, .int .i64 b.2.1, .int .i64 b.2.2.1, .int .i64 b.2.2.2]] w fun e w' => e = .returned (.int .i64 r) ∧ Below w.heap.size w w' ∧ w.drawn ≤ w'.drawn := by
 obtain ⟨a0, a1, a2, a3⟩ := a
 obtain ⟨b0, b1, b2, b3⟩ := b
 simp only at hr ⊢
 have HR : Hid (orI (cmpI a0 b0) (cmpI a1 b1) (cmpI a3 b3) (cmpI a2 b2) = r) := hr
 clear hr
 go_enter Tryz.func140, Tryz.ntmps140
 go_wp2
 refine region_anyL (HeldI w.heap.size a0 a1 a2 a3 b0 b1 b2 b3) 1000 (by kernel_rfl) ?_
 have hk := Blk.made (w.alloc (.cells #[.int .i64 a0, .int .i64 a1, .int .i64 a2, .int .i64 a3] 58)) #[.int .i64 b0, .int .i64 b1, .int .i64 b2, .int .i64 b3] 58
 simp only [World.size_alloc] at hk
 have HS : HeldI w.heap.size a0 a1 a2 a3 b0 b1 b2 b3 ((w.alloc (.cells #[.int .i64 a0, .int .i64 a1, .int .i64 a2, .int .i64 a3] 58)).alloc (.cells #[.int .i64 b0, .int .i64 b1, .int .i64 b2, .int .i64 b3] 58)).drew := ⟨((Blk.made w _ _).alloc _).drew, hk.drew⟩
 have HU : Below w.heap.size w ((w.alloc (.cells #[.int .i64 a0, .int .i64 a1, .int .i64 a2, .int .i64 a3] 58)).alloc (.cells #[.int .i64 b0, .int .i64 b1, .int .i64 b2, .int .i64 b3] 58)).drew := Below.drew (by go_grown)
 have HD : w.drawn ≤ ((w.alloc (.cells #[.int .i64 a0, .int .i64 a1, .int .i64 a2, .int .i64 a3] 58)).alloc (.cells #[.int .i64 b0, .int .i64 b1, .int .i64 b2, .int .i64 b3] 58)).drew.drawn := Nat.le_succ _
 clear hk
 generalize hw0 : ((w.alloc (.cells #[.int .i64 a0, .int .i64 a1, .int .i64 a2, .int .i64 a3] 58)).alloc (.cells #[.int .i64 b0, .int .i64 b1, .int .i64 b2, .int .i64 b3] 58)).drew = w0 at *
 clear hw0
 refine anyL_tk (i := 0) (v := ?v0_1) aZ0 (by kernel_rfl) ?y0_1 HS ?r0_1
 case y0_1 => intro wx hx; have p0 := hx.1.cell 0 rfl; have p1 := hx.1.cell 1 rfl; have p2 := hx.1.cell 2 rfl; have p3 := hx.1.cell 3 rfl; have q0 := hx.2.cell 0 rfl; have q1 := hx.2.cell 1 rfl; have q2 := hx.2.cell 2 rfl; have q3 := hx.2.cell 3 rfl; go_simp; try (with_reducible rfl)
 simp only [Act.put, List.setIfInBounds_toArray, List.set_cons_zero, List.set_cons_succ]
 refine anyL_tk (i := 1) (v := ?v1_2) aZ1 (by kernel_rfl) ?y1_2 HS ?r1_2
 case y1_2 => intro wx hx; have p0 := hx.1.cell 0 rfl; have p1 := hx.1.cell 1 rfl; have p2 := hx.1.cell 2 rfl; have p3 := hx.1.cell 3 rfl; have q0 := hx.2.cell 0 rfl; have q1 := hx.2.cell 1 rfl; have q2 := hx.2.cell 2 rfl; have q3 := hx.2.cell 3 rfl; go_simp; try (with_reducible rfl)
 simp only [Act.put, List.setIfInBounds_toArray, List.set_cons_zero, List.set_cons_succ]
 refine anyL_tk (i := 2) (v := ?v2_3) aZ2 (by kernel_rfl) ?y2_3 HS ?r2_3
 case y2_3 => intro wx hx; have p0 := hx.1.cell 0 rfl; have p1 := hx.1.cell 1 rfl; have p2 := hx.1.cell 2 rfl; have p3 := hx.1.cell 3 rfl; have q0 := hx.2.cell 0 rfl; have q1 := hx.2.cell 1 rfl; have q2 := hx.2.cell 2 rfl; have q3 := hx.2.cell 3 rfl; go_simp; try (with_reducible rfl)
 simp only [Act.put, List.setIfInBounds_toArray, List.set_cons_zero, List.set_cons_succ]
 refine anyL_tk (i := 3) (v := ?v3_4) aZ3 (by kernel_rfl) ?y3_4 HS ?r3_4
 case y3_4 => intro wx hx; have p0 := hx.1.cell 0 rfl; have p1 := hx.1.cell 1 rfl; have p2 := hx.1.cell 2 rfl; have p3 := hx.1.cell 3 rfl; have q0 := hx.2.cell 0 rfl; have q1 := hx.2.cell 1 rfl; have q2 := hx.2.cell 2 rfl; have q3 := hx.2.cell 3 rfl; go_simp; try (with_reducible rfl)
 simp only [Act.put, List.setIfInBounds_toArray, List.set_cons_zero, List.set_cons_succ]
 refine anyL_tk (i := 5) (v := ?v5_5) aZ5 (by kernel_rfl) ?y5_5 HS ?r5_5
 case y5_5 => intro wx hx; have p0 := hx.1.cell 0 rfl; have p1 := hx.1.cell 1 rfl; have p2 := hx.1.cell 2 rfl; have p3 := hx.1.cell 3 rfl; have q0 := hx.2.cell 0 rfl; have q1 := hx.2.cell 1 rfl; have q2 := hx.2.cell 2 rfl; have q3 := hx.2.cell 3 rfl; go_simp; try (with_reducible rfl)
 simp only [Act.put, List.setIfInBounds_toArray, List.set_cons_zero, List.set_cons_succ]
 refine anyL_tk (i := 6) (v := ?v6_6) aZ6 (by kernel_rfl) ?y6_6 HS ?r6_6
 case y6_6 => intro wx hx; have p0 := hx.1.cell 0 rfl; have p1 := hx.1.cell 1 rfl; have p2 := hx.1.cell 2 rfl; have p3 := hx.1.cell 3 rfl; have q0 := hx.2.cell 0 rfl; have q1 := hx.2.cell 1 rfl; have q2 := hx.2.cell 2 rfl; have q3 := hx.2.cell 3 rfl; go_simp; try (with_reducible rfl)
 simp only [Act.put, List.setIfInBounds_toArray, List.set_cons_zero, List.set_cons_succ]
 refine anyL_tk (i := 7) (v := ?v7_7) aZ7 (by kernel_rfl) ?y7_7 HS ?r7_7
 case y7_7 => intro wx hx; have p0 := hx.1.cell 0 rfl; have p1 := hx.1.cell 1 rfl; have p2 := hx.1.cell 2 rfl; have p3 := hx.1.cell 3 rfl; have q0 := hx.2.cell 0 rfl; have q1 := hx.2.cell 1 rfl; have q2 := hx.2.cell 2 rfl; have q3 := hx.2.cell 3 rfl; go_simp; try (with_reducible rfl)
 simp only [Act.put, List.setIfInBounds_toArray, List.set_cons_zero, List.set_cons_succ]
 refine anyL_tk (i := 8) (v := ?v8_8) aZ8 (by kernel_rfl) ?y8_8 HS ?r8_8
 case y8_8 => intro wx hx; have p0 := hx.1.cell 0 rfl; have p1 := hx.1.cell 1 rfl; have p2 := hx.1.cell 2 rfl; have p3 := hx.1.cell 3 rfl; have q0 := hx.2.cell 0 rfl; have q1 := hx.2.cell 1 rfl; have q2 := hx.2.cell 2 rfl; have q3 := hx.2.cell 3 rfl; go_simp; try (with_reducible rfl)
 simp only [Act.put, List.setIfInBounds_toArray, List.set_cons_zero, List.set_cons_succ]
 refine anyL_tk (i := 10) (v := ?v10_9) aZ10 (by kernel_rfl) ?y10_9 HS ?r10_9
 case y10_9 => intro wx hx; have p0 := hx.1.cell 0 rfl; have p1 := hx.1.cell 1 rfl; have p2 := hx.1.cell 2 rfl; have p3 := hx.1.cell 3 rfl; have q0 := hx.2.cell 0 rfl; have q1 := hx.2.cell 1 rfl; have q2 := hx.2.cell 2 rfl; have q3 := hx.2.cell 3 rfl; go_simp; try (with_reducible rfl)
 simp only [Act.put, List.setIfInBounds_toArray, List.set_cons_zero, List.set_cons_succ]
 refine anyL_tk (i := 11) (v := ?v11_10) aZ11 (by kernel_rfl) ?y11_10 HS ?r11_10
 case y11_10 => intro wx hx; have p0 := hx.1.cell 0 rfl; have p1 := hx.1.cell 1 rfl; have p2 := hx.1.cell 2 rfl; have p3 := hx.1.cell 3 rfl; have q0 := hx.2.cell 0 rfl; have q1 := hx.2.cell 1 rfl; have q2 := hx.2.cell 2 rfl; have q3 := hx.2.cell 3 rfl; go_simp; try (with_reducible rfl)
 simp only [Act.put, List.setIfInBounds_toArray, List.set_cons_zero, List.set_cons_succ]
 refine anyL_tk (i := 12) (v := ?v12_11) aZ12 (by kernel_rfl) ?y12_11 HS ?r12_11
 case y12_11 => intro wx hx; have p0 := hx.1.cell 0 rfl; have p1 := hx.1.cell 1 rfl; have p2 := hx.1.cell 2 rfl; have p3 := hx.1.cell 3 rfl; have q0 := hx.2.cell 0 rfl; have q1 := hx.2.cell 1 rfl; have q2 := hx.2.cell 2 rfl; have q3 := hx.2.cell 3 rfl; go_simp; try (with_reducible rfl)
 simp only [Act.put, List.setIfInBounds_toArray, List.set_cons_zero, List.set_cons_succ]
 refine anyL_tk (i := 13) (v := ?v13_12) aZ13 (by kernel_rfl) ?y13_12 HS ?r13_12
 case y13_12 => intro wx hx; have p0 := hx.1.cell 0 rfl; have p1 := hx.1.cell 1 rfl; have p2 := hx.1.cell 2 rfl; have p3 := hx.1.cell 3 rfl; have q0 := hx.2.cell 0 rfl; have q1 := hx.2.cell 1 rfl; have q2 := hx.2.cell 2 rfl; have q3 := hx.2.cell 3 rfl; go_simp; try (with_reducible rfl)
 simp only [Act.put, List.setIfInBounds_toArray, List.set_cons_zero, List.set_cons_succ]
 refine anyL_tk (i := 15) (v := ?v15_13) aZ15 (by kernel_rfl) ?y15_13 HS ?r15_13
 case y15_13 => intro wx hx; have p0 := hx.1.cell 0 rfl; have p1 := hx.1.cell 1 rfl; have p2 := hx.1.cell 2 rfl; have p3 := hx.1.cell 3 rfl; have q0 := hx.2.cell 0 rfl; have q1 := hx.2.cell 1 rfl; have q2 := hx.2.cell 2 rfl; have q3 := hx.2.cell 3 rfl; go_simp; try (with_reducible rfl)
 simp only [Act.put, List.setIfInBounds_toArray, List.set_cons_zero, List.set_cons_succ]
 refine anyL_tk (i := 16) (v := ?v16_14) aZ16 (by kernel_rfl) ?y16_14 HS ?r16_14
 case y16_14 => intro wx hx; have p0 := hx.1.cell 0 rfl; have p1 := hx.1.cell 1 rfl; have p2 := hx.1.cell 2 rfl; have p3 := hx.1.cell 3 rfl; have q0 := hx.2.cell 0 rfl; have q1 := hx.2.cell 1 rfl; have q2 := hx.2.cell 2 rfl; have q3 := hx.2.cell 3 rfl; go_simp; try (with_reducible rfl)
 simp only [Act.put, List.setIfInBounds_toArray, List.set_cons_zero, List.set_cons_succ]
 refine anyL_tk (i := 17) (v := ?v17_15) aZ17 (by kernel_rfl) ?y17_15 HS ?r17_15
 case y17_15 => intro wx hx; have p0 := hx.1.cell 0 rfl; have p1 := hx.1.cell 1 rfl; have p2 := hx.1.cell 2 rfl; have p3 := hx.1.cell 3 rfl; have q0 := hx.2.cell 0 rfl; have q1 := hx.2.cell 1 rfl; have q2 := hx.2.cell 2 rfl; have q3 := hx.2.cell 3 rfl; go_simp; try (with_reducible rfl)
 simp only [Act.put, List.setIfInBounds_toArray, List.set_cons_zero, List.set_cons_succ]
 refine anyL_tk (i := 18) (v := ?v18_16) aZ18 (by kernel_rfl) ?y18_16 HS ?r18_16
 case y18_16 => intro wx hx; have p0 := hx.1.cell 0 rfl; have p1 := hx.1.cell 1 rfl; have p2 := hx.1.cell 2 rfl; have p3 := hx.1.cell 3 rfl; have q0 := hx.2.cell 0 rfl; have q1 := hx.2.cell 1 rfl; have q2 := hx.2.cell 2 rfl; have q3 := hx.2.cell 3 rfl; go_simp; try (with_reducible rfl)
 simp only [Act.put, List.setIfInBounds_toArray, List.set_cons_zero, List.set_cons_succ]
 refine anyL_one (i := 4) aZ4 (by kernel_rfl) rfl (fun K hK => ?_)
 go_simp
 refine (compare_any _ _ _).mono ?_
 rintro e w1 ⟨rfl, rfl⟩
 refine hK _ _ (.inr HS) ?_
 try simp only [Act.put, List.setIfInBounds_toArray, List.set_cons_zero, List.set_cons_succ]
 refine anyL_one (i := 9) aZ9 (by kernel_rfl) rfl (fun K hK => ?_)
 go_simp
 refine (compare_any _ _ _).mono ?_
 rintro e w1 ⟨rfl, rfl⟩
 refine hK _ _ (.inr HS) ?_
 try simp only [Act.put, List.setIfInBounds_toArray, List.set_cons_zero, List.set_cons_succ]
 refine anyL_one (i := 14) aZ14 (by kernel_rfl) rfl (fun K hK => ?_)
 go_simp
 refine (compare_any _ _ _).mono ?_
 rintro e w1 ⟨rfl, rfl⟩
 refine hK _ _ (.inr HS) ?_
 try simp only [Act.put, List.setIfInBounds_toArray, List.set_cons_zero, List.set_cons_succ]
 refine anyL_one (i := 19) aZ19 (by kernel_rfl) rfl (fun K hK => ?_)
 go_simp
 refine (compare_any _ _ _).mono ?_
 rintro e w1 ⟨rfl, rfl⟩
 refine hK _ _ (.inr HS) ?_
 try simp only [Act.put, List.setIfInBounds_toArray, List.set_cons_zero, List.set_cons_succ]
 refine anyL_one (i := 20) aZ20 (by kernel_rfl) rfl (fun K hK => ?_)
 go_simp
 refine hK _ _ (.inr ⟨HS.1.alloc _, HS.2.alloc _⟩) ?_
 try simp only [Act.put, List.setIfInBounds_toArray, List.set_cons_zero, List.set_cons_succ]
 refine anyL_one (i := 21) aZ21 (by kernel_rfl) rfl (fun K hK => ?_)
 go_simp
 refine (or_any (cmpI a0 b0) (cmpI a1 b1) (cmpI a3 b3) (cmpI a2 b2) _ _ (by go_cell) (by go_cell) (by go_cell) (by go_cell)).mono ?_
 rintro e w1 ⟨rfl, rfl⟩
 refine hK _ _ (.inr ⟨HS.1.alloc _, HS.2.alloc _⟩) ?_
 try simp only [Act.put, List.setIfInBounds_toArray, List.set_cons_zero, List.set_cons_succ]
 refine anyL_one (i := 22) aZ22 (by kernel_rfl) rfl (fun K hK => ?_)
 go_simp
 refine hK _ _ (.inr ⟨HS.1.alloc _, HS.2.alloc _⟩) (anyL_done (by kernel_rfl) (NoPanic.normal ?_))
 try simp only [Act.put, List.setIfInBounds_toArray, List.set_cons_zero, List.set_cons_succ]
 go_wp2
 go_ret
 exact ⟨ret_int3 HR.out, HU.alloc HU.size _, HD⟩
theorem flat_sameC {α : Type} [Inhabited α] {k : Nat} {enc : α → List Value} (hk : ∀ x, (enc x).length = k) (hk0 : 0 < k) (xs : List α) : (Go.Sort.flatK enc k xs.toArray).toList = xs.flatMap enc := by
 apply List.ext_getElem?
 intro t
 by_cases ht : t < xs.length * k
 ·have hq : t / k < xs.length := (Nat.div_lt_iff_lt_mul hk0).2 ht
  have hm : t % k < k := Nat.mod_lt _ hk0
  have he : t / k * k + t % k = t := by rw [Nat.mul_comm]; exact Nat.div_add_mod t k
  have h2 := flat_at hk xs (t / k) hq (t % k) hm
  rw [he] at h2
  rw [h2]
  have h1 := Go.Sort.get_flatK enc k xs.toArray t (by simpa using ht)
  have hs : t < (Go.Sort.flatK enc k xs.toArray).size := by simpa using ht
  rw [getElem!_pos _ t hs] at h1
  rw [List.getElem?_eq_getElem (by simpa using hs), Array.getElem_toList, h1]
  have e1 : xs.toArray[t / k]! = el xs (t / k) := by simp [el, hq]
  rw [e1, List.getElem?_eq_getElem (by rw [hk]; exact hm), getElem!_pos _ _ (by rw [hk]; exact hm)]
 ·rw [List.getElem?_eq_none (by simp; omega), List.getElem?_eq_none (by rw [flat_length hk]; omega)]
theorem ltOf_aheadC : (Go.Proofs.ltOf (cmpS false)) = aheadS false := by
 funext a b
 exact cmpS_neg false a b
theorem swo_aheadC : Go.Sort.SWO (aheadS false) := ⟨fun x => ahead_irrefl x, fun x y z h1 h2 => ahead_lt h1 h2, fun x y z h1 h2 => ahead_trans h2 h1⟩
theorem total_aheadC (x y : Ar) (h1 : aheadS false x y = false) (h2 : aheadS false y x = false) : x = y := ahead_same h1 h2
theorem cmp_laysC (g n : Nat) (w : World) : Go.Proofs.CmpLays Tryz.prog 140 #[] encA 4 (cmpS false) g 0 n w := by
 intro m os dk hdk x y
 exact (inOrderC_any x y _ _ rfl).mono fun e w' ⟨he, hb, hd⟩ => ⟨he, later_growC hb hd⟩
theorem own_sortedC {w : World} {base g cap m : Nat} {l r : List Ar} {cur : Array Value} {os : Array Obj} (hb : base ≤ g) (hh : w.heap[g]? = some (.cells cur 58 (0, 0))) (hn : l.length ≤ cap) (hcap : cap ≤ maxLen) (hcs : cur.size = cap * 4) (hr : r.length = l.length) :
  (Go.Proofs.sortWorldK encA 4 w g 0 m r.toArray os).ownsRow base 58 4 (.slice (some ⟨g, 0, none⟩) l.length cap) l.length (r.flatMap encA) ∧ w.grownBy (Go.Proofs.sortWorldK encA 4 w g 0 m r.toArray os) (some g) := by
 have hlt : g < w.heap.size := lt_of_block hh
 have hF : (Go.Sort.flatK encA 4 r.toArray).toList = r.flatMap encA := flat_sameC encA_len (by decide) r
 have hFs : (Go.Sort.flatK encA 4 r.toArray).size = l.length * 4 := by simp [hr]
 constructor
 ·refine ⟨by rw [flat_length encA_len, hr], .inr ⟨g, cap, Go.Sort.putCells id 0 (Go.Sort.flatK encA 4 r.toArray) cur, rfl, hb, ?_, hn, hcap, ?_, ?_⟩⟩
  ·simp only [Go.Proofs.sortWorldK, Go.Sort.putRowK, Go.Sort.putRow, Go.Sort.mapBlock, Go.Sort.grow, Go.Sort.ahead]
   rw [Array.getElem?_append_left (by simpa using hlt), Array.getElem?_modify, if_pos rfl, hh]
   rfl
  ·simp [Go.Sort.putCells, hcs]
  ·rw [← hF]
   apply List.ext_getElem?
   intro t
   by_cases ht : t < l.length * 4
   ·have hc : t < cur.size := by rw [hcs]; exact Nat.lt_of_lt_of_le ht (Nat.mul_le_mul_right _ hn)
    rw [List.getElem?_take_of_lt ht]
    simp only [Go.Sort.putCells, Array.getElem?_toList, Array.getElem?_mapIdx, Array.getElem?_eq_getElem hc, Option.map_some]
    rw [if_pos ⟨Nat.zero_le _, by rw [hFs]; omega⟩, Array.getElem?_eq_getElem (by rw [hFs]; exact ht)]
    simp [getElem!_pos, hr, ht]
   ·rw [List.getElem?_eq_none (by simp; omega), List.getElem?_eq_none (by rw [Array.length_toList, hFs]; omega)]
 ·refine ⟨rfl, rfl, rfl, by simp [Go.Proofs.sortWorldK, Go.Sort.putRowK, Go.Sort.putRow, Go.Sort.mapBlock, Go.Sort.ahead], fun k hk hne => ?_⟩
  simp only [Go.Proofs.sortWorldK, Go.Sort.putRowK, Go.Sort.putRow, Go.Sort.mapBlock, Go.Sort.grow, Go.Sort.ahead]
  rw [Array.getElem?_append_left (by simpa using hk), Array.getElem?_modify, if_neg (by intro e; exact hne (by rw [e]))]
set_option maxRecDepth 100000 in
theorem sortC_own (base : Nat) (v : Value) (l : List Ar) (w : World) (hv : w.ownsRow base 58 4 v l.length (l.flatMap encA)) (hl : l.length < 4611686018427387904) :
  Calls Tryz.prog 118 #[v, .func (.func 140) #[] #[]] w fun e w' => e = .returned (.tuple #[]) ∧ w'.ownsRow base 58 4 v (sortL l).length ((sortL l).flatMap encA) ∧ w.grownBy w' v.ownBlock := by
 have hv' := hv
 have hSL : sortL l = sortS false l := by rw [sortS_false, ordL_sortL]
 rw [hSL]
 by_cases h0 : l.length = 0
 ·obtain rfl : l = [] := List.eq_nil_of_length_eq_zero h0
  obtain ⟨a, cap, rfl⟩ := own_sl hv
  exact (AnyF.slices_SortFunc_none Tryz.sortArc a cap _ w).mono fun e w' ⟨he, hw⟩ => ⟨he, by subst hw; simpa [sortS] using hv', by subst hw; exact World.grownBy.refl _ _⟩
 ·rcases hv.2 with ⟨_, h⟩ | ⟨g, cap, cur, rfl, hb, hh, hn, hcap, hcs, htk⟩
  ·exact absurd h h0
  ·have hlt : g < w.heap.size := lt_of_block hh
   have eg : ∀ args w, (callFunc 140 args).run Tryz.prog w = .ok (.enter 140 args) w := enters_of Tryz.func140 (by kernel_rfl) rfl
   have hH : Go.Sort.HoldsK encA 4 w g 0 l.toArray := by
    intro j hj
    have hF : (Go.Sort.flatK encA 4 l.toArray).toList = l.flatMap encA := flat_sameC encA_len (by decide) l
    have hj' : j < l.length * 4 := by simpa using hj
    have h1 := hv'.cellAt j hj'
    rw [Nat.zero_add, h1]
    refine ⟨?_, hv'.frozenAt j⟩
    rw [← hF, List.getElem?_eq_getElem (by simpa using hj), Array.getElem_toList, getElem!_pos (Go.Sort.flatK encA 4 l.toArray) j hj]
    rfl
   have hc := AnyQ.slices_SortFunc_total Tryz.sortArc 4 Tryz.isAgg58 Tryz.sizeOf58 encA encA_len encA_one (cmpS false) (by rw [ltOf_aheadC]; exact swo_aheadC) 140 #[] g 0 cap l.toArray w eg (cmp_laysC g _ w) hH hlt (by simpa using hl) (by rw [ltOf_aheadC]; exact total_aheadC)
   rw [ltOf_aheadC] at hc
   refine Calls.mono (R := _) hc ?_
   rintro e w' ⟨he, m, os, hw⟩
   subst hw
   have := own_sortedC (m := m) (os := os) (r := sortS false l) hb hh hn hcap hcs (sortS_length false l)
   exact ⟨he, by rw [sortS_length]; exact this.1, this.2⟩
end Go.Proofs.YtfhjncpakgailaaGreatDoor.Wt
