/- Whether arcs stand in order, by the program. -/
import Derived.Test.YtjpfpdbhdcopbaaJ14b
import Derived.Test.YtjpfpdbhdcopbaaPlainV
import Derived.Test.YtjpfpdbhdcopbaaRg
namespace Go.Proofs.Ytjpfpdbhdcopbaa.Wt
open Go.ChangeShapes Go.WideShapes Go.ChangeAt Go.RowKit
open Go.Proofs.Ytjpfpdbhdcopbaa.Pl
set_option linter.unusedVariables false
set_option linter.unusedSimpArgs false
theorem compare_any (a b : Int) (w : World) : Calls Try.prog 71 #[.int .i64 a, .int .i64 b] w fun e w' => e = .returned (.int .i64 (cmpI a b)) ∧ w = w' := by
  unfold cmpI
  by_cases h1 : a < b
  · go_enter Try.func71, Try.ntmps71
    go_wp2_with (first | (go_at_call 79; go_in))
    go_ret
    exact ⟨rfl, rfl⟩
  · by_cases h2 : b < a
    · go_enter Try.func71, Try.ntmps71
      go_wp2_with (first | (go_at_call 79; go_in))
      go_ret
      exact ⟨rfl, rfl⟩
    · go_enter Try.func71, Try.ntmps71
      go_wp2_with (first | (go_at_call 79; go_in))
      go_ret
      exact ⟨rfl, rfl⟩
theorem or_any (c0 c1 c2 c3 : Int) (b : Nat) (w : World) (h0 : w.cell? ⟨b, 0, none⟩ = some (.int .i64 c0)) (h1 : w.cell? ⟨b, 1, none⟩ = some (.int .i64 c1)) (h2 : w.cell? ⟨b, 2, none⟩ = some (.int .i64 c2)) (h3 : w.cell? ⟨b, 3, none⟩ = some (.int .i64 c3)) :
    Calls Try.prog 70 #[.slice (some ⟨b, 0, none⟩) 4 4] w fun e w' => e = .returned (.int .i64 (orI c0 c1 c2 c3)) ∧ w = w' := by
  unfold orI
  by_cases e0 : c0 = 0
  · by_cases e1 : c1 = 0
    · by_cases e2 : c2 = 0
      · by_cases e3 : c3 = 0
        · subst e0 e1 e2 e3
          go_enter Try.func70, Try.ntmps70
          go_wp2
          refine wp_loop_rounds 5 ?_; rw [rounds_succ]
          go_wp2
          rw [rounds_succ]
          go_wp2
          rw [rounds_succ]
          go_wp2
          rw [rounds_succ]
          go_wp2
          rw [rounds_succ]
          go_wp2
          go_ret
          exact ⟨rfl, rfl⟩
        · have hne : (c3 != 0) = true := by simpa using e3
          subst e0 e1 e2
          go_enter Try.func70, Try.ntmps70
          go_wp2
          refine wp_loop_rounds 5 ?_; rw [rounds_succ]
          go_wp2
          rw [rounds_succ]
          go_wp2
          rw [rounds_succ]
          go_wp2
          rw [rounds_succ]
          go_wp2
          go_ret
          exact ⟨rfl, rfl⟩
      · have hne : (c2 != 0) = true := by simpa using e2
        subst e0 e1
        go_enter Try.func70, Try.ntmps70
        go_wp2
        refine wp_loop_rounds 5 ?_; rw [rounds_succ]
        go_wp2
        rw [rounds_succ]
        go_wp2
        rw [rounds_succ]
        go_wp2
        go_ret
        exact ⟨ret_int3 (by simp [e2]), rfl⟩
    · have hne : (c1 != 0) = true := by simpa using e1
      subst e0
      go_enter Try.func70, Try.ntmps70
      go_wp2
      refine wp_loop_rounds 5 ?_; rw [rounds_succ]
      go_wp2
      rw [rounds_succ]
      go_wp2
      go_ret
      exact ⟨ret_int3 (by simp [e1]), rfl⟩
  · have hne : (c0 != 0) = true := by simpa using e0
    go_enter Try.func70, Try.ntmps70
    go_wp2
    refine wp_loop_rounds 5 ?_; rw [rounds_succ]
    go_wp2
    go_ret
    exact ⟨ret_int3 (by simp [e0]), rfl⟩
def HeldI (B : Nat) (a0 a1 a2 a3 b0 b1 b2 b3 : Int) (w : World) : Prop :=
  Blk w B #[.int .i64 a0, .int .i64 a1, .int .i64 a2, .int .i64 a3] 53 ∧ Blk w (B + 1) #[.int .i64 b0, .int .i64 b1, .int .i64 b2, .int .i64 b3] 53
set_option maxRecDepth 100000 in
set_option maxHeartbeats 1000000 in
theorem inOrder_any (a b : Ar) (w : World) (r : Int) (hr : orI (cmpI a.1 b.1) (cmpI a.2.1 b.2.1) (cmpI a.2.2.2 b.2.2.2) (cmpI a.2.2.1 b.2.2.1) = r) :
    Calls Try.prog 60 #[.agg #[.int .i64 a.1, .int .i64 a.2.1, .int .i64 a.2.2.1, .int .i64 a.2.2.2], .agg #[.int .i64 b.1, .int .i64 b.2.1, .int .i64 b.2.2.1, .int .i64 b.2.2.2]] w fun e w' => e = .returned (.int .i64 r) ∧ Below w.heap.size w w' := by
  obtain ⟨a0, a1, a2, a3⟩ := a
  obtain ⟨b0, b1, b2, b3⟩ := b
  simp only at hr ⊢
  have HR : Hid (orI (cmpI a0 b0) (cmpI a1 b1) (cmpI a3 b3) (cmpI a2 b2) = r) := hr
  clear hr
  go_enter Try.func60, Try.ntmps60
  go_wp2
  refine region_anyL (HeldI w.heap.size a0 a1 a2 a3 b0 b1 b2 b3) 1000 (by kernel_rfl) ?_
  have hk := Blk.made (w.alloc (.cells #[.int .i64 a0, .int .i64 a1, .int .i64 a2, .int .i64 a3] 53)) #[.int .i64 b0, .int .i64 b1, .int .i64 b2, .int .i64 b3] 53
  simp only [World.size_alloc] at hk
  have HS : HeldI w.heap.size a0 a1 a2 a3 b0 b1 b2 b3 ((w.alloc (.cells #[.int .i64 a0, .int .i64 a1, .int .i64 a2, .int .i64 a3] 53)).alloc (.cells #[.int .i64 b0, .int .i64 b1, .int .i64 b2, .int .i64 b3] 53)).drew := ⟨((Blk.made w _ _).alloc _).drew, hk.drew⟩
  have HU : Below w.heap.size w ((w.alloc (.cells #[.int .i64 a0, .int .i64 a1, .int .i64 a2, .int .i64 a3] 53)).alloc (.cells #[.int .i64 b0, .int .i64 b1, .int .i64 b2, .int .i64 b3] 53)).drew := Below.drew (by go_grown)
  clear hk
  generalize hw0 : ((w.alloc (.cells #[.int .i64 a0, .int .i64 a1, .int .i64 a2, .int .i64 a3] 53)).alloc (.cells #[.int .i64 b0, .int .i64 b1, .int .i64 b2, .int .i64 b3] 53)).drew = w0 at *
  clear hw0
  refine anyL_take (i := 0) (v := ?v0_1) at0 (by kernel_rfl) (by kernel_rfl) (by kernel_rfl) (by kernel_rfl) (fun _ _ _ h => h) rfl ?y0_1 HS ?r0_1
  case y0_1 => intro wx hx; have p0 := hx.1.cell 0 rfl; have p1 := hx.1.cell 1 rfl; have p2 := hx.1.cell 2 rfl; have p3 := hx.1.cell 3 rfl; have q0 := hx.2.cell 0 rfl; have q1 := hx.2.cell 1 rfl; have q2 := hx.2.cell 2 rfl; have q3 := hx.2.cell 3 rfl; go_simp; try (with_reducible rfl)
  simp only [Act.put, List.setIfInBounds_toArray, List.set_cons_zero, List.set_cons_succ]
  refine anyL_take (i := 1) (v := ?v1_2) (atS at0) (by kernel_rfl) (by kernel_rfl) (by kernel_rfl) (by kernel_rfl) (fun _ _ _ h => h) rfl ?y1_2 HS ?r1_2
  case y1_2 => intro wx hx; have p0 := hx.1.cell 0 rfl; have p1 := hx.1.cell 1 rfl; have p2 := hx.1.cell 2 rfl; have p3 := hx.1.cell 3 rfl; have q0 := hx.2.cell 0 rfl; have q1 := hx.2.cell 1 rfl; have q2 := hx.2.cell 2 rfl; have q3 := hx.2.cell 3 rfl; go_simp; try (with_reducible rfl)
  simp only [Act.put, List.setIfInBounds_toArray, List.set_cons_zero, List.set_cons_succ]
  refine anyL_take (i := 2) (v := ?v2_3) (atS (atS at0)) (by kernel_rfl) (by kernel_rfl) (by kernel_rfl) (by kernel_rfl) (fun _ _ _ h => h) rfl ?y2_3 HS ?r2_3
  case y2_3 => intro wx hx; have p0 := hx.1.cell 0 rfl; have p1 := hx.1.cell 1 rfl; have p2 := hx.1.cell 2 rfl; have p3 := hx.1.cell 3 rfl; have q0 := hx.2.cell 0 rfl; have q1 := hx.2.cell 1 rfl; have q2 := hx.2.cell 2 rfl; have q3 := hx.2.cell 3 rfl; go_simp; try (with_reducible rfl)
  simp only [Act.put, List.setIfInBounds_toArray, List.set_cons_zero, List.set_cons_succ]
  refine anyL_take (i := 3) (v := ?v3_4) (atS (atS (atS at0))) (by kernel_rfl) (by kernel_rfl) (by kernel_rfl) (by kernel_rfl) (fun _ _ _ h => h) rfl ?y3_4 HS ?r3_4
  case y3_4 => intro wx hx; have p0 := hx.1.cell 0 rfl; have p1 := hx.1.cell 1 rfl; have p2 := hx.1.cell 2 rfl; have p3 := hx.1.cell 3 rfl; have q0 := hx.2.cell 0 rfl; have q1 := hx.2.cell 1 rfl; have q2 := hx.2.cell 2 rfl; have q3 := hx.2.cell 3 rfl; go_simp; try (with_reducible rfl)
  simp only [Act.put, List.setIfInBounds_toArray, List.set_cons_zero, List.set_cons_succ]
  refine anyL_take (i := 5) (v := ?v5_5) (atS (atS (atS (atS (atS at0))))) (by kernel_rfl) (by kernel_rfl) (by kernel_rfl) (by kernel_rfl) (fun _ _ _ h => h) rfl ?y5_5 HS ?r5_5
  case y5_5 => intro wx hx; have p0 := hx.1.cell 0 rfl; have p1 := hx.1.cell 1 rfl; have p2 := hx.1.cell 2 rfl; have p3 := hx.1.cell 3 rfl; have q0 := hx.2.cell 0 rfl; have q1 := hx.2.cell 1 rfl; have q2 := hx.2.cell 2 rfl; have q3 := hx.2.cell 3 rfl; go_simp; try (with_reducible rfl)
  simp only [Act.put, List.setIfInBounds_toArray, List.set_cons_zero, List.set_cons_succ]
  refine anyL_take (i := 6) (v := ?v6_6) (atS (atS (atS (atS (atS (atS at0)))))) (by kernel_rfl) (by kernel_rfl) (by kernel_rfl) (by kernel_rfl) (fun _ _ _ h => h) rfl ?y6_6 HS ?r6_6
  case y6_6 => intro wx hx; have p0 := hx.1.cell 0 rfl; have p1 := hx.1.cell 1 rfl; have p2 := hx.1.cell 2 rfl; have p3 := hx.1.cell 3 rfl; have q0 := hx.2.cell 0 rfl; have q1 := hx.2.cell 1 rfl; have q2 := hx.2.cell 2 rfl; have q3 := hx.2.cell 3 rfl; go_simp; try (with_reducible rfl)
  simp only [Act.put, List.setIfInBounds_toArray, List.set_cons_zero, List.set_cons_succ]
  refine anyL_take (i := 7) (v := ?v7_7) (atS (atS (atS (atS (atS (atS (atS at0))))))) (by kernel_rfl) (by kernel_rfl) (by kernel_rfl) (by kernel_rfl) (fun _ _ _ h => h) rfl ?y7_7 HS ?r7_7
  case y7_7 => intro wx hx; have p0 := hx.1.cell 0 rfl; have p1 := hx.1.cell 1 rfl; have p2 := hx.1.cell 2 rfl; have p3 := hx.1.cell 3 rfl; have q0 := hx.2.cell 0 rfl; have q1 := hx.2.cell 1 rfl; have q2 := hx.2.cell 2 rfl; have q3 := hx.2.cell 3 rfl; go_simp; try (with_reducible rfl)
  simp only [Act.put, List.setIfInBounds_toArray, List.set_cons_zero, List.set_cons_succ]
  refine anyL_take (i := 8) (v := ?v8_8) (atS (atS (atS (atS (atS (atS (atS (atS at0)))))))) (by kernel_rfl) (by kernel_rfl) (by kernel_rfl) (by kernel_rfl) (fun _ _ _ h => h) rfl ?y8_8 HS ?r8_8
  case y8_8 => intro wx hx; have p0 := hx.1.cell 0 rfl; have p1 := hx.1.cell 1 rfl; have p2 := hx.1.cell 2 rfl; have p3 := hx.1.cell 3 rfl; have q0 := hx.2.cell 0 rfl; have q1 := hx.2.cell 1 rfl; have q2 := hx.2.cell 2 rfl; have q3 := hx.2.cell 3 rfl; go_simp; try (with_reducible rfl)
  simp only [Act.put, List.setIfInBounds_toArray, List.set_cons_zero, List.set_cons_succ]
  refine anyL_take (i := 10) (v := ?v10_9) (atS (atS (atS (atS (atS (atS (atS (atS (atS (atS at0)))))))))) (by kernel_rfl) (by kernel_rfl) (by kernel_rfl) (by kernel_rfl) (fun _ _ _ h => h) rfl ?y10_9 HS ?r10_9
  case y10_9 => intro wx hx; have p0 := hx.1.cell 0 rfl; have p1 := hx.1.cell 1 rfl; have p2 := hx.1.cell 2 rfl; have p3 := hx.1.cell 3 rfl; have q0 := hx.2.cell 0 rfl; have q1 := hx.2.cell 1 rfl; have q2 := hx.2.cell 2 rfl; have q3 := hx.2.cell 3 rfl; go_simp; try (with_reducible rfl)
  simp only [Act.put, List.setIfInBounds_toArray, List.set_cons_zero, List.set_cons_succ]
  refine anyL_take (i := 11) (v := ?v11_10) (atS (atS (atS (atS (atS (atS (atS (atS (atS (atS (atS at0))))))))))) (by kernel_rfl) (by kernel_rfl) (by kernel_rfl) (by kernel_rfl) (fun _ _ _ h => h) rfl ?y11_10 HS ?r11_10
  case y11_10 => intro wx hx; have p0 := hx.1.cell 0 rfl; have p1 := hx.1.cell 1 rfl; have p2 := hx.1.cell 2 rfl; have p3 := hx.1.cell 3 rfl; have q0 := hx.2.cell 0 rfl; have q1 := hx.2.cell 1 rfl; have q2 := hx.2.cell 2 rfl; have q3 := hx.2.cell 3 rfl; go_simp; try (with_reducible rfl)
  simp only [Act.put, List.setIfInBounds_toArray, List.set_cons_zero, List.set_cons_succ]
  refine anyL_take (i := 12) (v := ?v12_11) (atS (atS (atS (atS (atS (atS (atS (atS (atS (atS (atS (atS at0)))))))))))) (by kernel_rfl) (by kernel_rfl) (by kernel_rfl) (by kernel_rfl) (fun _ _ _ h => h) rfl ?y12_11 HS ?r12_11
  case y12_11 => intro wx hx; have p0 := hx.1.cell 0 rfl; have p1 := hx.1.cell 1 rfl; have p2 := hx.1.cell 2 rfl; have p3 := hx.1.cell 3 rfl; have q0 := hx.2.cell 0 rfl; have q1 := hx.2.cell 1 rfl; have q2 := hx.2.cell 2 rfl; have q3 := hx.2.cell 3 rfl; go_simp; try (with_reducible rfl)
  simp only [Act.put, List.setIfInBounds_toArray, List.set_cons_zero, List.set_cons_succ]
  refine anyL_take (i := 13) (v := ?v13_12) (atS (atS (atS (atS (atS (atS (atS (atS (atS (atS (atS (atS (atS at0))))))))))))) (by kernel_rfl) (by kernel_rfl) (by kernel_rfl) (by kernel_rfl) (fun _ _ _ h => h) rfl ?y13_12 HS ?r13_12
  case y13_12 => intro wx hx; have p0 := hx.1.cell 0 rfl; have p1 := hx.1.cell 1 rfl; have p2 := hx.1.cell 2 rfl; have p3 := hx.1.cell 3 rfl; have q0 := hx.2.cell 0 rfl; have q1 := hx.2.cell 1 rfl; have q2 := hx.2.cell 2 rfl; have q3 := hx.2.cell 3 rfl; go_simp; try (with_reducible rfl)
  simp only [Act.put, List.setIfInBounds_toArray, List.set_cons_zero, List.set_cons_succ]
  refine anyL_take (i := 15) (v := ?v15_13) (atS (atS (atS (atS (atS (atS (atS (atS (atS (atS (atS (atS (atS (atS (atS at0))))))))))))))) (by kernel_rfl) (by kernel_rfl) (by kernel_rfl) (by kernel_rfl) (fun _ _ _ h => h) rfl ?y15_13 HS ?r15_13
  case y15_13 => intro wx hx; have p0 := hx.1.cell 0 rfl; have p1 := hx.1.cell 1 rfl; have p2 := hx.1.cell 2 rfl; have p3 := hx.1.cell 3 rfl; have q0 := hx.2.cell 0 rfl; have q1 := hx.2.cell 1 rfl; have q2 := hx.2.cell 2 rfl; have q3 := hx.2.cell 3 rfl; go_simp; try (with_reducible rfl)
  simp only [Act.put, List.setIfInBounds_toArray, List.set_cons_zero, List.set_cons_succ]
  refine anyL_take (i := 16) (v := ?v16_14) (atS (atS (atS (atS (atS (atS (atS (atS (atS (atS (atS (atS (atS (atS (atS (atS at0)))))))))))))))) (by kernel_rfl) (by kernel_rfl) (by kernel_rfl) (by kernel_rfl) (fun _ _ _ h => h) rfl ?y16_14 HS ?r16_14
  case y16_14 => intro wx hx; have p0 := hx.1.cell 0 rfl; have p1 := hx.1.cell 1 rfl; have p2 := hx.1.cell 2 rfl; have p3 := hx.1.cell 3 rfl; have q0 := hx.2.cell 0 rfl; have q1 := hx.2.cell 1 rfl; have q2 := hx.2.cell 2 rfl; have q3 := hx.2.cell 3 rfl; go_simp; try (with_reducible rfl)
  simp only [Act.put, List.setIfInBounds_toArray, List.set_cons_zero, List.set_cons_succ]
  refine anyL_take (i := 17) (v := ?v17_15) (atS (atS (atS (atS (atS (atS (atS (atS (atS (atS (atS (atS (atS (atS (atS (atS (atS at0))))))))))))))))) (by kernel_rfl) (by kernel_rfl) (by kernel_rfl) (by kernel_rfl) (fun _ _ _ h => h) rfl ?y17_15 HS ?r17_15
  case y17_15 => intro wx hx; have p0 := hx.1.cell 0 rfl; have p1 := hx.1.cell 1 rfl; have p2 := hx.1.cell 2 rfl; have p3 := hx.1.cell 3 rfl; have q0 := hx.2.cell 0 rfl; have q1 := hx.2.cell 1 rfl; have q2 := hx.2.cell 2 rfl; have q3 := hx.2.cell 3 rfl; go_simp; try (with_reducible rfl)
  simp only [Act.put, List.setIfInBounds_toArray, List.set_cons_zero, List.set_cons_succ]
  refine anyL_take (i := 18) (v := ?v18_16) (atS (atS (atS (atS (atS (atS (atS (atS (atS (atS (atS (atS (atS (atS (atS (atS (atS (atS at0)))))))))))))))))) (by kernel_rfl) (by kernel_rfl) (by kernel_rfl) (by kernel_rfl) (fun _ _ _ h => h) rfl ?y18_16 HS ?r18_16
  case y18_16 => intro wx hx; have p0 := hx.1.cell 0 rfl; have p1 := hx.1.cell 1 rfl; have p2 := hx.1.cell 2 rfl; have p3 := hx.1.cell 3 rfl; have q0 := hx.2.cell 0 rfl; have q1 := hx.2.cell 1 rfl; have q2 := hx.2.cell 2 rfl; have q3 := hx.2.cell 3 rfl; go_simp; try (with_reducible rfl)
  simp only [Act.put, List.setIfInBounds_toArray, List.set_cons_zero, List.set_cons_succ]
  refine anyL_one (i := 4) (atS (atS (atS (atS at0)))) (by kernel_rfl) rfl (fun K hK => ?_)
  go_simp
  refine (compare_any _ _ _).mono ?_
  rintro e w1 ⟨rfl, rfl⟩
  refine hK _ _ (.inr HS) ?_
  try simp only [Act.put, List.setIfInBounds_toArray, List.set_cons_zero, List.set_cons_succ]
  refine anyL_one (i := 9) (atS (atS (atS (atS (atS (atS (atS (atS (atS at0))))))))) (by kernel_rfl) rfl (fun K hK => ?_)
  go_simp
  refine (compare_any _ _ _).mono ?_
  rintro e w1 ⟨rfl, rfl⟩
  refine hK _ _ (.inr HS) ?_
  try simp only [Act.put, List.setIfInBounds_toArray, List.set_cons_zero, List.set_cons_succ]
  refine anyL_one (i := 14) (atS (atS (atS (atS (atS (atS (atS (atS (atS (atS (atS (atS (atS (atS at0)))))))))))))) (by kernel_rfl) rfl (fun K hK => ?_)
  go_simp
  refine (compare_any _ _ _).mono ?_
  rintro e w1 ⟨rfl, rfl⟩
  refine hK _ _ (.inr HS) ?_
  try simp only [Act.put, List.setIfInBounds_toArray, List.set_cons_zero, List.set_cons_succ]
  refine anyL_one (i := 19) (atS (atS (atS (atS (atS (atS (atS (atS (atS (atS (atS (atS (atS (atS (atS (atS (atS (atS (atS at0))))))))))))))))))) (by kernel_rfl) rfl (fun K hK => ?_)
  go_simp
  refine (compare_any _ _ _).mono ?_
  rintro e w1 ⟨rfl, rfl⟩
  refine hK _ _ (.inr HS) ?_
  try simp only [Act.put, List.setIfInBounds_toArray, List.set_cons_zero, List.set_cons_succ]
  refine anyL_one (i := 20) (atS (atS (atS (atS (atS (atS (atS (atS (atS (atS (atS (atS (atS (atS (atS (atS (atS (atS (atS (atS at0)))))))))))))))))))) (by kernel_rfl) rfl (fun K hK => ?_)
  go_simp
  refine hK _ _ (.inr ⟨HS.1.alloc _, HS.2.alloc _⟩) ?_
  try simp only [Act.put, List.setIfInBounds_toArray, List.set_cons_zero, List.set_cons_succ]
  refine anyL_one (i := 21) (atS (atS (atS (atS (atS (atS (atS (atS (atS (atS (atS (atS (atS (atS (atS (atS (atS (atS (atS (atS (atS at0))))))))))))))))))))) (by kernel_rfl) rfl (fun K hK => ?_)
  go_simp
  refine (or_any (cmpI a0 b0) (cmpI a1 b1) (cmpI a3 b3) (cmpI a2 b2) _ _ (by go_cell) (by go_cell) (by go_cell) (by go_cell)).mono ?_
  rintro e w1 ⟨rfl, rfl⟩
  refine hK _ _ (.inr ⟨HS.1.alloc _, HS.2.alloc _⟩) ?_
  try simp only [Act.put, List.setIfInBounds_toArray, List.set_cons_zero, List.set_cons_succ]
  refine anyL_one (i := 22) (atS (atS (atS (atS (atS (atS (atS (atS (atS (atS (atS (atS (atS (atS (atS (atS (atS (atS (atS (atS (atS (atS at0)))))))))))))))))))))) (by kernel_rfl) rfl (fun K hK => ?_)
  go_simp
  refine hK _ _ (.inr ⟨HS.1.alloc _, HS.2.alloc _⟩) (anyL_done (by kernel_rfl) (NoPanic.normal ?_))
  try simp only [Act.put, List.setIfInBounds_toArray, List.set_cons_zero, List.set_cons_succ]
  go_wp2
  go_ret
  exact ⟨ret_int3 HR.out, HU.alloc HU.size _⟩
end Go.Proofs.Ytjpfpdbhdcopbaa.Wt
