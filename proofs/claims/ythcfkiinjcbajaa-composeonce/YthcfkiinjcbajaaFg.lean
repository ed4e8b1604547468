/- compose.expanded: the Final and the hops of a triple. -/
import Derived.Test.YthcfkiinjcbajaaFf
import Derived.BigQuiet
namespace Go.Proofs.Ythcfkiinjcbajaa.Wt
open Go.ChangeShapes Go.WideShapes Go.ChangeAt Go.RowKit
open Go.Proofs.Ythcfkiinjcbajaa.Pl
set_option linter.unusedVariables false
set_option linter.unusedSimpArgs false
def HeldEx (S : Nat) (va vb : Value) (x y : Int) (bA oA : Nat) (fA : Int) (bB oB : Nat) (fB : Int) (w : World) : Prop := w.cell? ⟨S, 1, none⟩ = some va ∧ w.cell? ⟨S + 1, 1, none⟩ = some vb ∧ w.cell? ⟨S + 1 + 1, 0, none⟩ = some (.int .i64 x) ∧ w.cell? ⟨S + 1 + 1, 1, none⟩ = some (.int .i64 y) ∧ w.cell? ⟨bA, oA, none⟩ = some (.int .i64 fA) ∧ w.cell? ⟨bB, oB, none⟩ = some (.int .i64 fB)
theorem HeldEx.below {S n : Nat} {va vb : Value} {x y : Int} {bA oA : Nat} {fA : Int} {bB oB : Nat} {fB : Int} {w w' : World} (h : HeldEx S va vb x y bA oA fA bB oB fB w) (hb : Below n w w') (h1 : S + 1 + 1 < n) (h2 : bA < n) (h3 : bB < n) : HeldEx S va vb x y bA oA fA bB oB fB w' :=
  ⟨(hb.cell (p := ⟨S, 1, none⟩) (by show S < n; omega)).trans h.1, (hb.cell (p := ⟨S + 1, 1, none⟩) (by show S + 1 < n; omega)).trans h.2.1, (hb.cell (p := ⟨S + 1 + 1, 0, none⟩) h1).trans h.2.2.1, (hb.cell (p := ⟨S + 1 + 1, 1, none⟩) h1).trans h.2.2.2.1, (hb.cell (p := ⟨bA, oA, none⟩) h2).trans h.2.2.2.2.1, (hb.cell (p := ⟨bB, oB, none⟩) h3).trans h.2.2.2.2.2⟩
/-- What is held behind the Finals: the error's box, the arguments' boxes. -/
structure ExpW (w wr : World) (E : Nat) (ec : Int) (ca cb : Array Value) (x y f : Int) : Prop where
  err : Blk wr E #[.int .i64 ec] 29
  bxA : Blk wr w.heap.size ca 24
  bxB : Blk wr (w.heap.size + 1) cb 24
  bxT : Blk wr (w.heap.size + 1 + 1) #[.int .i64 x, .int .i64 y, .int .i64 f] 26
  below : Below w.heap.size w wr
  sE : w.heap.size ≤ E
theorem belowDNF (w : World) (q : Nat) : Below w.heap.size w (w.drewN q) := ⟨rfl, rfl, rfl, Nat.le_refl _, fun _ _ => rfl⟩
/-- The Finals, joined. -/
theorem fin_times {x y : Int} (hx : finB x = true) (hy : finB y = true) : (timesR x y = (bothI x y, 0) ∧ (x != 1000000001 && y != 1000000001 && decide (1000000000 < x + y)) = false) ∨ (timesR x y = (0, 4) ∧ (x != 1000000001 && y != 1000000001 && decide (1000000000 < x + y)) = true) := by
  have h0 : ∀ z : Int, finB z = true → wtB z = true := fun z hz => by
    simp only [finB, inB, Bool.and_eq_true, Bool.or_eq_true, decide_eq_true_eq, beq_iff_eq] at hz
    rw [wtB_true]
    omega
  have h1 : (wtB x && wtB y) = true := by rw [h0 x hx, h0 y hy]; rfl
  simp only [timesR, h1, if_true, bothI]
  by_cases e : x = 1000000001 ∨ y = 1000000001
  · left
    rw [if_pos e, if_pos e]
    refine ⟨rfl, ?_⟩
    rcases e with rfl | rfl <;> simp
  · rw [if_neg e, if_neg e]
    have e1 : x ≠ 1000000001 := fun h => e (.inl h)
    have e2 : y ≠ 1000000001 := fun h => e (.inr h)
    by_cases g : 1000000000 < x + y
    · right
      rw [if_pos g]
      exact ⟨rfl, by simp [e1, e2, g]⟩
    · left
      rw [if_neg g]
      exact ⟨rfl, by simp [e1, e2, g]⟩
set_option maxRecDepth 100000 in
set_option maxHeartbeats 6400000 in
theorem expandedQ_any (w : World) (va vb : Value) (a b : Mc) (p q : Nat) (f : Int) (ha : Mach w va a) (hb : Mach w vb b) (fa : faultM a = 0) (fb : faultM b = 0) (hp : p < a.2.length) (hq : q < b.2.length) :
    Calls Try.prog 29 #[va, vb, .agg #[.int .i64 (p : Int), .int .i64 (q : Int), .int .i64 f]] w fun e w' => ExpOwn (if expO a b ((p : Int), (q : Int), f) = true then 0 else finTr a b ((p : Int), (q : Int), f)) (if expO a b ((p : Int), (q : Int), f) = true then [] else expT a b ((p : Int), (q : Int), f)) (if expO a b ((p : Int), (q : Int), f) = true then 4 else 0) w e w' := by
  have HTG := hidP (fun W E H (hT : TelAt w W E H []) => togetherP_any w W va vb a b p q f E H ha hb fa fb hp hq hT)
  have hFT := fin_times (right_states fa p hp).1 (right_states fb q hq).1
  have hXL := expT_len fa fb ((p : Int), (q : Int), f)
  have n60 := (right_size (z := a.1) (l := a.2) fa).1
  have m60 := (right_size (z := b.1) (l := b.2) fb).1
  have hEO : expO a b ((p : Int), (q : Int), f) = (((el a.2 p).1 != 1000000001 && (el b.2 q).1 != 1000000001 && decide (1000000000 < (el a.2 p).1 + (el b.2 q).1)) || ovH (expT a b ((p : Int), (q : Int), f))) := rfl
  have hFI : finTr a b ((p : Int), (q : Int), f) = bothI (el a.2 p).1 (el b.2 q).1 := rfl
  generalize finTr a b ((p : Int), (q : Int), f) = FT at *
  generalize expT a b ((p : Int), (q : Int), f) = XT at *
  generalize expO a b ((p : Int), (q : Int), f) = XO at *
  obtain ⟨za, la⟩ := a
  obtain ⟨zb, lb⟩ := b
  obtain ⟨vsa, rfl, hSa⟩ := ha
  obtain ⟨vsb, rfl, hSb⟩ := hb
  obtain ⟨aa, capa, rfl, hca⟩ := hSa.get
  obtain ⟨ab, capb, rfl, hcb⟩ := hSb.get
  simp only at hp hq n60 m60 hca hcb HTG hFT hEO hFI
  obtain ⟨bA, oA, vA, rfl, hbA, gA0, gA1, gA⟩ := hca p hp
  obtain ⟨bB, oB, vB, rfl, hbB, gB0, gB1, gB⟩ := hcb q hq
  clear hSa hSb hca hcb gA gB gA1 gB1 fa fb
  simp only
  have p0 : (0 : Int) ≤ (p : Int) := by omega
  have p1 : (p : Int) < (la.length : Int) := by omega
  have q0 : (0 : Int) ≤ (q : Int) := by omega
  have q1 : (q : Int) < (lb.length : Int) := by omega
  generalize (el la p).1 = fA at *
  generalize (el lb q).1 = fB at *
  generalize la.length = na at *
  generalize lb.length = nb at *
  have hTM := fun W => timesM_any fA fB W
  obtain ⟨F0, e0, hT0, hC0⟩ : ∃ F0 e0, timesR fA fB = (F0, e0) ∧ ((e0 = 0 ∧ F0 = FT ∧ XO = ovH XT) ∨ (e0 = 4 ∧ F0 = 0 ∧ XO = true)) := by
    rcases hFT with ⟨h1, h2⟩ | ⟨h1, h2⟩
    · exact ⟨_, _, h1, .inl ⟨rfl, hFI.symm, by rw [hEO, h2]; rfl⟩⟩
    · exact ⟨_, _, h1, .inr ⟨rfl, rfl, by rw [hEO, h2]; rfl⟩⟩
  rw [hT0] at hTM
  have HTM := hidP hTM
  have HC0 := hidP hC0
  clear hFT hEO hFI hT0 hTM hC0
  obtain ⟨S, hS⟩ : ∃ S, S = w.heap.size := ⟨_, rfl⟩
  obtain ⟨s3, k0, k1, k2, hb3⟩ := boxedThree (Below.refl (w.heap.size + 3) (((w.alloc (.cells #[.int .i64 za, .slice (some ⟨bA, oA, none⟩) na capa] 24)).alloc (.cells #[.int .i64 zb, .slice (some ⟨bB, oB, none⟩) nb capb] 24)).alloc (.cells #[.int .i64 (p : Int), .int .i64 (q : Int), .int .i64 f] 26))) rfl
  obtain ⟨W3, hW3⟩ : ∃ W3, W3 = (((w.alloc (.cells #[.int .i64 za, .slice (some ⟨bA, oA, none⟩) na capa] 24)).alloc (.cells #[.int .i64 zb, .slice (some ⟨bB, oB, none⟩) nb capb] 24)).alloc (.cells #[.int .i64 (p : Int), .int .i64 (q : Int), .int .i64 f] 26)) := ⟨_, rfl⟩
  rw [← hW3] at s3 k0 k1 k2 hb3
  have HW3 := hidP hW3
  clear hW3
  have K0 := hidP k0
  have K1 := hidP k1
  have K2 := hidP k2
  have B3 := hidP hb3
  have cA := (hb3.cell (p := ⟨bA, oA + p * 2, none⟩) hbA).trans gA0
  have cB := (hb3.cell (p := ⟨bB, oB + q * 2, none⟩) hbB).trans gB0
  rw [← hS] at k0 k1 k2 s3 hbA hbB
  have HS0 : HeldEx S (.slice (some ⟨bA, oA, none⟩) na capa) (.slice (some ⟨bB, oB, none⟩) nb capb) (p : Int) (q : Int) bA (oA + p * 2) fA bB (oB + q * 2) fB W3.drew := ⟨k0.cell 1 rfl, k1.cell 1 rfl, k2.cell 0 rfl, k2.cell 1 rfl, cA, cB⟩
  have HSW := hidP hS
  obtain ⟨R1, hR1⟩ : ∃ R1 : Int, R1 = (if XO = true then 0 else FT) := ⟨_, rfl⟩
  obtain ⟨R2, hR2⟩ : ∃ R2 : List Hp, R2 = (if XO = true then [] else XT) := ⟨_, rfl⟩
  obtain ⟨R3, hR3⟩ : ∃ R3 : Int, R3 = (if XO = true then 4 else 0) := ⟨_, rfl⟩
  rw [← hR1, ← hR2, ← hR3]
  have HR1 := hidP hR1
  have HR2 := hidP hR2
  have HR3 := hidP hR3
  clear hR1 hR2 hR3
  clear k0 k1 k2 hb3 gA0 gB0 cA cB hS
  go_enter Try.func29, Try.ntmps29
  go_upto_region 1 with fail
  rw [← HW3.out]
  rw [← HSW.out]
  go_cut [9, 10] (fun s9 s10 wx => ∃ E, s9 = .int .i64 F0 ∧ s10 = .pointer (some ⟨E, 0, none⟩) ∧ Hid (ExpW w wx E e0 #[.int .i64 za, .slice (some ⟨bA, oA, none⟩) na capa] #[.int .i64 zb, .slice (some ⟨bB, oB, none⟩) nb capb] (p : Int) (q : Int) f))
  case first =>
    have hlt9 : S + 1 + 1 < W3.heap.size := by omega
    have hl19 : bA < W3.heap.size := by omega
    have hl29 : bB < W3.heap.size := by omega
    have hlt : S + 1 + 1 < W3.drew.heap.size := hlt9
    have hl1 : bA < W3.drew.heap.size := by show _ < W3.heap.size; omega
    have hl2 : bB < W3.drew.heap.size := by show _ < W3.heap.size; omega
    refine region_anyL (HeldEx S (.slice (some ⟨bA, oA, none⟩) na capa) (.slice (some ⟨bB, oB, none⟩) nb capb) (p : Int) (q : Int) bA (oA + p * 2) fA bB (oB + q * 2) fB) 20 (by kernel_rfl) ?_
    refine anyL_take (i := 0) (v := ?v0_1) at0 (by kernel_rfl) (by kernel_rfl) (by kernel_rfl) (by kernel_rfl) (fun _ _ _ h => h) rfl ?y0_1 HS0 ?r0_1
    case y0_1 => intro wx hx; obtain ⟨h0, h1, h2, h3, h4, h5⟩ := hx; go_simp; try (with_reducible rfl)
    simp only [Act.put, List.setIfInBounds_toArray, List.set_cons_zero, List.set_cons_succ]
    refine anyL_take (i := 1) (v := ?v1_2) (atS at0) (by kernel_rfl) (by kernel_rfl) (by kernel_rfl) (by kernel_rfl) (fun _ _ _ h => h) rfl ?y1_2 HS0 ?r1_2
    case y1_2 => intro wx hx; obtain ⟨h0, h1, h2, h3, h4, h5⟩ := hx; go_simp; try (with_reducible rfl)
    simp only [Act.put, List.setIfInBounds_toArray, List.set_cons_zero, List.set_cons_succ]
    refine anyL_take (i := 2) (v := ?v2_3) (atS (atS at0)) (by kernel_rfl) (by kernel_rfl) (by kernel_rfl) (by kernel_rfl) (fun _ _ _ h => h) rfl ?y2_3 HS0 ?r2_3
    case y2_3 => intro wx hx; obtain ⟨h0, h1, h2, h3, h4, h5⟩ := hx; go_simp; try (with_reducible rfl)
    simp only [Act.put, List.setIfInBounds_toArray, List.set_cons_zero, List.set_cons_succ]
    refine anyL_take (i := 3) (v := ?v3_4) (atS (atS (atS at0))) (by kernel_rfl) (by kernel_rfl) (by kernel_rfl) (by kernel_rfl) (fun _ _ _ h => h) rfl ?y3_4 HS0 ?r3_4
    case y3_4 => intro wx hx; obtain ⟨h0, h1, h2, h3, h4, h5⟩ := hx; go_simp; try (with_reducible rfl)
    simp only [Act.put, List.setIfInBounds_toArray, List.set_cons_zero, List.set_cons_succ]
    refine anyL_take (i := 4) (v := ?v4_5) (atS (atS (atS (atS at0)))) (by kernel_rfl) (by kernel_rfl) (by kernel_rfl) (by kernel_rfl) (fun _ _ _ h => h) rfl ?y4_5 HS0 ?r4_5
    case y4_5 => intro wx hx; obtain ⟨h0, h1, h2, h3, h4, h5⟩ := hx; go_simp; try (with_reducible rfl)
    simp only [Act.put, List.setIfInBounds_toArray, List.set_cons_zero, List.set_cons_succ]
    refine anyL_take (i := 5) (v := ?v5_6) (atS (atS (atS (atS (atS at0))))) (by kernel_rfl) (by kernel_rfl) (by kernel_rfl) (by kernel_rfl) (fun _ _ _ h => h) rfl ?y5_6 HS0 ?r5_6
    case y5_6 => intro wx hx; obtain ⟨h0, h1, h2, h3, h4, h5⟩ := hx; go_simp; try (with_reducible rfl)
    simp only [Act.put, List.setIfInBounds_toArray, List.set_cons_zero, List.set_cons_succ]
    refine anyL_take (i := 6) (v := ?v6_7) (atS (atS (atS (atS (atS (atS at0)))))) (by kernel_rfl) (by kernel_rfl) (by kernel_rfl) (by kernel_rfl) (fun _ _ _ h => h) rfl ?y6_7 HS0 ?r6_7
    case y6_7 => intro wx hx; obtain ⟨h0, h1, h2, h3, h4, h5⟩ := hx; go_simp; try (with_reducible rfl)
    simp only [Act.put, List.setIfInBounds_toArray, List.set_cons_zero, List.set_cons_succ]
    refine anyL_take (i := 7) (v := ?v7_8) (atS (atS (atS (atS (atS (atS (atS at0))))))) (by kernel_rfl) (by kernel_rfl) (by kernel_rfl) (by kernel_rfl) (fun _ _ _ h => h) rfl ?y7_8 HS0 ?r7_8
    case y7_8 => intro wx hx; obtain ⟨h0, h1, h2, h3, h4, h5⟩ := hx; go_simp; try (with_reducible rfl)
    simp only [Act.put, List.setIfInBounds_toArray, List.set_cons_zero, List.set_cons_succ]
    refine anyL_take (i := 8) (v := ?v8_9) (atS (atS (atS (atS (atS (atS (atS (atS at0)))))))) (by kernel_rfl) (by kernel_rfl) (by kernel_rfl) (by kernel_rfl) (fun _ _ _ h => h) rfl ?y8_9 HS0 ?r8_9
    case y8_9 => intro wx hx; obtain ⟨h0, h1, h2, h3, h4, h5⟩ := hx; go_simp; try (with_reducible rfl)
    simp only [Act.put, List.setIfInBounds_toArray, List.set_cons_zero, List.set_cons_succ]
    refine anyL_take (i := 9) (v := ?v9_10) (atS (atS (atS (atS (atS (atS (atS (atS (atS at0))))))))) (by kernel_rfl) (by kernel_rfl) (by kernel_rfl) (by kernel_rfl) (fun _ _ _ h => h) rfl ?y9_10 HS0 ?r9_10
    case y9_10 => intro wx hx; obtain ⟨h0, h1, h2, h3, h4, h5⟩ := hx; go_simp; try (with_reducible rfl)
    simp only [Act.put, List.setIfInBounds_toArray, List.set_cons_zero, List.set_cons_succ]
    refine anyL_take (i := 10) (v := ?v10_11) (atS (atS (atS (atS (atS (atS (atS (atS (atS (atS at0)))))))))) (by kernel_rfl) (by kernel_rfl) (by kernel_rfl) (by kernel_rfl) (fun _ _ _ h => h) rfl ?y10_11 HS0 ?r10_11
    case y10_11 => intro wx hx; obtain ⟨h0, h1, h2, h3, h4, h5⟩ := hx; go_simp; try (with_reducible rfl)
    simp only [Act.put, List.setIfInBounds_toArray, List.set_cons_zero, List.set_cons_succ]
    refine anyL_take (i := 11) (v := ?v11_12) (atS (atS (atS (atS (atS (atS (atS (atS (atS (atS (atS at0))))))))))) (by kernel_rfl) (by kernel_rfl) (by kernel_rfl) (by kernel_rfl) (fun _ _ _ h => h) rfl ?y11_12 HS0 ?r11_12
    case y11_12 => intro wx hx; obtain ⟨h0, h1, h2, h3, h4, h5⟩ := hx; go_simp; try (with_reducible rfl)
    simp only [Act.put, List.setIfInBounds_toArray, List.set_cons_zero, List.set_cons_succ]
    refine anyL_take (i := 12) (v := ?v12_13) (atS (atS (atS (atS (atS (atS (atS (atS (atS (atS (atS (atS at0)))))))))))) (by kernel_rfl) (by kernel_rfl) (by kernel_rfl) (by kernel_rfl) (fun _ _ _ h => h) rfl ?y12_13 HS0 ?r12_13
    case y12_13 => intro wx hx; obtain ⟨h0, h1, h2, h3, h4, h5⟩ := hx; go_simp; try (with_reducible rfl)
    simp only [Act.put, List.setIfInBounds_toArray, List.set_cons_zero, List.set_cons_succ]
    refine anyL_take (i := 13) (v := ?v13_14) (atS (atS (atS (atS (atS (atS (atS (atS (atS (atS (atS (atS (atS at0))))))))))))) (by kernel_rfl) (by kernel_rfl) (by kernel_rfl) (by kernel_rfl) (fun _ _ _ h => h) rfl ?y13_14 HS0 ?r13_14
    case y13_14 => intro wx hx; obtain ⟨h0, h1, h2, h3, h4, h5⟩ := hx; go_simp; try (with_reducible rfl)
    simp only [Act.put, List.setIfInBounds_toArray, List.set_cons_zero, List.set_cons_succ]
    refine anyL_br (rs := [14, 18]) (by kernel_rfl) (by simp) (List.forall_mem_cons.2 ⟨⟨_, (atS (atS (atS (atS (atS (atS (atS (atS (atS (atS (atS (atS (atS (atS at0)))))))))))))), rfl, fun K hK => ?_⟩, List.forall_mem_cons.2 ⟨⟨_, (atS (atS (atS (atS (atS (atS (atS (atS (atS (atS (atS (atS (atS (atS (atS (atS (atS (atS at0)))))))))))))))))), rfl, fun K hK => ?_⟩, fun _ h => absurd h (by simp)⟩⟩)
    · go_simp
      with_reducible refine (HTM.out _).mono ?_
      rintro e w4 ⟨rfl, hb4⟩
      have HS4 := HS0.below hb4 hlt hl1 hl2
      have B4 := hidP (show Below W3.heap.size W3 w4 from ((Below.refl W3.heap.size W3).drew).trans hb4)
      have z4 : W3.heap.size ≤ w4.heap.size := hb4.size
      clear hb4 HS0
      refine hK _ _ (.inr HS4) ?_
      try simp only [Act.put, List.setIfInBounds_toArray, List.set_cons_zero, List.set_cons_succ]
      refine anyL_take (i := 15) (v := ?v15_15) (atS (atS (atS (atS (atS (atS (atS (atS (atS (atS (atS (atS (atS (atS (atS at0))))))))))))))) (by kernel_rfl) (by kernel_rfl) (by kernel_rfl) (by kernel_rfl) (fun _ _ _ h => h) rfl ?y15_15 HS4 ?r15_15
      case y15_15 => intro wx hx; obtain ⟨h0, h1, h2, h3, h4, h5⟩ := hx; go_simp; try (with_reducible rfl)
      simp only [Act.put, List.setIfInBounds_toArray, List.set_cons_zero, List.set_cons_succ]
      refine anyL_take (i := 16) (v := ?v16_16) (atS (atS (atS (atS (atS (atS (atS (atS (atS (atS (atS (atS (atS (atS (atS (atS at0)))))))))))))))) (by kernel_rfl) (by kernel_rfl) (by kernel_rfl) (by kernel_rfl) (fun _ _ _ h => h) rfl ?y16_16 HS4 ?r16_16
      case y16_16 => intro wx hx; obtain ⟨h0, h1, h2, h3, h4, h5⟩ := hx; go_simp; try (with_reducible rfl)
      simp only [Act.put, List.setIfInBounds_toArray, List.set_cons_zero, List.set_cons_succ]
      refine anyL_take (i := 17) (v := ?v17_17) (atS (atS (atS (atS (atS (atS (atS (atS (atS (atS (atS (atS (atS (atS (atS (atS (atS at0))))))))))))))))) (by kernel_rfl) (by kernel_rfl) (by kernel_rfl) (by kernel_rfl) (fun _ _ _ h => h) rfl ?y17_17 HS4 ?r17_17
      case y17_17 => intro wx hx; obtain ⟨h0, h1, h2, h3, h4, h5⟩ := hx; go_simp; try (with_reducible rfl)
      simp only [Act.put, List.setIfInBounds_toArray, List.set_cons_zero, List.set_cons_succ]
      have HS5 := HS4.below (Below.alloc (Below.refl w4.heap.size w4) (Nat.le_refl _) (.cells #[.int .i64 0] 29)) (by have : W3.drew.heap.size = W3.heap.size := rfl; omega) (by have : W3.drew.heap.size = W3.heap.size := rfl; omega) (by have : W3.drew.heap.size = W3.heap.size := rfl; omega)
      refine anyL_one (i := 18) (atS (atS (atS (atS (atS (atS (atS (atS (atS (atS (atS (atS (atS (atS (atS (atS (atS (atS at0)))))))))))))))))) (by kernel_rfl) rfl (fun K hK => ?_)
      go_simp
      refine hK _ _ (.inr HS5) ?_
      try simp only [Act.put, List.setIfInBounds_toArray, List.set_cons_zero, List.set_cons_succ]
      refine anyL_one (i := 19) (atS (atS (atS (atS (atS (atS (atS (atS (atS (atS (atS (atS (atS (atS (atS (atS (atS (atS (atS at0))))))))))))))))))) (by kernel_rfl) rfl (fun K hK => ?_)
      go_simp
      refine hK _ _ (.inr HS5) ?_
      try simp only [Act.put, List.setIfInBounds_toArray, List.set_cons_zero, List.set_cons_succ]
      clear HS4 HS5
      refine anyL_one (i := 20) (atS (atS (atS (atS (atS (atS (atS (atS (atS (atS (atS (atS (atS (atS (atS (atS (atS (atS (atS (atS at0)))))))))))))))))))) (by kernel_rfl) rfl (fun K hK => ?_)
      go_simp
      refine hK _ _ (.inl rfl) (anyL_done (by kernel_rfl) (NoPanic.normal ?_))
      try simp only [Act.put, List.setIfInBounds_toArray, List.set_cons_zero, List.set_cons_succ]
      go_wp2
      go_meet
      case rel =>
        have hB := B4.out.alloc B4.out.size (.cells #[.int .i64 e0] 29)
        exact ⟨w4.heap.size, rfl, rfl, Blk.made _ _ _, K0.out.below hB K0.out.lt, K1.out.below hB K1.out.lt, K2.out.below hB K2.out.lt, B3.out.trans (hB.mono B3.out.size), Nat.le_trans B3.out.size z4⟩
    · have HS1 := HS0.below (Below.alloc (Below.refl W3.drew.heap.size W3.drew) (Nat.le_refl _) (.cells #[.int .i64 0] 29)) hlt hl1 hl2
      go_simp
      refine hK _ _ (.inr HS1) ?_
      try simp only [Act.put, List.setIfInBounds_toArray, List.set_cons_zero, List.set_cons_succ]
      refine anyL_one (i := 14) (atS (atS (atS (atS (atS (atS (atS (atS (atS (atS (atS (atS (atS (atS at0)))))))))))))) (by kernel_rfl) rfl (fun K hK => ?_)
      go_simp
      with_reducible refine (HTM.out _).mono ?_
      rintro e w4 ⟨rfl, hb4⟩
      have HS4 := HS1.below hb4 (by show S + 1 + 1 < (W3.alloc _).heap.size; rw [World.size_alloc]; omega) (by show bA < (W3.alloc _).heap.size; rw [World.size_alloc]; omega) (by show bB < (W3.alloc _).heap.size; rw [World.size_alloc]; omega)
      have hE4 : Blk w4 W3.heap.size #[.int .i64 0] 29 := (Blk.made W3 #[.int .i64 0] 29).drew.below hb4 (by show W3.heap.size < (W3.alloc _).heap.size; rw [World.size_alloc]; omega)
      have kE := hE4.cell 0 (v := .int .i64 0) rfl
      have fE := hE4.fz 0
      have HKE := hidP (hE4.set 0 (.int .i64 e0))
      have B4 := hidP (((((Below.refl W3.heap.size W3).drew).alloc (Nat.le_refl _) (.cells #[.int .i64 0] 29)).trans (hb4.mono (by show W3.heap.size ≤ (W3.alloc _).heap.size; rw [World.size_alloc]; omega))).setCell (p := ⟨W3.heap.size, 0, none⟩) (Nat.le_refl _) (.int .i64 e0))
      clear hb4 HS0 HS1 hE4
      refine hK _ _ (.inr HS4) ?_
      try simp only [Act.put, List.setIfInBounds_toArray, List.set_cons_zero, List.set_cons_succ]
      refine anyL_take (i := 15) (v := ?v15_18) (atS (atS (atS (atS (atS (atS (atS (atS (atS (atS (atS (atS (atS (atS (atS at0))))))))))))))) (by kernel_rfl) (by kernel_rfl) (by kernel_rfl) (by kernel_rfl) (fun _ _ _ h => h) rfl ?y15_18 HS4 ?r15_18
      case y15_18 => intro wx hx; obtain ⟨h0, h1, h2, h3, h4, h5⟩ := hx; go_simp; try (with_reducible rfl)
      simp only [Act.put, List.setIfInBounds_toArray, List.set_cons_zero, List.set_cons_succ]
      refine anyL_take (i := 16) (v := ?v16_19) (atS (atS (atS (atS (atS (atS (atS (atS (atS (atS (atS (atS (atS (atS (atS (atS at0)))))))))))))))) (by kernel_rfl) (by kernel_rfl) (by kernel_rfl) (by kernel_rfl) (fun _ _ _ h => h) rfl ?y16_19 HS4 ?r16_19
      case y16_19 => intro wx hx; obtain ⟨h0, h1, h2, h3, h4, h5⟩ := hx; go_simp; try (with_reducible rfl)
      simp only [Act.put, List.setIfInBounds_toArray, List.set_cons_zero, List.set_cons_succ]
      refine anyL_take (i := 17) (v := ?v17_20) (atS (atS (atS (atS (atS (atS (atS (atS (atS (atS (atS (atS (atS (atS (atS (atS (atS at0))))))))))))))))) (by kernel_rfl) (by kernel_rfl) (by kernel_rfl) (by kernel_rfl) (fun _ _ _ h => h) rfl ?y17_20 HS4 ?r17_20
      case y17_20 => intro wx hx; obtain ⟨h0, h1, h2, h3, h4, h5⟩ := hx; go_simp; try (with_reducible rfl)
      simp only [Act.put, List.setIfInBounds_toArray, List.set_cons_zero, List.set_cons_succ]
      refine anyL_one (i := 19) (atS (atS (atS (atS (atS (atS (atS (atS (atS (atS (atS (atS (atS (atS (atS (atS (atS (atS (atS at0))))))))))))))))))) (by kernel_rfl) rfl (fun K hK => ?_)
      go_simp
      refine hK _ _ (.inr HS4) ?_
      try simp only [Act.put, List.setIfInBounds_toArray, List.set_cons_zero, List.set_cons_succ]
      clear HS4
      refine anyL_one (i := 20) (atS (atS (atS (atS (atS (atS (atS (atS (atS (atS (atS (atS (atS (atS (atS (atS (atS (atS (atS (atS at0)))))))))))))))))))) (by kernel_rfl) rfl (fun K hK => ?_)
      go_simp
      refine hK _ _ (.inl rfl) (anyL_done (by kernel_rfl) (NoPanic.normal ?_))
      try simp only [Act.put, List.setIfInBounds_toArray, List.set_cons_zero, List.set_cons_succ]
      clear kE fE
      go_wp2
      go_meet
      case rel =>
        have hB := B4.out
        exact ⟨W3.heap.size, rfl, rfl, HKE.out, K0.out.below hB K0.out.lt, K1.out.below hB K1.out.lt, K2.out.below hB K2.out.lt, B3.out.trans (hB.mono B3.out.size), B3.out.size⟩
  case rest =>
    obtain ⟨E, rfl, rfl, hG⟩ := hcut
    obtain ⟨w5, hw5⟩ : ∃ w5, w5 = wc := ⟨_, rfl⟩
    subst hw5
    clear HS0 K0 K1 K2 B3 s3
    have cE := hG.out.err.cell 0 (v := .int .i64 e0) rfl
    rcases HC0.out with ⟨he, hF, hO⟩ | ⟨he, hF, hO⟩
    · subst he
      subst hF
      have HO := hidP hO
      clear hO HC0 HTM
      have hA := Below.alloc (Below.refl w5.heap.size w5) (Nat.le_refl _) (.cells #[.slice none 0 0] 28)
      have c0 := (hG.out.bxA.below hA hG.out.bxA.lt).cell 0 (v := .int .i64 za) rfl
      have c1 := (hG.out.bxA.below hA hG.out.bxA.lt).cell 1 (v := .slice (some ⟨bA, oA, none⟩) na capa) rfl
      have d0 := (hG.out.bxB.below hA hG.out.bxB.lt).cell 0 (v := .int .i64 zb) rfl
      have d1 := (hG.out.bxB.below hA hG.out.bxB.lt).cell 1 (v := .slice (some ⟨bB, oB, none⟩) nb capb) rfl
      have t0 := (hG.out.bxT.below hA hG.out.bxT.lt).cell 0 (v := .int .i64 (p : Int)) rfl
      have t1 := (hG.out.bxT.below hA hG.out.bxT.lt).cell 1 (v := .int .i64 (q : Int)) rfl
      have t2 := (hG.out.bxT.below hA hG.out.bxT.lt).cell 2 (v := .int .i64 f) rfl
      rw [← HSW.out] at c0 c1 d0 d1 t0 t1 t2
      have hTel : TelAt w (w5.alloc (.cells #[.slice none 0 0] 28)) E w5.heap.size [] := ⟨hG.out.err.below hA hG.out.err.lt, ⟨_, Blk.made _ _ _, OwnH.nil _ _⟩, hG.out.below.trans (hA.mono hG.out.below.size), hG.out.sE, hG.out.below.size⟩
      have HCL := hidP (HTG.out _ _ _ hTel)
      have HXL := hidP hXL
      clear hA hTel HTG hXL
      rcases bool_cases' (ovH XT) with hov | hov
      · have h4 := telE_ov hov
        have hXO : XO = true := HO.out.trans hov
        subst hXO
        clear HO hov
        go_wp2_with (first
          | (go_at_call 50; (with_reducible refine HCL.out.mono ?_); rintro e w6 ⟨rfl, hT6⟩; have T6 := hidP hT6; have cE6 := hT6.err.cell 0 (v := .int .i64 (telE XT)) rfl; rw [h4] at cE6; clear hT6))
        go_quiet (fail)
        go_wp2
        go_returns
        rw [HR1.out, HR2.out, HR3.out]
        exact ⟨_, rfl, OwnH.nil _ _, T6.out.below.trans (T6.out.below.size |> fun h => (belowDNF w6 nq).mono h)⟩
      · have h4 := telE_no hov
        have HH := hidP (telH_no hov)
        have hXO : XO = false := HO.out.trans hov
        subst hXO
        clear HO hov
        go_wp2_with (first
          | (go_at_call 50; (with_reducible refine HCL.out.mono ?_); rintro e w6 ⟨rfl, hT6⟩; have T6 := hidP hT6; have cE6 := hT6.err.cell 0 (v := .int .i64 (telE XT)) rfl; rw [h4] at cE6; obtain ⟨v6, hv6, ho6⟩ := hT6.hop; rw [HH.out] at ho6; have HO6 := hidP ho6; have cH6 := hv6.cell 0 (v := v6) rfl; clear hT6 hv6 ho6))
        go_quiet (fail)
        go_wp2
        go_returns
        rw [HR1.out, HR2.out, HR3.out]
        exact ⟨_, rfl, HO6.out.later (belowDNF w6 nq), T6.out.below.trans ((belowDNF w6 nq).mono T6.out.below.size)⟩
    · subst he
      subst hF
      subst hO
      clear HC0 HTM HTG
      go_wp2
      go_quiet (fail)
      go_wp2
      go_returns
      rw [HR1.out, HR2.out, HR3.out]
      exact ⟨_, rfl, OwnH.nil _ _, hG.out.below.trans ((belowDNF _ _).mono hG.out.below.size)⟩
end Go.Proofs.Ythcfkiinjcbajaa.Wt
