/- The reference: a triple's Final and hops (Expanded), at every argument. -/
import Derived.Test.YthcfkiinjcbajaaHo
namespace Go.Proofs.Ythcfkiinjcbajaa.Wt
open Go.ChangeShapes Go.WideShapes Go.ChangeAt Go.RowKit
open Go.Proofs.Ythcfkiinjcbajaa.Pl
set_option linter.unusedVariables false
set_option linter.unusedSimpArgs false
set_option maxRecDepth 100000 in
set_option maxHeartbeats 6400000 in
theorem expanded_bad4 (za zb F : Int) (aa ab : Option Addr) (capa capb : Nat) (la lb : List St) (A B : Nat) (w : World) (ha : Mach w (.agg #[.int .i64 za, .slice aa la.length capa]) (za, la)) (hoka : okM (za, la)) (hb : Mach w (.agg #[.int .i64 zb, .slice ab lb.length capb]) (zb, lb)) (hokb : okM (zb, lb)) (fa : faultM (za, la) = 0) (fb : faultM (zb, lb) = 0) (hA : A < la.length) (hB : B < lb.length) (hF : inB F 0 2 = true) (hj : timesR (el la A).1 (el lb B).1 = (0, 4)) :
    Calls Try.prog 11 #[.agg #[.int .i64 za, .slice aa la.length capa], .agg #[.int .i64 zb, .slice ab lb.length capb], .agg #[.int .i64 (A : Int), .int .i64 (B : Int), .int .i64 F]] w fun e w' => e = .returned (.tuple #[.int .i64 0, .slice none 0 0, .int .i64 4]) ∧ Below w.heap.size w w' := by
  have HMA := hidP ha
  have HMB := hidP hb
  have HKA := hidP hoka
  have HKB := hidP hokb
  have HFA := hidP fa
  have HFB := hidP fb
  have h60a := (right_size fa).1
  have h60b := (right_size fb).1
  have HL1 : Hid ((el la A).2.length ≤ 400 ∧ ∀ x ∈ (el la A).2, 0 ≤ x.2.2.1 ∧ x.2.2.1 ≤ 1000000000) := by
    refine ⟨?_, fun x hx => ?_⟩
    · have h1 := arcN_take hA
      have h2 := arcN_takeR la (A + 1)
      have h3 := (right_size fa).2
      omega
    · have h1 := List.all_eq_true.1 (right_st fa hA).2 x hx
      simp only [arcB, inB, Bool.and_eq_true, decide_eq_true_eq] at h1
      omega
  have HL2 : Hid ((el lb B).2.length ≤ 400 ∧ ∀ x ∈ (el lb B).2, 0 ≤ x.2.2.1 ∧ x.2.2.1 ≤ 1000000000) := by
    refine ⟨?_, fun x hx => ?_⟩
    · have h1 := arcN_take hB
      have h2 := arcN_takeR lb (B + 1)
      have h3 := (right_size fb).2
      omega
    · have h1 := List.all_eq_true.1 (right_st fb hB).2 x hx
      simp only [arcB, inB, Bool.and_eq_true, decide_eq_true_eq] at h1
      omega
  have IA : Hid (inB (A : Int) 0 ((la.length : Int) - 1) = true) := by show _ = _; simp [inB]; omega
  have IB : Hid (inB (B : Int) 0 ((lb.length : Int) - 1) = true) := by show _ = _; simp [inB]; omega
  have IF : Hid (inB F 0 2 = true) := hF
  obtain ⟨vsa, hvsa, hSa⟩ := ha
  simp only [Value.agg.injEq, Array.mk.injEq, List.cons.injEq, and_true, true_and] at hvsa
  subst hvsa
  obtain ⟨vsb, hvsb, hSb⟩ := hb
  simp only [Value.agg.injEq, Array.mk.injEq, List.cons.injEq, and_true, true_and] at hvsb
  subst hvsb
  obtain ⟨aa', capa', hva, hca⟩ := hSa.get
  obtain ⟨rfl, rfl⟩ : aa = aa' ∧ capa = capa' := by simpa using hva
  obtain ⟨ab', capb', hvb, hcb⟩ := hSb.get
  obtain ⟨rfl, rfl⟩ : ab = ab' ∧ capb = capb' := by simpa using hvb
  obtain ⟨ba, oa, va, rfl, hbla, ga0, ga1, gA⟩ := hca A hA
  obtain ⟨bb, ob, vb, rfl, hblb, gb0, gb1, gB⟩ := hcb B hB
  obtain ⟨a1, cap1, rfl, hc1⟩ := gA.get
  obtain ⟨a2, cap2, rfl, hc2⟩ := gB.get
  have HJ : Hid (∀ W, Calls Try.prog 32 #[.int .i64 (el la A).1, .int .i64 (el lb B).1] W fun e w' => e = .returned (.tuple #[.int .i64 0, .int .i64 4]) ∧ w' = W) := fun W => by
    have h9 := joined_any (el la A).1 (el lb B).1 W
    rw [hj] at h9
    exact h9
  have HC1 := hidP hc1
  have HC2 := hidP hc2
  have GA0 := hidP ga0
  have GB0 := hidP gb0
  have GA1 := hidP ga1
  have GB1 := hidP gb1
  clear hSa hSb hca hcb hva hvb gA gB hc1 hc2 ga0 gb0 ga1 gb1 hoka hokb fa fb hF hj
  generalize el la A = sA at *
  generalize el lb B = sB at *
  obtain ⟨fA, l⟩ := sA
  obtain ⟨fB, r⟩ := sB
  simp only at HL1 HL2 HJ HC1 HC2 GA0 GB0 GA1 GB1 ⊢
  have hL1 := HL1.out.1
  have hL2 := HL2.out.1
  generalize hn1 : la.length = na at *
  generalize hn2 : lb.length = nb at *
  clear hn1 hn2
  have A0 : (0 : Int) ≤ (A : Int) := Int.natCast_nonneg _
  have A1 : (A : Int) < (na : Int) := by omega
  have B0 : (0 : Int) ≤ (B : Int) := Int.natCast_nonneg _
  have B1 : (B : Int) < (nb : Int) := by omega
  have hnot : ∀ (x : Bool) (w : World), (Op.unary .not (.bool x)).run Try.prog w = .ok (.bool (!x)) w := fun _ _ => rfl
  go_enter Try.func11, Try.ntmps11
  go_wp2_with (first
    | (go_at_call 30; (with_reducible refine (fault_any _ (za, la) _ (HMA.out.later (B := w.heap.size) (by go_grown) (Nat.le_refl _)) HKA.out 0 HFA.out).mono ?_); rintro e w1 ⟨rfl, hb⟩; obtain ⟨s1, b1, b2, b3, hb1⟩ := boxedThree hb (by simp); have HB1 : Hid (Below w.heap.size w w1) := hb1; have KA := hidP b1; have KB := hidP b2; have KT := hidP b3; have p0 := b2.cell 0 (v := .int .i64 zb) rfl; have p1 := b2.cell 1 (v := .slice (some ⟨bb, ob, none⟩) nb capb) rfl; clear b1 b2 b3 hb1 hb)
    | (go_at_call 30; (with_reducible refine (fault_any _ (zb, lb) _ (HMB.out.later HB1.out (Nat.le_refl _)) HKB.out 0 HFB.out).mono ?_); rintro e w2 ⟨rfl, hb⟩; have HT2 : Hid (ExpAt w w2 #[.int .i64 za, .slice (some ⟨ba, oa, none⟩) na capa] #[.int .i64 zb, .slice (some ⟨bb, ob, none⟩) nb capb] #[.int .i64 (A : Int), .int .i64 (B : Int), .int .i64 F] (.slice none 0 0) []) := ⟨KA.out.below hb KA.out.lt, KB.out.below hb KB.out.lt, KT.out.below hb KT.out.lt, OwnH.nil _ _, HB1.out.trans (hb.mono HB1.out.size), Nat.le_trans s1 hb.size⟩; have t0 := HT2.out.bxA.cell 1 (v := .slice (some ⟨ba, oa, none⟩) na capa) rfl; have t1 := HT2.out.bxB.cell 1 (v := .slice (some ⟨bb, ob, none⟩) nb capb) rfl; have t2 := HT2.out.bxT.cell 0 (v := .int .i64 (A : Int)) rfl; have t3 := HT2.out.bxT.cell 1 (v := .int .i64 (B : Int)) rfl; have t4 := HT2.out.bxT.cell 2 (v := .int .i64 F) rfl; clear hb)
    | (go_at_call 31; (with_reducible refine (refIn _ _ _ _ _ IA.out).mono ?_); rintro e w' ⟨rfl, rfl⟩)
    | (go_at_call 31; (with_reducible refine (refIn _ _ _ _ _ IB.out).mono ?_); rintro e w' ⟨rfl, rfl⟩)
    | (go_at_call 31; (with_reducible refine (refIn _ _ _ _ _ IF.out).mono ?_); rintro e w' ⟨rfl, rfl⟩))
  have HT3 := hidP HT2.out.drew
  have HJ0 : HeldJ w.heap.size (w.heap.size + 1) (w.heap.size + 2) za zb (.slice (some ⟨ba, oa, none⟩) na capa) (.slice (some ⟨bb, ob, none⟩) nb capb) ba (oa + A * 2) bb (ob + B * 2) fA fB (A : Int) (B : Int) F w2.drew := ⟨HT3.out.bxA.cell 0 rfl, HT3.out.bxA.cell 1 rfl, HT3.out.bxB.cell 0 rfl, HT3.out.bxB.cell 1 rfl, (HT3.out.below.cell (p := ⟨ba, oa + A * 2, none⟩) hbla).trans GA0.out, (HT3.out.below.cell (p := ⟨bb, ob + B * 2, none⟩) hblb).trans GB0.out, HT3.out.bxT.cell 0 rfl, HT3.out.bxT.cell 1 rfl, HT3.out.bxT.cell 2 rfl⟩
  refine region_anyL (HeldJ w.heap.size (w.heap.size + 1) (w.heap.size + 2) za zb (.slice (some ⟨ba, oa, none⟩) na capa) (.slice (some ⟨bb, ob, none⟩) nb capb) ba (oa + A * 2) bb (ob + B * 2) fA fB (A : Int) (B : Int) F) 1000 (by kernel_rfl) ?_
  refine anyL_take (i := 0) (v := ?v0_1) at0 (by kernel_rfl) (by kernel_rfl) (by kernel_rfl) (by kernel_rfl) (fun _ _ _ h => h) rfl ?y0_1 HJ0 ?r0_1
  case y0_1 => intro wx hx; obtain ⟨h1, h2, h3, h4, h5, h6, h7, h8, h9⟩ := hx; go_simp; try (with_reducible rfl)
  simp only [Act.put, List.setIfInBounds_toArray, List.set_cons_zero, List.set_cons_succ]
  refine anyL_take (i := 1) (v := ?v1_2) (atS at0) (by kernel_rfl) (by kernel_rfl) (by kernel_rfl) (by kernel_rfl) (fun _ _ _ h => h) rfl ?y1_2 HJ0 ?r1_2
  case y1_2 => intro wx hx; obtain ⟨h1, h2, h3, h4, h5, h6, h7, h8, h9⟩ := hx; go_simp; try (with_reducible rfl)
  simp only [Act.put, List.setIfInBounds_toArray, List.set_cons_zero, List.set_cons_succ]
  refine anyL_take (i := 2) (v := ?v2_3) (atS (atS at0)) (by kernel_rfl) (by kernel_rfl) (by kernel_rfl) (by kernel_rfl) (fun _ _ _ h => h) rfl ?y2_3 HJ0 ?r2_3
  case y2_3 => intro wx hx; obtain ⟨h1, h2, h3, h4, h5, h6, h7, h8, h9⟩ := hx; go_simp; try (with_reducible rfl)
  simp only [Act.put, List.setIfInBounds_toArray, List.set_cons_zero, List.set_cons_succ]
  refine anyL_take (i := 3) (v := ?v3_4) (atS (atS (atS at0))) (by kernel_rfl) (by kernel_rfl) (by kernel_rfl) (by kernel_rfl) (fun _ _ _ h => h) rfl ?y3_4 HJ0 ?r3_4
  case y3_4 => intro wx hx; obtain ⟨h1, h2, h3, h4, h5, h6, h7, h8, h9⟩ := hx; go_simp; try (with_reducible rfl)
  simp only [Act.put, List.setIfInBounds_toArray, List.set_cons_zero, List.set_cons_succ]
  refine anyL_take (i := 4) (v := ?v4_5) (atS (atS (atS (atS at0)))) (by kernel_rfl) (by kernel_rfl) (by kernel_rfl) (by kernel_rfl) (fun _ _ _ h => h) rfl ?y4_5 HJ0 ?r4_5
  case y4_5 => intro wx hx; obtain ⟨h1, h2, h3, h4, h5, h6, h7, h8, h9⟩ := hx; go_simp; try (with_reducible rfl)
  simp only [Act.put, List.setIfInBounds_toArray, List.set_cons_zero, List.set_cons_succ]
  refine anyL_take (i := 5) (v := ?v5_6) (atS (atS (atS (atS (atS at0))))) (by kernel_rfl) (by kernel_rfl) (by kernel_rfl) (by kernel_rfl) (fun _ _ _ h => h) rfl ?y5_6 HJ0 ?r5_6
  case y5_6 => intro wx hx; obtain ⟨h1, h2, h3, h4, h5, h6, h7, h8, h9⟩ := hx; go_simp; try (with_reducible rfl)
  simp only [Act.put, List.setIfInBounds_toArray, List.set_cons_zero, List.set_cons_succ]
  refine anyL_take (i := 6) (v := ?v6_7) (atS (atS (atS (atS (atS (atS at0)))))) (by kernel_rfl) (by kernel_rfl) (by kernel_rfl) (by kernel_rfl) (fun _ _ _ h => h) rfl ?y6_7 HJ0 ?r6_7
  case y6_7 => intro wx hx; obtain ⟨h1, h2, h3, h4, h5, h6, h7, h8, h9⟩ := hx; go_simp; try (with_reducible rfl)
  simp only [Act.put, List.setIfInBounds_toArray, List.set_cons_zero, List.set_cons_succ]
  refine anyL_take (i := 7) (v := ?v7_8) (atS (atS (atS (atS (atS (atS (atS at0))))))) (by kernel_rfl) (by kernel_rfl) (by kernel_rfl) (by kernel_rfl) (fun _ _ _ h => h) rfl ?y7_8 HJ0 ?r7_8
  case y7_8 => intro wx hx; obtain ⟨h1, h2, h3, h4, h5, h6, h7, h8, h9⟩ := hx; go_simp; try (with_reducible rfl)
  simp only [Act.put, List.setIfInBounds_toArray, List.set_cons_zero, List.set_cons_succ]
  refine anyL_take (i := 8) (v := ?v8_9) (atS (atS (atS (atS (atS (atS (atS (atS at0)))))))) (by kernel_rfl) (by kernel_rfl) (by kernel_rfl) (by kernel_rfl) (fun _ _ _ h => h) rfl ?y8_9 HJ0 ?r8_9
  case y8_9 => intro wx hx; obtain ⟨h1, h2, h3, h4, h5, h6, h7, h8, h9⟩ := hx; go_simp; try (with_reducible rfl)
  simp only [Act.put, List.setIfInBounds_toArray, List.set_cons_zero, List.set_cons_succ]
  refine anyL_take (i := 9) (v := ?v9_10) (atS (atS (atS (atS (atS (atS (atS (atS (atS at0))))))))) (by kernel_rfl) (by kernel_rfl) (by kernel_rfl) (by kernel_rfl) (fun _ _ _ h => h) rfl ?y9_10 HJ0 ?r9_10
  case y9_10 => intro wx hx; obtain ⟨h1, h2, h3, h4, h5, h6, h7, h8, h9⟩ := hx; go_simp; try (with_reducible rfl)
  simp only [Act.put, List.setIfInBounds_toArray, List.set_cons_zero, List.set_cons_succ]
  refine anyL_take (i := 10) (v := ?v10_11) (atS (atS (atS (atS (atS (atS (atS (atS (atS (atS at0)))))))))) (by kernel_rfl) (by kernel_rfl) (by kernel_rfl) (by kernel_rfl) (fun _ _ _ h => h) rfl ?y10_11 HJ0 ?r10_11
  case y10_11 => intro wx hx; obtain ⟨h1, h2, h3, h4, h5, h6, h7, h8, h9⟩ := hx; go_simp; try (with_reducible rfl)
  simp only [Act.put, List.setIfInBounds_toArray, List.set_cons_zero, List.set_cons_succ]
  refine anyL_take (i := 11) (v := ?v11_12) (atS (atS (atS (atS (atS (atS (atS (atS (atS (atS (atS at0))))))))))) (by kernel_rfl) (by kernel_rfl) (by kernel_rfl) (by kernel_rfl) (fun _ _ _ h => h) rfl ?y11_12 HJ0 ?r11_12
  case y11_12 => intro wx hx; obtain ⟨h1, h2, h3, h4, h5, h6, h7, h8, h9⟩ := hx; go_simp; try (with_reducible rfl)
  simp only [Act.put, List.setIfInBounds_toArray, List.set_cons_zero, List.set_cons_succ]
  refine anyL_take (i := 12) (v := ?v12_13) (atS (atS (atS (atS (atS (atS (atS (atS (atS (atS (atS (atS at0)))))))))))) (by kernel_rfl) (by kernel_rfl) (by kernel_rfl) (by kernel_rfl) (fun _ _ _ h => h) rfl ?y12_13 HJ0 ?r12_13
  case y12_13 => intro wx hx; obtain ⟨h1, h2, h3, h4, h5, h6, h7, h8, h9⟩ := hx; go_simp; try (with_reducible rfl)
  simp only [Act.put, List.setIfInBounds_toArray, List.set_cons_zero, List.set_cons_succ]
  refine anyL_take (i := 13) (v := ?v13_14) (atS (atS (atS (atS (atS (atS (atS (atS (atS (atS (atS (atS (atS at0))))))))))))) (by kernel_rfl) (by kernel_rfl) (by kernel_rfl) (by kernel_rfl) (fun _ _ _ h => h) rfl ?y13_14 HJ0 ?r13_14
  case y13_14 => intro wx hx; obtain ⟨h1, h2, h3, h4, h5, h6, h7, h8, h9⟩ := hx; go_simp; try (with_reducible rfl)
  simp only [Act.put, List.setIfInBounds_toArray, List.set_cons_zero, List.set_cons_succ]
  refine anyL_one (i := 14) (atS (atS (atS (atS (atS (atS (atS (atS (atS (atS (atS (atS (atS (atS at0)))))))))))))) (by kernel_rfl) rfl (fun K hK => ?_)
  go_simp
  refine (HJ.out _).mono ?_
  rintro e w3 ⟨rfl, rfl⟩
  refine hK _ _ (.inr HJ0) ?_
  try simp only [Act.put, List.setIfInBounds_toArray, List.set_cons_zero, List.set_cons_succ]
  refine anyL_take (i := 15) (v := ?v15_15) (atS (atS (atS (atS (atS (atS (atS (atS (atS (atS (atS (atS (atS (atS (atS at0))))))))))))))) (by kernel_rfl) (by kernel_rfl) (by kernel_rfl) (by kernel_rfl) (fun _ _ _ h => h) rfl ?y15_15 HJ0 ?r15_15
  case y15_15 => intro wx hx; obtain ⟨h1, h2, h3, h4, h5, h6, h7, h8, h9⟩ := hx; go_simp; try (with_reducible rfl)
  simp only [Act.put, List.setIfInBounds_toArray, List.set_cons_zero, List.set_cons_succ]
  refine anyL_take (i := 16) (v := ?v16_16) (atS (atS (atS (atS (atS (atS (atS (atS (atS (atS (atS (atS (atS (atS (atS (atS at0)))))))))))))))) (by kernel_rfl) (by kernel_rfl) (by kernel_rfl) (by kernel_rfl) (fun _ _ _ h => h) rfl ?y16_16 HJ0 ?r16_16
  case y16_16 => intro wx hx; obtain ⟨h1, h2, h3, h4, h5, h6, h7, h8, h9⟩ := hx; go_simp; try (with_reducible rfl)
  simp only [Act.put, List.setIfInBounds_toArray, List.set_cons_zero, List.set_cons_succ]
  refine anyL_take (i := 17) (v := ?v17_17) (atS (atS (atS (atS (atS (atS (atS (atS (atS (atS (atS (atS (atS (atS (atS (atS (atS at0))))))))))))))))) (by kernel_rfl) (by kernel_rfl) (by kernel_rfl) (by kernel_rfl) (fun _ _ _ h => h) rfl ?y17_17 HJ0 ?r17_17
  case y17_17 => intro wx hx; obtain ⟨h1, h2, h3, h4, h5, h6, h7, h8, h9⟩ := hx; go_simp; try (with_reducible rfl)
  simp only [Act.put, List.setIfInBounds_toArray, List.set_cons_zero, List.set_cons_succ]
  refine anyL_one (i := 18) (atS (atS (atS (atS (atS (atS (atS (atS (atS (atS (atS (atS (atS (atS (atS (atS (atS (atS at0)))))))))))))))))) (by kernel_rfl) rfl (fun K hK => ?_)
  go_simp
  refine hK _ _ (.inr HJ0) ?_
  try simp only [Act.put, List.setIfInBounds_toArray, List.set_cons_zero, List.set_cons_succ]
  refine anyL_one (i := 19) (atS (atS (atS (atS (atS (atS (atS (atS (atS (atS (atS (atS (atS (atS (atS (atS (atS (atS (atS at0))))))))))))))))))) (by kernel_rfl) rfl (fun K hK => ?_)
  go_simp
  refine hK _ _ (.inr HJ0) (anyL_done (by kernel_rfl) (NoPanic.normal ?_))
  try simp only [Act.put, List.setIfInBounds_toArray, List.set_cons_zero, List.set_cons_succ]
  go_wp2
  go_returns
  exact ⟨rfl, HT3.out.below⟩
theorem expO_parts (a b : Mc) (t : Tr) : expO a b t = (((el a.2 t.1.toNat).1 != 1000000001 && (el b.2 t.2.1.toNat).1 != 1000000001 && decide (1000000000 < (el a.2 t.1.toNat).1 + (el b.2 t.2.1.toNat).1)) || ovH (expT a b t)) := rfl
theorem expandedR_own (va vb : Value) (a b : Mc) (t : Tr) (w : World) (ha : Mach w va a) (hoka : okM a) (hb : Mach w vb b) (hokb : okM b) :
    Calls Try.prog 11 #[va, vb, .agg #[.int .i64 t.1, .int .i64 t.2.1, .int .i64 t.2.2]] w fun e w' => ExpOwn (expF a b t) (expR a b t) (expE a b t) w e w' := by
  obtain ⟨za, la⟩ := a
  obtain ⟨zb, lb⟩ := b
  obtain ⟨t0, t1, t2⟩ := t
  have ha' := ha
  have hb' := hb
  obtain ⟨vsa, rfl, hSa⟩ := ha
  obtain ⟨aa, capa, rfl⟩ := hSa.sl
  obtain ⟨vsb, rfl, hSb⟩ := hb
  obtain ⟨ab, capb, rfl⟩ := hSb.sl
  simp only
  have bad : ∀ r : Int, ¬ r = 0 → expE (za, la) (zb, lb) (t0, t1, t2) = r → ∀ e w', (e = .returned (.tuple #[.int .i64 0, .slice none 0 0, .int .i64 r]) ∧ Below w.heap.size w w') → ExpOwn (expF (za, la) (zb, lb) (t0, t1, t2)) (expR (za, la) (zb, lb) (t0, t1, t2)) (expE (za, la) (zb, lb) (t0, t1, t2)) w e w' := by
    rintro r hr he e w' ⟨rfl, hbl⟩
    have hF : expF (za, la) (zb, lb) (t0, t1, t2) = 0 := by unfold expF; rw [he, if_neg hr]
    have hR : expR (za, la) (zb, lb) (t0, t1, t2) = [] := by unfold expR; rw [he, if_neg hr]
    rw [hF, hR, he]
    exact ⟨_, rfl, OwnH.nil _ _, hbl⟩
  by_cases fa : faultM (za, la) = 0
  case neg => exact (expanded_bad1 za t0 t1 t2 aa capa la w ha' hoka _ rfl fa _ zb).mono (bad _ fa (by unfold expE; rw [if_pos fa]))
  by_cases fb : faultM (zb, lb) = 0
  case neg => exact (expanded_bad2 za zb t0 t1 t2 aa ab capa capb la lb w ha' hoka hb' hokb fa _ rfl fb).mono (bad _ fb (by unfold expE; rw [if_neg (fun h => h fa), if_pos fb]))
  by_cases ht : trB (za, la) (zb, lb) (t0, t1, t2) = true
  case neg =>
    have ht' : trB (za, la) (zb, lb) (t0, t1, t2) = false := by simpa using ht
    exact (expanded_bad3 za zb t0 t1 t2 aa ab capa capb la lb w ha' hoka hb' hokb fa fb _ _ _ rfl rfl rfl ht').mono (bad 13 (by decide) (by unfold expE; rw [if_neg (fun h => h fa), if_neg (fun h => h fb), if_pos ht']))
  have ht2 := ht
  simp only [trB, Bool.and_eq_true] at ht2
  obtain ⟨⟨i0, i1⟩, i2⟩ := ht2
  have j0 := i0
  have j1 := i1
  simp only [inB, Bool.and_eq_true, decide_eq_true_eq] at j0 j1
  obtain ⟨A, rfl⟩ : ∃ A : Nat, t0 = (A : Int) := ⟨t0.toNat, by omega⟩
  obtain ⟨B, rfl⟩ : ∃ B : Nat, t1 = (B : Int) := ⟨t1.toNat, by omega⟩
  have hA : A < la.length := by omega
  have hB : B < lb.length := by omega
  have f1 := (right_st fa hA).1
  have f2 := (right_st fb hB).1
  have hE : expE (za, la) (zb, lb) ((A : Int), (B : Int), t2) = if expO (za, la) (zb, lb) ((A : Int), (B : Int), t2) = true then 4 else 0 := by
    unfold expE
    rw [if_neg (fun h => h fa), if_neg (fun h => h fb), if_neg (by rw [ht]; decide)]
  have hO := expO_parts (za, la) (zb, lb) ((A : Int), (B : Int), t2)
  simp only [Int.toNat_natCast] at hO
  have hT : expT (za, la) (zb, lb) ((A : Int), (B : Int), t2) = expL (el la A).2 (el lb B).2 ((A : Int), (B : Int), t2) := by unfold expT; simp only [Int.toNat_natCast]
  have hFi : finTr (za, la) (zb, lb) ((A : Int), (B : Int), t2) = bothI (el la A).1 (el lb B).1 := by unfold finTr; simp only [Int.toNat_natCast]
  have w1 : wtB (el la A).1 = true := by
    simp [finB, inB] at f1
    simp only [wtB, decide_eq_true_eq]
    omega
  have w2 : wtB (el lb B).1 = true := by
    simp [finB, inB] at f2
    simp only [wtB, decide_eq_true_eq]
    omega
  have hTR : timesR (el la A).1 (el lb B).1 = if (el la A).1 = 1000000001 ∨ (el lb B).1 = 1000000001 then (1000000001, 0) else if 1000000000 < (el la A).1 + (el lb B).1 then (0, 4) else ((el la A).1 + (el lb B).1, 0) := by unfold timesR; rw [w1, w2]; rfl
  by_cases hov : ((el la A).1 != 1000000001 && (el lb B).1 != 1000000001 && decide (1000000000 < (el la A).1 + (el lb B).1)) = true
  · have hov2 := hov
    simp only [Bool.and_eq_true, bne_iff_ne, ne_eq, decide_eq_true_eq] at hov2
    have hj : timesR (el la A).1 (el lb B).1 = (0, 4) := by rw [hTR, if_neg (by omega), if_pos hov2.2]
    exact (expanded_bad4 za zb t2 aa ab capa capb la lb A B w ha' hoka hb' hokb fa fb hA hB i2 hj).mono (bad 4 (by decide) (by rw [hE, if_pos (by rw [hO, hov]; rfl)]))
  · have hov3 : ((el la A).1 != 1000000001 && (el lb B).1 != 1000000001 && decide (1000000000 < (el la A).1 + (el lb B).1)) = false := by simpa using hov
    have hj : timesR (el la A).1 (el lb B).1 = (bothI (el la A).1 (el lb B).1, 0) := by
      rw [hTR]
      unfold bothI
      by_cases g : (el la A).1 = 1000000001 ∨ (el lb B).1 = 1000000001
      · rw [if_pos g, if_pos g]
      · rw [if_neg g, if_neg g, if_neg ?_]
        intro h9
        simp only [Bool.and_eq_false_imp, Bool.and_eq_true, bne_iff_ne, ne_eq, decide_eq_false_iff_not] at hov3
        exact hov3 ⟨fun k => g (.inl k), fun k => g (.inr k)⟩ h9
    rw [hov3, Bool.false_or, hT] at hO
    refine (expanded_ok za zb t2 aa ab capa capb la lb A B w ha' hoka hb' hokb fa fb hA hB i2 _ hj).mono ?_
    rintro e w' (⟨⟨vr, rfl, h1, h2⟩, h3⟩ | ⟨⟨vr, rfl, h1, h2⟩, h3⟩)
    · have hE0 : expE (za, la) (zb, lb) ((A : Int), (B : Int), t2) = 0 := by rw [hE, hO, h3]; rfl
      have hF : expF (za, la) (zb, lb) ((A : Int), (B : Int), t2) = bothI (el la A).1 (el lb B).1 := by unfold expF; rw [if_pos hE0, hFi]
      have hR : expR (za, la) (zb, lb) ((A : Int), (B : Int), t2) = expL (el la A).2 (el lb B).2 ((A : Int), (B : Int), t2) := by unfold expR; rw [if_pos hE0, hT]
      rw [hF, hR, hE0]
      exact ⟨_, rfl, h1, h2⟩
    · have hE4 : expE (za, la) (zb, lb) ((A : Int), (B : Int), t2) = 4 := by rw [hE, hO, h3]; rfl
      have hF : expF (za, la) (zb, lb) ((A : Int), (B : Int), t2) = 0 := by unfold expF; rw [hE4, if_neg (by decide)]
      have hR : expR (za, la) (zb, lb) ((A : Int), (B : Int), t2) = [] := by unfold expR; rw [hE4, if_neg (by decide)]
      rw [hF, hR, hE4]
      exact ⟨_, rfl, h1, h2⟩
theorem expandedR_any (va vb : Value) (a b : Mc) (t : Tr) (w : World) (ha : Mach w va a) (hoka : okM a) (hb : Mach w vb b) (hokb : okM b) :
    Calls Try.prog 11 #[va, vb, .agg #[.int .i64 t.1, .int .i64 t.2.1, .int .i64 t.2.2]] w fun e w' => ExpRes (expF a b t) (expR a b t) (expE a b t) w e w' :=
  (expandedR_own va vb a b t w ha hoka hb hokb).mono fun _ _ h => h.res
end Go.Proofs.Ythcfkiinjcbajaa.Wt
