/- The reference: a triple's Final and hops (Expanded), for right machines and a right triple. -/
import Derived.Test.YthcfkiinjcbajaaHm
import Derived.Test.YthcfkiinjcbajaaMcR
import Derived.Test.YthcfkiinjcbajaaJ16F
namespace Go.Proofs.Ythcfkiinjcbajaa.Wt
open Go.ChangeShapes Go.WideShapes Go.ChangeAt Go.RowKit
open Go.Proofs.Ythcfkiinjcbajaa.Pl
set_option linter.unusedVariables false
set_option linter.unusedSimpArgs false
/-- The boxes of both machines and of the triple, and the hops so far. -/
structure ExpAt (w wr : World) (ca cb ct : Array Value) (vo : Value) (hs : List Hp) : Prop where
  bxA : Blk wr w.heap.size ca 24
  bxB : Blk wr (w.heap.size + 1) cb 24
  bxT : Blk wr (w.heap.size + 2) ct 26
  own : OwnH wr (w.heap.size + 3) vo hs
  below : Below w.heap.size w wr
  sz : w.heap.size + 3 ≤ wr.heap.size
theorem ExpAt.later {w wr w' : World} {ca cb ct : Array Value} {vo : Value} {hs : List Hp} (h : ExpAt w wr ca cb ct vo hs) (hb : Below wr.heap.size wr w') : ExpAt w w' ca cb ct vo hs :=
  ⟨h.bxA.below hb h.bxA.lt, h.bxB.below hb h.bxB.lt, h.bxT.below hb h.bxT.lt, h.own.later hb, h.below.trans (hb.mono h.below.size), Nat.le_trans h.sz hb.size⟩
theorem ExpAt.push {w wr w' : World} {ca cb ct : Array Value} {vo vo' : Value} {hs hs' : List Hp} (h : ExpAt w wr ca cb ct vo hs) (ho : OwnH w' (w.heap.size + 3) vo' hs') (hb : Below (w.heap.size + 3) wr w') : ExpAt w w' ca cb ct vo' hs' :=
  ⟨h.bxA.below hb (by omega), h.bxB.below hb (by omega), h.bxT.below hb (by omega), ho, h.below.trans (hb.mono (by omega)), Nat.le_trans h.sz hb.size⟩
theorem ExpAt.drew {w wr : World} {ca cb ct : Array Value} {vo : Value} {hs : List Hp} (h : ExpAt w wr ca cb ct vo hs) : ExpAt w wr.drew ca cb ct vo hs := h.later (Below.refl wr.heap.size wr).drew
/-- Four cells of an arc. -/
def FourX (w : World) (b o : Nat) (a : Ar) : Prop := w.cell? ⟨b, o, none⟩ = some (.int .i64 a.1) ∧ w.cell? ⟨b, o + 1, none⟩ = some (.int .i64 a.2.1) ∧ w.cell? ⟨b, o + 2, none⟩ = some (.int .i64 a.2.2.1) ∧ w.cell? ⟨b, o + 3, none⟩ = some (.int .i64 a.2.2.2)
theorem FourX.below {w wr : World} {b o : Nat} {a : Ar} (h : FourX w b o a) (hl : b < w.heap.size) (hb : Below w.heap.size w wr) : FourX wr b o a :=
  ⟨(hb.cell (p := ⟨b, o, none⟩) hl).trans h.1, (hb.cell (p := ⟨b, o + 1, none⟩) hl).trans h.2.1, (hb.cell (p := ⟨b, o + 2, none⟩) hl).trans h.2.2.1, (hb.cell (p := ⟨b, o + 3, none⟩) hl).trans h.2.2.2⟩
/-- What is read for a hop: an arc of a, an arc of b, the triple. -/
def HeldE (b1 o1 : Nat) (x : Ar) (b2 o2 : Nat) (y : Ar) (T : Nat) (A B F : Int) (w : World) : Prop := (w.cell? ⟨b1, o1, none⟩ = some (.int .i64 x.1) ∧ w.cell? ⟨b1, o1 + 1, none⟩ = some (.int .i64 x.2.1) ∧ w.cell? ⟨b1, o1 + 2, none⟩ = some (.int .i64 x.2.2.1) ∧ w.cell? ⟨b1, o1 + 3, none⟩ = some (.int .i64 x.2.2.2)) ∧ (w.cell? ⟨b2, o2, none⟩ = some (.int .i64 y.1) ∧ w.cell? ⟨b2, o2 + 1, none⟩ = some (.int .i64 y.2.1) ∧ w.cell? ⟨b2, o2 + 2, none⟩ = some (.int .i64 y.2.2.1) ∧ w.cell? ⟨b2, o2 + 3, none⟩ = some (.int .i64 y.2.2.2)) ∧ w.cell? ⟨T, 0, none⟩ = some (.int .i64 A) ∧ w.cell? ⟨T, 1, none⟩ = some (.int .i64 B) ∧ w.cell? ⟨T, 2, none⟩ = some (.int .i64 F)
/-- One arc and the triple. -/
def HeldO (b1 o1 : Nat) (x : Ar) (T : Nat) (A B F : Int) (w : World) : Prop := (w.cell? ⟨b1, o1, none⟩ = some (.int .i64 x.1) ∧ w.cell? ⟨b1, o1 + 1, none⟩ = some (.int .i64 x.2.1) ∧ w.cell? ⟨b1, o1 + 2, none⟩ = some (.int .i64 x.2.2.1) ∧ w.cell? ⟨b1, o1 + 3, none⟩ = some (.int .i64 x.2.2.2)) ∧ w.cell? ⟨T, 0, none⟩ = some (.int .i64 A) ∧ w.cell? ⟨T, 1, none⟩ = some (.int .i64 B) ∧ w.cell? ⟨T, 2, none⟩ = some (.int .i64 F)
/-- Both states' Finals, and the triple. -/
def HeldJ (T1 T2 T : Nat) (za zb : Int) (va vb : Value) (ba oa bb ob : Nat) (fa fb A B F : Int) (w : World) : Prop := w.cell? ⟨T1, 0, none⟩ = some (.int .i64 za) ∧ w.cell? ⟨T1, 1, none⟩ = some va ∧ w.cell? ⟨T2, 0, none⟩ = some (.int .i64 zb) ∧ w.cell? ⟨T2, 1, none⟩ = some vb ∧ w.cell? ⟨ba, oa, none⟩ = some (.int .i64 fa) ∧ w.cell? ⟨bb, ob, none⟩ = some (.int .i64 fb) ∧ w.cell? ⟨T, 0, none⟩ = some (.int .i64 A) ∧ w.cell? ⟨T, 1, none⟩ = some (.int .i64 B) ∧ w.cell? ⟨T, 2, none⟩ = some (.int .i64 F)
set_option maxRecDepth 100000 in
set_option maxHeartbeats 6400000 in
theorem expanded_ok (za zb F : Int) (aa ab : Option Addr) (capa capb : Nat) (la lb : List St) (A B : Nat) (w : World) (ha : Mach w (.agg #[.int .i64 za, .slice aa la.length capa]) (za, la)) (hoka : okM (za, la)) (hb : Mach w (.agg #[.int .i64 zb, .slice ab lb.length capb]) (zb, lb)) (hokb : okM (zb, lb)) (fa : faultM (za, la) = 0) (fb : faultM (zb, lb) = 0) (hA : A < la.length) (hB : B < lb.length) (hF : inB F 0 2 = true) (fin : Int) (hj : timesR (el la A).1 (el lb B).1 = (fin, 0)) :
    Calls Try.prog 11 #[.agg #[.int .i64 za, .slice aa la.length capa], .agg #[.int .i64 zb, .slice ab lb.length capb], .agg #[.int .i64 (A : Int), .int .i64 (B : Int), .int .i64 F]] w fun e w' => (ExpOwn fin (expL (el la A).2 (el lb B).2 ((A : Int), (B : Int), F)) 0 w e w' ∧ ovH (expL (el la A).2 (el lb B).2 ((A : Int), (B : Int), F)) = false) ∨ (ExpOwn 0 [] 4 w e w' ∧ ovH (expL (el la A).2 (el lb B).2 ((A : Int), (B : Int), F)) = true) := by
  have HMA := hidP ha
  have HMB := hidP hb
  have HKA := hidP hoka
  have HKB := hidP hokb
  have HFA := hidP fa
  have HFB := hidP fb
  have h60a := (right_size fa).1
  have h60b := (right_size fb).1
  have HL1 : Hid ((el la A).2.length ≤ 400 ∧ ∀ x ∈ (el la A).2, 0 ≤ x.2.2.1 ∧ x.2.2.1 ≤ 1000000000) := by
    refine ⟨?_, fun x hx => ?_⟩
    · have h1 := arcN_take hA
      have h2 := arcN_takeR la (A + 1)
      have h3 := (right_size fa).2
      omega
    · have h1 := List.all_eq_true.1 (right_st fa hA).2 x hx
      simp only [arcB, inB, Bool.and_eq_true, decide_eq_true_eq] at h1
      omega
  have HL2 : Hid ((el lb B).2.length ≤ 400 ∧ ∀ x ∈ (el lb B).2, 0 ≤ x.2.2.1 ∧ x.2.2.1 ≤ 1000000000) := by
    refine ⟨?_, fun x hx => ?_⟩
    · have h1 := arcN_take hB
      have h2 := arcN_takeR lb (B + 1)
      have h3 := (right_size fb).2
      omega
    · have h1 := List.all_eq_true.1 (right_st fb hB).2 x hx
      simp only [arcB, inB, Bool.and_eq_true, decide_eq_true_eq] at h1
      omega
  have IA : Hid (inB (A : Int) 0 ((la.length : Int) - 1) = true) := by show _ = _; simp [inB]; omega
  have IB : Hid (inB (B : Int) 0 ((lb.length : Int) - 1) = true) := by show _ = _; simp [inB]; omega
  have IF : Hid (inB F 0 2 = true) := hF
  obtain ⟨vsa, hvsa, hSa⟩ := ha
  simp only [Value.agg.injEq, Array.mk.injEq, List.cons.injEq, and_true, true_and] at hvsa
  subst hvsa
  obtain ⟨vsb, hvsb, hSb⟩ := hb
  simp only [Value.agg.injEq, Array.mk.injEq, List.cons.injEq, and_true, true_and] at hvsb
  subst hvsb
  obtain ⟨aa', capa', hva, hca⟩ := hSa.get
  obtain ⟨rfl, rfl⟩ : aa = aa' ∧ capa = capa' := by simpa using hva
  obtain ⟨ab', capb', hvb, hcb⟩ := hSb.get
  obtain ⟨rfl, rfl⟩ : ab = ab' ∧ capb = capb' := by simpa using hvb
  obtain ⟨ba, oa, va, rfl, hbla, ga0, ga1, gA⟩ := hca A hA
  obtain ⟨bb, ob, vb, rfl, hblb, gb0, gb1, gB⟩ := hcb B hB
  obtain ⟨a1, cap1, rfl, hc1⟩ := gA.get
  obtain ⟨a2, cap2, rfl, hc2⟩ := gB.get
  have HJ : Hid (∀ W, Calls Try.prog 32 #[.int .i64 (el la A).1, .int .i64 (el lb B).1] W fun e w' => e = .returned (.tuple #[.int .i64 fin, .int .i64 0]) ∧ w' = W) := fun W => by
    have h9 := joined_any (el la A).1 (el lb B).1 W
    rw [hj] at h9
    exact h9
  have HC1 := hidP hc1
  have HC2 := hidP hc2
  have GA0 := hidP ga0
  have GB0 := hidP gb0
  have GA1 := hidP ga1
  have GB1 := hidP gb1
  clear hSa hSb hca hcb hva hvb gA gB hc1 hc2 ga0 gb0 ga1 gb1 hoka hokb fa fb hF hj
  generalize el la A = sA at *
  generalize el lb B = sB at *
  obtain ⟨fA, l⟩ := sA
  obtain ⟨fB, r⟩ := sB
  simp only at HL1 HL2 HJ HC1 HC2 GA0 GB0 GA1 GB1 ⊢
  have hL1 := HL1.out.1
  have hL2 := HL2.out.1
  have HSM : Hid (∀ h ∈ expL l r ((A : Int), (B : Int), F), 0 ≤ h.2.2.1 ∧ h.2.2.1 ≤ 2000000000) := expL_small HL1.out.2 HL2.out.2
  have HEX := hidP (expL_pre l r ((A : Int), (B : Int), F))
  have HPB : Hid (∀ i, i ≤ l.length → (preL l r (B : Int) F i).length ≤ 160400) := fun i hi => preL_bound hi hL1 hL2
  have HW1 : Hid (∀ x ∈ l, 0 ≤ x.2.2.1 ∧ x.2.2.1 ≤ 1000000000) := HL1.out.2
  have HW2 : Hid (∀ x ∈ r, 0 ≤ x.2.2.1 ∧ x.2.2.1 ≤ 1000000000) := HL2.out.2
  clear HL1 HL2
  generalize hn1 : la.length = na at *
  generalize hn2 : lb.length = nb at *
  clear hn1 hn2
  have A0 : (0 : Int) ≤ (A : Int) := Int.natCast_nonneg _
  have A1 : (A : Int) < (na : Int) := by omega
  have B0 : (0 : Int) ≤ (B : Int) := Int.natCast_nonneg _
  have B1 : (B : Int) < (nb : Int) := by omega
  have hnot : ∀ (x : Bool) (w : World), (Op.unary .not (.bool x)).run Try.prog w = .ok (.bool (!x)) w := fun _ _ => rfl
  go_enter Try.func11, Try.ntmps11
  go_wp2_with (first
    | (go_at_call 30; (with_reducible refine (fault_any _ (za, la) _ (HMA.out.later (B := w.heap.size) (by go_grown) (Nat.le_refl _)) HKA.out 0 HFA.out).mono ?_); rintro e w1 ⟨rfl, hb⟩; obtain ⟨s1, b1, b2, b3, hb1⟩ := boxedThree hb (by simp); have HB1 : Hid (Below w.heap.size w w1) := hb1; have KA := hidP b1; have KB := hidP b2; have KT := hidP b3; have p0 := b2.cell 0 (v := .int .i64 zb) rfl; have p1 := b2.cell 1 (v := .slice (some ⟨bb, ob, none⟩) nb capb) rfl; clear b1 b2 b3 hb1 hb)
    | (go_at_call 30; (with_reducible refine (fault_any _ (zb, lb) _ (HMB.out.later HB1.out (Nat.le_refl _)) HKB.out 0 HFB.out).mono ?_); rintro e w2 ⟨rfl, hb⟩; have HT2 : Hid (ExpAt w w2 #[.int .i64 za, .slice (some ⟨ba, oa, none⟩) na capa] #[.int .i64 zb, .slice (some ⟨bb, ob, none⟩) nb capb] #[.int .i64 (A : Int), .int .i64 (B : Int), .int .i64 F] (.slice none 0 0) []) := ⟨KA.out.below hb KA.out.lt, KB.out.below hb KB.out.lt, KT.out.below hb KT.out.lt, OwnH.nil _ _, HB1.out.trans (hb.mono HB1.out.size), Nat.le_trans s1 hb.size⟩; have t0 := HT2.out.bxA.cell 1 (v := .slice (some ⟨ba, oa, none⟩) na capa) rfl; have t1 := HT2.out.bxB.cell 1 (v := .slice (some ⟨bb, ob, none⟩) nb capb) rfl; have t2 := HT2.out.bxT.cell 0 (v := .int .i64 (A : Int)) rfl; have t3 := HT2.out.bxT.cell 1 (v := .int .i64 (B : Int)) rfl; have t4 := HT2.out.bxT.cell 2 (v := .int .i64 F) rfl; clear hb)
    | (go_at_call 31; (with_reducible refine (refIn _ _ _ _ _ IA.out).mono ?_); rintro e w' ⟨rfl, rfl⟩)
    | (go_at_call 31; (with_reducible refine (refIn _ _ _ _ _ IB.out).mono ?_); rintro e w' ⟨rfl, rfl⟩)
    | (go_at_call 31; (with_reducible refine (refIn _ _ _ _ _ IF.out).mono ?_); rintro e w' ⟨rfl, rfl⟩))
  have HT3 := hidP HT2.out.drew
  have HJ0 : HeldJ w.heap.size (w.heap.size + 1) (w.heap.size + 2) za zb (.slice (some ⟨ba, oa, none⟩) na capa) (.slice (some ⟨bb, ob, none⟩) nb capb) ba (oa + A * 2) bb (ob + B * 2) fA fB (A : Int) (B : Int) F w2.drew := ⟨HT3.out.bxA.cell 0 rfl, HT3.out.bxA.cell 1 rfl, HT3.out.bxB.cell 0 rfl, HT3.out.bxB.cell 1 rfl, (HT3.out.below.cell (p := ⟨ba, oa + A * 2, none⟩) hbla).trans GA0.out, (HT3.out.below.cell (p := ⟨bb, ob + B * 2, none⟩) hblb).trans GB0.out, HT3.out.bxT.cell 0 rfl, HT3.out.bxT.cell 1 rfl, HT3.out.bxT.cell 2 rfl⟩
  refine region_anyL (HeldJ w.heap.size (w.heap.size + 1) (w.heap.size + 2) za zb (.slice (some ⟨ba, oa, none⟩) na capa) (.slice (some ⟨bb, ob, none⟩) nb capb) ba (oa + A * 2) bb (ob + B * 2) fA fB (A : Int) (B : Int) F) 1000 (by kernel_rfl) ?_
  refine anyL_take (i := 0) (v := ?v0_1) at0 (by kernel_rfl) (by kernel_rfl) (by kernel_rfl) (by kernel_rfl) (fun _ _ _ h => h) rfl ?y0_1 HJ0 ?r0_1
  case y0_1 => intro wx hx; obtain ⟨h1, h2, h3, h4, h5, h6, h7, h8, h9⟩ := hx; go_simp; try (with_reducible rfl)
  simp only [Act.put, List.setIfInBounds_toArray, List.set_cons_zero, List.set_cons_succ]
  refine anyL_take (i := 1) (v := ?v1_2) (atS at0) (by kernel_rfl) (by kernel_rfl) (by kernel_rfl) (by kernel_rfl) (fun _ _ _ h => h) rfl ?y1_2 HJ0 ?r1_2
  case y1_2 => intro wx hx; obtain ⟨h1, h2, h3, h4, h5, h6, h7, h8, h9⟩ := hx; go_simp; try (with_reducible rfl)
  simp only [Act.put, List.setIfInBounds_toArray, List.set_cons_zero, List.set_cons_succ]
  refine anyL_take (i := 2) (v := ?v2_3) (atS (atS at0)) (by kernel_rfl) (by kernel_rfl) (by kernel_rfl) (by kernel_rfl) (fun _ _ _ h => h) rfl ?y2_3 HJ0 ?r2_3
  case y2_3 => intro wx hx; obtain ⟨h1, h2, h3, h4, h5, h6, h7, h8, h9⟩ := hx; go_simp; try (with_reducible rfl)
  simp only [Act.put, List.setIfInBounds_toArray, List.set_cons_zero, List.set_cons_succ]
  refine anyL_take (i := 3) (v := ?v3_4) (atS (atS (atS at0))) (by kernel_rfl) (by kernel_rfl) (by kernel_rfl) (by kernel_rfl) (fun _ _ _ h => h) rfl ?y3_4 HJ0 ?r3_4
  case y3_4 => intro wx hx; obtain ⟨h1, h2, h3, h4, h5, h6, h7, h8, h9⟩ := hx; go_simp; try (with_reducible rfl)
  simp only [Act.put, List.setIfInBounds_toArray, List.set_cons_zero, List.set_cons_succ]
  refine anyL_take (i := 4) (v := ?v4_5) (atS (atS (atS (atS at0)))) (by kernel_rfl) (by kernel_rfl) (by kernel_rfl) (by kernel_rfl) (fun _ _ _ h => h) rfl ?y4_5 HJ0 ?r4_5
  case y4_5 => intro wx hx; obtain ⟨h1, h2, h3, h4, h5, h6, h7, h8, h9⟩ := hx; go_simp; try (with_reducible rfl)
  simp only [Act.put, List.setIfInBounds_toArray, List.set_cons_zero, List.set_cons_succ]
  refine anyL_take (i := 5) (v := ?v5_6) (atS (atS (atS (atS (atS at0))))) (by kernel_rfl) (by kernel_rfl) (by kernel_rfl) (by kernel_rfl) (fun _ _ _ h => h) rfl ?y5_6 HJ0 ?r5_6
  case y5_6 => intro wx hx; obtain ⟨h1, h2, h3, h4, h5, h6, h7, h8, h9⟩ := hx; go_simp; try (with_reducible rfl)
  simp only [Act.put, List.setIfInBounds_toArray, List.set_cons_zero, List.set_cons_succ]
  refine anyL_take (i := 6) (v := ?v6_7) (atS (atS (atS (atS (atS (atS at0)))))) (by kernel_rfl) (by kernel_rfl) (by kernel_rfl) (by kernel_rfl) (fun _ _ _ h => h) rfl ?y6_7 HJ0 ?r6_7
  case y6_7 => intro wx hx; obtain ⟨h1, h2, h3, h4, h5, h6, h7, h8, h9⟩ := hx; go_simp; try (with_reducible rfl)
  simp only [Act.put, List.setIfInBounds_toArray, List.set_cons_zero, List.set_cons_succ]
  refine anyL_take (i := 7) (v := ?v7_8) (atS (atS (atS (atS (atS (atS (atS at0))))))) (by kernel_rfl) (by kernel_rfl) (by kernel_rfl) (by kernel_rfl) (fun _ _ _ h => h) rfl ?y7_8 HJ0 ?r7_8
  case y7_8 => intro wx hx; obtain ⟨h1, h2, h3, h4, h5, h6, h7, h8, h9⟩ := hx; go_simp; try (with_reducible rfl)
  simp only [Act.put, List.setIfInBounds_toArray, List.set_cons_zero, List.set_cons_succ]
  refine anyL_take (i := 8) (v := ?v8_9) (atS (atS (atS (atS (atS (atS (atS (atS at0)))))))) (by kernel_rfl) (by kernel_rfl) (by kernel_rfl) (by kernel_rfl) (fun _ _ _ h => h) rfl ?y8_9 HJ0 ?r8_9
  case y8_9 => intro wx hx; obtain ⟨h1, h2, h3, h4, h5, h6, h7, h8, h9⟩ := hx; go_simp; try (with_reducible rfl)
  simp only [Act.put, List.setIfInBounds_toArray, List.set_cons_zero, List.set_cons_succ]
  refine anyL_take (i := 9) (v := ?v9_10) (atS (atS (atS (atS (atS (atS (atS (atS (atS at0))))))))) (by kernel_rfl) (by kernel_rfl) (by kernel_rfl) (by kernel_rfl) (fun _ _ _ h => h) rfl ?y9_10 HJ0 ?r9_10
  case y9_10 => intro wx hx; obtain ⟨h1, h2, h3, h4, h5, h6, h7, h8, h9⟩ := hx; go_simp; try (with_reducible rfl)
  simp only [Act.put, List.setIfInBounds_toArray, List.set_cons_zero, List.set_cons_succ]
  refine anyL_take (i := 10) (v := ?v10_11) (atS (atS (atS (atS (atS (atS (atS (atS (atS (atS at0)))))))))) (by kernel_rfl) (by kernel_rfl) (by kernel_rfl) (by kernel_rfl) (fun _ _ _ h => h) rfl ?y10_11 HJ0 ?r10_11
  case y10_11 => intro wx hx; obtain ⟨h1, h2, h3, h4, h5, h6, h7, h8, h9⟩ := hx; go_simp; try (with_reducible rfl)
  simp only [Act.put, List.setIfInBounds_toArray, List.set_cons_zero, List.set_cons_succ]
  refine anyL_take (i := 11) (v := ?v11_12) (atS (atS (atS (atS (atS (atS (atS (atS (atS (atS (atS at0))))))))))) (by kernel_rfl) (by kernel_rfl) (by kernel_rfl) (by kernel_rfl) (fun _ _ _ h => h) rfl ?y11_12 HJ0 ?r11_12
  case y11_12 => intro wx hx; obtain ⟨h1, h2, h3, h4, h5, h6, h7, h8, h9⟩ := hx; go_simp; try (with_reducible rfl)
  simp only [Act.put, List.setIfInBounds_toArray, List.set_cons_zero, List.set_cons_succ]
  refine anyL_take (i := 12) (v := ?v12_13) (atS (atS (atS (atS (atS (atS (atS (atS (atS (atS (atS (atS at0)))))))))))) (by kernel_rfl) (by kernel_rfl) (by kernel_rfl) (by kernel_rfl) (fun _ _ _ h => h) rfl ?y12_13 HJ0 ?r12_13
  case y12_13 => intro wx hx; obtain ⟨h1, h2, h3, h4, h5, h6, h7, h8, h9⟩ := hx; go_simp; try (with_reducible rfl)
  simp only [Act.put, List.setIfInBounds_toArray, List.set_cons_zero, List.set_cons_succ]
  refine anyL_take (i := 13) (v := ?v13_14) (atS (atS (atS (atS (atS (atS (atS (atS (atS (atS (atS (atS (atS at0))))))))))))) (by kernel_rfl) (by kernel_rfl) (by kernel_rfl) (by kernel_rfl) (fun _ _ _ h => h) rfl ?y13_14 HJ0 ?r13_14
  case y13_14 => intro wx hx; obtain ⟨h1, h2, h3, h4, h5, h6, h7, h8, h9⟩ := hx; go_simp; try (with_reducible rfl)
  simp only [Act.put, List.setIfInBounds_toArray, List.set_cons_zero, List.set_cons_succ]
  refine anyL_one (i := 14) (atS (atS (atS (atS (atS (atS (atS (atS (atS (atS (atS (atS (atS (atS at0)))))))))))))) (by kernel_rfl) rfl (fun K hK => ?_)
  go_simp
  refine (HJ.out _).mono ?_
  rintro e w3 ⟨rfl, rfl⟩
  refine hK _ _ (.inr HJ0) ?_
  try simp only [Act.put, List.setIfInBounds_toArray, List.set_cons_zero, List.set_cons_succ]
  refine anyL_take (i := 15) (v := ?v15_15) (atS (atS (atS (atS (atS (atS (atS (atS (atS (atS (atS (atS (atS (atS (atS at0))))))))))))))) (by kernel_rfl) (by kernel_rfl) (by kernel_rfl) (by kernel_rfl) (fun _ _ _ h => h) rfl ?y15_15 HJ0 ?r15_15
  case y15_15 => intro wx hx; obtain ⟨h1, h2, h3, h4, h5, h6, h7, h8, h9⟩ := hx; go_simp; try (with_reducible rfl)
  simp only [Act.put, List.setIfInBounds_toArray, List.set_cons_zero, List.set_cons_succ]
  refine anyL_take (i := 16) (v := ?v16_16) (atS (atS (atS (atS (atS (atS (atS (atS (atS (atS (atS (atS (atS (atS (atS (atS at0)))))))))))))))) (by kernel_rfl) (by kernel_rfl) (by kernel_rfl) (by kernel_rfl) (fun _ _ _ h => h) rfl ?y16_16 HJ0 ?r16_16
  case y16_16 => intro wx hx; obtain ⟨h1, h2, h3, h4, h5, h6, h7, h8, h9⟩ := hx; go_simp; try (with_reducible rfl)
  simp only [Act.put, List.setIfInBounds_toArray, List.set_cons_zero, List.set_cons_succ]
  refine anyL_take (i := 17) (v := ?v17_17) (atS (atS (atS (atS (atS (atS (atS (atS (atS (atS (atS (atS (atS (atS (atS (atS (atS at0))))))))))))))))) (by kernel_rfl) (by kernel_rfl) (by kernel_rfl) (by kernel_rfl) (fun _ _ _ h => h) rfl ?y17_17 HJ0 ?r17_17
  case y17_17 => intro wx hx; obtain ⟨h1, h2, h3, h4, h5, h6, h7, h8, h9⟩ := hx; go_simp; try (with_reducible rfl)
  simp only [Act.put, List.setIfInBounds_toArray, List.set_cons_zero, List.set_cons_succ]
  refine anyL_one (i := 18) (atS (atS (atS (atS (atS (atS (atS (atS (atS (atS (atS (atS (atS (atS (atS (atS (atS (atS at0)))))))))))))))))) (by kernel_rfl) rfl (fun K hK => ?_)
  go_simp
  refine hK _ _ (.inr HJ0) ?_
  try simp only [Act.put, List.setIfInBounds_toArray, List.set_cons_zero, List.set_cons_succ]
  refine anyL_one (i := 19) (atS (atS (atS (atS (atS (atS (atS (atS (atS (atS (atS (atS (atS (atS (atS (atS (atS (atS (atS at0))))))))))))))))))) (by kernel_rfl) rfl (fun K hK => ?_)
  go_simp
  refine hK _ _ (.inr HJ0) (anyL_done (by kernel_rfl) (NoPanic.normal ?_))
  try simp only [Act.put, List.setIfInBounds_toArray, List.set_cons_zero, List.set_cons_succ]
  generalize hW3 : w2.drew = w3 at *
  clear hW3 HJ0 HJ t0 t1 t2 t3 t4 p0 p1 KA KB KT HB1 HMA HMB HKA HKB HFA HFB IA IB IF HT2
  have t0 := HT3.out.bxA.cell 1 (v := .slice (some ⟨ba, oa, none⟩) na capa) rfl
  have t1 := HT3.out.bxB.cell 1 (v := .slice (some ⟨bb, ob, none⟩) nb capb) rfl
  have t2 := HT3.out.bxT.cell 0 (v := .int .i64 (A : Int)) rfl
  have t3 := HT3.out.bxT.cell 1 (v := .int .i64 (B : Int)) rfl
  have g1 := (HT3.out.below.cell (p := ⟨ba, oa + A * 2 + 1, none⟩) hbla).trans GA1.out
  have g2 := (HT3.out.below.cell (p := ⟨bb, ob + B * 2 + 1, none⟩) hblb).trans GB1.out
  go_wp2
  clear t0 t1 t2 t3 g1 g2 GA0 GB0 GA1 GB1
  go_loopw [13, 14] (fun s13 s14 wr => ∃ (i : Nat) (vo : Value), vo = s13 ∧ s14 = .int .i64 (i : Int) ∧ i ≤ l.length ∧ Hid (ExpAt w wr #[.int .i64 za, .slice (some ⟨ba, oa, none⟩) na capa] #[.int .i64 zb, .slice (some ⟨bb, ob, none⟩) nb capb] #[.int .i64 (A : Int), .int .i64 (B : Int), .int .i64 F] vo (preL l r (B : Int) F i))) (fun _ s14 _ => l.length - (intOf s14).toNat)
  case atStart => exact ⟨0, _, rfl, rfl, Nat.zero_le _, by rw [preL_zero]; exact HT3⟩
  case round =>
    clear HT3
    obtain ⟨i, vo, rfl, rfl, hi, hT⟩ := hrel
    by_cases hlt : i < l.length
    · obtain ⟨b1, o1, ha1, hb1l, x0, x1, x2, x3⟩ := HC1.out i hlt
      have HX : Hid (FourX w b1 (o1 + i * 4) (el l i)) := ⟨x0, x1, x2, x3⟩
      have hwx := HW1.out (el l i) (el_mem hlt)
      have HPS := hidP (preL_succ (l := l) (r := r) (b := (B : Int)) (f := F) (i := i) hlt)
      have HXM := hidP (expX_met r (B : Int) F (el l i))
      have hpl := HPB.out i hi
      have HML : Hid (∀ j, (metL (el l i) r F j).length ≤ r.length) := fun j => metL_len (el l i) r F j
      have HMS : Hid (∀ j, j < r.length → metL (el l i) r F (j + 1) = metL (el l i) r F j ++ (if metB (el l i) (el r j) F = true then [hopM (el l i) (el r j)] else [])) := fun j hj => metL_succ hj
      clear x0 x1 x2 x3
      generalize el l i = x at *
      generalize preL l r (B : Int) F i = pre at *
      have i0 : (0 : Int) ≤ (i : Int) := Int.natCast_nonneg _
      have i1 : (i : Int) < ((l.length : Nat) : Int) := by omega
      go_wp2
      go_loopw [13, 15] (fun s13 s15 wr => ∃ (j : Nat) (vo : Value), vo = s13 ∧ s15 = .int .i64 (j : Int) ∧ j ≤ r.length ∧ Hid (ExpAt w wr #[.int .i64 za, .slice (some ⟨ba, oa, none⟩) na capa] #[.int .i64 zb, .slice (some ⟨bb, ob, none⟩) nb capb] #[.int .i64 (A : Int), .int .i64 (B : Int), .int .i64 F] vo (pre ++ metL x r F j))) (fun _ s15 _ => r.length - (intOf s15).toNat)
      case atStart => exact ⟨0, _, rfl, rfl, Nat.zero_le _, by rw [metL_zero, List.append_nil]; exact hT⟩
      case round =>
        clear hT
        obtain ⟨j, vo, rfl, rfl, hj, hT⟩ := hrel
        obtain ⟨w4, hw4⟩ : ∃ w4, w4 = wr := ⟨_, rfl⟩
        subst hw4
        by_cases hjl : j < r.length
        · obtain ⟨b2, o2, ha2, hb2l, y0, y1, y2, y3⟩ := HC2.out j hjl
          have HY : Hid (FourX w b2 (o2 + j * 4) (el r j)) := ⟨y0, y1, y2, y3⟩
          have hwy := HW2.out (el r j) (el_mem hjl)
          have HMJ := hidP (HMS.out j hjl)
          have hml := HML.out j
          clear y0 y1 y2 y3
          generalize el r j = y at *
          subst ha1
          subst ha2
          have j0 : (0 : Int) ≤ (j : Int) := Int.natCast_nonneg _
          have j1 : (j : Int) < ((r.length : Nat) : Int) := by omega
          obtain ⟨mb, hmb⟩ : ∃ mb, metB x y F = mb := ⟨_, rfl⟩
          have HMT : Hid (∀ W, Calls Try.prog 33 #[.agg #[.int .i64 x.1, .int .i64 x.2.1, .int .i64 x.2.2.1, .int .i64 x.2.2.2], .agg #[.int .i64 y.1, .int .i64 y.2.1, .int .i64 y.2.2.1, .int .i64 y.2.2.2], .int .i64 F] W fun e w' => e = .returned (.bool mb) ∧ Below W.heap.size W w') := fun W => by have h9 := metR_any x y F W; rw [hmb] at h9; exact h9
          rw [hmb] at HMJ
          clear hmb
          have hsum : IntKind.i64.wrap (x.2.2.1 + y.2.2.1) = x.2.2.1 + y.2.2.1 := wrapI (by omega) (by omega)
          go_wp2
          have T4 := hidP hT.out.drew
          have HE0 : HeldE b1 (o1 + i * 4) x b2 (o2 + j * 4) y (w.heap.size + 2) (A : Int) (B : Int) F w4.drew := ⟨HX.out.below hb1l T4.out.below, HY.out.below hb2l T4.out.below, T4.out.bxT.cell 0 rfl, T4.out.bxT.cell 1 rfl, T4.out.bxT.cell 2 rfl⟩
          refine region_anyL (HeldE b1 (o1 + i * 4) x b2 (o2 + j * 4) y (w.heap.size + 2) (A : Int) (B : Int) F) 1000 (by kernel_rfl) ?_
          refine anyL_take (i := 0) (v := ?v0_18) at0 (by kernel_rfl) (by kernel_rfl) (by kernel_rfl) (by kernel_rfl) (fun _ _ _ h => h) rfl ?y0_18 HE0 ?r0_18
          case y0_18 => intro wx hx; obtain ⟨⟨x0, x1, x2, x3⟩, ⟨y0, y1, y2, y3⟩, t0, t1, t2⟩ := hx; go_simp; try (with_reducible rfl)
          simp only [Act.put, List.setIfInBounds_toArray, List.set_cons_zero, List.set_cons_succ]
          refine anyL_take (i := 1) (v := ?v1_19) (atS at0) (by kernel_rfl) (by kernel_rfl) (by kernel_rfl) (by kernel_rfl) (fun _ _ _ h => h) rfl ?y1_19 HE0 ?r1_19
          case y1_19 => intro wx hx; obtain ⟨⟨x0, x1, x2, x3⟩, ⟨y0, y1, y2, y3⟩, t0, t1, t2⟩ := hx; go_simp; try (with_reducible rfl)
          simp only [Act.put, List.setIfInBounds_toArray, List.set_cons_zero, List.set_cons_succ]
          refine anyL_take (i := 2) (v := ?v2_20) (atS (atS at0)) (by kernel_rfl) (by kernel_rfl) (by kernel_rfl) (by kernel_rfl) (fun _ _ _ h => h) rfl ?y2_20 HE0 ?r2_20
          case y2_20 => intro wx hx; obtain ⟨⟨x0, x1, x2, x3⟩, ⟨y0, y1, y2, y3⟩, t0, t1, t2⟩ := hx; go_simp; try (with_reducible rfl)
          simp only [Act.put, List.setIfInBounds_toArray, List.set_cons_zero, List.set_cons_succ]
          refine anyL_take (i := 3) (v := ?v3_21) (atS (atS (atS at0))) (by kernel_rfl) (by kernel_rfl) (by kernel_rfl) (by kernel_rfl) (fun _ _ _ h => h) rfl ?y3_21 HE0 ?r3_21
          case y3_21 => intro wx hx; obtain ⟨⟨x0, x1, x2, x3⟩, ⟨y0, y1, y2, y3⟩, t0, t1, t2⟩ := hx; go_simp; try (with_reducible rfl)
          simp only [Act.put, List.setIfInBounds_toArray, List.set_cons_zero, List.set_cons_succ]
          refine anyL_take (i := 4) (v := ?v4_22) (atS (atS (atS (atS at0)))) (by kernel_rfl) (by kernel_rfl) (by kernel_rfl) (by kernel_rfl) (fun _ _ _ h => h) rfl ?y4_22 HE0 ?r4_22
          case y4_22 => intro wx hx; obtain ⟨⟨x0, x1, x2, x3⟩, ⟨y0, y1, y2, y3⟩, t0, t1, t2⟩ := hx; go_simp; try (with_reducible rfl)
          simp only [Act.put, List.setIfInBounds_toArray, List.set_cons_zero, List.set_cons_succ]
          refine anyL_take (i := 5) (v := ?v5_23) (atS (atS (atS (atS (atS at0))))) (by kernel_rfl) (by kernel_rfl) (by kernel_rfl) (by kernel_rfl) (fun _ _ _ h => h) rfl ?y5_23 HE0 ?r5_23
          case y5_23 => intro wx hx; obtain ⟨⟨x0, x1, x2, x3⟩, ⟨y0, y1, y2, y3⟩, t0, t1, t2⟩ := hx; go_simp; try (with_reducible rfl)
          simp only [Act.put, List.setIfInBounds_toArray, List.set_cons_zero, List.set_cons_succ]
          refine anyL_take (i := 6) (v := ?v6_24) (atS (atS (atS (atS (atS (atS at0)))))) (by kernel_rfl) (by kernel_rfl) (by kernel_rfl) (by kernel_rfl) (fun _ _ _ h => h) rfl ?y6_24 HE0 ?r6_24
          case y6_24 => intro wx hx; obtain ⟨⟨x0, x1, x2, x3⟩, ⟨y0, y1, y2, y3⟩, t0, t1, t2⟩ := hx; go_simp; try (with_reducible rfl)
          simp only [Act.put, List.setIfInBounds_toArray, List.set_cons_zero, List.set_cons_succ]
          refine anyL_take (i := 7) (v := ?v7_25) (atS (atS (atS (atS (atS (atS (atS at0))))))) (by kernel_rfl) (by kernel_rfl) (by kernel_rfl) (by kernel_rfl) (fun _ _ _ h => h) rfl ?y7_25 HE0 ?r7_25
          case y7_25 => intro wx hx; obtain ⟨⟨x0, x1, x2, x3⟩, ⟨y0, y1, y2, y3⟩, t0, t1, t2⟩ := hx; go_simp; try (with_reducible rfl)
          simp only [Act.put, List.setIfInBounds_toArray, List.set_cons_zero, List.set_cons_succ]
          refine anyL_take (i := 8) (v := ?v8_26) (atS (atS (atS (atS (atS (atS (atS (atS at0)))))))) (by kernel_rfl) (by kernel_rfl) (by kernel_rfl) (by kernel_rfl) (fun _ _ _ h => h) rfl ?y8_26 HE0 ?r8_26
          case y8_26 => intro wx hx; obtain ⟨⟨x0, x1, x2, x3⟩, ⟨y0, y1, y2, y3⟩, t0, t1, t2⟩ := hx; go_simp; try (with_reducible rfl)
          simp only [Act.put, List.setIfInBounds_toArray, List.set_cons_zero, List.set_cons_succ]
          refine anyL_take (i := 9) (v := ?v9_27) (atS (atS (atS (atS (atS (atS (atS (atS (atS at0))))))))) (by kernel_rfl) (by kernel_rfl) (by kernel_rfl) (by kernel_rfl) (fun _ _ _ h => h) rfl ?y9_27 HE0 ?r9_27
          case y9_27 => intro wx hx; obtain ⟨⟨x0, x1, x2, x3⟩, ⟨y0, y1, y2, y3⟩, t0, t1, t2⟩ := hx; go_simp; try (with_reducible rfl)
          simp only [Act.put, List.setIfInBounds_toArray, List.set_cons_zero, List.set_cons_succ]
          refine anyL_one (i := 10) (atS (atS (atS (atS (atS (atS (atS (atS (atS (atS at0)))))))))) (by kernel_rfl) rfl (fun K hK => ?_)
          go_simp
          refine (HMT.out _).mono ?_
          rintro e w5 ⟨rfl, hb5⟩
          have T5 := hidP (T4.out.later hb5)
          have HE5 : HeldE b1 (o1 + i * 4) x b2 (o2 + j * 4) y (w.heap.size + 2) (A : Int) (B : Int) F w5 := ⟨HX.out.below hb1l T5.out.below, HY.out.below hb2l T5.out.below, T5.out.bxT.cell 0 rfl, T5.out.bxT.cell 1 rfl, T5.out.bxT.cell 2 rfl⟩
          refine hK _ _ (.inr HE5) (anyL_done (by kernel_rfl) (NoPanic.normal ?_))
          try simp only [Act.put, List.setIfInBounds_toArray, List.set_cons_zero, List.set_cons_succ]
          clear HE0 HE5 HMT hb5 T4 hT
          have hpm : (pre ++ metL x r F j).length ≤ 1000000 := by rw [List.length_append]; omega
          cases mb
          · have HMK : Hid (metL x r F (j + 1) = metL x r F j) := by have h9 := HMJ.out; show _ = _; rw [h9]; simp
            go_wp2
            go_roundw
            case rel => exact ⟨j + 1, _, rfl, by go_num, by omega, by rw [HMK.out]; exact T5⟩
            case measure => simp [intOf]; omega
          · have HMK : Hid (pre ++ metL x r F (j + 1) = pre ++ metL x r F j ++ [hopM x y]) := by have h9 := HMJ.out; show _ = _; rw [h9]; simp
            go_wp2
            have T6 := hidP T5.out.drew
            have HE1 : HeldE b1 (o1 + i * 4) x b2 (o2 + j * 4) y (w.heap.size + 2) (A : Int) (B : Int) F w5.drew := ⟨HX.out.below hb1l T6.out.below, HY.out.below hb2l T6.out.below, T6.out.bxT.cell 0 rfl, T6.out.bxT.cell 1 rfl, T6.out.bxT.cell 2 rfl⟩
            obtain ⟨v6, w6, r6, ho6, hb6⟩ := T6.out.own.push (by have := T6.out.sz; exact this) (hopM x y) (by omega)
            have T7 := hidP (T6.out.push ho6 hb6)
            have T6a := hidP (T6.out.later ((Below.refl w5.drew.heap.size w5.drew).alloc (Nat.le_refl _) (.cells (encH (hopM x y)).toArray 61)))
            have HE2 : HeldE b1 (o1 + i * 4) x b2 (o2 + j * 4) y (w.heap.size + 2) (A : Int) (B : Int) F (w5.drew.alloc (.cells #[.int .i64 x.1, .int .i64 y.2.1, .int .i64 (x.2.2.1 + y.2.2.1), .int .i64 x.2.2.2, .int .i64 y.2.2.2, .int .i64 0] 61)) := ⟨HX.out.below hb1l T6a.out.below, HY.out.below hb2l T6a.out.below, T6a.out.bxT.cell 0 rfl, T6a.out.bxT.cell 1 rfl, T6a.out.bxT.cell 2 rfl⟩
            have HE3 : HeldE b1 (o1 + i * 4) x b2 (o2 + j * 4) y (w.heap.size + 2) (A : Int) (B : Int) F w6 := ⟨HX.out.below hb1l T7.out.below, HY.out.below hb2l T7.out.below, T7.out.bxT.cell 0 rfl, T7.out.bxT.cell 1 rfl, T7.out.bxT.cell 2 rfl⟩
            simp only [encH, hopM, hopL, hopR] at r6
            have HR6 := hidP r6
            clear r6 ho6 hb6
            refine region_anyL (HeldE b1 (o1 + i * 4) x b2 (o2 + j * 4) y (w.heap.size + 2) (A : Int) (B : Int) F) 1000 (by kernel_rfl) ?_
            refine anyL_take (i := 0) (v := ?v0_28) at0 (by kernel_rfl) (by kernel_rfl) (by kernel_rfl) (by kernel_rfl) (fun _ _ _ h => h) rfl ?y0_28 HE1 ?r0_28
            case y0_28 => intro wx hx; obtain ⟨⟨x0, x1, x2, x3⟩, ⟨y0, y1, y2, y3⟩, t0, t1, t2⟩ := hx; go_simp; try (with_reducible rfl)
            simp only [Act.put, List.setIfInBounds_toArray, List.set_cons_zero, List.set_cons_succ]
            refine anyL_take (i := 1) (v := ?v1_29) (atS at0) (by kernel_rfl) (by kernel_rfl) (by kernel_rfl) (by kernel_rfl) (fun _ _ _ h => h) rfl ?y1_29 HE1 ?r1_29
            case y1_29 => intro wx hx; obtain ⟨⟨x0, x1, x2, x3⟩, ⟨y0, y1, y2, y3⟩, t0, t1, t2⟩ := hx; go_simp; try (with_reducible rfl)
            simp only [Act.put, List.setIfInBounds_toArray, List.set_cons_zero, List.set_cons_succ]
            refine anyL_take (i := 2) (v := ?v2_30) (atS (atS at0)) (by kernel_rfl) (by kernel_rfl) (by kernel_rfl) (by kernel_rfl) (fun _ _ _ h => h) rfl ?y2_30 HE1 ?r2_30
            case y2_30 => intro wx hx; obtain ⟨⟨x0, x1, x2, x3⟩, ⟨y0, y1, y2, y3⟩, t0, t1, t2⟩ := hx; go_simp; try (with_reducible rfl)
            simp only [Act.put, List.setIfInBounds_toArray, List.set_cons_zero, List.set_cons_succ]
            refine anyL_take (i := 3) (v := ?v3_31) (atS (atS (atS at0))) (by kernel_rfl) (by kernel_rfl) (by kernel_rfl) (by kernel_rfl) (fun _ _ _ h => h) rfl ?y3_31 HE1 ?r3_31
            case y3_31 => intro wx hx; obtain ⟨⟨x0, x1, x2, x3⟩, ⟨y0, y1, y2, y3⟩, t0, t1, t2⟩ := hx; go_simp; try (with_reducible rfl)
            simp only [Act.put, List.setIfInBounds_toArray, List.set_cons_zero, List.set_cons_succ]
            refine anyL_take (i := 4) (v := ?v4_32) (atS (atS (atS (atS at0)))) (by kernel_rfl) (by kernel_rfl) (by kernel_rfl) (by kernel_rfl) (fun _ _ _ h => h) rfl ?y4_32 HE1 ?r4_32
            case y4_32 => intro wx hx; obtain ⟨⟨x0, x1, x2, x3⟩, ⟨y0, y1, y2, y3⟩, t0, t1, t2⟩ := hx; go_simp; try (with_reducible rfl)
            simp only [Act.put, List.setIfInBounds_toArray, List.set_cons_zero, List.set_cons_succ]
            refine anyL_take (i := 5) (v := ?v5_33) (atS (atS (atS (atS (atS at0))))) (by kernel_rfl) (by kernel_rfl) (by kernel_rfl) (by kernel_rfl) (fun _ _ _ h => h) rfl ?y5_33 HE1 ?r5_33
            case y5_33 => intro wx hx; obtain ⟨⟨x0, x1, x2, x3⟩, ⟨y0, y1, y2, y3⟩, t0, t1, t2⟩ := hx; go_simp; try (with_reducible rfl)
            simp only [Act.put, List.setIfInBounds_toArray, List.set_cons_zero, List.set_cons_succ]
            refine anyL_take (i := 6) (v := ?v6_34) (atS (atS (atS (atS (atS (atS at0)))))) (by kernel_rfl) (by kernel_rfl) (by kernel_rfl) (by kernel_rfl) (fun _ _ _ h => h) rfl ?y6_34 HE1 ?r6_34
            case y6_34 => intro wx hx; obtain ⟨⟨x0, x1, x2, x3⟩, ⟨y0, y1, y2, y3⟩, t0, t1, t2⟩ := hx; go_simp; try (with_reducible rfl)
            simp only [Act.put, List.setIfInBounds_toArray, List.set_cons_zero, List.set_cons_succ]
            refine anyL_take (i := 7) (v := ?v7_35) (atS (atS (atS (atS (atS (atS (atS at0))))))) (by kernel_rfl) (by kernel_rfl) (by kernel_rfl) (by kernel_rfl) (fun _ _ _ h => h) rfl ?y7_35 HE1 ?r7_35
            case y7_35 => intro wx hx; obtain ⟨⟨x0, x1, x2, x3⟩, ⟨y0, y1, y2, y3⟩, t0, t1, t2⟩ := hx; go_simp; try (with_reducible rfl)
            simp only [Act.put, List.setIfInBounds_toArray, List.set_cons_zero, List.set_cons_succ]
            refine anyL_take (i := 8) (v := ?v8_36) (atS (atS (atS (atS (atS (atS (atS (atS at0)))))))) (by kernel_rfl) (by kernel_rfl) (by kernel_rfl) (by kernel_rfl) (fun _ _ _ h => h) rfl ?y8_36 HE1 ?r8_36
            case y8_36 => intro wx hx; obtain ⟨⟨x0, x1, x2, x3⟩, ⟨y0, y1, y2, y3⟩, t0, t1, t2⟩ := hx; go_simp; try (with_reducible rfl)
            simp only [Act.put, List.setIfInBounds_toArray, List.set_cons_zero, List.set_cons_succ]
            refine anyL_take (i := 9) (v := ?v9_37) (atS (atS (atS (atS (atS (atS (atS (atS (atS at0))))))))) (by kernel_rfl) (by kernel_rfl) (by kernel_rfl) (by kernel_rfl) (fun _ _ _ h => h) rfl ?y9_37 HE1 ?r9_37
            case y9_37 => intro wx hx; obtain ⟨⟨x0, x1, x2, x3⟩, ⟨y0, y1, y2, y3⟩, t0, t1, t2⟩ := hx; go_simp; try (with_reducible rfl)
            simp only [Act.put, List.setIfInBounds_toArray, List.set_cons_zero, List.set_cons_succ]
            refine anyL_take (i := 10) (v := ?v10_38) (atS (atS (atS (atS (atS (atS (atS (atS (atS (atS at0)))))))))) (by kernel_rfl) (by kernel_rfl) (by kernel_rfl) (by kernel_rfl) (fun _ _ _ h => h) rfl ?y10_38 HE1 ?r10_38
            case y10_38 => intro wx hx; obtain ⟨⟨x0, x1, x2, x3⟩, ⟨y0, y1, y2, y3⟩, t0, t1, t2⟩ := hx; go_simp; try (with_reducible rfl)
            simp only [Act.put, List.setIfInBounds_toArray, List.set_cons_zero, List.set_cons_succ]
            refine anyL_take (i := 11) (v := ?v11_39) (atS (atS (atS (atS (atS (atS (atS (atS (atS (atS (atS at0))))))))))) (by kernel_rfl) (by kernel_rfl) (by kernel_rfl) (by kernel_rfl) (fun _ _ _ h => h) rfl ?y11_39 HE1 ?r11_39
            case y11_39 => intro wx hx; obtain ⟨⟨x0, x1, x2, x3⟩, ⟨y0, y1, y2, y3⟩, t0, t1, t2⟩ := hx; go_simp; try (with_reducible rfl)
            simp only [Act.put, List.setIfInBounds_toArray, List.set_cons_zero, List.set_cons_succ]
            refine anyL_take (i := 12) (v := ?v12_40) (atS (atS (atS (atS (atS (atS (atS (atS (atS (atS (atS (atS at0)))))))))))) (by kernel_rfl) (by kernel_rfl) (by kernel_rfl) (by kernel_rfl) (fun _ _ _ h => h) rfl ?y12_40 HE1 ?r12_40
            case y12_40 => intro wx hx; obtain ⟨⟨x0, x1, x2, x3⟩, ⟨y0, y1, y2, y3⟩, t0, t1, t2⟩ := hx; go_simp; try (with_reducible rfl)
            simp only [Act.put, List.setIfInBounds_toArray, List.set_cons_zero, List.set_cons_succ]
            refine anyL_take (i := 13) (v := ?v13_41) (atS (atS (atS (atS (atS (atS (atS (atS (atS (atS (atS (atS (atS at0))))))))))))) (by kernel_rfl) (by kernel_rfl) (by kernel_rfl) (by kernel_rfl) (fun _ _ _ h => h) rfl ?y13_41 HE1 ?r13_41
            case y13_41 => intro wx hx; obtain ⟨⟨x0, x1, x2, x3⟩, ⟨y0, y1, y2, y3⟩, t0, t1, t2⟩ := hx; go_simp; try (with_reducible rfl)
            simp only [Act.put, List.setIfInBounds_toArray, List.set_cons_zero, List.set_cons_succ]
            refine anyL_take (i := 14) (v := ?v14_42) (atS (atS (atS (atS (atS (atS (atS (atS (atS (atS (atS (atS (atS (atS at0)))))))))))))) (by kernel_rfl) (by kernel_rfl) (by kernel_rfl) (by kernel_rfl) (fun _ _ _ h => h) rfl ?y14_42 HE1 ?r14_42
            case y14_42 => intro wx hx; obtain ⟨⟨x0, x1, x2, x3⟩, ⟨y0, y1, y2, y3⟩, t0, t1, t2⟩ := hx; go_simp; try (with_reducible rfl)
            simp only [Act.put, List.setIfInBounds_toArray, List.set_cons_zero, List.set_cons_succ]
            refine anyL_take (i := 15) (v := ?v15_43) (atS (atS (atS (atS (atS (atS (atS (atS (atS (atS (atS (atS (atS (atS (atS at0))))))))))))))) (by kernel_rfl) (by kernel_rfl) (by kernel_rfl) (by kernel_rfl) (fun _ _ _ h => h) rfl ?y15_43 HE1 ?r15_43
            case y15_43 => intro wx hx; obtain ⟨⟨x0, x1, x2, x3⟩, ⟨y0, y1, y2, y3⟩, t0, t1, t2⟩ := hx; go_simp; try (with_reducible rfl)
            simp only [Act.put, List.setIfInBounds_toArray, List.set_cons_zero, List.set_cons_succ]
            refine anyL_take (i := 16) (v := ?v16_44) (atS (atS (atS (atS (atS (atS (atS (atS (atS (atS (atS (atS (atS (atS (atS (atS at0)))))))))))))))) (by kernel_rfl) (by kernel_rfl) (by kernel_rfl) (by kernel_rfl) (fun _ _ _ h => h) rfl ?y16_44 HE1 ?r16_44
            case y16_44 => intro wx hx; obtain ⟨⟨x0, x1, x2, x3⟩, ⟨y0, y1, y2, y3⟩, t0, t1, t2⟩ := hx; go_simp; try (with_reducible rfl)
            simp only [Act.put, List.setIfInBounds_toArray, List.set_cons_zero, List.set_cons_succ]
            refine anyL_take (i := 17) (v := ?v17_45) (atS (atS (atS (atS (atS (atS (atS (atS (atS (atS (atS (atS (atS (atS (atS (atS (atS at0))))))))))))))))) (by kernel_rfl) (by kernel_rfl) (by kernel_rfl) (by kernel_rfl) (fun _ _ _ h => h) rfl ?y17_45 HE1 ?r17_45
            case y17_45 => intro wx hx; obtain ⟨⟨x0, x1, x2, x3⟩, ⟨y0, y1, y2, y3⟩, t0, t1, t2⟩ := hx; go_simp; try (with_reducible rfl)
            simp only [Act.put, List.setIfInBounds_toArray, List.set_cons_zero, List.set_cons_succ]
            refine anyL_take (i := 18) (v := ?v18_46) (atS (atS (atS (atS (atS (atS (atS (atS (atS (atS (atS (atS (atS (atS (atS (atS (atS (atS at0)))))))))))))))))) (by kernel_rfl) (by kernel_rfl) (by kernel_rfl) (by kernel_rfl) (fun _ _ _ h => h) rfl ?y18_46 HE1 ?r18_46
            case y18_46 => intro wx hx; obtain ⟨⟨x0, x1, x2, x3⟩, ⟨y0, y1, y2, y3⟩, t0, t1, t2⟩ := hx; go_simp; try (with_reducible rfl)
            simp only [Act.put, List.setIfInBounds_toArray, List.set_cons_zero, List.set_cons_succ]
            refine anyL_take (i := 19) (v := ?v19_47) (atS (atS (atS (atS (atS (atS (atS (atS (atS (atS (atS (atS (atS (atS (atS (atS (atS (atS (atS at0))))))))))))))))))) (by kernel_rfl) (by kernel_rfl) (by kernel_rfl) (by kernel_rfl) (fun _ _ _ h => h) rfl ?y19_47 HE1 ?r19_47
            case y19_47 => intro wx hx; obtain ⟨⟨x0, x1, x2, x3⟩, ⟨y0, y1, y2, y3⟩, t0, t1, t2⟩ := hx; go_simp; try (with_reducible rfl)
            simp only [Act.put, List.setIfInBounds_toArray, List.set_cons_zero, List.set_cons_succ]
            refine anyL_take (i := 20) (v := ?v20_48) (atS (atS (atS (atS (atS (atS (atS (atS (atS (atS (atS (atS (atS (atS (atS (atS (atS (atS (atS (atS at0)))))))))))))))))))) (by kernel_rfl) (by kernel_rfl) (by kernel_rfl) (by kernel_rfl) (fun _ _ _ h => h) rfl ?y20_48 HE1 ?r20_48
            case y20_48 => intro wx hx; obtain ⟨⟨x0, x1, x2, x3⟩, ⟨y0, y1, y2, y3⟩, t0, t1, t2⟩ := hx; go_simp; try (with_reducible rfl)
            simp only [Act.put, List.setIfInBounds_toArray, List.set_cons_zero, List.set_cons_succ]
            refine anyL_take (i := 21) (v := ?v21_49) (atS (atS (atS (atS (atS (atS (atS (atS (atS (atS (atS (atS (atS (atS (atS (atS (atS (atS (atS (atS (atS at0))))))))))))))))))))) (by kernel_rfl) (by kernel_rfl) (by kernel_rfl) (by kernel_rfl) (fun _ _ _ h => h) rfl ?y21_49 HE1 ?r21_49
            case y21_49 => intro wx hx; obtain ⟨⟨x0, x1, x2, x3⟩, ⟨y0, y1, y2, y3⟩, t0, t1, t2⟩ := hx; go_simp; try (with_reducible rfl)
            simp only [Act.put, List.setIfInBounds_toArray, List.set_cons_zero, List.set_cons_succ]
            refine anyL_take (i := 22) (v := ?v22_50) (atS (atS (atS (atS (atS (atS (atS (atS (atS (atS (atS (atS (atS (atS (atS (atS (atS (atS (atS (atS (atS (atS at0)))))))))))))))))))))) (by kernel_rfl) (by kernel_rfl) (by kernel_rfl) (by kernel_rfl) (fun _ _ _ h => h) rfl ?y22_50 HE1 ?r22_50
            case y22_50 => intro wx hx; obtain ⟨⟨x0, x1, x2, x3⟩, ⟨y0, y1, y2, y3⟩, t0, t1, t2⟩ := hx; go_simp; try (with_reducible rfl)
            simp only [Act.put, List.setIfInBounds_toArray, List.set_cons_zero, List.set_cons_succ]
            refine anyL_take (i := 23) (v := ?v23_51) (atS (atS (atS (atS (atS (atS (atS (atS (atS (atS (atS (atS (atS (atS (atS (atS (atS (atS (atS (atS (atS (atS (atS at0))))))))))))))))))))))) (by kernel_rfl) (by kernel_rfl) (by kernel_rfl) (by kernel_rfl) (fun _ _ _ h => h) rfl ?y23_51 HE1 ?r23_51
            case y23_51 => intro wx hx; obtain ⟨⟨x0, x1, x2, x3⟩, ⟨y0, y1, y2, y3⟩, t0, t1, t2⟩ := hx; go_simp; try (with_reducible rfl)
            simp only [Act.put, List.setIfInBounds_toArray, List.set_cons_zero, List.set_cons_succ]
            refine anyL_take (i := 24) (v := ?v24_52) (atS (atS (atS (atS (atS (atS (atS (atS (atS (atS (atS (atS (atS (atS (atS (atS (atS (atS (atS (atS (atS (atS (atS (atS at0)))))))))))))))))))))))) (by kernel_rfl) (by kernel_rfl) (by kernel_rfl) (by kernel_rfl) (fun _ _ _ h => h) rfl ?y24_52 HE1 ?r24_52
            case y24_52 => intro wx hx; obtain ⟨⟨x0, x1, x2, x3⟩, ⟨y0, y1, y2, y3⟩, t0, t1, t2⟩ := hx; go_simp; try (with_reducible rfl)
            simp only [Act.put, List.setIfInBounds_toArray, List.set_cons_zero, List.set_cons_succ]
            refine anyL_take (i := 25) (v := ?v25_53) (atS (atS (atS (atS (atS (atS (atS (atS (atS (atS (atS (atS (atS (atS (atS (atS (atS (atS (atS (atS (atS (atS (atS (atS (atS at0))))))))))))))))))))))))) (by kernel_rfl) (by kernel_rfl) (by kernel_rfl) (by kernel_rfl) (fun _ _ _ h => h) rfl ?y25_53 HE1 ?r25_53
            case y25_53 => intro wx hx; obtain ⟨⟨x0, x1, x2, x3⟩, ⟨y0, y1, y2, y3⟩, t0, t1, t2⟩ := hx; go_simp; try (with_reducible rfl)
            simp only [Act.put, List.setIfInBounds_toArray, List.set_cons_zero, List.set_cons_succ]
            refine anyL_take (i := 26) (v := ?v26_54) (atS (atS (atS (atS (atS (atS (atS (atS (atS (atS (atS (atS (atS (atS (atS (atS (atS (atS (atS (atS (atS (atS (atS (atS (atS (atS at0)))))))))))))))))))))))))) (by kernel_rfl) (by kernel_rfl) (by kernel_rfl) (by kernel_rfl) (fun _ _ _ h => h) rfl ?y26_54 HE1 ?r26_54
            case y26_54 => intro wx hx; obtain ⟨⟨x0, x1, x2, x3⟩, ⟨y0, y1, y2, y3⟩, t0, t1, t2⟩ := hx; go_simp; try (with_reducible rfl)
            simp only [Act.put, List.setIfInBounds_toArray, List.set_cons_zero, List.set_cons_succ]
            refine anyL_take (i := 27) (v := ?v27_55) (atS (atS (atS (atS (atS (atS (atS (atS (atS (atS (atS (atS (atS (atS (atS (atS (atS (atS (atS (atS (atS (atS (atS (atS (atS (atS (atS at0))))))))))))))))))))))))))) (by kernel_rfl) (by kernel_rfl) (by kernel_rfl) (by kernel_rfl) (fun _ _ _ h => h) rfl ?y27_55 HE1 ?r27_55
            case y27_55 => intro wx hx; obtain ⟨⟨x0, x1, x2, x3⟩, ⟨y0, y1, y2, y3⟩, t0, t1, t2⟩ := hx; go_simp; try (with_reducible rfl)
            simp only [Act.put, List.setIfInBounds_toArray, List.set_cons_zero, List.set_cons_succ]
            refine anyL_take (i := 28) (v := ?v28_56) (atS (atS (atS (atS (atS (atS (atS (atS (atS (atS (atS (atS (atS (atS (atS (atS (atS (atS (atS (atS (atS (atS (atS (atS (atS (atS (atS (atS at0)))))))))))))))))))))))))))) (by kernel_rfl) (by kernel_rfl) (by kernel_rfl) (by kernel_rfl) (fun _ _ _ h => h) rfl ?y28_56 HE1 ?r28_56
            case y28_56 => intro wx hx; obtain ⟨⟨x0, x1, x2, x3⟩, ⟨y0, y1, y2, y3⟩, t0, t1, t2⟩ := hx; go_simp; try (with_reducible rfl)
            simp only [Act.put, List.setIfInBounds_toArray, List.set_cons_zero, List.set_cons_succ]
            refine anyL_take (i := 29) (v := ?v29_57) (atS (atS (atS (atS (atS (atS (atS (atS (atS (atS (atS (atS (atS (atS (atS (atS (atS (atS (atS (atS (atS (atS (atS (atS (atS (atS (atS (atS (atS at0))))))))))))))))))))))))))))) (by kernel_rfl) (by kernel_rfl) (by kernel_rfl) (by kernel_rfl) (fun _ _ _ h => h) rfl ?y29_57 HE1 ?r29_57
            case y29_57 => intro wx hx; obtain ⟨⟨x0, x1, x2, x3⟩, ⟨y0, y1, y2, y3⟩, t0, t1, t2⟩ := hx; go_simp; try (with_reducible rfl)
            simp only [Act.put, List.setIfInBounds_toArray, List.set_cons_zero, List.set_cons_succ]
            refine anyL_take (i := 30) (v := ?v30_58) (atS (atS (atS (atS (atS (atS (atS (atS (atS (atS (atS (atS (atS (atS (atS (atS (atS (atS (atS (atS (atS (atS (atS (atS (atS (atS (atS (atS (atS (atS at0)))))))))))))))))))))))))))))) (by kernel_rfl) (by kernel_rfl) (by kernel_rfl) (by kernel_rfl) (fun _ _ _ h => h) rfl ?y30_58 HE1 ?r30_58
            case y30_58 => intro wx hx; obtain ⟨⟨x0, x1, x2, x3⟩, ⟨y0, y1, y2, y3⟩, t0, t1, t2⟩ := hx; go_simp; try (with_reducible rfl)
            simp only [Act.put, List.setIfInBounds_toArray, List.set_cons_zero, List.set_cons_succ]
            refine anyL_take (i := 31) (v := ?v31_59) (atS (atS (atS (atS (atS (atS (atS (atS (atS (atS (atS (atS (atS (atS (atS (atS (atS (atS (atS (atS (atS (atS (atS (atS (atS (atS (atS (atS (atS (atS (atS at0))))))))))))))))))))))))))))))) (by kernel_rfl) (by kernel_rfl) (by kernel_rfl) (by kernel_rfl) (fun _ _ _ h => h) rfl ?y31_59 HE1 ?r31_59
            case y31_59 => intro wx hx; obtain ⟨⟨x0, x1, x2, x3⟩, ⟨y0, y1, y2, y3⟩, t0, t1, t2⟩ := hx; go_simp; try (with_reducible rfl)
            simp only [Act.put, List.setIfInBounds_toArray, List.set_cons_zero, List.set_cons_succ]
            refine anyL_take (i := 32) (v := ?v32_60) (atS (atS (atS (atS (atS (atS (atS (atS (atS (atS (atS (atS (atS (atS (atS (atS (atS (atS (atS (atS (atS (atS (atS (atS (atS (atS (atS (atS (atS (atS (atS (atS at0)))))))))))))))))))))))))))))))) (by kernel_rfl) (by kernel_rfl) (by kernel_rfl) (by kernel_rfl) (fun _ _ _ h => h) rfl ?y32_60 HE1 ?r32_60
            case y32_60 => intro wx hx; obtain ⟨⟨x0, x1, x2, x3⟩, ⟨y0, y1, y2, y3⟩, t0, t1, t2⟩ := hx; go_simp; try (with_reducible rfl)
            simp only [Act.put, List.setIfInBounds_toArray, List.set_cons_zero, List.set_cons_succ]
            refine anyL_take (i := 33) (v := ?v33_61) (atS (atS (atS (atS (atS (atS (atS (atS (atS (atS (atS (atS (atS (atS (atS (atS (atS (atS (atS (atS (atS (atS (atS (atS (atS (atS (atS (atS (atS (atS (atS (atS (atS at0))))))))))))))))))))))))))))))))) (by kernel_rfl) (by kernel_rfl) (by kernel_rfl) (by kernel_rfl) (fun _ _ _ h => h) rfl ?y33_61 HE1 ?r33_61
            case y33_61 => intro wx hx; obtain ⟨⟨x0, x1, x2, x3⟩, ⟨y0, y1, y2, y3⟩, t0, t1, t2⟩ := hx; go_simp; try (with_reducible rfl)
            simp only [Act.put, List.setIfInBounds_toArray, List.set_cons_zero, List.set_cons_succ]
            refine anyL_one (i := 34) (atS (atS (atS (atS (atS (atS (atS (atS (atS (atS (atS (atS (atS (atS (atS (atS (atS (atS (atS (atS (atS (atS (atS (atS (atS (atS (atS (atS (atS (atS (atS (atS (atS (atS at0)))))))))))))))))))))))))))))))))) (by kernel_rfl) rfl (fun K hK => ?_)
            go_simp
            refine hK _ _ (.inr HE2) ?_
            try simp only [Act.put, List.setIfInBounds_toArray, List.set_cons_zero, List.set_cons_succ]
            refine anyL_one (i := 35) (atS (atS (atS (atS (atS (atS (atS (atS (atS (atS (atS (atS (atS (atS (atS (atS (atS (atS (atS (atS (atS (atS (atS (atS (atS (atS (atS (atS (atS (atS (atS (atS (atS (atS (atS at0))))))))))))))))))))))))))))))))))) (by kernel_rfl) rfl (fun K hK => ?_)
            refine wp_append_run (.tmp 108) (.tmp 142) 28 rfl rfl rfl HR6.out ?_
            refine hK _ _ (.inr HE3) ?_
            try simp only [Act.put, List.setIfInBounds_toArray, List.set_cons_zero, List.set_cons_succ]
            refine anyL_one (i := 36) (atS (atS (atS (atS (atS (atS (atS (atS (atS (atS (atS (atS (atS (atS (atS (atS (atS (atS (atS (atS (atS (atS (atS (atS (atS (atS (atS (atS (atS (atS (atS (atS (atS (atS (atS (atS at0)))))))))))))))))))))))))))))))))))) (by kernel_rfl) rfl (fun K hK => ?_)
            go_simp
            refine hK _ _ (.inr HE3) (anyL_done (by kernel_rfl) (NoPanic.normal ?_))
            try simp only [Act.put, List.setIfInBounds_toArray, List.set_cons_zero, List.set_cons_succ]
            clear HE1 HE2 HE3 HR6 T6 T6a
            go_wp2
            go_roundw
            case rel => exact ⟨j + 1, _, rfl, by go_num, by omega, by rw [HMK.out]; exact T7⟩
            case measure => simp [intOf]; omega
        · have hnl : ¬ (j : Int) < ((r.length : Nat) : Int) := by omega
          have hje : j = r.length := by omega
          have hml := HML.out j
          have hpm : (pre ++ metL x r F j).length ≤ 1000000 := by rw [List.length_append]; omega
          subst ha1
          have d1 := (HX.out.below hb1l hT.out.below).2.1
          have d2 := hT.out.bxT.cell 2 (v := .int .i64 F) rfl
          by_cases hx0 : x.2.1 = 0
          · have hx0b : (x.2.1 == 0) = true := by simpa using hx0
            by_cases hf2 : F = 2
            · have HNX : Hid (preL l r (B : Int) F (i + 1) = pre ++ metL x r F j) := by show _ = _; rw [HPS.out, HXM.out, if_neg (fun h => h.2 hf2), List.append_nil, hje]
              have hf2b : (F != 2) = false := by simp [hf2]
              go_wp2
              go_roundw
              case rel => exact ⟨i + 1, _, rfl, by go_num, by omega, by rw [HNX.out]; exact hT⟩
              case measure => simp [intOf]; omega
            · have HNX : Hid (preL l r (B : Int) F (i + 1) = pre ++ metL x r F j ++ [hopL x (B : Int)]) := by show _ = _; rw [HPS.out, HXM.out, if_pos ⟨hx0, hf2⟩, hje, List.append_assoc]
              have hf2b : (F != 2) = true := by simp [hf2]
              go_wp2
              have T6 := hidP hT.out.drew
              have HE1 : HeldO b1 (o1 + i * 4) x (w.heap.size + 2) (A : Int) (B : Int) F w4.drew := ⟨HX.out.below hb1l T6.out.below, T6.out.bxT.cell 0 rfl, T6.out.bxT.cell 1 rfl, T6.out.bxT.cell 2 rfl⟩
              obtain ⟨v6, w6, r6, ho6, hb6⟩ := T6.out.own.push (by have := T6.out.sz; exact this) (hopL x (B : Int)) (by omega)
              have T7 := hidP (T6.out.push ho6 hb6)
              have T6a := hidP (T6.out.later ((Below.refl w4.drew.heap.size w4.drew).alloc (Nat.le_refl _) (.cells (encH (hopL x (B : Int))).toArray 61)))
              have HE2 : HeldO b1 (o1 + i * 4) x (w.heap.size + 2) (A : Int) (B : Int) F (w4.drew.alloc (.cells #[.int .i64 x.1, .int .i64 0, .int .i64 x.2.2.1, .int .i64 x.2.2.2, .int .i64 (B : Int), .int .i64 1] 61)) := ⟨HX.out.below hb1l T6a.out.below, T6a.out.bxT.cell 0 rfl, T6a.out.bxT.cell 1 rfl, T6a.out.bxT.cell 2 rfl⟩
              have HE3 : HeldO b1 (o1 + i * 4) x (w.heap.size + 2) (A : Int) (B : Int) F w6 := ⟨HX.out.below hb1l T7.out.below, T7.out.bxT.cell 0 rfl, T7.out.bxT.cell 1 rfl, T7.out.bxT.cell 2 rfl⟩
              simp only [encH, hopM, hopL, hopR] at r6
              have HR6 := hidP r6
              clear r6 ho6 hb6
              refine region_anyL (HeldO b1 (o1 + i * 4) x (w.heap.size + 2) (A : Int) (B : Int) F) 1000 (by kernel_rfl) ?_
              refine anyL_take (i := 0) (v := ?v0_62) at0 (by kernel_rfl) (by kernel_rfl) (by kernel_rfl) (by kernel_rfl) (fun _ _ _ h => h) rfl ?y0_62 HE1 ?r0_62
              case y0_62 => intro wx hx; obtain ⟨⟨x0, x1, x2, x3⟩, t0, t1, t2⟩ := hx; go_simp; try (with_reducible rfl)
              simp only [Act.put, List.setIfInBounds_toArray, List.set_cons_zero, List.set_cons_succ]
              refine anyL_take (i := 1) (v := ?v1_63) (atS at0) (by kernel_rfl) (by kernel_rfl) (by kernel_rfl) (by kernel_rfl) (fun _ _ _ h => h) rfl ?y1_63 HE1 ?r1_63
              case y1_63 => intro wx hx; obtain ⟨⟨x0, x1, x2, x3⟩, t0, t1, t2⟩ := hx; go_simp; try (with_reducible rfl)
              simp only [Act.put, List.setIfInBounds_toArray, List.set_cons_zero, List.set_cons_succ]
              refine anyL_take (i := 2) (v := ?v2_64) (atS (atS at0)) (by kernel_rfl) (by kernel_rfl) (by kernel_rfl) (by kernel_rfl) (fun _ _ _ h => h) rfl ?y2_64 HE1 ?r2_64
              case y2_64 => intro wx hx; obtain ⟨⟨x0, x1, x2, x3⟩, t0, t1, t2⟩ := hx; go_simp; try (with_reducible rfl)
              simp only [Act.put, List.setIfInBounds_toArray, List.set_cons_zero, List.set_cons_succ]
              refine anyL_take (i := 3) (v := ?v3_65) (atS (atS (atS at0))) (by kernel_rfl) (by kernel_rfl) (by kernel_rfl) (by kernel_rfl) (fun _ _ _ h => h) rfl ?y3_65 HE1 ?r3_65
              case y3_65 => intro wx hx; obtain ⟨⟨x0, x1, x2, x3⟩, t0, t1, t2⟩ := hx; go_simp; try (with_reducible rfl)
              simp only [Act.put, List.setIfInBounds_toArray, List.set_cons_zero, List.set_cons_succ]
              refine anyL_take (i := 4) (v := ?v4_66) (atS (atS (atS (atS at0)))) (by kernel_rfl) (by kernel_rfl) (by kernel_rfl) (by kernel_rfl) (fun _ _ _ h => h) rfl ?y4_66 HE1 ?r4_66
              case y4_66 => intro wx hx; obtain ⟨⟨x0, x1, x2, x3⟩, t0, t1, t2⟩ := hx; go_simp; try (with_reducible rfl)
              simp only [Act.put, List.setIfInBounds_toArray, List.set_cons_zero, List.set_cons_succ]
              refine anyL_take (i := 5) (v := ?v5_67) (atS (atS (atS (atS (atS at0))))) (by kernel_rfl) (by kernel_rfl) (by kernel_rfl) (by kernel_rfl) (fun _ _ _ h => h) rfl ?y5_67 HE1 ?r5_67
              case y5_67 => intro wx hx; obtain ⟨⟨x0, x1, x2, x3⟩, t0, t1, t2⟩ := hx; go_simp; try (with_reducible rfl)
              simp only [Act.put, List.setIfInBounds_toArray, List.set_cons_zero, List.set_cons_succ]
              refine anyL_take (i := 6) (v := ?v6_68) (atS (atS (atS (atS (atS (atS at0)))))) (by kernel_rfl) (by kernel_rfl) (by kernel_rfl) (by kernel_rfl) (fun _ _ _ h => h) rfl ?y6_68 HE1 ?r6_68
              case y6_68 => intro wx hx; obtain ⟨⟨x0, x1, x2, x3⟩, t0, t1, t2⟩ := hx; go_simp; try (with_reducible rfl)
              simp only [Act.put, List.setIfInBounds_toArray, List.set_cons_zero, List.set_cons_succ]
              refine anyL_take (i := 7) (v := ?v7_69) (atS (atS (atS (atS (atS (atS (atS at0))))))) (by kernel_rfl) (by kernel_rfl) (by kernel_rfl) (by kernel_rfl) (fun _ _ _ h => h) rfl ?y7_69 HE1 ?r7_69
              case y7_69 => intro wx hx; obtain ⟨⟨x0, x1, x2, x3⟩, t0, t1, t2⟩ := hx; go_simp; try (with_reducible rfl)
              simp only [Act.put, List.setIfInBounds_toArray, List.set_cons_zero, List.set_cons_succ]
              refine anyL_take (i := 8) (v := ?v8_70) (atS (atS (atS (atS (atS (atS (atS (atS at0)))))))) (by kernel_rfl) (by kernel_rfl) (by kernel_rfl) (by kernel_rfl) (fun _ _ _ h => h) rfl ?y8_70 HE1 ?r8_70
              case y8_70 => intro wx hx; obtain ⟨⟨x0, x1, x2, x3⟩, t0, t1, t2⟩ := hx; go_simp; try (with_reducible rfl)
              simp only [Act.put, List.setIfInBounds_toArray, List.set_cons_zero, List.set_cons_succ]
              refine anyL_take (i := 9) (v := ?v9_71) (atS (atS (atS (atS (atS (atS (atS (atS (atS at0))))))))) (by kernel_rfl) (by kernel_rfl) (by kernel_rfl) (by kernel_rfl) (fun _ _ _ h => h) rfl ?y9_71 HE1 ?r9_71
              case y9_71 => intro wx hx; obtain ⟨⟨x0, x1, x2, x3⟩, t0, t1, t2⟩ := hx; go_simp; try (with_reducible rfl)
              simp only [Act.put, List.setIfInBounds_toArray, List.set_cons_zero, List.set_cons_succ]
              refine anyL_take (i := 10) (v := ?v10_72) (atS (atS (atS (atS (atS (atS (atS (atS (atS (atS at0)))))))))) (by kernel_rfl) (by kernel_rfl) (by kernel_rfl) (by kernel_rfl) (fun _ _ _ h => h) rfl ?y10_72 HE1 ?r10_72
              case y10_72 => intro wx hx; obtain ⟨⟨x0, x1, x2, x3⟩, t0, t1, t2⟩ := hx; go_simp; try (with_reducible rfl)
              simp only [Act.put, List.setIfInBounds_toArray, List.set_cons_zero, List.set_cons_succ]
              refine anyL_take (i := 11) (v := ?v11_73) (atS (atS (atS (atS (atS (atS (atS (atS (atS (atS (atS at0))))))))))) (by kernel_rfl) (by kernel_rfl) (by kernel_rfl) (by kernel_rfl) (fun _ _ _ h => h) rfl ?y11_73 HE1 ?r11_73
              case y11_73 => intro wx hx; obtain ⟨⟨x0, x1, x2, x3⟩, t0, t1, t2⟩ := hx; go_simp; try (with_reducible rfl)
              simp only [Act.put, List.setIfInBounds_toArray, List.set_cons_zero, List.set_cons_succ]
              refine anyL_take (i := 12) (v := ?v12_74) (atS (atS (atS (atS (atS (atS (atS (atS (atS (atS (atS (atS at0)))))))))))) (by kernel_rfl) (by kernel_rfl) (by kernel_rfl) (by kernel_rfl) (fun _ _ _ h => h) rfl ?y12_74 HE1 ?r12_74
              case y12_74 => intro wx hx; obtain ⟨⟨x0, x1, x2, x3⟩, t0, t1, t2⟩ := hx; go_simp; try (with_reducible rfl)
              simp only [Act.put, List.setIfInBounds_toArray, List.set_cons_zero, List.set_cons_succ]
              refine anyL_take (i := 13) (v := ?v13_75) (atS (atS (atS (atS (atS (atS (atS (atS (atS (atS (atS (atS (atS at0))))))))))))) (by kernel_rfl) (by kernel_rfl) (by kernel_rfl) (by kernel_rfl) (fun _ _ _ h => h) rfl ?y13_75 HE1 ?r13_75
              case y13_75 => intro wx hx; obtain ⟨⟨x0, x1, x2, x3⟩, t0, t1, t2⟩ := hx; go_simp; try (with_reducible rfl)
              simp only [Act.put, List.setIfInBounds_toArray, List.set_cons_zero, List.set_cons_succ]
              refine anyL_take (i := 14) (v := ?v14_76) (atS (atS (atS (atS (atS (atS (atS (atS (atS (atS (atS (atS (atS (atS at0)))))))))))))) (by kernel_rfl) (by kernel_rfl) (by kernel_rfl) (by kernel_rfl) (fun _ _ _ h => h) rfl ?y14_76 HE1 ?r14_76
              case y14_76 => intro wx hx; obtain ⟨⟨x0, x1, x2, x3⟩, t0, t1, t2⟩ := hx; go_simp; try (with_reducible rfl)
              simp only [Act.put, List.setIfInBounds_toArray, List.set_cons_zero, List.set_cons_succ]
              refine anyL_take (i := 15) (v := ?v15_77) (atS (atS (atS (atS (atS (atS (atS (atS (atS (atS (atS (atS (atS (atS (atS at0))))))))))))))) (by kernel_rfl) (by kernel_rfl) (by kernel_rfl) (by kernel_rfl) (fun _ _ _ h => h) rfl ?y15_77 HE1 ?r15_77
              case y15_77 => intro wx hx; obtain ⟨⟨x0, x1, x2, x3⟩, t0, t1, t2⟩ := hx; go_simp; try (with_reducible rfl)
              simp only [Act.put, List.setIfInBounds_toArray, List.set_cons_zero, List.set_cons_succ]
              refine anyL_take (i := 16) (v := ?v16_78) (atS (atS (atS (atS (atS (atS (atS (atS (atS (atS (atS (atS (atS (atS (atS (atS at0)))))))))))))))) (by kernel_rfl) (by kernel_rfl) (by kernel_rfl) (by kernel_rfl) (fun _ _ _ h => h) rfl ?y16_78 HE1 ?r16_78
              case y16_78 => intro wx hx; obtain ⟨⟨x0, x1, x2, x3⟩, t0, t1, t2⟩ := hx; go_simp; try (with_reducible rfl)
              simp only [Act.put, List.setIfInBounds_toArray, List.set_cons_zero, List.set_cons_succ]
              refine anyL_take (i := 17) (v := ?v17_79) (atS (atS (atS (atS (atS (atS (atS (atS (atS (atS (atS (atS (atS (atS (atS (atS (atS at0))))))))))))))))) (by kernel_rfl) (by kernel_rfl) (by kernel_rfl) (by kernel_rfl) (fun _ _ _ h => h) rfl ?y17_79 HE1 ?r17_79
              case y17_79 => intro wx hx; obtain ⟨⟨x0, x1, x2, x3⟩, t0, t1, t2⟩ := hx; go_simp; try (with_reducible rfl)
              simp only [Act.put, List.setIfInBounds_toArray, List.set_cons_zero, List.set_cons_succ]
              refine anyL_take (i := 18) (v := ?v18_80) (atS (atS (atS (atS (atS (atS (atS (atS (atS (atS (atS (atS (atS (atS (atS (atS (atS (atS at0)))))))))))))))))) (by kernel_rfl) (by kernel_rfl) (by kernel_rfl) (by kernel_rfl) (fun _ _ _ h => h) rfl ?y18_80 HE1 ?r18_80
              case y18_80 => intro wx hx; obtain ⟨⟨x0, x1, x2, x3⟩, t0, t1, t2⟩ := hx; go_simp; try (with_reducible rfl)
              simp only [Act.put, List.setIfInBounds_toArray, List.set_cons_zero, List.set_cons_succ]
              refine anyL_take (i := 19) (v := ?v19_81) (atS (atS (atS (atS (atS (atS (atS (atS (atS (atS (atS (atS (atS (atS (atS (atS (atS (atS (atS at0))))))))))))))))))) (by kernel_rfl) (by kernel_rfl) (by kernel_rfl) (by kernel_rfl) (fun _ _ _ h => h) rfl ?y19_81 HE1 ?r19_81
              case y19_81 => intro wx hx; obtain ⟨⟨x0, x1, x2, x3⟩, t0, t1, t2⟩ := hx; go_simp; try (with_reducible rfl)
              simp only [Act.put, List.setIfInBounds_toArray, List.set_cons_zero, List.set_cons_succ]
              refine anyL_one (i := 20) (atS (atS (atS (atS (atS (atS (atS (atS (atS (atS (atS (atS (atS (atS (atS (atS (atS (atS (atS (atS at0)))))))))))))))))))) (by kernel_rfl) rfl (fun K hK => ?_)
              go_simp
              refine hK _ _ (.inr HE2) ?_
              try simp only [Act.put, List.setIfInBounds_toArray, List.set_cons_zero, List.set_cons_succ]
              refine anyL_one (i := 21) (atS (atS (atS (atS (atS (atS (atS (atS (atS (atS (atS (atS (atS (atS (atS (atS (atS (atS (atS (atS (atS at0))))))))))))))))))))) (by kernel_rfl) rfl (fun K hK => ?_)
              refine wp_append_run (.tmp 155) (.tmp 175) 28 rfl rfl rfl HR6.out ?_
              refine hK _ _ (.inr HE3) ?_
              try simp only [Act.put, List.setIfInBounds_toArray, List.set_cons_zero, List.set_cons_succ]
              refine anyL_one (i := 22) (atS (atS (atS (atS (atS (atS (atS (atS (atS (atS (atS (atS (atS (atS (atS (atS (atS (atS (atS (atS (atS (atS at0)))))))))))))))))))))) (by kernel_rfl) rfl (fun K hK => ?_)
              go_simp
              refine hK _ _ (.inr HE3) (anyL_done (by kernel_rfl) (NoPanic.normal ?_))
              try simp only [Act.put, List.setIfInBounds_toArray, List.set_cons_zero, List.set_cons_succ]
              clear HE1 HE2 HE3 HR6 T6 T6a
              go_wp2
              go_roundw
              case rel => exact ⟨i + 1, _, rfl, by go_num, by omega, by rw [HNX.out]; exact T7⟩
              case measure => simp [intOf]; omega
          · have hx0b : (x.2.1 == 0) = false := by simpa using hx0
            have HNX : Hid (preL l r (B : Int) F (i + 1) = pre ++ metL x r F j) := by show _ = _; rw [HPS.out, HXM.out, if_neg (fun h => hx0 h.1), List.append_nil, hje]
            go_wp2
            go_roundw
            case rel => exact ⟨i + 1, _, rfl, by go_num, by omega, by rw [HNX.out]; exact hT⟩
            case measure => simp [intOf]; omega
    · have hnl : ¬ (i : Int) < ((l.length : Nat) : Int) := by omega
      obtain rfl : i = l.length := by omega
      have hpl := HPB.out l.length (Nat.le_refl _)
      go_wp2
      go_loopw [13, 16] (fun s13 s16 wr => ∃ (j : Nat) (vo : Value), vo = s13 ∧ s16 = .int .i64 (j : Int) ∧ j ≤ r.length ∧ Hid (ExpAt w wr #[.int .i64 za, .slice (some ⟨ba, oa, none⟩) na capa] #[.int .i64 zb, .slice (some ⟨bb, ob, none⟩) nb capb] #[.int .i64 (A : Int), .int .i64 (B : Int), .int .i64 F] vo (preL l r (B : Int) F l.length ++ aloL r (A : Int) F j))) (fun _ s16 _ => r.length - (intOf s16).toNat)
      case atStart => exact ⟨0, _, rfl, rfl, Nat.zero_le _, by rw [aloL_zero, List.append_nil]; exact hT⟩
      case round =>
        clear hT
        obtain ⟨j, vo, rfl, rfl, hj, hT⟩ := hrel
        obtain ⟨w4, hw4⟩ : ∃ w4, w4 = wr := ⟨_, rfl⟩
        subst hw4
        by_cases hjl : j < r.length
        · obtain ⟨b2, o2, ha2, hb2l, y0, y1, y2, y3⟩ := HC2.out j hjl
          have HY : Hid (FourX w b2 (o2 + j * 4) (el r j)) := ⟨y0, y1, y2, y3⟩
          have hwy := HW2.out (el r j) (el_mem hjl)
          have HMJ := hidP (aloL_succ (a := (A : Int)) (f := F) hjl)
          have hml := aloL_len r (A : Int) F j
          clear y0 y1 y2 y3
          generalize el r j = y at *
          subst ha2
          have j0 : (0 : Int) ≤ (j : Int) := Int.natCast_nonneg _
          have j1 : (j : Int) < ((r.length : Nat) : Int) := by omega
          have d1 := (HY.out.below hb2l hT.out.below).1
          have d2 := hT.out.bxT.cell 2 (v := .int .i64 F) rfl
          generalize preL l r (B : Int) F l.length = pre at *
          have hpm : (pre ++ aloL r (A : Int) F j).length ≤ 1000000 := by rw [List.length_append]; omega
          by_cases hy0 : y.1 = 0
          · have hy0b : (y.1 == 0) = true := by simpa using hy0
            by_cases hf1 : F = 1
            · have HNX : Hid (aloL r (A : Int) F (j + 1) = aloL r (A : Int) F j) := by show _ = _; rw [HMJ.out, if_neg (fun h => h.2 hf1), List.append_nil]
              have hf1b : (F != 1) = false := by simp [hf1]
              go_wp2
              go_roundw
              case rel => exact ⟨j + 1, _, rfl, by go_num, by omega, by rw [HNX.out]; exact hT⟩
              case measure => simp [intOf]; omega
            · have HNX : Hid (pre ++ aloL r (A : Int) F (j + 1) = pre ++ aloL r (A : Int) F j ++ [hopR y (A : Int)]) := by show _ = _; rw [HMJ.out, if_pos ⟨hy0, hf1⟩, List.append_assoc]
              have hf1b : (F != 1) = true := by simp [hf1]
              go_wp2
              have T6 := hidP hT.out.drew
              have HE1 : HeldO b2 (o2 + j * 4) y (w.heap.size + 2) (A : Int) (B : Int) F w4.drew := ⟨HY.out.below hb2l T6.out.below, T6.out.bxT.cell 0 rfl, T6.out.bxT.cell 1 rfl, T6.out.bxT.cell 2 rfl⟩
              obtain ⟨v6, w6, r6, ho6, hb6⟩ := T6.out.own.push (by have := T6.out.sz; exact this) (hopR y (A : Int)) (by omega)
              have T7 := hidP (T6.out.push ho6 hb6)
              have T6a := hidP (T6.out.later ((Below.refl w4.drew.heap.size w4.drew).alloc (Nat.le_refl _) (.cells (encH (hopR y (A : Int))).toArray 61)))
              have HE2 : HeldO b2 (o2 + j * 4) y (w.heap.size + 2) (A : Int) (B : Int) F (w4.drew.alloc (.cells #[.int .i64 0, .int .i64 y.2.1, .int .i64 y.2.2.1, .int .i64 (A : Int), .int .i64 y.2.2.2, .int .i64 2] 61)) := ⟨HY.out.below hb2l T6a.out.below, T6a.out.bxT.cell 0 rfl, T6a.out.bxT.cell 1 rfl, T6a.out.bxT.cell 2 rfl⟩
              have HE3 : HeldO b2 (o2 + j * 4) y (w.heap.size + 2) (A : Int) (B : Int) F w6 := ⟨HY.out.below hb2l T7.out.below, T7.out.bxT.cell 0 rfl, T7.out.bxT.cell 1 rfl, T7.out.bxT.cell 2 rfl⟩
              simp only [encH, hopM, hopL, hopR] at r6
              have HR6 := hidP r6
              clear r6 ho6 hb6
              refine region_anyL (HeldO b2 (o2 + j * 4) y (w.heap.size + 2) (A : Int) (B : Int) F) 1000 (by kernel_rfl) ?_
              refine anyL_take (i := 0) (v := ?v0_82) at0 (by kernel_rfl) (by kernel_rfl) (by kernel_rfl) (by kernel_rfl) (fun _ _ _ h => h) rfl ?y0_82 HE1 ?r0_82
              case y0_82 => intro wx hx; obtain ⟨⟨x0, x1, x2, x3⟩, t0, t1, t2⟩ := hx; go_simp; try (with_reducible rfl)
              simp only [Act.put, List.setIfInBounds_toArray, List.set_cons_zero, List.set_cons_succ]
              refine anyL_take (i := 1) (v := ?v1_83) (atS at0) (by kernel_rfl) (by kernel_rfl) (by kernel_rfl) (by kernel_rfl) (fun _ _ _ h => h) rfl ?y1_83 HE1 ?r1_83
              case y1_83 => intro wx hx; obtain ⟨⟨x0, x1, x2, x3⟩, t0, t1, t2⟩ := hx; go_simp; try (with_reducible rfl)
              simp only [Act.put, List.setIfInBounds_toArray, List.set_cons_zero, List.set_cons_succ]
              refine anyL_take (i := 2) (v := ?v2_84) (atS (atS at0)) (by kernel_rfl) (by kernel_rfl) (by kernel_rfl) (by kernel_rfl) (fun _ _ _ h => h) rfl ?y2_84 HE1 ?r2_84
              case y2_84 => intro wx hx; obtain ⟨⟨x0, x1, x2, x3⟩, t0, t1, t2⟩ := hx; go_simp; try (with_reducible rfl)
              simp only [Act.put, List.setIfInBounds_toArray, List.set_cons_zero, List.set_cons_succ]
              refine anyL_take (i := 3) (v := ?v3_85) (atS (atS (atS at0))) (by kernel_rfl) (by kernel_rfl) (by kernel_rfl) (by kernel_rfl) (fun _ _ _ h => h) rfl ?y3_85 HE1 ?r3_85
              case y3_85 => intro wx hx; obtain ⟨⟨x0, x1, x2, x3⟩, t0, t1, t2⟩ := hx; go_simp; try (with_reducible rfl)
              simp only [Act.put, List.setIfInBounds_toArray, List.set_cons_zero, List.set_cons_succ]
              refine anyL_take (i := 4) (v := ?v4_86) (atS (atS (atS (atS at0)))) (by kernel_rfl) (by kernel_rfl) (by kernel_rfl) (by kernel_rfl) (fun _ _ _ h => h) rfl ?y4_86 HE1 ?r4_86
              case y4_86 => intro wx hx; obtain ⟨⟨x0, x1, x2, x3⟩, t0, t1, t2⟩ := hx; go_simp; try (with_reducible rfl)
              simp only [Act.put, List.setIfInBounds_toArray, List.set_cons_zero, List.set_cons_succ]
              refine anyL_take (i := 5) (v := ?v5_87) (atS (atS (atS (atS (atS at0))))) (by kernel_rfl) (by kernel_rfl) (by kernel_rfl) (by kernel_rfl) (fun _ _ _ h => h) rfl ?y5_87 HE1 ?r5_87
              case y5_87 => intro wx hx; obtain ⟨⟨x0, x1, x2, x3⟩, t0, t1, t2⟩ := hx; go_simp; try (with_reducible rfl)
              simp only [Act.put, List.setIfInBounds_toArray, List.set_cons_zero, List.set_cons_succ]
              refine anyL_take (i := 6) (v := ?v6_88) (atS (atS (atS (atS (atS (atS at0)))))) (by kernel_rfl) (by kernel_rfl) (by kernel_rfl) (by kernel_rfl) (fun _ _ _ h => h) rfl ?y6_88 HE1 ?r6_88
              case y6_88 => intro wx hx; obtain ⟨⟨x0, x1, x2, x3⟩, t0, t1, t2⟩ := hx; go_simp; try (with_reducible rfl)
              simp only [Act.put, List.setIfInBounds_toArray, List.set_cons_zero, List.set_cons_succ]
              refine anyL_take (i := 7) (v := ?v7_89) (atS (atS (atS (atS (atS (atS (atS at0))))))) (by kernel_rfl) (by kernel_rfl) (by kernel_rfl) (by kernel_rfl) (fun _ _ _ h => h) rfl ?y7_89 HE1 ?r7_89
              case y7_89 => intro wx hx; obtain ⟨⟨x0, x1, x2, x3⟩, t0, t1, t2⟩ := hx; go_simp; try (with_reducible rfl)
              simp only [Act.put, List.setIfInBounds_toArray, List.set_cons_zero, List.set_cons_succ]
              refine anyL_take (i := 8) (v := ?v8_90) (atS (atS (atS (atS (atS (atS (atS (atS at0)))))))) (by kernel_rfl) (by kernel_rfl) (by kernel_rfl) (by kernel_rfl) (fun _ _ _ h => h) rfl ?y8_90 HE1 ?r8_90
              case y8_90 => intro wx hx; obtain ⟨⟨x0, x1, x2, x3⟩, t0, t1, t2⟩ := hx; go_simp; try (with_reducible rfl)
              simp only [Act.put, List.setIfInBounds_toArray, List.set_cons_zero, List.set_cons_succ]
              refine anyL_take (i := 9) (v := ?v9_91) (atS (atS (atS (atS (atS (atS (atS (atS (atS at0))))))))) (by kernel_rfl) (by kernel_rfl) (by kernel_rfl) (by kernel_rfl) (fun _ _ _ h => h) rfl ?y9_91 HE1 ?r9_91
              case y9_91 => intro wx hx; obtain ⟨⟨x0, x1, x2, x3⟩, t0, t1, t2⟩ := hx; go_simp; try (with_reducible rfl)
              simp only [Act.put, List.setIfInBounds_toArray, List.set_cons_zero, List.set_cons_succ]
              refine anyL_take (i := 10) (v := ?v10_92) (atS (atS (atS (atS (atS (atS (atS (atS (atS (atS at0)))))))))) (by kernel_rfl) (by kernel_rfl) (by kernel_rfl) (by kernel_rfl) (fun _ _ _ h => h) rfl ?y10_92 HE1 ?r10_92
              case y10_92 => intro wx hx; obtain ⟨⟨x0, x1, x2, x3⟩, t0, t1, t2⟩ := hx; go_simp; try (with_reducible rfl)
              simp only [Act.put, List.setIfInBounds_toArray, List.set_cons_zero, List.set_cons_succ]
              refine anyL_take (i := 11) (v := ?v11_93) (atS (atS (atS (atS (atS (atS (atS (atS (atS (atS (atS at0))))))))))) (by kernel_rfl) (by kernel_rfl) (by kernel_rfl) (by kernel_rfl) (fun _ _ _ h => h) rfl ?y11_93 HE1 ?r11_93
              case y11_93 => intro wx hx; obtain ⟨⟨x0, x1, x2, x3⟩, t0, t1, t2⟩ := hx; go_simp; try (with_reducible rfl)
              simp only [Act.put, List.setIfInBounds_toArray, List.set_cons_zero, List.set_cons_succ]
              refine anyL_take (i := 12) (v := ?v12_94) (atS (atS (atS (atS (atS (atS (atS (atS (atS (atS (atS (atS at0)))))))))))) (by kernel_rfl) (by kernel_rfl) (by kernel_rfl) (by kernel_rfl) (fun _ _ _ h => h) rfl ?y12_94 HE1 ?r12_94
              case y12_94 => intro wx hx; obtain ⟨⟨x0, x1, x2, x3⟩, t0, t1, t2⟩ := hx; go_simp; try (with_reducible rfl)
              simp only [Act.put, List.setIfInBounds_toArray, List.set_cons_zero, List.set_cons_succ]
              refine anyL_take (i := 13) (v := ?v13_95) (atS (atS (atS (atS (atS (atS (atS (atS (atS (atS (atS (atS (atS at0))))))))))))) (by kernel_rfl) (by kernel_rfl) (by kernel_rfl) (by kernel_rfl) (fun _ _ _ h => h) rfl ?y13_95 HE1 ?r13_95
              case y13_95 => intro wx hx; obtain ⟨⟨x0, x1, x2, x3⟩, t0, t1, t2⟩ := hx; go_simp; try (with_reducible rfl)
              simp only [Act.put, List.setIfInBounds_toArray, List.set_cons_zero, List.set_cons_succ]
              refine anyL_take (i := 14) (v := ?v14_96) (atS (atS (atS (atS (atS (atS (atS (atS (atS (atS (atS (atS (atS (atS at0)))))))))))))) (by kernel_rfl) (by kernel_rfl) (by kernel_rfl) (by kernel_rfl) (fun _ _ _ h => h) rfl ?y14_96 HE1 ?r14_96
              case y14_96 => intro wx hx; obtain ⟨⟨x0, x1, x2, x3⟩, t0, t1, t2⟩ := hx; go_simp; try (with_reducible rfl)
              simp only [Act.put, List.setIfInBounds_toArray, List.set_cons_zero, List.set_cons_succ]
              refine anyL_take (i := 15) (v := ?v15_97) (atS (atS (atS (atS (atS (atS (atS (atS (atS (atS (atS (atS (atS (atS (atS at0))))))))))))))) (by kernel_rfl) (by kernel_rfl) (by kernel_rfl) (by kernel_rfl) (fun _ _ _ h => h) rfl ?y15_97 HE1 ?r15_97
              case y15_97 => intro wx hx; obtain ⟨⟨x0, x1, x2, x3⟩, t0, t1, t2⟩ := hx; go_simp; try (with_reducible rfl)
              simp only [Act.put, List.setIfInBounds_toArray, List.set_cons_zero, List.set_cons_succ]
              refine anyL_take (i := 16) (v := ?v16_98) (atS (atS (atS (atS (atS (atS (atS (atS (atS (atS (atS (atS (atS (atS (atS (atS at0)))))))))))))))) (by kernel_rfl) (by kernel_rfl) (by kernel_rfl) (by kernel_rfl) (fun _ _ _ h => h) rfl ?y16_98 HE1 ?r16_98
              case y16_98 => intro wx hx; obtain ⟨⟨x0, x1, x2, x3⟩, t0, t1, t2⟩ := hx; go_simp; try (with_reducible rfl)
              simp only [Act.put, List.setIfInBounds_toArray, List.set_cons_zero, List.set_cons_succ]
              refine anyL_take (i := 17) (v := ?v17_99) (atS (atS (atS (atS (atS (atS (atS (atS (atS (atS (atS (atS (atS (atS (atS (atS (atS at0))))))))))))))))) (by kernel_rfl) (by kernel_rfl) (by kernel_rfl) (by kernel_rfl) (fun _ _ _ h => h) rfl ?y17_99 HE1 ?r17_99
              case y17_99 => intro wx hx; obtain ⟨⟨x0, x1, x2, x3⟩, t0, t1, t2⟩ := hx; go_simp; try (with_reducible rfl)
              simp only [Act.put, List.setIfInBounds_toArray, List.set_cons_zero, List.set_cons_succ]
              refine anyL_take (i := 18) (v := ?v18_100) (atS (atS (atS (atS (atS (atS (atS (atS (atS (atS (atS (atS (atS (atS (atS (atS (atS (atS at0)))))))))))))))))) (by kernel_rfl) (by kernel_rfl) (by kernel_rfl) (by kernel_rfl) (fun _ _ _ h => h) rfl ?y18_100 HE1 ?r18_100
              case y18_100 => intro wx hx; obtain ⟨⟨x0, x1, x2, x3⟩, t0, t1, t2⟩ := hx; go_simp; try (with_reducible rfl)
              simp only [Act.put, List.setIfInBounds_toArray, List.set_cons_zero, List.set_cons_succ]
              refine anyL_take (i := 19) (v := ?v19_101) (atS (atS (atS (atS (atS (atS (atS (atS (atS (atS (atS (atS (atS (atS (atS (atS (atS (atS (atS at0))))))))))))))))))) (by kernel_rfl) (by kernel_rfl) (by kernel_rfl) (by kernel_rfl) (fun _ _ _ h => h) rfl ?y19_101 HE1 ?r19_101
              case y19_101 => intro wx hx; obtain ⟨⟨x0, x1, x2, x3⟩, t0, t1, t2⟩ := hx; go_simp; try (with_reducible rfl)
              simp only [Act.put, List.setIfInBounds_toArray, List.set_cons_zero, List.set_cons_succ]
              refine anyL_one (i := 20) (atS (atS (atS (atS (atS (atS (atS (atS (atS (atS (atS (atS (atS (atS (atS (atS (atS (atS (atS (atS at0)))))))))))))))))))) (by kernel_rfl) rfl (fun K hK => ?_)
              go_simp
              refine hK _ _ (.inr HE2) ?_
              try simp only [Act.put, List.setIfInBounds_toArray, List.set_cons_zero, List.set_cons_succ]
              refine anyL_one (i := 21) (atS (atS (atS (atS (atS (atS (atS (atS (atS (atS (atS (atS (atS (atS (atS (atS (atS (atS (atS (atS (atS at0))))))))))))))))))))) (by kernel_rfl) rfl (fun K hK => ?_)
              refine wp_append_run (.tmp 194) (.tmp 214) 28 rfl rfl rfl HR6.out ?_
              refine hK _ _ (.inr HE3) ?_
              try simp only [Act.put, List.setIfInBounds_toArray, List.set_cons_zero, List.set_cons_succ]
              refine anyL_one (i := 22) (atS (atS (atS (atS (atS (atS (atS (atS (atS (atS (atS (atS (atS (atS (atS (atS (atS (atS (atS (atS (atS (atS at0)))))))))))))))))))))) (by kernel_rfl) rfl (fun K hK => ?_)
              go_simp
              refine hK _ _ (.inr HE3) (anyL_done (by kernel_rfl) (NoPanic.normal ?_))
              try simp only [Act.put, List.setIfInBounds_toArray, List.set_cons_zero, List.set_cons_succ]
              clear HE1 HE2 HE3 HR6 T6 T6a
              go_wp2
              go_roundw
              case rel => exact ⟨j + 1, _, rfl, by go_num, by omega, by rw [HNX.out]; exact T7⟩
              case measure => simp [intOf]; omega
          · have hy0b : (y.1 == 0) = false := by simpa using hy0
            have HNX : Hid (aloL r (A : Int) F (j + 1) = aloL r (A : Int) F j) := by show _ = _; rw [HMJ.out, if_neg (fun h => hy0 h.1), List.append_nil]
            go_wp2
            go_roundw
            case rel => exact ⟨j + 1, _, rfl, by go_num, by omega, by rw [HNX.out]; exact hT⟩
            case measure => simp [intOf]; omega
        · have hnl : ¬ (j : Int) < ((r.length : Nat) : Int) := by omega
          obtain rfl : j = r.length := by omega
          have HTE : Hid (ExpAt w w4 #[.int .i64 za, .slice (some ⟨ba, oa, none⟩) na capa] #[.int .i64 zb, .slice (some ⟨bb, ob, none⟩) nb capb] #[.int .i64 (A : Int), .int .i64 (B : Int), .int .i64 F] vo (expL l r ((A : Int), (B : Int), F))) := by have h9 := hT.out; rw [← HEX.out] at h9; exact h9
          have hhl : (expL l r ((A : Int), (B : Int), F)).length ≤ 200000 := by
            have h8 := aloL_len r (A : Int) F r.length
            rw [HEX.out, List.length_append]
            omega
          clear hT HEX
          obtain ⟨hs, hhs⟩ : ∃ hs, expL l r ((A : Int), (B : Int), F) = hs := ⟨_, rfl⟩
          rw [hhs] at HTE HSM hhl
          have HHS := hidP hhs
          clear hhs
          obtain ⟨a5, c5, hv5, hcl⟩ := HTE.out.own.row.get
          have HCL := hidP hcl
          subst hv5
          clear hcl
          go_wp2
          go_loopw [17] (fun s17 wr => ∃ (k : Nat), s17 = .int .i64 (k : Int) ∧ k ≤ hs.length ∧ wr = w4 ∧ Hid (ovH (hs.take k) = false)) (fun s17 _ => hs.length - (intOf s17).toNat)
          case atStart => exact ⟨0, rfl, Nat.zero_le _, rfl, ovH_nil⟩
          case round =>
            obtain ⟨k, rfl, hk, rfl, hany⟩ := hrel
            by_cases hkl : k < hs.length
            · obtain ⟨b7, o7, ha7, hb7, _, _, c2, _⟩ := HCL.out k hkl
              subst ha7
              have hsm := HSM.out (el hs k) (el_mem hkl)
              have HNX := hidP (ovH_take hkl hany.out)
              have HOV : Hid (1000000000 < (el hs k).2.2.1 → ovH hs = true) := ovH_mem hkl
              have k0 : (0 : Int) ≤ (k : Int) := Int.natCast_nonneg _
              have k1 : (k : Int) < ((hs.length : Nat) : Int) := by omega
              generalize (el hs k).2.2.1 = wt at *
              by_cases hov : (1000000000 : Int) < wt
              · go_wp2
                go_returns
                exact .inr ⟨⟨_, rfl, OwnH.nil _ _, HTE.out.below⟩, by rw [HHS.out]; exact HOV.out hov⟩
              · go_wp2
                go_roundw
                case rel => exact ⟨k + 1, by go_num, by omega, by first | rfl | trivial, HNX.out hov⟩
                case measure => simp [intOf]; omega
            · have hnl : ¬ (k : Int) < ((hs.length : Nat) : Int) := by omega
              obtain rfl : k = hs.length := by omega
              go_wp2
              go_returns
              exact .inl ⟨⟨_, rfl, by rw [HHS.out]; exact ownMono HTE.out.own (by omega), HTE.out.below⟩, by have h9 := hany.out; rw [List.take_length] at h9; rw [HHS.out]; exact h9⟩
end Go.Proofs.Ythcfkiinjcbajaa.Wt
