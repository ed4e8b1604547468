/- The statement DistanceMeets: whatever numbers a machine is made of, the cheapest path is the least, over all states, of the way there and of ending there, for every input and without any condition. -/
import Derived.Test.YtibafdehgmalgaaMd
import Derived.Test.YtibafdehgmalgaaKe
import Derived.Test.YtibafdehgmalgaaKj
import Derived.Test.YtibafdehgmalgaaWy
import Derived.Test.YtibafdehgmalgaaKb
import Derived.Test.YtibafdehgmalgaaPlainDf
import Derived.Test.YtibafdehgmalgaaRg
import Derived.Test.YtibafdehgmalgaaLo
import Derived.Lib.SmallJoins
import Derived.ChangeOld
import Derived.Below
namespace Go.Proofs.Ytibafdehgmalgaa.distanceMeets
open Go.ChangeShapes Go.WideShapes Go.ChangeAt Go.RowKit
open Go.Proofs.Ytibafdehgmalgaa.Pl Go.Proofs.Ytibafdehgmalgaa.Wt
set_option linter.unusedVariables false
set_option linter.unusedSimpArgs false

theorem own : ownKnob Try.prog.godebug = none := by kernel_rfl
theorem laidOut : laidOutB Try.prog = true := by kernel_rfl
def HeldM (b1 o1 : Nat) (x : Int) (vb : Nat) (vs : Value) (b2 o2 : Nat) (y : Int) (w : World) : Prop := w.cell? ⟨b1, o1, none⟩ = some (.int .i64 x) ∧ w.cell? ⟨vb, 1, none⟩ = some vs ∧ w.cell? ⟨b2, o2, none⟩ = some (.int .i64 y)
theorem fin_may {m : Mc} (hr : faultM m = 0) {q : Nat} (hq : q < m.2.length) : 0 ≤ (el m.2 q).1 ∧ (el m.2 q).1 ≤ 1000000001 := by
  have h1 := (right_states hr q hq).1
  simp only [finB, Bool.or_eq_true, inB, Bool.and_eq_true, decide_eq_true_eq, beq_iff_eq] at h1
  omega
set_option maxRecDepth 100000 in
set_option maxHeartbeats 3200000 in
theorem core (vx : Value) (rx : Rw) (w : World) (hx : RawV w vx rx ∧ okR rx ∧ wfR rx) :
    Calls Try.prog 8 #[vx] w fun e w' => e = .returned (.bool true) ∧ Below w.heap.size w w' := by
  obtain ⟨hx, hokx, hwfx⟩ := hx
  have HIx : Hid (RawV w vx rx) := hx
  have HOKx : Hid (okR rx) := hokx
  have HWFx : Hid (wfR rx) := hwfx
  obtain ⟨hfx, hcx, hlx, hax, hpx⟩ := made_facts rx 8 (by omega) (by omega)
  have HEx : Hid (∀ v W, RawV W v rx → okR rx → wfR rx → Calls Try.prog 18 #[v, .int .i64 8, .bool false] W fun e w' => ∃ v', e = .returned v' ∧ Mach w' v' (madeM rx 8 false) ∧ Below W.heap.size W w') := fun v W h1 h2 h3 => made_any v rx 8 false W h1 h2 h3 (by omega) (by omega)
  obtain ⟨vs0x, rfl, hNx⟩ := hx
  obtain ⟨a0x, c0x, rfl, hNxx⟩ := hNx.get
  clear hNx hNxx hokx hwfx
  have hz := made_start rx 8 false (by omega)
  have HCn : Hid (∀ W v, Mach W v (madeM rx 8 false) → Calls Try.prog 16 #[v] W fun e w' => ∃ x : Int, e = .returned (.tuple #[.int .i64 x, .int .i64 0]) ∧ CstIs (EndC (madeM rx 8 false).2 (madeM rx 8 false).1.toNat) x ∧ Below W.heap.size W w') := fun W v h1 => least_cst v _ W h1 hfx hcx hz
  have HCf : Hid (∀ W v, Mach W v (madeM rx 8 false) → Calls Try.prog 10 #[v] W fun e w' => DstRes (madeM rx 8 false) (FarC (madeM rx 8 false).1 (madeM rx 8 false).2) W e w') := fun W v h1 => from_cst v _ W h1 hfx hcx
  have HCe : Hid (∀ W v, Mach W v (madeM rx 8 false) → Calls Try.prog 14 #[v] W fun e w' => DstRes (madeM rx 8 false) (EndC (madeM rx 8 false).2) W e w') := fun W v h1 => ends_cst v _ W h1 hfx hcx
  have HFB : Hid (∀ (L : List Int) (n v : Int), CstIs (EndC (madeM rx 8 false).2 (madeM rx 8 false).1.toNat) n → (∀ q, q < (madeM rx 8 false).2.length → CstIs (FarC (madeM rx 8 false).1 (madeM rx 8 false).2 q) (el L q)) → MinOf (ToK (madeM rx 8 false).2.length) (fun i _ => bothI (el L i) (el (madeM rx 8 false).2 i).1) v → n = v) := fun L n v h1 h2 h3 => meets_by hfx hcx hz h1 h2 h3
  have HFO : Hid (∀ (L K : List Int) (n v : Int), CstIs (EndC (madeM rx 8 false).2 (madeM rx 8 false).1.toNat) n → (∀ q, q < (madeM rx 8 false).2.length → CstIs (FarC (madeM rx 8 false).1 (madeM rx 8 false).2 q) (el L q)) → (∀ q, q < (madeM rx 8 false).2.length → CstIs (EndC (madeM rx 8 false).2 q) (el K q)) → MinOf (ToK (madeM rx 8 false).2.length) (fun i _ => bothI (el L i) (el K i)) v → n = v) := fun L K n v h1 h2 h3 h4 => meets_on hfx hz h1 h2 h3 h4
  have HFM : Hid (∀ q, q < (madeM rx 8 false).2.length → 0 ≤ (el (madeM rx 8 false).2 q).1 ∧ (el (madeM rx 8 false).2 q).1 ≤ 1000000001) := fun q hq => fin_may hfx hq
  have HST : Hid (0 ≤ (madeM rx 8 false).1 ∧ (madeM rx 8 false).1 < ((madeM rx 8 false).2.length : Int)) := ⟨hz, start_lt hfx⟩
  have h8 : (madeM rx 8 false).2.length ≤ 8 := hlx
  clear hfx hcx hax hpx hlx hz
  generalize madeM rx 8 false = Mx at *
  have HB0 : Hid (∀ o1, Below w.heap.size w (w.alloc o1)) := fun o1 => (Below.refl _ _).alloc (Nat.le_refl _) _
  go_enter Try.func8, Try.ntmps8
  go_wp2_with (first
    | (go_at_call 18; (with_reducible refine (HEx.out _ _ (HIx.out.later (HB0.out _) (Nat.le_refl _)) HOKx.out HWFx.out).mono ?_); rintro e w1 ⟨v1, rfl, hm, hb⟩; have HMx : Hid (Mach w1 v1 (Mx)) := hm; obtain ⟨vsx, rfl, hSx⟩ := hm; obtain ⟨ax, cx, rfl⟩ := hSx.sl; clear hSx; obtain ⟨s1, bb0, hb1⟩ := boxed hb (by simp); have KX1 := hidP bb0; clear bb0; have HB1 := hidP hb1; have qX0 := (KX1.out.alloc (.cells #[.int .i64 Mx.1, .slice ax Mx.2.length cx] 24)).cell 0 (v := .int .i64 rx.1) rfl; have qX1 := (KX1.out.alloc (.cells #[.int .i64 Mx.1, .slice ax Mx.2.length cx] 24)).cell 1 (v := .slice a0x rx.2.length c0x) rfl; clear hb hb1)
    | (go_at_call 16; (with_reducible refine (HCn.out _ _ (HMx.out.later ((Below.refl _ _).alloc (Nat.le_refl _) _) (Nat.le_refl _))).mono ?_); rintro e w2 ⟨nn, rfl, hq, hb⟩; obtain ⟨s2, bb0, hb2⟩ := boxed hb (by simp); have KVx2 := hidP bb0; clear bb0; have HB2 := hidP (HB1.out.trans (hb2.mono HB1.out.size)); have KX2 := hidP (KX1.out.below hb2 KX1.out.lt); have Hx2 := hidP hb2; have qX0 := KX2.out.cell 0 (v := .int .i64 rx.1) rfl; have qX1 := KX2.out.cell 1 (v := .slice a0x rx.2.length c0x) rfl; have qVx0 := KVx2.out.cell 0 (v := .int .i64 Mx.1) rfl; have qVx1 := KVx2.out.cell 1 (v := .slice ax Mx.2.length cx) rfl; have HQn := hidP hq; clear hq; clear hb hb2)
    | (go_at_call 10; (with_reducible refine (HCf.out _ _ (HMx.out.later Hx2.out (Nat.le_refl _))).mono ?_); rintro e w3 ⟨v3, Ll, rfl, hq, hn, hb⟩; have HQl := hidP hq; have HNl : Hid (Nums w3 v3 Ll) := hn; obtain ⟨awl, cwl, hv, _⟩ := hn.get; rw [hq.1] at hv; subst hv; clear hq hn; have hb3 := hb; have HB3 := hidP (HB2.out.trans (hb3.mono HB2.out.size)); have KX3 := hidP (KX2.out.below hb3 KX2.out.lt); have KVx3 := hidP (KVx2.out.below hb3 KVx2.out.lt); have Hx3 := hidP (Hx2.out.trans (hb3.mono Hx2.out.size)); have qX0 := KX3.out.cell 0 (v := .int .i64 rx.1) rfl; have qX1 := KX3.out.cell 1 (v := .slice a0x rx.2.length c0x) rfl; have qVx0 := KVx3.out.cell 0 (v := .int .i64 Mx.1) rfl; have qVx1 := KVx3.out.cell 1 (v := .slice ax Mx.2.length cx) rfl; clear hb hb3)
    | (go_at_call 14; (with_reducible refine (HCe.out _ _ (HMx.out.later Hx3.out (Nat.le_refl _))).mono ?_); rintro e w4 ⟨v4, Lk, rfl, hq, hn, hb⟩; have HQk := hidP hq; have HNk : Hid (Nums w4 v4 Lk) := hn; obtain ⟨awk, cwk, hv, _⟩ := hn.get; rw [hq.1] at hv; subst hv; clear hq hn; have hb4 := hb; have HB4 := hidP (HB3.out.trans (hb4.mono HB3.out.size)); have KX4 := hidP (KX3.out.below hb4 KX3.out.lt); have KVx4 := hidP (KVx3.out.below hb4 KVx3.out.lt); have Hx4 := hidP (Hx3.out.trans (hb4.mono Hx3.out.size)); have Hl4 := hidP hb4; have qX0 := KX4.out.cell 0 (v := .int .i64 rx.1) rfl; have qX1 := KX4.out.cell 1 (v := .slice a0x rx.2.length c0x) rfl; have qVx0 := KVx4.out.cell 0 (v := .int .i64 Mx.1) rfl; have qVx1 := KVx4.out.cell 1 (v := .slice ax Mx.2.length cx) rfl; clear hb hb4))
  obtain ⟨_, _, e1, g1⟩ := (HNl.out.later Hl4.out (Nat.le_refl _)).get
  obtain ⟨_, _, e2, g2⟩ := HNk.out.get
  rw [HQl.out.1] at e1 g1
  rw [HQk.out.1] at e2 g2
  simp only [Value.slice.injEq, true_and] at e1 e2
  obtain ⟨rfl, rfl⟩ := e1
  obtain ⟨rfl, rfl⟩ := e2
  obtain ⟨_, he, hS⟩ := HMx.out.later Hx4.out (Nat.le_refl _)
  simp only [Value.agg.injEq, Array.mk.injEq, List.cons.injEq, and_true, true_and] at he
  subst he
  obtain ⟨_, _, e3, g3⟩ := hS.get
  simp only [Value.slice.injEq, true_and] at e3
  obtain ⟨rfl, rfl⟩ := e3
  have G1 := hidP g1
  have G2 := hidP g2
  have G3 := hidP g3
  have HLA := hidP HQl.out.2
  have HKA := hidP HQk.out.2
  have HE1 := hidP (fun v h => HFB.out Ll nn v HQn.out HLA.out h)
  have HE2 := hidP (fun v h => HFO.out Ll Lk nn v HQn.out HLA.out HKA.out h)
  have HE3 : Hid (el Lk Mx.1.toNat = nn) := by
    have h1 := HKA.out Mx.1.toNat (by have := HST.out; omega)
    exact h1.eq HQn.out (fun c => Iff.rfl)
  clear g1 g2 g3 hS HFB HFO
  generalize hn : Mx.2.length = n at *
  have HNN := hidP hn
  clear hn
  obtain ⟨F1, hF1⟩ : ∃ F1 : Nat → Nat → Int, (fun i _ => bothI (el Ll i) (el Mx.2 i).1) = F1 := ⟨_, rfl⟩
  obtain ⟨F2, hF2⟩ : ∃ F2 : Nat → Nat → Int, (fun i _ => bothI (el Ll i) (el Lk i)) = F2 := ⟨_, rfl⟩
  have HF1 : Hid (∀ j, F1 j 0 = bothI (el Ll j) (el Mx.2 j).1) := fun j => by rw [← hF1]
  have HF2 : Hid (∀ j, F2 j 0 = bothI (el Ll j) (el Lk j)) := fun j => by rw [← hF2]
  rw [hF1] at HE1
  rw [hF2] at HE2
  clear hF1 hF2
  go_loopw [10, 11, 12] (fun b o i wr => ∃ (j : Nat) (bi oi : Int), j ≤ n ∧ i = .int .i64 j ∧ b = .int .i64 bi ∧ o = .int .i64 oi ∧ Hid (MinOf (ToK j) F1 bi) ∧ Hid (MinOf (ToK j) F2 oi) ∧ Hid (Below w4.heap.size w4 wr)) (fun _ _ i _ => n - (intOf i).toNat)
  case atStart => exact ⟨0, 1000000001, 1000000001, Nat.zero_le _, rfl, rfl, rfl, MinOf.none toK_none, MinOf.none toK_none, Below.refl _ _⟩
  case round =>
    obtain ⟨j, bi, oi, hj, rfl, rfl, rfl, hmb, hmo, hbj⟩ := hrel
    have KX := hidP (KVx4.out.below hbj.out KVx4.out.lt)
    by_cases hlt : j < n
    · obtain ⟨b1, o1, rfl, hb1, c1⟩ := G1.out j hlt
      obtain ⟨b2, o2, rfl, hb2, c2⟩ := G2.out j hlt
      obtain ⟨b3, o3, va, rfl, hb3, c3, _, _⟩ := G3.out j hlt
      have c1 := (hbj.out.cell (p := ⟨b1, o1 + j, none⟩) hb1).trans c1
      have c2 := (hbj.out.cell (p := ⟨b2, o2 + j, none⟩) hb2).trans c2
      have c3 := (hbj.out.cell (p := ⟨b3, o3 + j * 2, none⟩) hb3).trans c3
      have r1 := cst_most (HLA.out j hlt)
      have r2 := cst_most (HKA.out j hlt)
      have r3 := HFM.out j hlt
      have HM1 := hidP (hmb.out.more (i := j) (j := 0) (toK_step j))
      have HM2 := hidP (hmo.out.more (i := j) (j := 0) (toK_step j))
      rw [HF1.out] at HM1
      rw [HF2.out] at HM2
      have HB1 := hidP (fun W => both_any (el Ll j) (el Mx.2 j).1 W ⟨r1.1, r1.2.1⟩ r3)
      have HB2 := hidP (fun W => both_any (el Ll j) (el Lk j) W ⟨r1.1, r1.2.1⟩ ⟨r2.1, r2.2.1⟩)
      unfold bothI at HM1 HM2
      generalize (if el Ll j = 1000000001 ∨ (el Mx.2 j).1 = 1000000001 then 1000000001 else el Ll j + (el Mx.2 j).1) = y1 at *
      generalize (if el Ll j = 1000000001 ∨ el Lk j = 1000000001 then 1000000001 else el Ll j + el Lk j) = y2 at *
      generalize el Ll j = x1 at *
      generalize el Lk j = x2 at *
      generalize (el Mx.2 j).1 = x3 at *
      clear r1 r2 r3 hmb hmo
      have k0 : (0 : Int) ≤ (j : Int) := by omega
      have k1 : (j : Int) < (n : Int) := by omega
      go_wp2
      have x1c := KX.out.cell 1 (v := .slice (some ⟨b3, o3, none⟩) n cx) rfl
      have HS : HeldM b1 (o1 + j) x1 w1.heap.size (.slice (some ⟨b3, o3, none⟩) n cx) b3 (o3 + j * 2) x3 wr.drew := ⟨c1, x1c, c3⟩
      refine region_anyL (HeldM b1 (o1 + j) x1 w1.heap.size (.slice (some ⟨b3, o3, none⟩) n cx) b3 (o3 + j * 2) x3) 100 (by kernel_rfl) ?_
      refine anyL_take (i := 0) (v := ?v0_1) at0 (by kernel_rfl) (by kernel_rfl) (by kernel_rfl) (by kernel_rfl) (fun _ _ _ h => h) rfl ?y0_1 HS ?r0_1
      case y0_1 => intro wx hx; obtain ⟨h1, h2, h3⟩ := hx; go_simp; try (with_reducible rfl)
      simp only [Act.put, List.setIfInBounds_toArray, List.set_cons_zero, List.set_cons_succ]
      refine anyL_take (i := 1) (v := ?v1_2) (atS at0) (by kernel_rfl) (by kernel_rfl) (by kernel_rfl) (by kernel_rfl) (fun _ _ _ h => h) rfl ?y1_2 HS ?r1_2
      case y1_2 => intro wx hx; obtain ⟨h1, h2, h3⟩ := hx; go_simp; try (with_reducible rfl)
      simp only [Act.put, List.setIfInBounds_toArray, List.set_cons_zero, List.set_cons_succ]
      refine anyL_take (i := 2) (v := ?v2_3) (atS (atS at0)) (by kernel_rfl) (by kernel_rfl) (by kernel_rfl) (by kernel_rfl) (fun _ _ _ h => h) rfl ?y2_3 HS ?r2_3
      case y2_3 => intro wx hx; obtain ⟨h1, h2, h3⟩ := hx; go_simp; try (with_reducible rfl)
      simp only [Act.put, List.setIfInBounds_toArray, List.set_cons_zero, List.set_cons_succ]
      refine anyL_take (i := 3) (v := ?v3_4) (atS (atS (atS at0))) (by kernel_rfl) (by kernel_rfl) (by kernel_rfl) (by kernel_rfl) (fun _ _ _ h => h) rfl ?y3_4 HS ?r3_4
      case y3_4 => intro wx hx; obtain ⟨h1, h2, h3⟩ := hx; go_simp; try (with_reducible rfl)
      simp only [Act.put, List.setIfInBounds_toArray, List.set_cons_zero, List.set_cons_succ]
      refine anyL_take (i := 4) (v := ?v4_5) (atS (atS (atS (atS at0)))) (by kernel_rfl) (by kernel_rfl) (by kernel_rfl) (by kernel_rfl) (fun _ _ _ h => h) rfl ?y4_5 HS ?r4_5
      case y4_5 => intro wx hx; obtain ⟨h1, h2, h3⟩ := hx; go_simp; try (with_reducible rfl)
      simp only [Act.put, List.setIfInBounds_toArray, List.set_cons_zero, List.set_cons_succ]
      refine anyL_take (i := 5) (v := ?v5_6) (atS (atS (atS (atS (atS at0))))) (by kernel_rfl) (by kernel_rfl) (by kernel_rfl) (by kernel_rfl) (fun _ _ _ h => h) rfl ?y5_6 HS ?r5_6
      case y5_6 => intro wx hx; obtain ⟨h1, h2, h3⟩ := hx; go_simp; try (with_reducible rfl)
      simp only [Act.put, List.setIfInBounds_toArray, List.set_cons_zero, List.set_cons_succ]
      refine anyL_take (i := 6) (v := ?v6_7) (atS (atS (atS (atS (atS (atS at0)))))) (by kernel_rfl) (by kernel_rfl) (by kernel_rfl) (by kernel_rfl) (fun _ _ _ h => h) rfl ?y6_7 HS ?r6_7
      case y6_7 => intro wx hx; obtain ⟨h1, h2, h3⟩ := hx; go_simp; try (with_reducible rfl)
      simp only [Act.put, List.setIfInBounds_toArray, List.set_cons_zero, List.set_cons_succ]
      refine anyL_take (i := 7) (v := ?v7_8) (atS (atS (atS (atS (atS (atS (atS at0))))))) (by kernel_rfl) (by kernel_rfl) (by kernel_rfl) (by kernel_rfl) (fun _ _ _ h => h) rfl ?y7_8 HS ?r7_8
      case y7_8 => intro wx hx; obtain ⟨h1, h2, h3⟩ := hx; go_simp; try (with_reducible rfl)
      simp only [Act.put, List.setIfInBounds_toArray, List.set_cons_zero, List.set_cons_succ]
      refine anyL_take (i := 8) (v := ?v8_9) (atS (atS (atS (atS (atS (atS (atS (atS at0)))))))) (by kernel_rfl) (by kernel_rfl) (by kernel_rfl) (by kernel_rfl) (fun _ _ _ h => h) rfl ?y8_9 HS ?r8_9
      case y8_9 => intro wx hx; obtain ⟨h1, h2, h3⟩ := hx; go_simp; try (with_reducible rfl)
      simp only [Act.put, List.setIfInBounds_toArray, List.set_cons_zero, List.set_cons_succ]
      refine anyL_take (i := 9) (v := ?v9_10) (atS (atS (atS (atS (atS (atS (atS (atS (atS at0))))))))) (by kernel_rfl) (by kernel_rfl) (by kernel_rfl) (by kernel_rfl) (fun _ _ _ h => h) rfl ?y9_10 HS ?r9_10
      case y9_10 => intro wx hx; obtain ⟨h1, h2, h3⟩ := hx; go_simp; try (with_reducible rfl)
      simp only [Act.put, List.setIfInBounds_toArray, List.set_cons_zero, List.set_cons_succ]
      refine anyL_take (i := 10) (v := ?v10_11) (atS (atS (atS (atS (atS (atS (atS (atS (atS (atS at0)))))))))) (by kernel_rfl) (by kernel_rfl) (by kernel_rfl) (by kernel_rfl) (fun _ _ _ h => h) rfl ?y10_11 HS ?r10_11
      case y10_11 => intro wx hx; obtain ⟨h1, h2, h3⟩ := hx; go_simp; try (with_reducible rfl)
      simp only [Act.put, List.setIfInBounds_toArray, List.set_cons_zero, List.set_cons_succ]
      refine anyL_one (i := 11) (atS (atS (atS (atS (atS (atS (atS (atS (atS (atS (atS at0))))))))))) (by kernel_rfl) rfl (fun K hK => ?_)
      go_simp
      refine (HB1.out _).mono ?_
      rintro e w' ⟨rfl, rfl⟩
      refine hK _ _ (.inr HS) ?_
      try simp only [Act.put, List.setIfInBounds_toArray, List.set_cons_zero, List.set_cons_succ]
      refine anyL_one (i := 12) (atS (atS (atS (atS (atS (atS (atS (atS (atS (atS (atS (atS at0)))))))))))) (by kernel_rfl) rfl (fun K hK => ?_)
      go_simp
      rw [show (if y1 < bi then y1 else bi) = min bi y1 by split <;> omega]
      generalize min bi y1 = u1 at *
      refine hK _ _ (.inr HS) ?_
      try simp only [Act.put, List.setIfInBounds_toArray, List.set_cons_zero, List.set_cons_succ]
      refine anyL_one (i := 13) (atS (atS (atS (atS (atS (atS (atS (atS (atS (atS (atS (atS (atS at0))))))))))))) (by kernel_rfl) rfl (fun K hK => ?_)
      go_simp
      refine hK _ _ (.inr HS) (anyL_done (by kernel_rfl) (NoPanic.normal ?_))
      try simp only [Act.put, List.setIfInBounds_toArray, List.set_cons_zero, List.set_cons_succ]
      clear HS
      go_wp2
      have HT : HeldM b1 (o1 + j) x1 w1.heap.size (.slice (some ⟨b3, o3, none⟩) n cx) b2 (o2 + j) x2 wr.drew.drew := ⟨c1, x1c, c2⟩
      refine region_anyL (HeldM b1 (o1 + j) x1 w1.heap.size (.slice (some ⟨b3, o3, none⟩) n cx) b2 (o2 + j) x2) 100 (by kernel_rfl) ?_
      refine anyL_take (i := 0) (v := ?v0_12) at0 (by kernel_rfl) (by kernel_rfl) (by kernel_rfl) (by kernel_rfl) (fun _ _ _ h => h) rfl ?y0_12 HT ?r0_12
      case y0_12 => intro wx hx; obtain ⟨h1, h2, h3⟩ := hx; go_simp; try (with_reducible rfl)
      simp only [Act.put, List.setIfInBounds_toArray, List.set_cons_zero, List.set_cons_succ]
      refine anyL_take (i := 1) (v := ?v1_13) (atS at0) (by kernel_rfl) (by kernel_rfl) (by kernel_rfl) (by kernel_rfl) (fun _ _ _ h => h) rfl ?y1_13 HT ?r1_13
      case y1_13 => intro wx hx; obtain ⟨h1, h2, h3⟩ := hx; go_simp; try (with_reducible rfl)
      simp only [Act.put, List.setIfInBounds_toArray, List.set_cons_zero, List.set_cons_succ]
      refine anyL_take (i := 2) (v := ?v2_14) (atS (atS at0)) (by kernel_rfl) (by kernel_rfl) (by kernel_rfl) (by kernel_rfl) (fun _ _ _ h => h) rfl ?y2_14 HT ?r2_14
      case y2_14 => intro wx hx; obtain ⟨h1, h2, h3⟩ := hx; go_simp; try (with_reducible rfl)
      simp only [Act.put, List.setIfInBounds_toArray, List.set_cons_zero, List.set_cons_succ]
      refine anyL_take (i := 3) (v := ?v3_15) (atS (atS (atS at0))) (by kernel_rfl) (by kernel_rfl) (by kernel_rfl) (by kernel_rfl) (fun _ _ _ h => h) rfl ?y3_15 HT ?r3_15
      case y3_15 => intro wx hx; obtain ⟨h1, h2, h3⟩ := hx; go_simp; try (with_reducible rfl)
      simp only [Act.put, List.setIfInBounds_toArray, List.set_cons_zero, List.set_cons_succ]
      refine anyL_take (i := 4) (v := ?v4_16) (atS (atS (atS (atS at0)))) (by kernel_rfl) (by kernel_rfl) (by kernel_rfl) (by kernel_rfl) (fun _ _ _ h => h) rfl ?y4_16 HT ?r4_16
      case y4_16 => intro wx hx; obtain ⟨h1, h2, h3⟩ := hx; go_simp; try (with_reducible rfl)
      simp only [Act.put, List.setIfInBounds_toArray, List.set_cons_zero, List.set_cons_succ]
      refine anyL_take (i := 5) (v := ?v5_17) (atS (atS (atS (atS (atS at0))))) (by kernel_rfl) (by kernel_rfl) (by kernel_rfl) (by kernel_rfl) (fun _ _ _ h => h) rfl ?y5_17 HT ?r5_17
      case y5_17 => intro wx hx; obtain ⟨h1, h2, h3⟩ := hx; go_simp; try (with_reducible rfl)
      simp only [Act.put, List.setIfInBounds_toArray, List.set_cons_zero, List.set_cons_succ]
      refine anyL_take (i := 6) (v := ?v6_18) (atS (atS (atS (atS (atS (atS at0)))))) (by kernel_rfl) (by kernel_rfl) (by kernel_rfl) (by kernel_rfl) (fun _ _ _ h => h) rfl ?y6_18 HT ?r6_18
      case y6_18 => intro wx hx; obtain ⟨h1, h2, h3⟩ := hx; go_simp; try (with_reducible rfl)
      simp only [Act.put, List.setIfInBounds_toArray, List.set_cons_zero, List.set_cons_succ]
      refine anyL_take (i := 7) (v := ?v7_19) (atS (atS (atS (atS (atS (atS (atS at0))))))) (by kernel_rfl) (by kernel_rfl) (by kernel_rfl) (by kernel_rfl) (fun _ _ _ h => h) rfl ?y7_19 HT ?r7_19
      case y7_19 => intro wx hx; obtain ⟨h1, h2, h3⟩ := hx; go_simp; try (with_reducible rfl)
      simp only [Act.put, List.setIfInBounds_toArray, List.set_cons_zero, List.set_cons_succ]
      refine anyL_take (i := 8) (v := ?v8_20) (atS (atS (atS (atS (atS (atS (atS (atS at0)))))))) (by kernel_rfl) (by kernel_rfl) (by kernel_rfl) (by kernel_rfl) (fun _ _ _ h => h) rfl ?y8_20 HT ?r8_20
      case y8_20 => intro wx hx; obtain ⟨h1, h2, h3⟩ := hx; go_simp; try (with_reducible rfl)
      simp only [Act.put, List.setIfInBounds_toArray, List.set_cons_zero, List.set_cons_succ]
      refine anyL_one (i := 9) (atS (atS (atS (atS (atS (atS (atS (atS (atS at0))))))))) (by kernel_rfl) rfl (fun K hK => ?_)
      go_simp
      refine (HB2.out _).mono ?_
      rintro e w' ⟨rfl, rfl⟩
      refine hK _ _ (.inr HT) ?_
      try simp only [Act.put, List.setIfInBounds_toArray, List.set_cons_zero, List.set_cons_succ]
      refine anyL_one (i := 10) (atS (atS (atS (atS (atS (atS (atS (atS (atS (atS at0)))))))))) (by kernel_rfl) rfl (fun K hK => ?_)
      go_simp
      rw [show (if y2 < oi then y2 else oi) = min oi y2 by split <;> omega]
      generalize min oi y2 = u2 at *
      refine hK _ _ (.inr HT) ?_
      try simp only [Act.put, List.setIfInBounds_toArray, List.set_cons_zero, List.set_cons_succ]
      refine anyL_one (i := 11) (atS (atS (atS (atS (atS (atS (atS (atS (atS (atS (atS at0))))))))))) (by kernel_rfl) rfl (fun K hK => ?_)
      go_simp
      refine hK _ _ (.inr HT) (anyL_done (by kernel_rfl) (NoPanic.normal ?_))
      try simp only [Act.put, List.setIfInBounds_toArray, List.set_cons_zero, List.set_cons_succ]
      clear HT
      go_wp2
      go_roundw
      case rel => exact ⟨j + 1, u1, u2, by omega, by go_num, rfl, rfl, HM1, HM2, hbj.out.drew.drew⟩
      case measure => simp [intOf]; omega
    · have k1 : ¬ (j : Int) < (n : Int) := by omega
      obtain rfl : n = j := by omega
      have hb : nn = bi := HE1.out bi hmb.out
      have ho : nn = oi := HE2.out oi hmo.out
      subst hb
      subst ho
      have x0 := KX.out.cell 0 (v := .int .i64 Mx.1) rfl
      obtain ⟨zs, hzs⟩ : ∃ zs : Nat, Mx.1 = (zs : Int) := ⟨Mx.1.toNat, by have := HST.out; omega⟩
      have hzl : zs < n := by have := HST.out; omega
      have he3 : el Lk zs = nn := by have := HE3.out; rw [hzs] at this; exact this
      obtain ⟨b2, o2, rfl, hb2, c2⟩ := G2.out zs hzl
      have c2 := (hbj.out.cell (p := ⟨b2, o2 + zs, none⟩) hb2).trans c2
      rw [he3] at c2
      rw [hzs] at x0
      have q1 : (nn == nn) = true := by simp
      have q2 : (0 : Int) ≤ (zs : Int) := by omega
      have q3 : (zs : Int) < (n : Int) := by omega
      clear he3 hzs
      go_wp2
      go_ret
      exact ⟨rfl, HB4.out.trans (hbj.out.mono HB4.out.size)⟩
theorem walk (vx : Value) (rx : Rw) (w : World) (hx : RawV w vx rx ∧ okR rx ∧ wfR rx) :
    Calls Try.prog 8 #[vx] w fun e w' => e = .returned (.bool true) ∧ Below w.heap.size w w' := core vx rx w hx

set_option maxRecDepth 100000 in
theorem lifted (os : Os) (started : os.Started) (H : Type) (enc : TypeId × Value → H) :
    ReturnsInHanded {} Try.checked os 8 .any (Rows.distanceMeetsSpec.pre6 enc Try.prog Try.f8 Rows.distanceMeetsRow.domain false) (Rows.distanceMeetsSpec.post enc Try.prog Try.f8 false true false false) := by
  refine returnsInHanded_of_change_sized (C := Try.checked) own started (by kernel_rfl) Try.func8
    (ChangeSpec.witness6 (enc := enc) (C := Try.checked) false ⟨#[], #[.agg #[.int .i64 0, .slice none 0 0]], []⟩ 8 (by kernel_rfl) (by kernel_rfl) (by kernel_rfl) (by kernel_rfl)) ?_
  intro W base args ds gs before hval0 hW hcnd hsz0 _
  have hsz : (DataW.weightsEach Try.prog (Try.f8.params.toList ++ Rows.distanceMeetsSpec.plain.varTypes Try.prog) (ds ++ gs)).all (· ≤ reachBytes) = true := hsz0
  have hval : ∀ (j : Nat) t v, Try.f8.params[j]? = some t → args[j]? = some v → Value.okWide Try.prog W .any base t v := hval0
  clear hval0 hsz0
  have hW' := hW
  obtain ⟨p, q, hA0, hV, rfl, hfz, hnd⟩ := hW
  have hA : DataW.TrodAll enc Try.prog W 0 (fun _ => true) true Try.f8.params.toList args.toList ds p := hA0
  rw [Try.params8] at hA hval hsz
  obtain ⟨v0, vs0, d0, ds0, p0, q0, hargs, rfl, rfl, h0, r0⟩ := trodAll_cons hA
  obtain ⟨rfl, rfl, rfl⟩ := trodAll_nil r0
  obtain rfl : args = #[v0] := by cases args; simp_all
  obtain ⟨rfl, rfl⟩ := trodVars_none hV
  have k0 := h0
  have lt0 : ∀ x ∈ p0, x.block < W.heap.size := by obtain ⟨m, hm⟩ := k0; exact DataW.trod_lt m _ _ _ hm
  obtain ⟨z0, w0⟩ : ∃ m : Rw, RawV W v0 m ∧ okR m ∧ wfR m := by
    obtain ⟨c0, c1, y0, y1, n, rfl, hd, hp, t0, t1⟩ := Go.Joins.open_agg2 Try.underlying37 (by kernel_rfl) (by kernel_rfl) (hval 0 37 v0 rfl rfl) h0
    subst hd
    exact open_raw t0 t1 ((Fits.arg hsz (j := 0) rfl rfl).field Try.underlying37 (f := 1) rfl rfl)
  refine (walk v0 z0 W w0).mono fun e W' ⟨he, bel⟩ => ?_
  subst he
  exact ⟨_, rfl, _, _, _, [], _, [], hW', trodAll_mk1 (shut_bool Try.underlying4 _), (trodAll_cons_mk (Below.trod laidOut (by kernel_rfl) (of_decide_eq_true (by kernel_rfl)) k0 bel lt0) trodAll_mk0), rfl, bel.frame _, fun h => by cases h⟩
end Go.Proofs.Ytibafdehgmalgaa.distanceMeets
namespace Go.Proofs.Ytibafdehgmalgaa
theorem distanceMeets_holds : Rows.DistanceMeetsSaid :=
  OpenClaim.holds_of_wide 8 Try.f8 rfl rfl rfl rfl rfl rfl rfl ⟨rfl, rfl, rfl, rfl, rfl⟩ rfl rfl rfl rfl rfl (by kernel_rfl) Try.func8 (by kernel_rfl)
    (of_decide_eq_true (by kernel_rfl)) (by unfold Func.isWrapper; first | (rw [if_pos (by decide +kernel)]; kernel_rfl) | (rw [if_neg (by decide +kernel)]; exact ⟨rfl, rfl⟩))
    (fun os started H enc _ => distanceMeets.lifted os started H enc)
#print axioms distanceMeets_holds
end Go.Proofs.Ytibafdehgmalgaa
