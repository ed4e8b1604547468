/- The best cut of two words, as the keeping statements ask. -/
import Derived.Test.YtnbiojjcebdljaaKi
import Derived.Test.YtnbiojjcebdljaaKj
import Derived.Test.YtnbiojjcebdljaaKk
import Derived.Test.YtnbiojjcebdljaaPlainWp
namespace Go.Proofs.Ytnbiojjcebdljaa.Wt
open Go.ChangeShapes Go.WideShapes Go.ChangeAt Go.RowKit
open Go.Proofs.Ytnbiojjcebdljaa.Pl
set_option linter.unusedVariables false
set_option linter.unusedSimpArgs false
theorem wrd_takeL {l : List Int} (h : wrdE l = 0) (i : Nat) : wrdE (l.take i) = 0 := by
  obtain ⟨h1, h2⟩ := wrd_parts h
  refine wrd_12 (by rw [List.length_take]; omega) fun n hn => ?_
  obtain ⟨j, hj, e⟩ := List.getElem_of_mem (List.mem_of_mem_take hn)
  have := h2 j hj
  rw [el_get hj, e] at this
  exact this
theorem wrd_dropL {l : List Int} (h : wrdE l = 0) (i : Nat) : wrdE (l.drop i) = 0 := by
  obtain ⟨h1, h2⟩ := wrd_parts h
  refine wrd_12 (by rw [List.length_drop]; omega) fun n hn => ?_
  obtain ⟨j, hj, e⟩ := List.getElem_of_mem (List.mem_of_mem_drop hn)
  have := h2 j hj
  rw [el_get hj, e] at this
  exact this
def HeldL2 (b : Nat) (z : Int) (v : Value) (w : World) : Prop := w.cell? ⟨b, 0, none⟩ = some (.int .i64 z) ∧ w.cell? ⟨b, 1, none⟩ = some v
set_option maxRecDepth 100000 in
set_option maxHeartbeats 1600000 in
theorem splits_any (va vb : Value) (a b : Mc) (ax ay : Option Addr) (cx cy : Nat) (x y : List Int) (w : World) (ha : Mach w va a) (hb : Mach w vb b) (fa : faultM a = 0) (fb : faultM b = 0) (ca : CheapL a.2) (cb : CheapL b.2) (nx : Nums w (.slice ax x.length cx) x) (hcx : x.length ≤ cx) (ny : Nums w (.slice ay y.length cy) y) (hcy : y.length ≤ cy) (ex : wrdE x = 0) (ey : wrdE y = 0) :
    Calls Try.prog 7 #[va, vb, .slice ax x.length cx, .slice ay y.length cy] w fun e w' => ∃ v : Int, e = .returned (.int .i64 v) ∧ (0 ≤ v ∧ ∀ n, CstIs (Costs (catM a b) x y) n → n = v) ∧ Below w.heap.size w w' := by
  have lx := (wrd_parts ex).1
  have ly := (wrd_parts ey).1
  obtain ⟨A, hA⟩ : ∃ A : Nat → Nat → Int, ∀ i j, CstIs (Costs a (x.take i) (y.take j)) (A i j) := by
    have h9 := fun i j => cst_exists (costs_bound (x := x.take i) (y := y.take j) fa ca (wrd_parts (wrd_takeL ex i)).1 (wrd_parts (wrd_takeL ey j)).1)
    exact ⟨fun i j => Classical.choose (h9 i j), fun i j => Classical.choose_spec (h9 i j)⟩
  obtain ⟨B, hB⟩ : ∃ B : Nat → Nat → Int, ∀ i j, CstIs (Costs b (x.drop i) (y.drop j)) (B i j) := by
    have h9 := fun i j => cst_exists (costs_bound (x := x.drop i) (y := y.drop j) fb cb (wrd_parts (wrd_dropL ex i)).1 (wrd_parts (wrd_dropL ey j)).1)
    exact ⟨fun i j => Classical.choose (h9 i j), fun i j => Classical.choose_spec (h9 i j)⟩
  have HCA : Hid (∀ i j W s t, Below w.heap.size w W → Nums W s (x.take i) → Nums W t (y.take j) → Calls Try.prog 8 #[va, s, t] W fun e w' => e = .returned (.int .i64 (A i j)) ∧ Below W.heap.size W w') := fun i j W s t h1 h2 h3 => (cost_any va s t _ _ _ W (ha.later h1 (Nat.le_refl _)) (right_ok fa) fa ca h2 h3 (wrd_takeL ex i) (wrd_takeL ey j)).mono fun e w' ⟨n, he, hc, hb⟩ => by
    have h0 := hc.eq (hA i j) (fun _ => Iff.rfl)
    subst h0
    exact ⟨he, hb⟩
  have HCB : Hid (∀ i j W s t, Below w.heap.size w W → Nums W s (x.drop i) → Nums W t (y.drop j) → Calls Try.prog 8 #[vb, s, t] W fun e w' => e = .returned (.int .i64 (B i j)) ∧ Below W.heap.size W w') := fun i j W s t h1 h2 h3 => (cost_any vb s t _ _ _ W (hb.later h1 (Nat.le_refl _)) (right_ok fb) fb cb h2 h3 (wrd_dropL ex i) (wrd_dropL ey j)).mono fun e w' ⟨n, he, hc, hb⟩ => by
    have h0 := hc.eq (hB i j) (fun _ => Iff.rfl)
    subst h0
    exact ⟨he, hb⟩
  have HBO : Hid (∀ i j W, Calls Try.prog 14 #[.int .i64 (A i j), .int .i64 (B i j)] W fun e w' => e = .returned (.int .i64 (bothI (A i j) (B i j))) ∧ W = w') := fun i j W => both_any _ _ W (hA i j).range (hB i j).range
  have HRG : Hid (∀ i j, 0 ≤ A i j ∧ 0 ≤ B i j ∧ 0 ≤ bothI (A i j) (B i j)) := fun i j => by
    have r1 := (hA i j).range
    have r2 := (hB i j).range
    unfold bothI
    split <;> omega
  have HEND : Hid (∀ v, MinOf (fun i j => i ≤ x.length ∧ j ≤ y.length) (fun i j => bothI (A i j) (B i j)) v → 0 ≤ v ∧ ∀ n, CstIs (Costs (catM a b) x y) n → n = v) := fun v hv => ⟨by
    rcases hv.1 with rfl | ⟨i, j, _, rfl⟩
    · omega
    · exact (HRG.out i j).2.2, fun n hn => best_cut (fun i j _ => hA i j) (fun i j _ => hB i j) (cut_all (right_ToIn fa) (right_ToIn fb) (start_lt fa) (start_lt fb) x y).1 (cut_all (right_ToIn fa) (right_ToIn fb) (start_lt fa) (start_lt fb) x y).2 hn hv⟩
  obtain ⟨G, hG⟩ : ∃ G : Nat → Nat → Int, ∀ i j, bothI (A i j) (B i j) = G i j := ⟨_, fun _ _ => rfl⟩
  simp only [hG] at HBO HRG HEND
  have HNX := hidP nx
  have HNY := hidP ny
  obtain ⟨za, la⟩ := a
  obtain ⟨zb, lb⟩ := b
  obtain ⟨vsa, rfl, hSa⟩ := ha
  obtain ⟨aa, ka, rfl⟩ := hSa.sl
  obtain ⟨vsb, rfl, hSb⟩ := hb
  obtain ⟨ab, kb, rfl⟩ := hSb.sl
  clear hG hA hB nx ny hSa hSb fa fb ca cb ex ey
  generalize (fun n => CstIs (Costs (catM (za, la) (zb, lb)) x y) n) = Q at *
  go_enter Try.func7, Try.ntmps7
  go_wp2
  have HM0 : Hid (MinOf (fun i j => Upto y.length 0 0 i j) G 1000000001) := MinOf.none (fun i j h => by unfold Upto at h; omega)
  obtain ⟨w0, hw0⟩ : ∃ w0, w0 = (w.alloc (.cells #[.int .i64 za, .slice aa la.length ka] 28)).alloc (.cells #[.int .i64 zb, .slice ab lb.length kb] 28) := ⟨_, rfl⟩
  have KA0 : Hid (Blk w0 w.heap.size #[.int .i64 za, .slice aa la.length ka] 28) := by rw [hw0]; exact (Blk.made w _ _).alloc _
  have KB0 : Hid (Blk w0 (w.heap.size + 1) #[.int .i64 zb, .slice ab lb.length kb] 28) := by
    rw [hw0]
    have h9 := Blk.made (w.alloc (.cells #[.int .i64 za, .slice aa la.length ka] 28)) #[.int .i64 zb, .slice ab lb.length kb] 28
    rwa [World.size_alloc] at h9
  have HW0 : Hid (Below w.heap.size w w0) := by rw [hw0]; exact ((Below.refl _ _).alloc (Nat.le_refl _) _).alloc (by simp) _
  rw [← hw0]
  clear hw0
  go_loopw [9, 10] (fun on i wr => ∃ (k : Nat) (v : Int), k ≤ x.length + 1 ∧ on = .int .i64 v ∧ i = .int .i64 k ∧ Hid (MinOf (fun i j => Upto y.length k 0 i j) G v) ∧ Hid (Below w0.heap.size w0 wr)) (fun _ i _ => x.length + 1 - (intOf i).toNat)
  case atStart => exact ⟨0, _, Nat.zero_le _, rfl, rfl, HM0, Below.refl _ _⟩
  case round =>
    clear HM0
    obtain ⟨k, v, hk, rfl, rfl, hmin, hb⟩ := hrel
    by_cases hkX : k ≤ x.length
    · have hk1 : (k : Int) ≤ (x.length : Int) := by omega
      have hk0 : (0 : Int) ≤ (k : Int) := by omega
      obtain ⟨sv1, r1, n1⟩ := cut_head HNX.out hcx hkX
      obtain ⟨sv2, r2, n2⟩ := cut_tail HNX.out hcx hkX
      have HR1 := hidP r1
      have HR2 := hidP r2
      have HN1 := hidP n1
      have HN2 := hidP n2
      clear r1 r2 n1 n2
      go_wp2
      obtain ⟨w7, rfl⟩ : ∃ w7, w7 = wr := ⟨_, rfl⟩
      go_loopw [9, 11] (fun on j wr => ∃ (l : Nat) (v : Int), l ≤ y.length + 1 ∧ on = .int .i64 v ∧ j = .int .i64 l ∧ Hid (MinOf (fun i j => Upto y.length k l i j) G v) ∧ Hid (Below w0.heap.size w0 wr)) (fun _ j _ => y.length + 1 - (intOf j).toNat)
      case atStart => exact ⟨0, _, Nat.zero_le _, rfl, rfl, hmin, hb⟩
      case round =>
        clear hmin hb
        obtain ⟨l, v, hl, rfl, rfl, hmin, hb⟩ := hrel
        by_cases hlY : l ≤ y.length
        · have hl1 : (l : Int) ≤ (y.length : Int) := by omega
          have hl0 : (0 : Int) ≤ (l : Int) := by omega
          have hwl : IntKind.i64.wrap ((l : Int) + 1) = (l : Int) + 1 := wrapI (by omega) (by omega)
          obtain ⟨sv3, r3, n3⟩ := cut_head HNY.out hcy hlY
          obtain ⟨sv4, r4, n4⟩ := cut_tail HNY.out hcy hlY
          have HR3 := hidP r3
          have HR4 := hidP r4
          have HN3 := hidP n3
          have HN4 := hidP n4
          clear r3 r4 n3 n4
          have HMIN : Hid (MinOf (fun i j => Upto y.length k (l + 1) i j) G (min v (G k l))) := hmin.out.more (T := fun i j => Upto y.length k (l + 1) i j) (i := k) (j := l) (fun i' j' => upto_step i' j')
          have HCAk := hidP (HCA.out k l)
          have HCBk := hidP (HCB.out k l)
          have HBOk := hidP (HBO.out k l)
          obtain ⟨gA0, gB0, gG0⟩ := HRG.out k l
          generalize A k l = gA at *
          generalize B k l = gB at *
          generalize G k l = gG at *
          have KA := hidP (KA0.out.below hb.out KA0.out.lt)
          have HW := hidP (HW0.out.trans (hb.out.mono HW0.out.size))
          have HS : HeldL2 w.heap.size za (.slice aa la.length ka) wr.drew := ⟨KA.out.drew.cell 0 rfl, KA.out.drew.cell 1 rfl⟩
          go_wp2
          refine region_anyL (HeldL2 w.heap.size za (.slice aa la.length ka)) 100 (by kernel_rfl) ?_
          refine anyL_take (i := 0) (v := ?v0_1) at0 (by kernel_rfl) (by kernel_rfl) (by kernel_rfl) (by kernel_rfl) (fun _ _ _ h => h) rfl ?y0_1 HS ?r0_1
          case y0_1 => intro wx hx; obtain ⟨h0, h1⟩ := hx; go_simp; try (with_reducible rfl)
          simp only [Act.put, List.setIfInBounds_toArray, List.set_cons_zero, List.set_cons_succ]
          refine anyL_take (i := 1) (v := ?v1_2) (atS at0) (by kernel_rfl) (by kernel_rfl) (by kernel_rfl) (by kernel_rfl) (fun _ _ _ h => h) rfl ?y1_2 HS ?r1_2
          case y1_2 => intro wx hx; obtain ⟨h0, h1⟩ := hx; go_simp; try (with_reducible rfl)
          simp only [Act.put, List.setIfInBounds_toArray, List.set_cons_zero, List.set_cons_succ]
          refine anyL_take (i := 2) (v := ?v2_3) (atS (atS at0)) (by kernel_rfl) (by kernel_rfl) (by kernel_rfl) (by kernel_rfl) (fun _ _ _ h => h) rfl ?y2_3 HS ?r2_3
          case y2_3 => intro wx hx; obtain ⟨h0, h1⟩ := hx; go_simp; try (with_reducible rfl)
          simp only [Act.put, List.setIfInBounds_toArray, List.set_cons_zero, List.set_cons_succ]
          refine anyL_take (i := 3) (v := ?v3_4) (atS (atS (atS at0))) (by kernel_rfl) (by kernel_rfl) (by kernel_rfl) (by kernel_rfl) (fun _ _ _ h => h) rfl ?y3_4 HS ?r3_4
          case y3_4 => intro wx hx; obtain ⟨h0, h1⟩ := hx; go_simp; try (with_reducible rfl)
          simp only [Act.put, List.setIfInBounds_toArray, List.set_cons_zero, List.set_cons_succ]
          refine anyL_take (i := 4) (v := sv1) (atS (atS (atS (atS at0)))) (by kernel_rfl) (by kernel_rfl) (by kernel_rfl) (by kernel_rfl) (fun _ _ _ h => h) rfl ?y4_13 HS ?r4_13
          case y4_13 => intro wx hx; exact run_exec_slice rfl (HR1.out wx)
          simp only [Act.put, List.setIfInBounds_toArray, List.set_cons_zero, List.set_cons_succ]
          refine anyL_take (i := 5) (v := ?v5_5) (atS (atS (atS (atS (atS at0))))) (by kernel_rfl) (by kernel_rfl) (by kernel_rfl) (by kernel_rfl) (fun _ _ _ h => h) rfl ?y5_5 HS ?r5_5
          case y5_5 => intro wx hx; obtain ⟨h0, h1⟩ := hx; go_simp; try (with_reducible rfl)
          simp only [Act.put, List.setIfInBounds_toArray, List.set_cons_zero, List.set_cons_succ]
          refine anyL_take (i := 6) (v := ?v6_6) (atS (atS (atS (atS (atS (atS at0)))))) (by kernel_rfl) (by kernel_rfl) (by kernel_rfl) (by kernel_rfl) (fun _ _ _ h => h) rfl ?y6_6 HS ?r6_6
          case y6_6 => intro wx hx; obtain ⟨h0, h1⟩ := hx; go_simp; try (with_reducible rfl)
          simp only [Act.put, List.setIfInBounds_toArray, List.set_cons_zero, List.set_cons_succ]
          refine anyL_take (i := 7) (v := ?v7_7) (atS (atS (atS (atS (atS (atS (atS at0))))))) (by kernel_rfl) (by kernel_rfl) (by kernel_rfl) (by kernel_rfl) (fun _ _ _ h => h) rfl ?y7_7 HS ?r7_7
          case y7_7 => intro wx hx; obtain ⟨h0, h1⟩ := hx; go_simp; try (with_reducible rfl)
          simp only [Act.put, List.setIfInBounds_toArray, List.set_cons_zero, List.set_cons_succ]
          refine anyL_take (i := 8) (v := sv3) (atS (atS (atS (atS (atS (atS (atS (atS at0)))))))) (by kernel_rfl) (by kernel_rfl) (by kernel_rfl) (by kernel_rfl) (fun _ _ _ h => h) rfl ?y8_14 HS ?r8_14
          case y8_14 => intro wx hx; exact run_exec_slice rfl (HR3.out wx)
          simp only [Act.put, List.setIfInBounds_toArray, List.set_cons_zero, List.set_cons_succ]
          refine anyL_one (i := 9) (atS (atS (atS (atS (atS (atS (atS (atS (atS at0))))))))) (by kernel_rfl) rfl (fun K hK => ?_)
          go_simp
          with_reducible refine (HCAk.out _ _ _ HW.out.drew (HN1.out.later HW.out.drew (Nat.le_refl _)) (HN3.out.later HW.out.drew (Nat.le_refl _))).mono ?_
          rintro e w8 ⟨rfl, hb8⟩
          have HB8 : Hid (Below w0.heap.size w0 w8) := hb.out.drew.trans (hb8.mono hb.out.size)
          have K8 := KA0.out.below HB8.out KA0.out.lt
          have HS8 : HeldL2 w.heap.size za (.slice aa la.length ka) w8 := ⟨K8.cell 0 rfl, K8.cell 1 rfl⟩
          clear hb8 K8
          refine hK _ _ (.inr HS8) ?_
          try simp only [Act.put, List.setIfInBounds_toArray, List.set_cons_zero, List.set_cons_succ]
          refine anyL_one (i := 10) (atS (atS (atS (atS (atS (atS (atS (atS (atS (atS at0)))))))))) (by kernel_rfl) rfl (fun K hK => ?_)
          go_simp
          refine hK _ _ (.inr HS8) (anyL_done (by kernel_rfl) (NoPanic.normal ?_))
          try simp only [Act.put, List.setIfInBounds_toArray, List.set_cons_zero, List.set_cons_succ]
          clear HS HS8
          have KB := hidP (KB0.out.below HB8.out KB0.out.lt)
          have HW8 := hidP (HW0.out.trans (HB8.out.mono HW0.out.size))
          have HS : HeldL2 (w.heap.size + 1) zb (.slice ab lb.length kb) w8.drew := ⟨KB.out.drew.cell 0 rfl, KB.out.drew.cell 1 rfl⟩
          go_wp2
          refine region_anyL (HeldL2 (w.heap.size + 1) zb (.slice ab lb.length kb)) 100 (by kernel_rfl) ?_
          refine anyL_take (i := 0) (v := ?v0_8) at0 (by kernel_rfl) (by kernel_rfl) (by kernel_rfl) (by kernel_rfl) (fun _ _ _ h => h) rfl ?y0_8 HS ?r0_8
          case y0_8 => intro wx hx; obtain ⟨h0, h1⟩ := hx; go_simp; try (with_reducible rfl)
          simp only [Act.put, List.setIfInBounds_toArray, List.set_cons_zero, List.set_cons_succ]
          refine anyL_take (i := 1) (v := ?v1_9) (atS at0) (by kernel_rfl) (by kernel_rfl) (by kernel_rfl) (by kernel_rfl) (fun _ _ _ h => h) rfl ?y1_9 HS ?r1_9
          case y1_9 => intro wx hx; obtain ⟨h0, h1⟩ := hx; go_simp; try (with_reducible rfl)
          simp only [Act.put, List.setIfInBounds_toArray, List.set_cons_zero, List.set_cons_succ]
          refine anyL_take (i := 2) (v := ?v2_10) (atS (atS at0)) (by kernel_rfl) (by kernel_rfl) (by kernel_rfl) (by kernel_rfl) (fun _ _ _ h => h) rfl ?y2_10 HS ?r2_10
          case y2_10 => intro wx hx; obtain ⟨h0, h1⟩ := hx; go_simp; try (with_reducible rfl)
          simp only [Act.put, List.setIfInBounds_toArray, List.set_cons_zero, List.set_cons_succ]
          refine anyL_take (i := 3) (v := sv2) (atS (atS (atS at0))) (by kernel_rfl) (by kernel_rfl) (by kernel_rfl) (by kernel_rfl) (fun _ _ _ h => h) rfl ?y3_15 HS ?r3_15
          case y3_15 => intro wx hx; exact run_exec_slice rfl (HR2.out wx)
          simp only [Act.put, List.setIfInBounds_toArray, List.set_cons_zero, List.set_cons_succ]
          refine anyL_take (i := 4) (v := ?v4_11) (atS (atS (atS (atS at0)))) (by kernel_rfl) (by kernel_rfl) (by kernel_rfl) (by kernel_rfl) (fun _ _ _ h => h) rfl ?y4_11 HS ?r4_11
          case y4_11 => intro wx hx; obtain ⟨h0, h1⟩ := hx; go_simp; try (with_reducible rfl)
          simp only [Act.put, List.setIfInBounds_toArray, List.set_cons_zero, List.set_cons_succ]
          refine anyL_take (i := 5) (v := ?v5_12) (atS (atS (atS (atS (atS at0))))) (by kernel_rfl) (by kernel_rfl) (by kernel_rfl) (by kernel_rfl) (fun _ _ _ h => h) rfl ?y5_12 HS ?r5_12
          case y5_12 => intro wx hx; obtain ⟨h0, h1⟩ := hx; go_simp; try (with_reducible rfl)
          simp only [Act.put, List.setIfInBounds_toArray, List.set_cons_zero, List.set_cons_succ]
          refine anyL_take (i := 6) (v := sv4) (atS (atS (atS (atS (atS (atS at0)))))) (by kernel_rfl) (by kernel_rfl) (by kernel_rfl) (by kernel_rfl) (fun _ _ _ h => h) rfl ?y6_16 HS ?r6_16
          case y6_16 => intro wx hx; exact run_exec_slice rfl (HR4.out wx)
          simp only [Act.put, List.setIfInBounds_toArray, List.set_cons_zero, List.set_cons_succ]
          refine anyL_one (i := 7) (atS (atS (atS (atS (atS (atS (atS at0))))))) (by kernel_rfl) rfl (fun K hK => ?_)
          go_simp
          with_reducible refine (HCBk.out _ _ _ HW8.out.drew (HN2.out.later HW8.out.drew (Nat.le_refl _)) (HN4.out.later HW8.out.drew (Nat.le_refl _))).mono ?_
          rintro e w9 ⟨rfl, hb9⟩
          have HB9 : Hid (Below w0.heap.size w0 w9) := HB8.out.drew.trans (hb9.mono HB8.out.size)
          have K9 := KB0.out.below HB9.out KB0.out.lt
          have HS9 : HeldL2 (w.heap.size + 1) zb (.slice ab lb.length kb) w9 := ⟨K9.cell 0 rfl, K9.cell 1 rfl⟩
          clear hb9 K9
          refine hK _ _ (.inr HS9) ?_
          try simp only [Act.put, List.setIfInBounds_toArray, List.set_cons_zero, List.set_cons_succ]
          refine anyL_one (i := 8) (atS (atS (atS (atS (atS (atS (atS (atS at0)))))))) (by kernel_rfl) rfl (fun K hK => ?_)
          go_simp
          refine hK _ _ (.inr HS9) (anyL_done (by kernel_rfl) (NoPanic.normal ?_))
          try simp only [Act.put, List.setIfInBounds_toArray, List.set_cons_zero, List.set_cons_succ]
          clear HS HS9
          have nA : ¬ gA < 0 := by omega
          have nB : ¬ gB < 0 := by omega
          by_cases hlt : gG < v
          · have HE : Hid (min v gG = gG) := by show _ = _; omega
            go_wp2_with (first
              | (go_at_call 14; (with_reducible refine (HBOk.out _).mono ?_); rintro e w' ⟨rfl, rfl⟩))
            go_roundw
            case rel => exact ⟨l + 1, gG, by omega, rfl, by go_num, by rw [← HE.out]; exact HMIN, HB9⟩
            case measure => simp [intOf]; omega
          · have HE : Hid (min v gG = v) := by show _ = _; omega
            go_wp2_with (first
              | (go_at_call 14; (with_reducible refine (HBOk.out _).mono ?_); rintro e w' ⟨rfl, rfl⟩))
            go_roundw
            case rel => exact ⟨l + 1, v, by omega, rfl, by go_num, by rw [← HE.out]; exact HMIN, HB9⟩
            case measure => simp [intOf]; omega
        · have hl1 : ¬ (l : Int) ≤ (y.length : Int) := by omega
          obtain rfl : l = y.length + 1 := by omega
          have hwk : IntKind.i64.wrap ((k : Int) + 1) = (k : Int) + 1 := wrapI (by omega) (by omega)
          have HM1 : Hid (MinOf (fun i j => Upto y.length (k + 1) 0 i j) G v) := hmin.out.same (fun i j => upto_row i j)
          go_wp2
          go_roundw
          case rel => exact ⟨k + 1, v, by omega, rfl, by go_num, HM1, hb⟩
          case measure => simp [intOf]; omega
    · have hk1 : ¬ (k : Int) ≤ (x.length : Int) := by omega
      obtain rfl : k = x.length + 1 := by omega
      have HV := hidP (HEND.out v (hmin.out.same (fun i j => by unfold Upto; omega)))
      go_wp2
      go_ret
      exact ⟨v, rfl, HV.out, HW0.out.trans (hb.out.mono HW0.out.size)⟩
end Go.Proofs.Ytnbiojjcebdljaa.Wt
