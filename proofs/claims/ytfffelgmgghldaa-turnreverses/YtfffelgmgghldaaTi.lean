/- The reference: the arcs that lead to a state. -/
import Derived.Test.YtfffelgmgghldaaRn
import Derived.Test.YtfffelgmgghldaaMcR
import Derived.Test.YtfffelgmgghldaaPlainTu
import Derived.Test.YtfffelgmgghldaaTu
namespace Go.Proofs.Ytfffelgmgghldaa.Wt
open Go.ChangeShapes Go.WideShapes Go.ChangeAt Go.RowKit
open Go.Proofs.Ytfffelgmgghldaa.Pl
set_option linter.unusedVariables false
set_option linter.unusedSimpArgs false
theorem OwnArcs.slN {w : World} {base : Nat} {v : Value} {ar : List Ar} (h : OwnArcs w base v ar) : ∃ a n c, v = .slice a n c ∧ Hid (ar.length = n) :=
  let ⟨a, c, e⟩ := h.sl; ⟨a, ar.length, c, e, rfl⟩
set_option maxRecDepth 100000 in
set_option maxHeartbeats 1600000 in
theorem into_any (z : Int) (l : List St) (vs : Value) (t : Nat) (w : World) (h : Mach w (.agg #[.int .i64 z, vs]) (z, l)) (hr : faultM (z, l) = 0) :
    Calls Try.prog 31 #[.agg #[.int .i64 z, vs], .int .i64 (t : Int)] w fun e w' => ∃ v, e = .returned v ∧ OwnArcs w' w.heap.size v (intoL l t l.length) ∧ Below w.heap.size w w' := by
  have h60 := (right_size hr).1
  have h400 := (right_size hr).2
  obtain ⟨vs', hvs, hS⟩ := h
  simp only [Value.agg.injEq, Array.mk.injEq, List.cons.injEq, and_true, true_and] at hvs
  subst hvs
  obtain ⟨a, cap, rfl, hc⟩ := hS.get
  have HC : Hid (∀ j, j < l.length → ∃ b off va, a = some ⟨b, off, none⟩ ∧ b < w.heap.size ∧ w.cell? ⟨b, off + j * 2, none⟩ = some (.int .i64 (el l j).1) ∧ w.cell? ⟨b, off + j * 2 + 1, none⟩ = some va ∧ Arcs w va (el l j).2) := hc
  have HIL : Hid (∀ q, q < l.length → ∀ j, (intoL l t q ++ intoA q t ((el l q).2.take j)).length ≤ 400) := fun q hq j => by
    have h1 := intoL_le l t q (by omega)
    have h2 := intoA_le q t ((el l q).2.take j)
    have h3 := arcN_take hq
    have h4 := arcN_takeR l (q + 1)
    rw [List.length_take] at h2
    rw [List.length_append]
    omega
  have HIS : Hid (∀ q, intoL l t (q + 1) = intoL l t q ++ intoA q t ((el l q).2.take (el l q).2.length)) := fun q => by rw [List.take_length]; rfl
  have HIJ : Hid (∀ q j, j < (el l q).2.length → intoA q t ((el l q).2.take (j + 1)) = intoA q t ((el l q).2.take j) ++ (if (el (el l q).2 j).2.2.2 = (t : Int) then [((el (el l q).2 j).1, (el (el l q).2 j).2.1, (el (el l q).2 j).2.2.1, (q : Int) + 1)] else [])) := fun q j hj => intoA_take hj
  have HST : Hid (∀ j, j < l.length → finB (el l j).1 = true ∧ (el l j).2.length ≤ 400 ∧ ∀ p ∈ (el l j).2, 0 ≤ p.2.2.2 ∧ p.2.2.2 ≤ 1000) := right_states hr
  have KB := hidP (Blk.made w #[.int .i64 z, .slice a l.length cap] 24)
  have HB0 : Hid (Below w.heap.size w (w.alloc (.cells #[.int .i64 z, .slice a l.length cap] 24))) := (Below.refl _ _).alloc (Nat.le_refl _) _
  have hsz0 : (w.alloc (.cells #[.int .i64 z, .slice a l.length cap] 24)).heap.size = w.heap.size + 1 := World.size_alloc _ _
  clear hS hc hr
  generalize hn : l.length = n at *
  have HN := hidP hn
  clear hn
  go_enter Try.func31, Try.ntmps31
  go_wp2
  generalize w.alloc (.cells #[.int .i64 z, .slice a n cap] 24) = w0 at *
  go_loopw [5, 6] (fun s5 s6 wr => ∃ q : Nat, s6 = .int .i64 q ∧ q ≤ n ∧ Hid (OwnArcs wr (w.heap.size + 1) s5 (intoL l t q)) ∧ Hid (Below (w.heap.size + 1) w0 wr)) (fun _ s6 _ => n - (intOf s6).toNat)
  case atStart => exact ⟨0, by go_num, Nat.zero_le _, OwnArcs.nil _ _, Below.refl _ _⟩
  case round =>
    obtain ⟨q, rfl, hq, ho, hb⟩ := hrel
    obtain ⟨a5, n5, c5, hv5, HL5⟩ := ho.out.slN
    subst hv5
    have hsz := hb.out.size
    have KBr := hidP (KB.out.below hb.out (Nat.lt_succ_self _))
    have d1 := KBr.out.cell 1 (v := .slice a n cap) rfl
    have HBw := hidP (HB0.out.trans (hb.out.mono (Nat.le_succ _)))
    by_cases hqn : q < n
    · have hqn' : (q : Int) < (n : Int) := by omega
      have hq0 : (0 : Int) ≤ (q : Int) := by omega
      obtain ⟨b, off, va, rfl, hbl, y0, y1, gA⟩ := HC.out q hqn
      obtain ⟨_, hal, hto⟩ := HST.out q hqn
      have HQL := hidP (HIL.out q hqn)
      have HQS := hidP (HIS.out q)
      have HQJ := hidP (HIJ.out q)
      obtain ⟨a2, cap2, hva, hvx⟩ := gA.get
      subst hva
      have HGA : Hid (Arcs w (.slice a2 (el l q).2.length cap2) (el l q).2) := gA
      have z1 := (HBw.out.cell (p := ⟨b, off + q * 2 + 1, none⟩) hbl).trans y1
      clear gA y0 y1 hvx hto
      generalize (el l q).2 = ar at *
      generalize hn2 : ar.length = n2 at *
      have HN2 := hidP hn2
      clear hn2
      generalize hL0 : intoL l t q = I0 at *
      have hI0 : I0 = I0 ++ intoA q t (ar.take 0) := by simp [intoA]
      go_wp2
      obtain ⟨wq, rfl⟩ : ∃ wq, wq = wr := ⟨_, rfl⟩
      rw [hI0] at ho
      clear hI0
      go_loopw [5, 8] (fun s5 s8 wr => ∃ j : Nat, s8 = .int .i64 j ∧ j ≤ n2 ∧ Hid (OwnArcs wr (w.heap.size + 1) s5 (I0 ++ intoA q t (ar.take j))) ∧ Hid (Below (w.heap.size + 1) w0 wr)) (fun _ s8 _ => n2 - (intOf s8).toNat)
      case atStart => exact ⟨0, by go_num, Nat.zero_le _, ho, hb⟩
      case round =>
        clear ho hb d1 z1 HBw KBr hsz
        obtain ⟨j, rfl, hj, ho, hb⟩ := hrel
        obtain ⟨a6, n6, c6, hv6, HL6⟩ := ho.out.slN
        subst hv6
        have hsz := hb.out.size
        have HBw := hidP (HB0.out.trans (hb.out.mono (Nat.le_succ _)))
        by_cases hjn : j < n2
        · have hjn' : (j : Int) < (n2 : Int) := by omega
          have hj0 : (0 : Int) ≤ (j : Int) := by omega
          obtain ⟨b3, off3, ha3, hb3, x0, x1, x2, x3⟩ := arcs_at HGA.out (j := j) (by rw [HN2.out]; exact hjn)
          subst ha3
          have HQj := hidP (HQJ.out j hjn)
          have hlen := HQL.out j
          generalize el ar j = p at *
          obtain ⟨p0, p1, p2, p3⟩ := p
          simp only at x0 x1 x2 x3 HQj
          have HX : Hid (∀ W, Below w.heap.size w W → HeldA b3 (off3 + j * 4) p0 p1 p2 p3 W) := fun W hW => ⟨(hW.cell (p := ⟨b3, off3 + j * 4, none⟩) hb3).trans x0, (hW.cell (p := ⟨b3, off3 + j * 4 + 1, none⟩) hb3).trans x1, (hW.cell (p := ⟨b3, off3 + j * 4 + 2, none⟩) hb3).trans x2, (hW.cell (p := ⟨b3, off3 + j * 4 + 3, none⟩) hb3).trans x3⟩
          have x3' := (HX.out _ HBw.out).2.2.2
          clear x0 x1 x2 x3
          obtain ⟨cu, hcu⟩ : ∃ cu, I0 ++ intoA q t (ar.take j) = cu := ⟨_, rfl⟩
          have HCU := hidP hcu
          rw [hcu] at ho hlen
          clear hcu
          by_cases hp : p3 = (t : Int)
          · have hp' : (p3 == (t : Int)) = true := by simpa using hp
            rw [if_pos hp] at HQj
            have HLN := hidP hlen
            clear hp hlen
            have HCL : Hid (cu.length = n6) := HCU.out ▸ HL6.out
            have hw1 : IntKind.i64.wrap ((q : Int) + 1) = (q : Int) + 1 := wrapI (by omega) (by omega)
            obtain ⟨a4, c4, w4, hr4, ho4, hb4⟩ := OwnArcs.push (W := wr.drew) (base := w.heap.size + 1) (v := .slice a6 n6 c6) (ar := cu) ho.out (p0, p1, p2, (q : Int) + 1) (by have := HLN.out; have := HCL.out; omega) (by show _ ≤ wr.heap.size; omega)
            rw [HCL.out] at hr4 ho4
            have R4 := hidP hr4
            have HO4 := hidP ho4
            have HB4 : Hid (Below (w.heap.size + 1) w0 w4) := hb.out.drew.trans hb4
            have HSD := HX.out _ HBw.out.drew
            have HSA := HX.out _ (HBw.out.drew.alloc HBw.out.size (.cells #[.int .i64 p0, .int .i64 p1, .int .i64 p2, .int .i64 ((q : Int) + 1)] 47))
            have HS4 := HX.out _ (HB0.out.trans (HB4.out.mono (Nat.le_succ _)))
            clear hr4 ho4 hb4
            go_wp2
            refine region_anyL (HeldA b3 (off3 + j * 4) p0 p1 p2 p3) 100 (by kernel_rfl) ?_
            refine anyL_take (i := 0) (v := ?v0_1) at0 (by kernel_rfl) (by kernel_rfl) (by kernel_rfl) (by kernel_rfl) (fun _ _ _ h => h) rfl ?y0_1 HSD ?r0_1
            case y0_1 => intro wx hx; obtain ⟨h0, h1, h2, h3⟩ := hx; go_simp; try (with_reducible rfl)
            simp only [Act.put, List.setIfInBounds_toArray, List.set_cons_zero, List.set_cons_succ]
            refine anyL_take (i := 1) (v := ?v1_2) (atS at0) (by kernel_rfl) (by kernel_rfl) (by kernel_rfl) (by kernel_rfl) (fun _ _ _ h => h) rfl ?y1_2 HSD ?r1_2
            case y1_2 => intro wx hx; obtain ⟨h0, h1, h2, h3⟩ := hx; go_simp; try (with_reducible rfl)
            simp only [Act.put, List.setIfInBounds_toArray, List.set_cons_zero, List.set_cons_succ]
            refine anyL_take (i := 2) (v := ?v2_3) (atS (atS at0)) (by kernel_rfl) (by kernel_rfl) (by kernel_rfl) (by kernel_rfl) (fun _ _ _ h => h) rfl ?y2_3 HSD ?r2_3
            case y2_3 => intro wx hx; obtain ⟨h0, h1, h2, h3⟩ := hx; go_simp; try (with_reducible rfl)
            simp only [Act.put, List.setIfInBounds_toArray, List.set_cons_zero, List.set_cons_succ]
            refine anyL_take (i := 3) (v := ?v3_4) (atS (atS (atS at0))) (by kernel_rfl) (by kernel_rfl) (by kernel_rfl) (by kernel_rfl) (fun _ _ _ h => h) rfl ?y3_4 HSD ?r3_4
            case y3_4 => intro wx hx; obtain ⟨h0, h1, h2, h3⟩ := hx; go_simp; try (with_reducible rfl)
            simp only [Act.put, List.setIfInBounds_toArray, List.set_cons_zero, List.set_cons_succ]
            refine anyL_take (i := 4) (v := ?v4_5) (atS (atS (atS (atS at0)))) (by kernel_rfl) (by kernel_rfl) (by kernel_rfl) (by kernel_rfl) (fun _ _ _ h => h) rfl ?y4_5 HSD ?r4_5
            case y4_5 => intro wx hx; obtain ⟨h0, h1, h2, h3⟩ := hx; go_simp; try (with_reducible rfl)
            simp only [Act.put, List.setIfInBounds_toArray, List.set_cons_zero, List.set_cons_succ]
            refine anyL_take (i := 5) (v := ?v5_6) (atS (atS (atS (atS (atS at0))))) (by kernel_rfl) (by kernel_rfl) (by kernel_rfl) (by kernel_rfl) (fun _ _ _ h => h) rfl ?y5_6 HSD ?r5_6
            case y5_6 => intro wx hx; obtain ⟨h0, h1, h2, h3⟩ := hx; go_simp; try (with_reducible rfl)
            simp only [Act.put, List.setIfInBounds_toArray, List.set_cons_zero, List.set_cons_succ]
            refine anyL_take (i := 6) (v := ?v6_7) (atS (atS (atS (atS (atS (atS at0)))))) (by kernel_rfl) (by kernel_rfl) (by kernel_rfl) (by kernel_rfl) (fun _ _ _ h => h) rfl ?y6_7 HSD ?r6_7
            case y6_7 => intro wx hx; obtain ⟨h0, h1, h2, h3⟩ := hx; go_simp; try (with_reducible rfl)
            simp only [Act.put, List.setIfInBounds_toArray, List.set_cons_zero, List.set_cons_succ]
            refine anyL_take (i := 7) (v := ?v7_8) (atS (atS (atS (atS (atS (atS (atS at0))))))) (by kernel_rfl) (by kernel_rfl) (by kernel_rfl) (by kernel_rfl) (fun _ _ _ h => h) rfl ?y7_8 HSD ?r7_8
            case y7_8 => intro wx hx; obtain ⟨h0, h1, h2, h3⟩ := hx; go_simp; try (with_reducible rfl)
            simp only [Act.put, List.setIfInBounds_toArray, List.set_cons_zero, List.set_cons_succ]
            refine anyL_take (i := 8) (v := ?v8_9) (atS (atS (atS (atS (atS (atS (atS (atS at0)))))))) (by kernel_rfl) (by kernel_rfl) (by kernel_rfl) (by kernel_rfl) (fun _ _ _ h => h) rfl ?y8_9 HSD ?r8_9
            case y8_9 => intro wx hx; obtain ⟨h0, h1, h2, h3⟩ := hx; go_simp; try (with_reducible rfl)
            simp only [Act.put, List.setIfInBounds_toArray, List.set_cons_zero, List.set_cons_succ]
            refine anyL_take (i := 9) (v := ?v9_10) (atS (atS (atS (atS (atS (atS (atS (atS (atS at0))))))))) (by kernel_rfl) (by kernel_rfl) (by kernel_rfl) (by kernel_rfl) (fun _ _ _ h => h) rfl ?y9_10 HSD ?r9_10
            case y9_10 => intro wx hx; obtain ⟨h0, h1, h2, h3⟩ := hx; go_simp; try (with_reducible rfl)
            simp only [Act.put, List.setIfInBounds_toArray, List.set_cons_zero, List.set_cons_succ]
            refine anyL_take (i := 10) (v := ?v10_11) (atS (atS (atS (atS (atS (atS (atS (atS (atS (atS at0)))))))))) (by kernel_rfl) (by kernel_rfl) (by kernel_rfl) (by kernel_rfl) (fun _ _ _ h => h) rfl ?y10_11 HSD ?r10_11
            case y10_11 => intro wx hx; obtain ⟨h0, h1, h2, h3⟩ := hx; go_simp; try (with_reducible rfl)
            simp only [Act.put, List.setIfInBounds_toArray, List.set_cons_zero, List.set_cons_succ]
            refine anyL_take (i := 11) (v := ?v11_12) (atS (atS (atS (atS (atS (atS (atS (atS (atS (atS (atS at0))))))))))) (by kernel_rfl) (by kernel_rfl) (by kernel_rfl) (by kernel_rfl) (fun _ _ _ h => h) rfl ?y11_12 HSD ?r11_12
            case y11_12 => intro wx hx; obtain ⟨h0, h1, h2, h3⟩ := hx; go_simp; try (with_reducible rfl)
            simp only [Act.put, List.setIfInBounds_toArray, List.set_cons_zero, List.set_cons_succ]
            refine anyL_take (i := 12) (v := ?v12_13) (atS (atS (atS (atS (atS (atS (atS (atS (atS (atS (atS (atS at0)))))))))))) (by kernel_rfl) (by kernel_rfl) (by kernel_rfl) (by kernel_rfl) (fun _ _ _ h => h) rfl ?y12_13 HSD ?r12_13
            case y12_13 => intro wx hx; obtain ⟨h0, h1, h2, h3⟩ := hx; go_simp; try (with_reducible rfl)
            simp only [Act.put, List.setIfInBounds_toArray, List.set_cons_zero, List.set_cons_succ]
            refine anyL_take (i := 13) (v := ?v13_14) (atS (atS (atS (atS (atS (atS (atS (atS (atS (atS (atS (atS (atS at0))))))))))))) (by kernel_rfl) (by kernel_rfl) (by kernel_rfl) (by kernel_rfl) (fun _ _ _ h => h) rfl ?y13_14 HSD ?r13_14
            case y13_14 => intro wx hx; obtain ⟨h0, h1, h2, h3⟩ := hx; go_simp; try (with_reducible rfl)
            simp only [Act.put, List.setIfInBounds_toArray, List.set_cons_zero, List.set_cons_succ]
            refine anyL_take (i := 14) (v := ?v14_15) (atS (atS (atS (atS (atS (atS (atS (atS (atS (atS (atS (atS (atS (atS at0)))))))))))))) (by kernel_rfl) (by kernel_rfl) (by kernel_rfl) (by kernel_rfl) (fun _ _ _ h => h) rfl ?y14_15 HSD ?r14_15
            case y14_15 => intro wx hx; obtain ⟨h0, h1, h2, h3⟩ := hx; go_simp; try (with_reducible rfl)
            simp only [Act.put, List.setIfInBounds_toArray, List.set_cons_zero, List.set_cons_succ]
            refine anyL_take (i := 15) (v := ?v15_16) (atS (atS (atS (atS (atS (atS (atS (atS (atS (atS (atS (atS (atS (atS (atS at0))))))))))))))) (by kernel_rfl) (by kernel_rfl) (by kernel_rfl) (by kernel_rfl) (fun _ _ _ h => h) rfl ?y15_16 HSD ?r15_16
            case y15_16 => intro wx hx; obtain ⟨h0, h1, h2, h3⟩ := hx; go_simp; try (with_reducible rfl)
            simp only [Act.put, List.setIfInBounds_toArray, List.set_cons_zero, List.set_cons_succ]
            refine anyL_take (i := 16) (v := ?v16_17) (atS (atS (atS (atS (atS (atS (atS (atS (atS (atS (atS (atS (atS (atS (atS (atS at0)))))))))))))))) (by kernel_rfl) (by kernel_rfl) (by kernel_rfl) (by kernel_rfl) (fun _ _ _ h => h) rfl ?y16_17 HSD ?r16_17
            case y16_17 => intro wx hx; obtain ⟨h0, h1, h2, h3⟩ := hx; go_simp; try (with_reducible rfl)
            simp only [Act.put, List.setIfInBounds_toArray, List.set_cons_zero, List.set_cons_succ]
            refine anyL_take (i := 17) (v := ?v17_18) (atS (atS (atS (atS (atS (atS (atS (atS (atS (atS (atS (atS (atS (atS (atS (atS (atS at0))))))))))))))))) (by kernel_rfl) (by kernel_rfl) (by kernel_rfl) (by kernel_rfl) (fun _ _ _ h => h) rfl ?y17_18 HSD ?r17_18
            case y17_18 => intro wx hx; obtain ⟨h0, h1, h2, h3⟩ := hx; go_simp; try (with_reducible rfl)
            simp only [Act.put, List.setIfInBounds_toArray, List.set_cons_zero, List.set_cons_succ]
            refine anyL_take (i := 18) (v := ?v18_19) (atS (atS (atS (atS (atS (atS (atS (atS (atS (atS (atS (atS (atS (atS (atS (atS (atS (atS at0)))))))))))))))))) (by kernel_rfl) (by kernel_rfl) (by kernel_rfl) (by kernel_rfl) (fun _ _ _ h => h) rfl ?y18_19 HSD ?r18_19
            case y18_19 => intro wx hx; obtain ⟨h0, h1, h2, h3⟩ := hx; go_simp; try (with_reducible rfl)
            simp only [Act.put, List.setIfInBounds_toArray, List.set_cons_zero, List.set_cons_succ]
            refine anyL_one (i := 19) (atS (atS (atS (atS (atS (atS (atS (atS (atS (atS (atS (atS (atS (atS (atS (atS (atS (atS (atS at0))))))))))))))))))) (by kernel_rfl) rfl (fun K hK => ?_)
            go_simp
            refine hK _ _ (.inr HSA) ?_
            try simp only [Act.put, List.setIfInBounds_toArray, List.set_cons_zero, List.set_cons_succ]
            refine anyL_one (i := 20) (atS (atS (atS (atS (atS (atS (atS (atS (atS (atS (atS (atS (atS (atS (atS (atS (atS (atS (atS (atS at0)))))))))))))))))))) (by kernel_rfl) rfl (fun K hK => ?_)
            refine wp_append_run (.tmp 35) (.tmp 54) 42 rfl rfl rfl R4.out ?_
            refine hK _ _ (.inr HS4) ?_
            try simp only [Act.put, List.setIfInBounds_toArray, List.set_cons_zero, List.set_cons_succ]
            refine anyL_one (i := 21) (atS (atS (atS (atS (atS (atS (atS (atS (atS (atS (atS (atS (atS (atS (atS (atS (atS (atS (atS (atS (atS at0))))))))))))))))))))) (by kernel_rfl) rfl (fun K hK => ?_)
            go_simp
            refine hK _ _ (.inr HS4) (anyL_done (by kernel_rfl) (NoPanic.normal ?_))
            try simp only [Act.put, List.setIfInBounds_toArray, List.set_cons_zero, List.set_cons_succ]
            clear HSD HSA HS4
            go_wp2
            go_roundw
            case rel => exact ⟨j + 1, by go_num, by omega, by rw [HQj.out, ← List.append_assoc, HCU.out]; exact HO4, HB4⟩
            case measure => simp [intOf]; omega
          · have hp' : (p3 == (t : Int)) = false := by simpa using hp
            rw [if_neg hp, List.append_nil] at HQj
            clear hp
            go_wp2
            go_roundw
            case rel => exact ⟨j + 1, by go_num, by omega, by rw [HQj.out, HCU.out]; exact ho, hb⟩
            case measure => simp [intOf]; omega
        · have hjn' : ¬ (j : Int) < (n2 : Int) := by omega
          obtain rfl : n2 = j := by omega
          rw [← HQS.out] at ho
          go_wp2
          go_roundw
          case rel => exact ⟨q + 1, by go_num, by omega, ho, hb⟩
          case measure => simp [intOf]; omega
    · have hqn' : ¬ (q : Int) < (n : Int) := by omega
      obtain rfl : q = n := by omega
      go_wp2
      go_ret
      exact ⟨_, rfl, ho.out.mono (by omega), HBw.out⟩
end Go.Proofs.Ytfffelgmgghldaa.Wt
