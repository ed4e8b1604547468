/- The program: in how many ways each state is led to. -/
import Derived.Test.YtfpibdaedfilaaaGax
import Derived.Test.YtfpibdaedfilaaaGab
namespace Go.Proofs.Ytfpibdaedfilaaa.Pl
theorem cap_join {a b : Nat} : min ((capN a : Int) + (capN b : Int)) 1000000001 = ((capN (a + b) : Nat) : Int) := by
 rw [← capN_add]
 have h1 := capN_le a
 have h2 := capN_le b
 generalize capN a = x at *
 generalize capN b = y at *
 unfold capN
 split <;> omega
end Go.Proofs.Ytfpibdaedfilaaa.Pl
namespace Go.Proofs.Ytfpibdaedfilaaa.Wt
open Go.ChangeShapes Go.WideShapes Go.ChangeAt Go.RowKit
open Go.Proofs.Ytfpibdaedfilaaa.Pl
set_option linter.unusedVariables false
set_option linter.unusedSimpArgs false
def HeldJw (O X t q : Nat) (a b : Int) (w : World) : Prop := w.cell? ⟨X, 3, none⟩ = some (.int .i64 (t : Int)) ∧ w.cell? ⟨O, t, none⟩ = some (.int .i64 a) ∧ w.cell? ⟨O, q, none⟩ = some (.int .i64 b)
set_option maxRecDepth 100000 in
set_option maxHeartbeats 3200000 in
theorem ways_anyN (z : Int) (vs : Value) (l : List St) (vo : Value) (out : List Int) (w : World) (h : Mach w (.agg #[.int .i64 z, vs]) (z, l)) (hr : faultM (z, l) = 0) (ho : Nums w vo out) (hO : OrderL l out) (hz0 : z < 0) :
  Calls Try.prog 28 #[.agg #[.int .i64 z, vs], vo] w fun e w' => ∃ v', e = .returned v' ∧ (∃ ns, Nums w' v' ns ∧ CntsL l.length (fun j => capN (addL l out (begN z) j)) ns) ∧ Below w.heap.size w w' := by
 have hz := (faultM_zero hr).2
 simp only [rangeB, Bool.and_eq_true, inB, decide_eq_true_eq] at hz
 have hz1 : -1 ≤ z := hz.1.1
 have hz2 : z < (l.length : Int) := by omega
 clear hz
 obtain ⟨vs', hvs, hS⟩ := h
 simp only [Value.agg.injEq, Array.mk.injEq, List.cons.injEq, and_true, true_and] at hvs
 subst hvs
 obtain ⟨a, cap, rfl, hc⟩ := hS.get
 have HC : Hid (∀ j, j < l.length → ∃ b off va, a = some ⟨b, off, none⟩ ∧ b < w.heap.size ∧ w.cell? ⟨b, off + j * 2, none⟩ = some (.int .i64 (el l j).1) ∧ w.cell? ⟨b, off + j * 2 + 1, none⟩ = some va ∧ Arcs w va (el l j).2) := hc
 have h60 := (right_size hr).1
 have HTO : Hid (∀ q, q < l.length → ∀ a ∈ (el l q).2, ∃ t : Nat, a.2.2.2 = (t : Int) ∧ t < l.length) := fun q hq a ha => by
  have h9 := List.all_eq_true.1 (right_st hr hq).2 a ha
  simp only [arcB, inB, Bool.and_eq_true, decide_eq_true_eq] at h9
  exact ⟨a.2.2.2.toNat, by omega, by omega⟩
 have HSZ : Hid (∀ q, q < l.length → (el l q).2.length ≤ 400) := fun q hq => Nat.le_trans (arcs_len hq) (right_size hr).2
 have HOL : Hid (OrderL l out) := hO
 obtain ⟨xa, ca, hva, hca⟩ := ho.get
 rw [hO.2] at hva hca
 subst hva
 have HCA : Hid (∀ j, j < l.length → ∃ b off, xa = some ⟨b, off, none⟩ ∧ b < w.heap.size ∧ w.cell? ⟨b, off + j, none⟩ = some (.int .i64 (el out j))) := hca
 clear hS hc hr ho hca hO
 generalize hn : l.length = n at *
 have HN : Hid (l.length = n) := hn
 clear hn
 have hmk := run_nums n (by omega)
 have HSA : Hid (z < 0 → CntsL n (fun j => capN (addL l (out.take 0) (begN z) j)) (List.replicate n 0)) := fun h0 => (CntsL.zero n).congr (fun j _ => by
  show capN (begN z j) = 0
  unfold begN
  rw [if_neg (by omega)]; rfl)
 have HSB : Hid (0 ≤ z → CntsL n (fun j => capN (addL l (out.take 0) (begN z) j)) ((List.replicate n 0).set z.toNat 1)) := fun h0 => ((CntsL.zero n).set (t := z.toNat) (by omega) 1 rfl).congr (fun j _ => by
  show capN (begN z j) = _
  unfold begN
  by_cases e : (j : Int) = z
  ·rw [if_pos e, if_pos (by omega)]; rfl
  ·rw [if_neg e, if_neg (by omega)]; rfl)
 have hz3 : z.toNat < n ∨ z < 0 := by omega
 go_enter Try.func28, Try.ntmps28
 go_wp2
 go_loopw [23] (fun i wr => ∃ (k : Nat) (ns : List Int), k ≤ n ∧ i = .int .i64 k ∧ Hid (CntsL n (fun j => capN (addL l (out.take k) (begN z) j)) ns) ∧ Hid (Blk wr (w.heap.size + 1) (ns.map (Value.int .i64)).toArray 3) ∧ Hid (Blk wr w.heap.size #[.int .i64 z, .slice a n cap] 27) ∧ Hid (Below w.heap.size w wr)) (fun i _ => n - (intOf i).toNat)
 case atStart =>
  have hbx : ∀ o, Blk ((w.alloc (.cells #[.int .i64 z, .slice a n cap] 27)).alloc o) w.heap.size #[.int .i64 z, .slice a n cap] 27 := fun o => (Blk.made w _ _).alloc _
  have hbl : ∀ o, Below w.heap.size w ((w.alloc (.cells #[.int .i64 z, .slice a n cap] 27)).alloc o) := fun o => ((Below.refl _ _).alloc (Nat.le_refl _) _).alloc (by simp) _
  have hmd : ∀ cs, Blk ((w.alloc (.cells #[.int .i64 z, .slice a n cap] 27)).alloc (.cells cs 3)) (w.heap.size + 1) cs 3 := fun cs => by
   have h9 := Blk.made (w.alloc (.cells #[.int .i64 z, .slice a n cap] 27)) cs 3
   simp only [World.size_alloc] at h9
   exact h9
  have e1 : ((List.replicate n (0 : Int)).map (Value.int .i64)).toArray = Array.replicate n (Value.int .i64 0) := by simp
  have e2 : (((List.replicate n (0 : Int)).set z.toNat 1).map (Value.int .i64)).toArray = (Array.replicate n (Value.int .i64 0)).setIfInBounds z.toNat (Value.int .i64 1) := by rw [← set_num, e1]
  first
   | exact ⟨0, List.replicate n 0, Nat.zero_le _, rfl, HSA.out (by assumption), by (show Blk _ _ _ _); rw [e1]; exact hmd _, hbx _, hbl _⟩
   | exact ⟨0, (List.replicate n 0).set z.toNat 1, Nat.zero_le _, rfl, HSB.out (by assumption), by (show Blk _ _ _ _); rw [e2]; exact hmd _, hbx _, hbl _⟩
 case round =>
  clear HSA HSB
  obtain ⟨k, ns, hk, rfl, hns, hblk, hbx, hb⟩ := hrel
  by_cases hkn : k < n
  ·obtain ⟨bo, oo, rfl, hbol, go⟩ := HCA.out k hkn
   have go := (hb.out.cell (p := ⟨bo, oo + k, none⟩) hbol).trans go
   obtain ⟨q, hq, hqn, _⟩ := HOL.out.at (i := k) (by rw [HOL.out.2, HN.out]; exact hkn)
   rw [hq] at go
   rw [HN.out] at hqn
   obtain ⟨b, off, va, rfl, hbl, g0, g1, gA⟩ := HC.out q hqn
   obtain ⟨a2, cap2, hva, hga⟩ := gA.get
   subst hva
   have g1 := (hb.out.cell (p := ⟨b, off + q * 2 + 1, none⟩) hbl).trans g1
   have HGA : Hid (∀ j, j < (el l q).2.length → ∃ b off, a2 = some ⟨b, off, none⟩ ∧ b < w.heap.size ∧ w.cell? ⟨b, off + j * 4, none⟩ = some (.int .i64 (el (el l q).2 j).1) ∧ w.cell? ⟨b, off + j * 4 + 1, none⟩ = some (.int .i64 (el (el l q).2 j).2.1) ∧ w.cell? ⟨b, off + j * 4 + 2, none⟩ = some (.int .i64 (el (el l q).2 j).2.2.1) ∧ w.cell? ⟨b, off + j * 4 + 3, none⟩ = some (.int .i64 (el (el l q).2 j).2.2.2)) := hga
   have HAL : Hid (∀ a ∈ (el l q).2, ∃ t : Nat, a.2.2.2 = (t : Int) ∧ t < n) := HTO.out q hqn
   have hL4 := HSZ.out q hqn
   have HSU : Hid (addL l (out.take (k + 1)) (begN z) = addA q (el l q).2 (addL l (out.take k) (begN z))) := addL_take l (by rw [HOL.out.2, HN.out]; exact hkn) hq _
   have c1 := hbx.out.cell 1 (v := .slice (some ⟨b, off, none⟩) n cap) rfl
   clear gA hga g0 hq
   generalize addL l (out.take k) (begN z) = X at *
   generalize (el l q).2 = ar at *
   generalize hL : ar.length = L at *
   have HL : Hid (ar.length = L) := hL
   clear hL
   have hk0 : (0 : Int) ≤ (k : Int) := by omega
   have hk1 : (k : Int) < (n : Int) := by omega
   have hq0 : (0 : Int) ≤ (q : Int) := by omega
   have hq1 : (q : Int) < (n : Int) := by omega
   go_wp2
   go_loopw [34] (fun i wr => ∃ (j : Nat) (ns : List Int), j ≤ L ∧ i = .int .i64 j ∧ Hid (CntsL n (fun p => capN (addA q (ar.take j) X p)) ns) ∧ Hid (Blk wr (w.heap.size + 1) (ns.map (Value.int .i64)).toArray 3) ∧ Hid (Blk wr w.heap.size #[.int .i64 z, .slice (some ⟨b, off, none⟩) n cap] 27) ∧ Hid (Below w.heap.size w wr)) (fun i _ => L - (intOf i).toNat)
   case atStart => exact ⟨0, ns, Nat.zero_le _, rfl, hns, hblk, hbx, hb⟩
   case round =>
    clear hns hblk hbx hb c1 go
    obtain ⟨j, ns, hj, rfl, hns, hblk, hbx, hb⟩ := hrel
    by_cases hjL : j < L
    ·obtain ⟨b3, off3, rfl, hb3l, e0, e1, e2, e3⟩ := HGA.out j hjL
     have e0 := (hb.out.cell (p := ⟨b3, off3 + j * 4, none⟩) hb3l).trans e0
     have e1 := (hb.out.cell (p := ⟨b3, off3 + j * 4 + 1, none⟩) hb3l).trans e1
     have e2 := (hb.out.cell (p := ⟨b3, off3 + j * 4 + 2, none⟩) hb3l).trans e2
     have e3 := (hb.out.cell (p := ⟨b3, off3 + j * 4 + 3, none⟩) hb3l).trans e3
     obtain ⟨t, ht, htn⟩ := HAL.out (el ar j) (el_mem (by rw [HL.out]; exact hjL))
     have HT : Hid (addA q (ar.take (j + 1)) X = updN (addA q (ar.take j) X) t (addA q (ar.take j) X t + addA q (ar.take j) X q)) := addA_take q (by rw [HL.out]; exact hjL) ht X
     rw [ht] at e3
     generalize (el ar j).1 = x0 at *
     generalize (el ar j).2.1 = x1 at *
     generalize (el ar j).2.2.1 = x2 at *
     clear ht
     generalize hY : addA q (ar.take j) X = Y at *
     clear hY
     have ht9 := hns.out.2 t htn
     have hq9 := hns.out.2 q hqn
     have hc9 : min ((capN (Y t) : Int) + (capN (Y q) : Int)) 1000000001 = ((capN (Y t + Y q) : Nat) : Int) := cap_join
     have ha9 := capN_le (Y t)
     have hb9 := capN_le (Y q)
     have HN2 : Hid (CntsL n (fun p => capN (addA q (ar.take (j + 1)) X p)) (ns.set t (min ((capN (Y t) : Int) + (capN (Y q) : Int)) 1000000001))) := by
      refine (hns.out.set htn (capN (Y t + Y q)) (x := min ((capN (Y t) : Int) + (capN (Y q) : Int)) 1000000001) hc9).congr fun p _ => ?_
      rw [HT.out]
      simp only [updN]
      by_cases e : p = t
      ·rw [if_pos e, if_pos e]
      ·rw [if_neg e, if_neg e]
     simp only at ht9 hq9
     clear hc9
     generalize capN (Y t) = A at *
     generalize capN (Y q) = C at *
     have hj0 : (0 : Int) ≤ (j : Int) := by omega
     have hj1 : (j : Int) < (L : Int) := by omega
     have ht0 : (0 : Int) ≤ (t : Int) := by omega
     have ht1 : (t : Int) < (n : Int) := by omega
     have hxl : w.heap.size + 1 < wr.heap.size := hblk.out.lt
     have B1 : Hid (Blk (wr.alloc (.cells #[.int .i64 x0, .int .i64 x1, .int .i64 x2, .int .i64 (t : Int)] 58)) (w.heap.size + 1) (ns.map (Value.int .i64)).toArray 3) := hblk.out.alloc _
     have A1 : Hid (Blk (wr.alloc (.cells #[.int .i64 x0, .int .i64 x1, .int .i64 x2, .int .i64 (t : Int)] 58)) wr.heap.size #[.int .i64 x0, .int .i64 x1, .int .i64 x2, .int .i64 (t : Int)] 58) := Blk.made _ _ _
     have X1 : Hid (Blk (wr.alloc (.cells #[.int .i64 x0, .int .i64 x1, .int .i64 x2, .int .i64 (t : Int)] 58)) w.heap.size #[.int .i64 z, .slice (some ⟨b, off, none⟩) n cap] 27) := hbx.out.alloc _
     have Y1 : Hid (Below w.heap.size w (wr.alloc (.cells #[.int .i64 x0, .int .i64 x1, .int .i64 x2, .int .i64 (t : Int)] 58))) := hb.out.alloc hb.out.size _
     have HLN : Hid (ns.length = n) := hns.out.1
     clear hns hblk hbx hb
     go_wp2
     generalize hW : wr.alloc (.cells #[.int .i64 x0, .int .i64 x1, .int .i64 x2, .int .i64 (t : Int)] 58) = W1 at *
     clear hW
     have HS : HeldJw (w.heap.size + 1) wr.heap.size t q (A : Int) (C : Int) W1.drew := ⟨A1.out.drew.cell 3 rfl, by rw [← ht9]; exact num_cell B1.out.drew (by rw [HLN.out]; exact htn), by rw [← hq9]; exact num_cell B1.out.drew (by rw [HLN.out]; exact hqn)⟩
     have HB2 : Hid (Blk (W1.drew.setCell ⟨w.heap.size + 1, t, none⟩ (.int .i64 (min ((A : Int) + (C : Int)) 1000000001))) (w.heap.size + 1) ((ns.set t (min ((A : Int) + (C : Int)) 1000000001)).map (Value.int .i64)).toArray 3) := by have h9 := B1.out.drew.set t (.int .i64 (min ((A : Int) + (C : Int)) 1000000001)); rw [set_num] at h9; exact h9
     have X2 : Hid (Blk (W1.drew.setCell ⟨w.heap.size + 1, t, none⟩ (.int .i64 (min ((A : Int) + (C : Int)) 1000000001))) w.heap.size #[.int .i64 z, .slice (some ⟨b, off, none⟩) n cap] 27) := X1.out.drew.setO _ _ (by show w.heap.size ≠ w.heap.size + 1; omega)
     have Y2 : Hid (Below w.heap.size w (W1.drew.setCell ⟨w.heap.size + 1, t, none⟩ (.int .i64 (min ((A : Int) + (C : Int)) 1000000001)))) := Y1.out.drew.setCell (by show w.heap.size ≤ w.heap.size + 1; omega) _
     have c4 : W1.drew.cell? ⟨w.heap.size + 1, t, none⟩ = some (.int .i64 (A : Int)) := HS.2.1
     have f4 := B1.out.drew.fz t
     refine region_anyL (HeldJw (w.heap.size + 1) wr.heap.size t q (A : Int) (C : Int)) 14 (by kernel_rfl) ?_
     generalize W1.drew = W2 at *
     refine anyL_tk (i := 0) (v := ?v0_1) aZ0 (by kernel_rfl) ?y0_1 HS ?r0_1
     case y0_1 => intro wx hx; obtain ⟨h1, h2, h3⟩ := hx; go_simp; try (with_reducible rfl)
     simp only [Act.put, List.setIfInBounds_toArray, List.set_cons_zero, List.set_cons_succ]
     refine anyL_tk (i := 1) (v := ?v1_2) aZ1 (by kernel_rfl) ?y1_2 HS ?r1_2
     case y1_2 => intro wx hx; obtain ⟨h1, h2, h3⟩ := hx; go_simp; try (with_reducible rfl)
     simp only [Act.put, List.setIfInBounds_toArray, List.set_cons_zero, List.set_cons_succ]
     refine anyL_tk (i := 2) (v := ?v2_3) aZ2 (by kernel_rfl) ?y2_3 HS ?r2_3
     case y2_3 => intro wx hx; obtain ⟨h1, h2, h3⟩ := hx; go_simp; try (with_reducible rfl)
     simp only [Act.put, List.setIfInBounds_toArray, List.set_cons_zero, List.set_cons_succ]
     refine anyL_tk (i := 3) (v := ?v3_4) aZ3 (by kernel_rfl) ?y3_4 HS ?r3_4
     case y3_4 => intro wx hx; obtain ⟨h1, h2, h3⟩ := hx; go_simp; try (with_reducible rfl)
     simp only [Act.put, List.setIfInBounds_toArray, List.set_cons_zero, List.set_cons_succ]
     refine anyL_tk (i := 4) (v := ?v4_5) aZ4 (by kernel_rfl) ?y4_5 HS ?r4_5
     case y4_5 => intro wx hx; obtain ⟨h1, h2, h3⟩ := hx; go_simp; try (with_reducible rfl)
     simp only [Act.put, List.setIfInBounds_toArray, List.set_cons_zero, List.set_cons_succ]
     refine anyL_tk (i := 5) (v := ?v5_6) aZ5 (by kernel_rfl) ?y5_6 HS ?r5_6
     case y5_6 => intro wx hx; obtain ⟨h1, h2, h3⟩ := hx; go_simp; try (with_reducible rfl)
     simp only [Act.put, List.setIfInBounds_toArray, List.set_cons_zero, List.set_cons_succ]
     refine anyL_tk (i := 6) (v := ?v6_7) aZ6 (by kernel_rfl) ?y6_7 HS ?r6_7
     case y6_7 => intro wx hx; obtain ⟨h1, h2, h3⟩ := hx; go_simp; try (with_reducible rfl)
     simp only [Act.put, List.setIfInBounds_toArray, List.set_cons_zero, List.set_cons_succ]
     refine anyL_tk (i := 7) (v := ?v7_8) aZ7 (by kernel_rfl) ?y7_8 HS ?r7_8
     case y7_8 => intro wx hx; obtain ⟨h1, h2, h3⟩ := hx; go_simp; try (with_reducible rfl)
     simp only [Act.put, List.setIfInBounds_toArray, List.set_cons_zero, List.set_cons_succ]
     refine anyL_tk (i := 8) (v := ?v8_9) aZ8 (by kernel_rfl) ?y8_9 HS ?r8_9
     case y8_9 => intro wx hx; obtain ⟨h1, h2, h3⟩ := hx; go_simp; try (with_reducible rfl)
     simp only [Act.put, List.setIfInBounds_toArray, List.set_cons_zero, List.set_cons_succ]
     refine anyL_tk (i := 9) (v := ?v9_10) aZ9 (by kernel_rfl) ?y9_10 HS ?r9_10
     case y9_10 => intro wx hx; obtain ⟨h1, h2, h3⟩ := hx; go_simp; try (with_reducible rfl)
     simp only [Act.put, List.setIfInBounds_toArray, List.set_cons_zero, List.set_cons_succ]
     refine anyL_tk (i := 10) (v := ?v10_11) aZ10 (by kernel_rfl) ?y10_11 HS ?r10_11
     case y10_11 => intro wx hx; obtain ⟨h1, h2, h3⟩ := hx; go_simp; try (with_reducible rfl)
     simp only [Act.put, List.setIfInBounds_toArray, List.set_cons_zero, List.set_cons_succ]
     refine anyL_tk (i := 11) (v := ?v11_12) aZ11 (by kernel_rfl) ?y11_12 HS ?r11_12
     case y11_12 => intro wx hx; obtain ⟨h1, h2, h3⟩ := hx; go_simp; try (with_reducible rfl)
     simp only [Act.put, List.setIfInBounds_toArray, List.set_cons_zero, List.set_cons_succ]
     refine anyL_one (i := 12) aZ12 (by kernel_rfl) rfl (fun K hK => ?_)
     go_simp
     refine (bothWays_any (A : Int) (C : Int) ⟨by omega, by omega⟩ ⟨by omega, by omega⟩ _).mono ?_
     rintro e w5 ⟨rfl, rfl⟩
     refine hK _ _ (.inr HS) ?_
     try simp only [Act.put, List.setIfInBounds_toArray, List.set_cons_zero, List.set_cons_succ]
     refine anyL_tk (i := 13) (v := ?v13_13) aZ13 (by kernel_rfl) ?y13_13 HS ?r13_13
     case y13_13 => intro wx hx; obtain ⟨h1, h2, h3⟩ := hx; go_simp; try (with_reducible rfl)
     simp only [Act.put, List.setIfInBounds_toArray, List.set_cons_zero, List.set_cons_succ]
     refine anyL_one (i := 14) aZ14 (by kernel_rfl) rfl (fun K hK => ?_)
     go_simp
     refine hK _ _ (.inl rfl) (anyL_done (by kernel_rfl) (NoPanic.normal ?_))
     try simp only [Act.put, List.setIfInBounds_toArray, List.set_cons_zero, List.set_cons_succ]
     clear HS c4 f4
     go_wp2
     go_roundw
     case rel =>
      first
       | exact ⟨j + 1, by omega, by omega, _, HN2, HB2⟩
       | exact ⟨j + 1, _, by omega, by go_num, HN2, HB2, X2, Y2⟩
     case measure => simp [intOf]; omega
    ·have hnl : ¬ (j : Int) < (L : Int) := by omega
     have HN5 : Hid (CntsL n (fun p => capN (addL l (out.take (k + 1)) (begN z) p)) ns) := by
      have h9 := hns.out
      rw [show j = ar.length by rw [HL.out]; omega, List.take_length] at h9
      rw [HSU.out]
      exact h9
     go_wp2
     go_roundw
     case rel => exact ⟨k + 1, ns, by omega, by go_num, HN5, hblk, hbx, hb⟩
     case measure => simp [intOf]; omega
  ·have hnl : ¬ (k : Int) < (n : Int) := by omega
   have HN5 : Hid (CntsL n (fun p => capN (addL l out (begN z) p)) ns) := by
    have h9 := hns.out
    rw [show k = out.length by rw [HOL.out.2, HN.out]; omega, List.take_length] at h9
    exact h9
   have HNU : Hid (Nums wr (.slice (some ⟨w.heap.size + 1, 0, none⟩) n n) ns) := by have h9 := nums_block (cap := n) hblk.out; rw [hns.out.1] at h9; exact h9
   go_wp2
   go_ret
   exact ⟨_, rfl, ⟨ns, HNU.out, HN5.out⟩, hb.out⟩
set_option maxRecDepth 100000 in
set_option maxHeartbeats 3200000 in
theorem ways_anyP (z : Int) (vs : Value) (l : List St) (vo : Value) (out : List Int) (w : World) (h : Mach w (.agg #[.int .i64 z, vs]) (z, l)) (hr : faultM (z, l) = 0) (ho : Nums w vo out) (hO : OrderL l out) (hz0 : 0 ≤ z) :
  Calls Try.prog 28 #[.agg #[.int .i64 z, vs], vo] w fun e w' => ∃ v', e = .returned v' ∧ (∃ ns, Nums w' v' ns ∧ CntsL l.length (fun j => capN (addL l out (begN z) j)) ns) ∧ Below w.heap.size w w' := by
 have hz := (faultM_zero hr).2
 simp only [rangeB, Bool.and_eq_true, inB, decide_eq_true_eq] at hz
 have hz1 : -1 ≤ z := hz.1.1
 have hz2 : z < (l.length : Int) := by omega
 clear hz
 obtain ⟨vs', hvs, hS⟩ := h
 simp only [Value.agg.injEq, Array.mk.injEq, List.cons.injEq, and_true, true_and] at hvs
 subst hvs
 obtain ⟨a, cap, rfl, hc⟩ := hS.get
 have HC : Hid (∀ j, j < l.length → ∃ b off va, a = some ⟨b, off, none⟩ ∧ b < w.heap.size ∧ w.cell? ⟨b, off + j * 2, none⟩ = some (.int .i64 (el l j).1) ∧ w.cell? ⟨b, off + j * 2 + 1, none⟩ = some va ∧ Arcs w va (el l j).2) := hc
 have h60 := (right_size hr).1
 have HTO : Hid (∀ q, q < l.length → ∀ a ∈ (el l q).2, ∃ t : Nat, a.2.2.2 = (t : Int) ∧ t < l.length) := fun q hq a ha => by
  have h9 := List.all_eq_true.1 (right_st hr hq).2 a ha
  simp only [arcB, inB, Bool.and_eq_true, decide_eq_true_eq] at h9
  exact ⟨a.2.2.2.toNat, by omega, by omega⟩
 have HSZ : Hid (∀ q, q < l.length → (el l q).2.length ≤ 400) := fun q hq => Nat.le_trans (arcs_len hq) (right_size hr).2
 have HOL : Hid (OrderL l out) := hO
 obtain ⟨xa, ca, hva, hca⟩ := ho.get
 rw [hO.2] at hva hca
 subst hva
 have HCA : Hid (∀ j, j < l.length → ∃ b off, xa = some ⟨b, off, none⟩ ∧ b < w.heap.size ∧ w.cell? ⟨b, off + j, none⟩ = some (.int .i64 (el out j))) := hca
 clear hS hc hr ho hca hO
 generalize hn : l.length = n at *
 have HN : Hid (l.length = n) := hn
 clear hn
 have hmk := run_nums n (by omega)
 have HSA : Hid (z < 0 → CntsL n (fun j => capN (addL l (out.take 0) (begN z) j)) (List.replicate n 0)) := fun h0 => (CntsL.zero n).congr (fun j _ => by
  show capN (begN z j) = 0
  unfold begN
  rw [if_neg (by omega)]; rfl)
 have HSB : Hid (0 ≤ z → CntsL n (fun j => capN (addL l (out.take 0) (begN z) j)) ((List.replicate n 0).set z.toNat 1)) := fun h0 => ((CntsL.zero n).set (t := z.toNat) (by omega) 1 rfl).congr (fun j _ => by
  show capN (begN z j) = _
  unfold begN
  by_cases e : (j : Int) = z
  ·rw [if_pos e, if_pos (by omega)]; rfl
  ·rw [if_neg e, if_neg (by omega)]; rfl)
 have hz3 : z.toNat < n ∨ z < 0 := by omega
 go_enter Try.func28, Try.ntmps28
 go_wp2
 go_loopw [23] (fun i wr => ∃ (k : Nat) (ns : List Int), k ≤ n ∧ i = .int .i64 k ∧ Hid (CntsL n (fun j => capN (addL l (out.take k) (begN z) j)) ns) ∧ Hid (Blk wr (w.heap.size + 1) (ns.map (Value.int .i64)).toArray 3) ∧ Hid (Blk wr w.heap.size #[.int .i64 z, .slice a n cap] 27) ∧ Hid (Below w.heap.size w wr)) (fun i _ => n - (intOf i).toNat)
 case atStart =>
  have hbx : ∀ o, Blk ((w.alloc (.cells #[.int .i64 z, .slice a n cap] 27)).alloc o) w.heap.size #[.int .i64 z, .slice a n cap] 27 := fun o => (Blk.made w _ _).alloc _
  have hbl : ∀ o, Below w.heap.size w ((w.alloc (.cells #[.int .i64 z, .slice a n cap] 27)).alloc o) := fun o => ((Below.refl _ _).alloc (Nat.le_refl _) _).alloc (by simp) _
  have hmd : ∀ cs, Blk ((w.alloc (.cells #[.int .i64 z, .slice a n cap] 27)).alloc (.cells cs 3)) (w.heap.size + 1) cs 3 := fun cs => by
   have h9 := Blk.made (w.alloc (.cells #[.int .i64 z, .slice a n cap] 27)) cs 3
   simp only [World.size_alloc] at h9
   exact h9
  have e1 : ((List.replicate n (0 : Int)).map (Value.int .i64)).toArray = Array.replicate n (Value.int .i64 0) := by simp
  have e2 : (((List.replicate n (0 : Int)).set z.toNat 1).map (Value.int .i64)).toArray = (Array.replicate n (Value.int .i64 0)).setIfInBounds z.toNat (Value.int .i64 1) := by rw [← set_num, e1]
  first
   | exact ⟨0, List.replicate n 0, Nat.zero_le _, rfl, HSA.out (by assumption), by (show Blk _ _ _ _); rw [e1]; exact hmd _, hbx _, hbl _⟩
   | exact ⟨0, (List.replicate n 0).set z.toNat 1, Nat.zero_le _, rfl, HSB.out (by assumption), by (show Blk _ _ _ _); rw [e2]; exact hmd _, hbx _, hbl _⟩
 case round =>
  clear HSA HSB
  obtain ⟨k, ns, hk, rfl, hns, hblk, hbx, hb⟩ := hrel
  by_cases hkn : k < n
  ·obtain ⟨bo, oo, rfl, hbol, go⟩ := HCA.out k hkn
   have go := (hb.out.cell (p := ⟨bo, oo + k, none⟩) hbol).trans go
   obtain ⟨q, hq, hqn, _⟩ := HOL.out.at (i := k) (by rw [HOL.out.2, HN.out]; exact hkn)
   rw [hq] at go
   rw [HN.out] at hqn
   obtain ⟨b, off, va, rfl, hbl, g0, g1, gA⟩ := HC.out q hqn
   obtain ⟨a2, cap2, hva, hga⟩ := gA.get
   subst hva
   have g1 := (hb.out.cell (p := ⟨b, off + q * 2 + 1, none⟩) hbl).trans g1
   have HGA : Hid (∀ j, j < (el l q).2.length → ∃ b off, a2 = some ⟨b, off, none⟩ ∧ b < w.heap.size ∧ w.cell? ⟨b, off + j * 4, none⟩ = some (.int .i64 (el (el l q).2 j).1) ∧ w.cell? ⟨b, off + j * 4 + 1, none⟩ = some (.int .i64 (el (el l q).2 j).2.1) ∧ w.cell? ⟨b, off + j * 4 + 2, none⟩ = some (.int .i64 (el (el l q).2 j).2.2.1) ∧ w.cell? ⟨b, off + j * 4 + 3, none⟩ = some (.int .i64 (el (el l q).2 j).2.2.2)) := hga
   have HAL : Hid (∀ a ∈ (el l q).2, ∃ t : Nat, a.2.2.2 = (t : Int) ∧ t < n) := HTO.out q hqn
   have hL4 := HSZ.out q hqn
   have HSU : Hid (addL l (out.take (k + 1)) (begN z) = addA q (el l q).2 (addL l (out.take k) (begN z))) := addL_take l (by rw [HOL.out.2, HN.out]; exact hkn) hq _
   have c1 := hbx.out.cell 1 (v := .slice (some ⟨b, off, none⟩) n cap) rfl
   clear gA hga g0 hq
   generalize addL l (out.take k) (begN z) = X at *
   generalize (el l q).2 = ar at *
   generalize hL : ar.length = L at *
   have HL : Hid (ar.length = L) := hL
   clear hL
   have hk0 : (0 : Int) ≤ (k : Int) := by omega
   have hk1 : (k : Int) < (n : Int) := by omega
   have hq0 : (0 : Int) ≤ (q : Int) := by omega
   have hq1 : (q : Int) < (n : Int) := by omega
   go_wp2
   go_loopw [34] (fun i wr => ∃ (j : Nat) (ns : List Int), j ≤ L ∧ i = .int .i64 j ∧ Hid (CntsL n (fun p => capN (addA q (ar.take j) X p)) ns) ∧ Hid (Blk wr (w.heap.size + 1) (ns.map (Value.int .i64)).toArray 3) ∧ Hid (Blk wr w.heap.size #[.int .i64 z, .slice (some ⟨b, off, none⟩) n cap] 27) ∧ Hid (Below w.heap.size w wr)) (fun i _ => L - (intOf i).toNat)
   case atStart => exact ⟨0, ns, Nat.zero_le _, rfl, hns, hblk, hbx, hb⟩
   case round =>
    clear hns hblk hbx hb c1 go
    obtain ⟨j, ns, hj, rfl, hns, hblk, hbx, hb⟩ := hrel
    by_cases hjL : j < L
    ·obtain ⟨b3, off3, rfl, hb3l, e0, e1, e2, e3⟩ := HGA.out j hjL
     have e0 := (hb.out.cell (p := ⟨b3, off3 + j * 4, none⟩) hb3l).trans e0
     have e1 := (hb.out.cell (p := ⟨b3, off3 + j * 4 + 1, none⟩) hb3l).trans e1
     have e2 := (hb.out.cell (p := ⟨b3, off3 + j * 4 + 2, none⟩) hb3l).trans e2
     have e3 := (hb.out.cell (p := ⟨b3, off3 + j * 4 + 3, none⟩) hb3l).trans e3
     obtain ⟨t, ht, htn⟩ := HAL.out (el ar j) (el_mem (by rw [HL.out]; exact hjL))
     have HT : Hid (addA q (ar.take (j + 1)) X = updN (addA q (ar.take j) X) t (addA q (ar.take j) X t + addA q (ar.take j) X q)) := addA_take q (by rw [HL.out]; exact hjL) ht X
     rw [ht] at e3
     generalize (el ar j).1 = x0 at *
     generalize (el ar j).2.1 = x1 at *
     generalize (el ar j).2.2.1 = x2 at *
     clear ht
     generalize hY : addA q (ar.take j) X = Y at *
     clear hY
     have ht9 := hns.out.2 t htn
     have hq9 := hns.out.2 q hqn
     have hc9 : min ((capN (Y t) : Int) + (capN (Y q) : Int)) 1000000001 = ((capN (Y t + Y q) : Nat) : Int) := cap_join
     have ha9 := capN_le (Y t)
     have hb9 := capN_le (Y q)
     have HN2 : Hid (CntsL n (fun p => capN (addA q (ar.take (j + 1)) X p)) (ns.set t (min ((capN (Y t) : Int) + (capN (Y q) : Int)) 1000000001))) := by
      refine (hns.out.set htn (capN (Y t + Y q)) (x := min ((capN (Y t) : Int) + (capN (Y q) : Int)) 1000000001) hc9).congr fun p _ => ?_
      rw [HT.out]
      simp only [updN]
      by_cases e : p = t
      ·rw [if_pos e, if_pos e]
      ·rw [if_neg e, if_neg e]
     simp only at ht9 hq9
     clear hc9
     generalize capN (Y t) = A at *
     generalize capN (Y q) = C at *
     have hj0 : (0 : Int) ≤ (j : Int) := by omega
     have hj1 : (j : Int) < (L : Int) := by omega
     have ht0 : (0 : Int) ≤ (t : Int) := by omega
     have ht1 : (t : Int) < (n : Int) := by omega
     have hxl : w.heap.size + 1 < wr.heap.size := hblk.out.lt
     have B1 : Hid (Blk (wr.alloc (.cells #[.int .i64 x0, .int .i64 x1, .int .i64 x2, .int .i64 (t : Int)] 58)) (w.heap.size + 1) (ns.map (Value.int .i64)).toArray 3) := hblk.out.alloc _
     have A1 : Hid (Blk (wr.alloc (.cells #[.int .i64 x0, .int .i64 x1, .int .i64 x2, .int .i64 (t : Int)] 58)) wr.heap.size #[.int .i64 x0, .int .i64 x1, .int .i64 x2, .int .i64 (t : Int)] 58) := Blk.made _ _ _
     have X1 : Hid (Blk (wr.alloc (.cells #[.int .i64 x0, .int .i64 x1, .int .i64 x2, .int .i64 (t : Int)] 58)) w.heap.size #[.int .i64 z, .slice (some ⟨b, off, none⟩) n cap] 27) := hbx.out.alloc _
     have Y1 : Hid (Below w.heap.size w (wr.alloc (.cells #[.int .i64 x0, .int .i64 x1, .int .i64 x2, .int .i64 (t : Int)] 58))) := hb.out.alloc hb.out.size _
     have HLN : Hid (ns.length = n) := hns.out.1
     clear hns hblk hbx hb
     go_wp2
     generalize hW : wr.alloc (.cells #[.int .i64 x0, .int .i64 x1, .int .i64 x2, .int .i64 (t : Int)] 58) = W1 at *
     clear hW
     have HS : HeldJw (w.heap.size + 1) wr.heap.size t q (A : Int) (C : Int) W1.drew := ⟨A1.out.drew.cell 3 rfl, by rw [← ht9]; exact num_cell B1.out.drew (by rw [HLN.out]; exact htn), by rw [← hq9]; exact num_cell B1.out.drew (by rw [HLN.out]; exact hqn)⟩
     have HB2 : Hid (Blk (W1.drew.setCell ⟨w.heap.size + 1, t, none⟩ (.int .i64 (min ((A : Int) + (C : Int)) 1000000001))) (w.heap.size + 1) ((ns.set t (min ((A : Int) + (C : Int)) 1000000001)).map (Value.int .i64)).toArray 3) := by have h9 := B1.out.drew.set t (.int .i64 (min ((A : Int) + (C : Int)) 1000000001)); rw [set_num] at h9; exact h9
     have X2 : Hid (Blk (W1.drew.setCell ⟨w.heap.size + 1, t, none⟩ (.int .i64 (min ((A : Int) + (C : Int)) 1000000001))) w.heap.size #[.int .i64 z, .slice (some ⟨b, off, none⟩) n cap] 27) := X1.out.drew.setO _ _ (by show w.heap.size ≠ w.heap.size + 1; omega)
     have Y2 : Hid (Below w.heap.size w (W1.drew.setCell ⟨w.heap.size + 1, t, none⟩ (.int .i64 (min ((A : Int) + (C : Int)) 1000000001)))) := Y1.out.drew.setCell (by show w.heap.size ≤ w.heap.size + 1; omega) _
     have c4 : W1.drew.cell? ⟨w.heap.size + 1, t, none⟩ = some (.int .i64 (A : Int)) := HS.2.1
     have f4 := B1.out.drew.fz t
     refine region_anyL (HeldJw (w.heap.size + 1) wr.heap.size t q (A : Int) (C : Int)) 14 (by kernel_rfl) ?_
     generalize W1.drew = W2 at *
     refine anyL_tk (i := 0) (v := ?v0_14) aZ0 (by kernel_rfl) ?y0_14 HS ?r0_14
     case y0_14 => intro wx hx; obtain ⟨h1, h2, h3⟩ := hx; go_simp; try (with_reducible rfl)
     simp only [Act.put, List.setIfInBounds_toArray, List.set_cons_zero, List.set_cons_succ]
     refine anyL_tk (i := 1) (v := ?v1_15) aZ1 (by kernel_rfl) ?y1_15 HS ?r1_15
     case y1_15 => intro wx hx; obtain ⟨h1, h2, h3⟩ := hx; go_simp; try (with_reducible rfl)
     simp only [Act.put, List.setIfInBounds_toArray, List.set_cons_zero, List.set_cons_succ]
     refine anyL_tk (i := 2) (v := ?v2_16) aZ2 (by kernel_rfl) ?y2_16 HS ?r2_16
     case y2_16 => intro wx hx; obtain ⟨h1, h2, h3⟩ := hx; go_simp; try (with_reducible rfl)
     simp only [Act.put, List.setIfInBounds_toArray, List.set_cons_zero, List.set_cons_succ]
     refine anyL_tk (i := 3) (v := ?v3_17) aZ3 (by kernel_rfl) ?y3_17 HS ?r3_17
     case y3_17 => intro wx hx; obtain ⟨h1, h2, h3⟩ := hx; go_simp; try (with_reducible rfl)
     simp only [Act.put, List.setIfInBounds_toArray, List.set_cons_zero, List.set_cons_succ]
     refine anyL_tk (i := 4) (v := ?v4_18) aZ4 (by kernel_rfl) ?y4_18 HS ?r4_18
     case y4_18 => intro wx hx; obtain ⟨h1, h2, h3⟩ := hx; go_simp; try (with_reducible rfl)
     simp only [Act.put, List.setIfInBounds_toArray, List.set_cons_zero, List.set_cons_succ]
     refine anyL_tk (i := 5) (v := ?v5_19) aZ5 (by kernel_rfl) ?y5_19 HS ?r5_19
     case y5_19 => intro wx hx; obtain ⟨h1, h2, h3⟩ := hx; go_simp; try (with_reducible rfl)
     simp only [Act.put, List.setIfInBounds_toArray, List.set_cons_zero, List.set_cons_succ]
     refine anyL_tk (i := 6) (v := ?v6_20) aZ6 (by kernel_rfl) ?y6_20 HS ?r6_20
     case y6_20 => intro wx hx; obtain ⟨h1, h2, h3⟩ := hx; go_simp; try (with_reducible rfl)
     simp only [Act.put, List.setIfInBounds_toArray, List.set_cons_zero, List.set_cons_succ]
     refine anyL_tk (i := 7) (v := ?v7_21) aZ7 (by kernel_rfl) ?y7_21 HS ?r7_21
     case y7_21 => intro wx hx; obtain ⟨h1, h2, h3⟩ := hx; go_simp; try (with_reducible rfl)
     simp only [Act.put, List.setIfInBounds_toArray, List.set_cons_zero, List.set_cons_succ]
     refine anyL_tk (i := 8) (v := ?v8_22) aZ8 (by kernel_rfl) ?y8_22 HS ?r8_22
     case y8_22 => intro wx hx; obtain ⟨h1, h2, h3⟩ := hx; go_simp; try (with_reducible rfl)
     simp only [Act.put, List.setIfInBounds_toArray, List.set_cons_zero, List.set_cons_succ]
     refine anyL_tk (i := 9) (v := ?v9_23) aZ9 (by kernel_rfl) ?y9_23 HS ?r9_23
     case y9_23 => intro wx hx; obtain ⟨h1, h2, h3⟩ := hx; go_simp; try (with_reducible rfl)
     simp only [Act.put, List.setIfInBounds_toArray, List.set_cons_zero, List.set_cons_succ]
     refine anyL_tk (i := 10) (v := ?v10_24) aZ10 (by kernel_rfl) ?y10_24 HS ?r10_24
     case y10_24 => intro wx hx; obtain ⟨h1, h2, h3⟩ := hx; go_simp; try (with_reducible rfl)
     simp only [Act.put, List.setIfInBounds_toArray, List.set_cons_zero, List.set_cons_succ]
     refine anyL_tk (i := 11) (v := ?v11_25) aZ11 (by kernel_rfl) ?y11_25 HS ?r11_25
     case y11_25 => intro wx hx; obtain ⟨h1, h2, h3⟩ := hx; go_simp; try (with_reducible rfl)
     simp only [Act.put, List.setIfInBounds_toArray, List.set_cons_zero, List.set_cons_succ]
     refine anyL_one (i := 12) aZ12 (by kernel_rfl) rfl (fun K hK => ?_)
     go_simp
     refine (bothWays_any (A : Int) (C : Int) ⟨by omega, by omega⟩ ⟨by omega, by omega⟩ _).mono ?_
     rintro e w5 ⟨rfl, rfl⟩
     refine hK _ _ (.inr HS) ?_
     try simp only [Act.put, List.setIfInBounds_toArray, List.set_cons_zero, List.set_cons_succ]
     refine anyL_tk (i := 13) (v := ?v13_26) aZ13 (by kernel_rfl) ?y13_26 HS ?r13_26
     case y13_26 => intro wx hx; obtain ⟨h1, h2, h3⟩ := hx; go_simp; try (with_reducible rfl)
     simp only [Act.put, List.setIfInBounds_toArray, List.set_cons_zero, List.set_cons_succ]
     refine anyL_one (i := 14) aZ14 (by kernel_rfl) rfl (fun K hK => ?_)
     go_simp
     refine hK _ _ (.inl rfl) (anyL_done (by kernel_rfl) (NoPanic.normal ?_))
     try simp only [Act.put, List.setIfInBounds_toArray, List.set_cons_zero, List.set_cons_succ]
     clear HS c4 f4
     go_wp2
     go_roundw
     case rel =>
      first
       | exact ⟨j + 1, by omega, by omega, _, HN2, HB2⟩
       | exact ⟨j + 1, _, by omega, by go_num, HN2, HB2, X2, Y2⟩
     case measure => simp [intOf]; omega
    ·have hnl : ¬ (j : Int) < (L : Int) := by omega
     have HN5 : Hid (CntsL n (fun p => capN (addL l (out.take (k + 1)) (begN z) p)) ns) := by
      have h9 := hns.out
      rw [show j = ar.length by rw [HL.out]; omega, List.take_length] at h9
      rw [HSU.out]
      exact h9
     go_wp2
     go_roundw
     case rel => exact ⟨k + 1, ns, by omega, by go_num, HN5, hblk, hbx, hb⟩
     case measure => simp [intOf]; omega
  ·have hnl : ¬ (k : Int) < (n : Int) := by omega
   have HN5 : Hid (CntsL n (fun p => capN (addL l out (begN z) p)) ns) := by
    have h9 := hns.out
    rw [show k = out.length by rw [HOL.out.2, HN.out]; omega, List.take_length] at h9
    exact h9
   have HNU : Hid (Nums wr (.slice (some ⟨w.heap.size + 1, 0, none⟩) n n) ns) := by have h9 := nums_block (cap := n) hblk.out; rw [hns.out.1] at h9; exact h9
   go_wp2
   go_ret
   exact ⟨_, rfl, ⟨ns, HNU.out, HN5.out⟩, hb.out⟩
theorem ways_any (z : Int) (vs : Value) (l : List St) (vo : Value) (out : List Int) (w : World) (h : Mach w (.agg #[.int .i64 z, vs]) (z, l)) (hr : faultM (z, l) = 0) (ho : Nums w vo out) (hO : OrderL l out) :
  Calls Try.prog 28 #[.agg #[.int .i64 z, vs], vo] w fun e w' => ∃ v', e = .returned v' ∧ (∃ ns, Nums w' v' ns ∧ CntsL l.length (fun j => capN (addL l out (begN z) j)) ns) ∧ Below w.heap.size w w' := by
 by_cases hz0 : z < 0
 ·exact ways_anyN z vs l vo out w h hr ho hO hz0
 ·exact ways_anyP z vs l vo out w h hr ho hO (by omega)
end Go.Proofs.Ytfpibdaedfilaaa.Wt
