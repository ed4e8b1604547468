/- The reference: the least costs along empty arcs alone, between all states. -/
import Derived.Test.YtjpfpdbhdcopbaaGd
import Derived.Test.YtjpfpdbhdcopbaaIe
import Derived.Test.YtjpfpdbhdcopbaaRn
import Derived.Test.YtjpfpdbhdcopbaaRg
import Derived.Deep.DeepCutAuto
import Derived.BigQuiet
namespace Go.Proofs.Ytjpfpdbhdcopbaa.Wt
open Go.ChangeShapes Go.WideShapes Go.ChangeAt Go.RowKit
open Go.Proofs.Ytjpfpdbhdcopbaa.Pl
set_option linter.unusedVariables false
set_option linter.unusedSimpArgs false
def HeldJ (b o : Nat) (p0 p1 p2 p3 : Int) (g t : Nat) (x : Int) (w : World) : Prop := w.cell? ⟨b, o, none⟩ = some (.int .i64 p0) ∧ w.cell? ⟨b, o + 1, none⟩ = some (.int .i64 p1) ∧ w.cell? ⟨b, o + 2, none⟩ = some (.int .i64 p2) ∧ w.cell? ⟨b, o + 3, none⟩ = some (.int .i64 p3) ∧ w.cell? ⟨g, t, none⟩ = some (.int .i64 x)
theorem HeldJ.later {b o g t : Nat} {p0 p1 p2 p3 x : Int} {w w' : World} (h : HeldJ b o p0 p1 p2 p3 g t x w) (hb : Below w.heap.size w w') : HeldJ b o p0 p1 p2 p3 g t x w' := by
  obtain ⟨h0, h1, h2, h3, h4⟩ := h
  exact ⟨(hb.cell (World.block_lt_of_cell? _ _ h0)).trans h0, (hb.cell (World.block_lt_of_cell? _ _ h1)).trans h1, (hb.cell (World.block_lt_of_cell? _ _ h2)).trans h2, (hb.cell (World.block_lt_of_cell? _ _ h3)).trans h3, (hb.cell (World.block_lt_of_cell? _ _ h4)).trans h4⟩
def HeldF (G q : Nat) (vq : Value) (k : Nat) (vk : Value) (bq : Nat) (x : Int) (bk p : Nat) (y : Int) (w : World) : Prop := w.cell? ⟨G, q, none⟩ = some vq ∧ w.cell? ⟨G, k, none⟩ = some vk ∧ w.cell? ⟨bq, k, none⟩ = some (.int .i64 x) ∧ w.cell? ⟨bk, p, none⟩ = some (.int .i64 y)
theorem made_zero (w : World) (n : Nat) (T : TypeId) : Blk (w.alloc (.cells (Array.replicate n (Value.int .i64 0)) T)) w.heap.size ((List.replicate n (0 : Int)).map (Value.int .i64)).toArray T := by
  have e : ((List.replicate n (0 : Int)).map (Value.int .i64)).toArray = Array.replicate n (Value.int .i64 0) := by simp
  rw [e]
  exact Blk.made _ _ _
theorem noneI_eq : noneI = 1152921504606846976 := rfl
set_option maxRecDepth 100000 in
set_option maxHeartbeats 6400000 in
theorem hop_any (z : Int) (l : List St) (a : Option Addr) (cap : Nat) (w : World) (h : Mach w (.agg #[.int .i64 z, .slice a l.length cap]) (z, l)) (hr : faultM (z, l) = 0) :
    Calls Try.prog 21 #[.agg #[.int .i64 z, .slice a l.length cap]] w fun e w' => ∃ v gs d, e = .returned v ∧ GridM w' (w.heap.size + 1) l.length v gs d ∧ (d.length = l.length ∧ HopT (z, l) (fun q p => el (el d q) p)) ∧ Below w.heap.size w w' := by
  obtain ⟨vs', hvs, hS⟩ := h
  simp only [Value.agg.injEq, Array.mk.injEq, List.cons.injEq, and_true, true_and] at hvs
  subst hvs
  obtain ⟨a', cap', hsl, hc⟩ := hS.get
  simp only [Value.slice.injEq, true_and] at hsl
  obtain ⟨rfl, rfl⟩ := hsl
  have h60 : l.length ≤ 60 := (right_size hr).1
  have HST : Hid (∀ j, j < l.length → (el l j).2.length ≤ 400) := fun j hj => (right_states hr j hj).2.1
  have HTO : Hid (∀ j, j < l.length → ∀ i, i < (el l j).2.length → (∃ t0 : Nat, t0 < l.length ∧ (el (el l j).2 i).2.2.2 = (t0 : Int)) ∧ 0 ≤ (el (el l j).2 i).2.2.1) := fun j hj i hi => by
    have h3 := (right_parts hr).2 (el l j) (el_mem hj)
    simp only [stB, Bool.and_eq_true, List.all_eq_true] at h3
    have h4 := h3.2 _ (el_mem hi)
    simp only [arcB, inB, Bool.and_eq_true, decide_eq_true_eq] at h4
    exact ⟨⟨(el (el l j).2 i).2.2.2.toNat, by omega, by omega⟩, by omega⟩
  have HC : Hid (∀ j, j < l.length → ∃ b off va, a = some ⟨b, off, none⟩ ∧ b < w.heap.size ∧ w.cell? ⟨b, off + j * 2, none⟩ = some (.int .i64 (el l j).1) ∧ w.cell? ⟨b, off + j * 2 + 1, none⟩ = some va ∧ Arcs w va (el l j).2) := hc
  have HI0 : Hid (∀ q, q < l.length → RowI l q 0 ((List.replicate l.length noneI).set q 0)) := fun q hq => rowI_start hq
  have HFS : Hid (∀ d, RowsT l l.length d → FwQ l 0 0 0 d) := fun d hd => fw_start (m := (z, l)) hr hd
  have HFE : Hid (∀ d, FwQ l l.length 0 0 d → HopT (z, l) (fun q p => el (el d q) p)) := fun d hd => fw_end hr hd
  have HFB : Hid (∀ k q p d, FwQ l k q p d → k < l.length → ∀ q' p', q' < l.length → p' < l.length → 0 ≤ el (el d q') p' ∧ (el (el d q') p' = noneI ∨ el (el d q') p' ≤ 61000000000)) := fun k q p d hd hk q' p' hq hp => FwQ.bd (m := (z, l)) hr hd hk hq hp
  have HF1 : Hid (∀ k q p d, FwQ l k q p d → k < l.length → q < l.length → p < l.length → ¬ (el (el d q) k ≠ noneI ∧ el (el d k) p ≠ noneI ∧ el (el d q) k + el (el d k) p < el (el d q) p) → FwQ l k q (p + 1) d) := fun k q p d hd hk hq hp hn => fw_same (m := (z, l)) hr hd hk hq hp hn
  have HF2 : Hid (∀ k q p d, FwQ l k q p d → k < l.length → q < l.length → p < l.length → (el (el d q) k ≠ noneI ∧ el (el d k) p ≠ noneI ∧ el (el d q) k + el (el d k) p < el (el d q) p) → FwQ l k q (p + 1) (putD d q p (el (el d q) k + el (el d k) p))) := fun k q p d hd hk hq hp hn => fw_less (m := (z, l)) hr hd hk hq hp hn
  have HF3 : Hid (∀ k q d, FwQ l k q l.length d → FwQ l k (q + 1) 0 d) := fun k q d hd => fw_row hd
  have HF4 : Hid (∀ k d, FwQ l k l.length 0 d → FwQ l (k + 1) 0 0 d) := fun k d hd => fw_round hd
  have HFL : Hid (∀ k q p d, FwQ l k q p d → d.length = l.length) := fun k q p d hd => hd.1
  clear hS hc hr
  generalize HopT (z, l) = HT at *
  generalize hn : l.length = n at *
  have HN := hidP hn
  clear hn
  have hmk := run_nums n (by omega)
  go_enter Try.func21, Try.ntmps21
  go_wp2
  go_loopw [4, 5] (fun sv i wr => ∃ (q : Nat) (v : Value) (gs : List Nat) (d : List (List Int)), q ≤ n ∧ v = sv ∧ i = .int .i64 q ∧ Hid (GridM wr (w.heap.size + 1) n v gs d) ∧ Hid (RowsT l q d) ∧ Hid (Blk wr w.heap.size #[.int .i64 z, .slice a n cap] 24) ∧ Hid (Below w.heap.size w wr)) (fun _ i _ => n - (intOf i).toNat)
  case atStart => exact ⟨0, _, [], [], Nat.zero_le _, rfl, rfl, GridM.nil _ _ _, ⟨rfl, fun q hq => absurd hq (by omega)⟩, Blk.made _ _ _, (Below.refl _ _).alloc (Nat.le_refl _) _⟩
  case round =>
    obtain ⟨q, v, gs, d, hq, rfl, rfl, hG, hR, hK, hb⟩ := hrel
    obtain ⟨w2, hw2⟩ : ∃ w2, w2 = wr := ⟨_, rfl⟩
    subst hw2
    obtain ⟨av, cv, hv⟩ := hG.out.sl
    have hdl : d.length = q := hR.out.1
    rw [hdl] at hv
    subst hv
    by_cases hlt : q < n
    · have hq0 : (0 : Int) ≤ (q : Int) := by omega
      have hq1 : (q : Int) < (n : Int) := by omega
      go_wp2
      go_loopw [7] (fun i wi => ∃ (k : Nat) (row : List Int), k ≤ n ∧ i = .int .i64 k ∧ Hid (row.length = n) ∧ Hid (∀ j, j < k → el row j = noneI) ∧ Hid (Blk wi w2.heap.size (row.map (Value.int .i64)).toArray 3) ∧ Hid (Below w2.heap.size w2 wi)) (fun i _ => n - (intOf i).toNat)
      case atStart => exact ⟨0, List.replicate n 0, Nat.zero_le _, rfl, (by show _ = _; simp), fun j hj => absurd hj (by omega), made_zero w2 n 3, (Below.refl _ _).alloc (Nat.le_refl _) _⟩
      case round =>
        obtain ⟨k, row, hk, rfl, hrl, hel, hbr, hbi⟩ := hrel
        obtain ⟨w3, hw3⟩ : ∃ w3, w3 = wr := ⟨_, rfl⟩
        subst hw3
        by_cases hkl : k < n
        · have k0 : (0 : Int) ≤ (k : Int) := by omega
          have k1 : (k : Int) < (n : Int) := by omega
          have e0 := num_cell hbr.out (j := k) (by rw [hrl.out]; exact hkl)
          have f0 := hbr.out.fz k
          have HB' := hidP (hbr.out.set k (.int .i64 noneI))
          rw [set_num] at HB'
          have HI' := hidP (hbi.out.setCell (p := ⟨w2.heap.size, k, none⟩) (Nat.le_refl _) (.int .i64 noneI))
          have HE' : Hid (∀ j, j < k + 1 → el (row.set k noneI) j = noneI) := fun j hj => by
            rw [el_setN (by rw [hrl.out]; exact hkl)]
            split
            · rfl
            · exact hel.out j (by omega)
          have HL' : Hid ((row.set k noneI).length = n) := by show _ = _; rw [List.length_set]; exact hrl.out
          rw [noneI_eq] at HB' HI' HE' HL'
          clear hbr hbi hel
          go_wp2
          go_roundw
          case rel => exact ⟨k + 1, row.set k 1152921504606846976, by omega, by go_num, HL', HE', HB', HI'⟩
          case measure => simp [intOf]; omega
        · have k1 : ¬ (k : Int) < (n : Int) := by omega
          have hrow : row = List.replicate n noneI := el_ext (by rw [hrl.out]; simp) fun j hj => by
            rw [hel.out j (by rw [hrl.out] at hj; omega), el_replicateT (by rw [hrl.out] at hj; exact hj)]
          subst hrow
          have e0 := num_cell hbr.out (j := q) (by simpa using hlt)
          have f0 := hbr.out.fz q
          have HB' := hidP (hbr.out.set q (.int .i64 0))
          rw [set_num] at HB'
          have HI' := hidP (hbi.out.setCell (p := ⟨w2.heap.size, q, none⟩) (Nat.le_refl _) (.int .i64 0))
          have HRI := hidP (HI0.out q hlt)
          obtain ⟨b, off, va, rfl, hbl, g0, g1, gA⟩ := HC.out q hlt
          have hbw := hb.out.trans (HI'.out.mono hb.out.size)
          have g1 := (hbw.cell (p := ⟨b, off + q * 2 + 1, none⟩) hbl).trans g1
          obtain ⟨a2, cap2, rfl, hc2⟩ := gA.get
          have HC2 := hidP hc2
          have hl4 := HST.out q hlt
          have HT2 := hidP (HTO.out q hlt)
          have K' := hidP (hK.out.below HI'.out hK.out.lt)
          have m1 := K'.out.cell 1 (v := .slice (some ⟨b, off, none⟩) n cap) rfl
          have HSK := hidP (fun j row (h : RowI l q j row) g => rowI_skip h g)
          have HSE := hidP (fun j t row (h : RowI l q j row) hj he ht htl h0 hl => rowI_set (t := t) h hj he ht (by rw [HN.out]; exact htl) h0 hl)
          have HSL := hidP (fun j row (h : RowI l q j row) => h.1)
          have HSN := hidP (fun row (h : RowI l q (el l q).2.length row) => rowsT_snoc hR.out h)
          clear hbr hbi hel hrl gA hc2 g0 hbw
          generalize (List.replicate n noneI).set q 0 = row0 at *
          generalize el (List.replicate n noneI) q = x0 at *
          obtain ⟨ar, har⟩ : ∃ ar, (el l q).2 = ar := ⟨_, rfl⟩
          rw [har] at g1 HC2 hl4 HT2 HSK HSE HSN
          clear har
          generalize hn1 : ar.length = n1 at *
          have HN1 := hidP hn1
          clear hn1
          go_wp2
          clear e0 f0 g1 m1
          go_loopw [9] (fun i wi => ∃ (j : Nat) (row : List Int), j ≤ n1 ∧ i = .int .i64 j ∧ Hid (RowI l q j row) ∧ Hid (Blk wi w2.heap.size (row.map (Value.int .i64)).toArray 3) ∧ Hid (Below w2.heap.size w2 wi)) (fun i _ => n1 - (intOf i).toNat)
          case atStart => exact ⟨0, row0, Nat.zero_le _, rfl, HRI, HB', HI'⟩
          case round =>
            clear HRI HB' HI'
            obtain ⟨j, row, hj, rfl, hri, hbr, hbi⟩ := hrel
            obtain ⟨w4, hw4⟩ : ∃ w4, w4 = wr := ⟨_, rfl⟩
            subst hw4
            have hrl : row.length = n := by rw [← HN.out]; exact HSL.out j row hri.out
            by_cases hjl : j < n1
            · have j0 : (0 : Int) ≤ (j : Int) := by omega
              have j1 : (j : Int) < (n1 : Int) := by omega
              obtain ⟨b6, o6, rfl, hb6, p0c, p1c, p2c, p3c⟩ := HC2.out j hjl
              have hbw := hb.out.trans (hbi.out.mono hb.out.size)
              have p0c := (hbw.cell (p := ⟨b6, o6 + j * 4, none⟩) hb6).trans p0c
              have p1c := (hbw.cell (p := ⟨b6, o6 + j * 4 + 1, none⟩) hb6).trans p1c
              have p2c := (hbw.cell (p := ⟨b6, o6 + j * 4 + 2, none⟩) hb6).trans p2c
              have p3c := (hbw.cell (p := ⟨b6, o6 + j * 4 + 3, none⟩) hb6).trans p3c
              obtain ⟨⟨t0, htl, ht0⟩, hw0⟩ := HT2.out j hjl
              have rc := num_cell hbr.out (j := t0) (by rw [hrl]; exact htl)
              have rf := hbr.out.fz t0
              have HS1 := hidP (HSK.out j row hri.out)
              have HS2 := hidP (fun he hl => HSE.out j t0 row hri.out hjl he ht0 htl hw0 hl)
              have HSP : Hid (∀ x : Int, el row t0 ≤ x → ∀ p, p < l.length → (el ar j).2.2.2 = (p : Int) → el row p ≤ x) := fun x hx p hp hpe => by
                obtain rfl : t0 = p := by rw [ht0] at hpe; omega
                exact hx
              rw [ht0] at p3c
              clear hbw
              obtain ⟨pp, hpp⟩ : ∃ pp, el ar j = pp := ⟨_, rfl⟩
              rw [hpp] at p0c p1c p2c HS1 HS2 HSP hw0
              clear hpp ht0
              obtain ⟨p0, p1, p2, p3⟩ := pp
              simp only at p0c p1c p2c HS1 HS2 HSP hw0
              obtain ⟨x1, hx1⟩ : ∃ x1, el row t0 = x1 := ⟨_, rfl⟩
              rw [hx1] at rc HS2 HSP
              clear hx1
              have t1 : (0 : Int) ≤ (t0 : Int) := by omega
              have t2 : (t0 : Int) < (n : Int) := by omega
              have s2 := hbr.out.lt
              go_wp2
              have HS : HeldJ b6 (o6 + j * 4) p0 p1 p2 (t0 : Int) w2.heap.size t0 x1 w4.drew := ⟨p0c, p1c, p2c, p3c, rc⟩
              have hbq : Below w4.heap.size w4 w4.drew := (Below.refl _ _).drew
              rcases Bool.eq_false_or_eq_true (empA (p0, p1, p2, (t0 : Int))) with he | he
              · have HE1 := hidP (emp_any p0 p1 p2 (t0 : Int) w4.drew true he)
                have he' : empA (p0, p1, p2, p3) = true := he
                refine region_anyL (HeldJ b6 (o6 + j * 4) p0 p1 p2 (t0 : Int) w2.heap.size t0 x1) 100 (by kernel_rfl) ?_
                refine anyL_take (i := 0) (v := ?v0_1) at0 (by kernel_rfl) (by kernel_rfl) (by kernel_rfl) (by kernel_rfl) (fun _ _ _ h => h) rfl ?y0_1 HS ?r0_1
                case y0_1 => intro wx hx; obtain ⟨h0, h1, h2, h3, h4⟩ := hx; go_simp; try (with_reducible rfl)
                simp only [Act.put, List.setIfInBounds_toArray, List.set_cons_zero, List.set_cons_succ]
                refine anyL_take (i := 1) (v := ?v1_2) (atS at0) (by kernel_rfl) (by kernel_rfl) (by kernel_rfl) (by kernel_rfl) (fun _ _ _ h => h) rfl ?y1_2 HS ?r1_2
                case y1_2 => intro wx hx; obtain ⟨h0, h1, h2, h3, h4⟩ := hx; go_simp; try (with_reducible rfl)
                simp only [Act.put, List.setIfInBounds_toArray, List.set_cons_zero, List.set_cons_succ]
                refine anyL_take (i := 2) (v := ?v2_3) (atS (atS at0)) (by kernel_rfl) (by kernel_rfl) (by kernel_rfl) (by kernel_rfl) (fun _ _ _ h => h) rfl ?y2_3 HS ?r2_3
                case y2_3 => intro wx hx; obtain ⟨h0, h1, h2, h3, h4⟩ := hx; go_simp; try (with_reducible rfl)
                simp only [Act.put, List.setIfInBounds_toArray, List.set_cons_zero, List.set_cons_succ]
                refine anyL_take (i := 3) (v := ?v3_4) (atS (atS (atS at0))) (by kernel_rfl) (by kernel_rfl) (by kernel_rfl) (by kernel_rfl) (fun _ _ _ h => h) rfl ?y3_4 HS ?r3_4
                case y3_4 => intro wx hx; obtain ⟨h0, h1, h2, h3, h4⟩ := hx; go_simp; try (with_reducible rfl)
                simp only [Act.put, List.setIfInBounds_toArray, List.set_cons_zero, List.set_cons_succ]
                refine anyL_one (i := 4) (atS (atS (atS (atS at0)))) (by kernel_rfl) rfl (fun K hK => ?_)
                go_simp
                with_reducible refine HE1.out.mono ?_
                rintro e w5 ⟨rfl, hb5⟩
                have HS5 := HS.later hb5
                have HB5 := hidP (hbq.trans hb5)
                clear hb5
                refine hK _ _ (.inr HS5) ?_
                try simp only [Act.put, List.setIfInBounds_toArray, List.set_cons_zero, List.set_cons_succ]
                refine anyL_take (i := 5) (v := ?v5_5) (atS (atS (atS (atS (atS at0))))) (by kernel_rfl) (by kernel_rfl) (by kernel_rfl) (by kernel_rfl) (fun _ _ _ h => h) rfl ?y5_5 HS5 ?r5_5
                case y5_5 => intro wx hx; obtain ⟨h0, h1, h2, h3, h4⟩ := hx; go_simp; try (with_reducible rfl)
                simp only [Act.put, List.setIfInBounds_toArray, List.set_cons_zero, List.set_cons_succ]
                refine anyL_takeG (i := 6) (v := ?v6_46) (atS (atS (atS (atS (atS (atS at0)))))) (by kernel_rfl) (by kernel_rfl) (by kernel_rfl) (by kernel_rfl) (fun _ _ _ h => h) (by rfl) ?y6_46 HS5 ?r6_46
                case y6_46 => intro wx hx; obtain ⟨h0, h1, h2, h3, h4⟩ := hx; go_simp; try (with_reducible rfl)
                simp only [Act.put, List.setIfInBounds_toArray, List.set_cons_zero, List.set_cons_succ]
                refine anyL_takeG (i := 7) (v := ?v7_47) (atS (atS (atS (atS (atS (atS (atS at0))))))) (by kernel_rfl) (by kernel_rfl) (by kernel_rfl) (by kernel_rfl) (fun _ _ _ h => h) (by rfl) ?y7_47 HS5 ?r7_47
                case y7_47 => intro wx hx; obtain ⟨h0, h1, h2, h3, h4⟩ := hx; go_simp; try (with_reducible rfl)
                simp only [Act.put, List.setIfInBounds_toArray, List.set_cons_zero, List.set_cons_succ]
                refine anyL_takeG (i := 8) (v := ?v8_48) (atS (atS (atS (atS (atS (atS (atS (atS at0)))))))) (by kernel_rfl) (by kernel_rfl) (by kernel_rfl) (by kernel_rfl) (fun _ _ _ h => h) (by rfl) ?y8_48 HS5 ?r8_48
                case y8_48 => intro wx hx; obtain ⟨h0, h1, h2, h3, h4⟩ := hx; go_simp; try (with_reducible rfl)
                simp only [Act.put, List.setIfInBounds_toArray, List.set_cons_zero, List.set_cons_succ]
                refine anyL_takeG (i := 9) (v := ?v9_49) (atS (atS (atS (atS (atS (atS (atS (atS (atS at0))))))))) (by kernel_rfl) (by kernel_rfl) (by kernel_rfl) (by kernel_rfl) (fun _ _ _ h => h) (by rfl) ?y9_49 HS5 ?r9_49
                case y9_49 => intro wx hx; obtain ⟨h0, h1, h2, h3, h4⟩ := hx; go_simp; try (with_reducible rfl)
                simp only [Act.put, List.setIfInBounds_toArray, List.set_cons_zero, List.set_cons_succ]
                refine anyL_takeG (i := 10) (v := ?v10_50) (atS (atS (atS (atS (atS (atS (atS (atS (atS (atS at0)))))))))) (by kernel_rfl) (by kernel_rfl) (by kernel_rfl) (by kernel_rfl) (fun _ _ _ h => h) (by rfl) ?y10_50 HS5 ?r10_50
                case y10_50 => intro wx hx; obtain ⟨h0, h1, h2, h3, h4⟩ := hx; go_simp; try (with_reducible rfl)
                simp only [Act.put, List.setIfInBounds_toArray, List.set_cons_zero, List.set_cons_succ]
                refine anyL_takeG (i := 11) (v := ?v11_51) (atS (atS (atS (atS (atS (atS (atS (atS (atS (atS (atS at0))))))))))) (by kernel_rfl) (by kernel_rfl) (by kernel_rfl) (by kernel_rfl) (fun _ _ _ h => h) (by rfl) ?y11_51 HS5 ?r11_51
                case y11_51 => intro wx hx; obtain ⟨h0, h1, h2, h3, h4⟩ := hx; go_simp; try (with_reducible rfl)
                simp only [Act.put, List.setIfInBounds_toArray, List.set_cons_zero, List.set_cons_succ]
                refine anyL_takeG (i := 12) (v := ?v12_52) (atS (atS (atS (atS (atS (atS (atS (atS (atS (atS (atS (atS at0)))))))))))) (by kernel_rfl) (by kernel_rfl) (by kernel_rfl) (by kernel_rfl) (fun _ _ _ h => h) (by rfl) ?y12_52 HS5 ?r12_52
                case y12_52 => intro wx hx; obtain ⟨h0, h1, h2, h3, h4⟩ := hx; go_simp; try (with_reducible rfl)
                simp only [Act.put, List.setIfInBounds_toArray, List.set_cons_zero, List.set_cons_succ]
                refine anyL_takeG (i := 13) (v := ?v13_53) (atS (atS (atS (atS (atS (atS (atS (atS (atS (atS (atS (atS (atS at0))))))))))))) (by kernel_rfl) (by kernel_rfl) (by kernel_rfl) (by kernel_rfl) (fun _ _ _ h => h) (by rfl) ?y13_53 HS5 ?r13_53
                case y13_53 => intro wx hx; obtain ⟨h0, h1, h2, h3, h4⟩ := hx; go_simp; try (with_reducible rfl)
                simp only [Act.put, List.setIfInBounds_toArray, List.set_cons_zero, List.set_cons_succ]
                refine anyL_takeG (i := 14) (v := ?v14_54) (atS (atS (atS (atS (atS (atS (atS (atS (atS (atS (atS (atS (atS (atS at0)))))))))))))) (by kernel_rfl) (by kernel_rfl) (by kernel_rfl) (by kernel_rfl) (fun _ _ _ h => h) (by rfl) ?y14_54 HS5 ?r14_54
                case y14_54 => intro wx hx; obtain ⟨h0, h1, h2, h3, h4⟩ := hx; go_simp; try (with_reducible rfl)
                simp only [Act.put, List.setIfInBounds_toArray, List.set_cons_zero, List.set_cons_succ]
                refine anyL_takeG (i := 15) (v := ?v15_55) (atS (atS (atS (atS (atS (atS (atS (atS (atS (atS (atS (atS (atS (atS (atS at0))))))))))))))) (by kernel_rfl) (by kernel_rfl) (by kernel_rfl) (by kernel_rfl) (fun _ _ _ h => h) (by rfl) ?y15_55 HS5 ?r15_55
                case y15_55 => intro wx hx; obtain ⟨h0, h1, h2, h3, h4⟩ := hx; go_simp; try (with_reducible rfl)
                simp only [Act.put, List.setIfInBounds_toArray, List.set_cons_zero, List.set_cons_succ]
                refine anyL_takeG (i := 16) (v := ?v16_56) (atS (atS (atS (atS (atS (atS (atS (atS (atS (atS (atS (atS (atS (atS (atS (atS at0)))))))))))))))) (by kernel_rfl) (by kernel_rfl) (by kernel_rfl) (by kernel_rfl) (fun _ _ _ h => h) (by rfl) ?y16_56 HS5 ?r16_56
                case y16_56 => intro wx hx; obtain ⟨h0, h1, h2, h3, h4⟩ := hx; go_simp; try (with_reducible rfl)
                simp only [Act.put, List.setIfInBounds_toArray, List.set_cons_zero, List.set_cons_succ]
                refine anyL_takeG (i := 17) (v := ?v17_57) (atS (atS (atS (atS (atS (atS (atS (atS (atS (atS (atS (atS (atS (atS (atS (atS (atS at0))))))))))))))))) (by kernel_rfl) (by kernel_rfl) (by kernel_rfl) (by kernel_rfl) (fun _ _ _ h => h) (by rfl) ?y17_57 HS5 ?r17_57
                case y17_57 => intro wx hx; obtain ⟨h0, h1, h2, h3, h4⟩ := hx; go_simp; try (with_reducible rfl)
                simp only [Act.put, List.setIfInBounds_toArray, List.set_cons_zero, List.set_cons_succ]
                refine anyL_takeG (i := 18) (v := ?v18_58) (atS (atS (atS (atS (atS (atS (atS (atS (atS (atS (atS (atS (atS (atS (atS (atS (atS (atS at0)))))))))))))))))) (by kernel_rfl) (by kernel_rfl) (by kernel_rfl) (by kernel_rfl) (fun _ _ _ h => h) (by rfl) ?y18_58 HS5 ?r18_58
                case y18_58 => intro wx hx; obtain ⟨h0, h1, h2, h3, h4⟩ := hx; go_simp; try (with_reducible rfl)
                simp only [Act.put, List.setIfInBounds_toArray, List.set_cons_zero, List.set_cons_succ]
                refine anyL_takeG (i := 19) (v := ?v19_59) (atS (atS (atS (atS (atS (atS (atS (atS (atS (atS (atS (atS (atS (atS (atS (atS (atS (atS (atS at0))))))))))))))))))) (by kernel_rfl) (by kernel_rfl) (by kernel_rfl) (by kernel_rfl) (fun _ _ _ h => h) (by rfl) ?y19_59 HS5 ?r19_59
                case y19_59 => intro wx hx; obtain ⟨h0, h1, h2, h3, h4⟩ := hx; go_simp; try (with_reducible rfl)
                simp only [Act.put, List.setIfInBounds_toArray, List.set_cons_zero, List.set_cons_succ]
                refine anyL_take (i := 20) (v := ?v20_6) (atS (atS (atS (atS (atS (atS (atS (atS (atS (atS (atS (atS (atS (atS (atS (atS (atS (atS (atS (atS at0)))))))))))))))))))) (by kernel_rfl) (by kernel_rfl) (by kernel_rfl) (by kernel_rfl) (fun _ _ _ h => h) rfl ?y20_6 HS5 ?r20_6
                case y20_6 => intro wx hx; obtain ⟨h0, h1, h2, h3, h4⟩ := hx; go_simp; try (with_reducible rfl)
                simp only [Act.put, List.setIfInBounds_toArray, List.set_cons_zero, List.set_cons_succ]
                refine anyL_done (by kernel_rfl) (NoPanic.normal ?_)
                try simp only [Act.put, List.setIfInBounds_toArray, List.set_cons_zero, List.set_cons_succ]
                have HH5 := hidP (hbr.out.below HB5.out s2)
                have HI5 := hidP (hbi.out.trans (HB5.out.mono hbi.out.size))
                have HS6 : HeldJ b6 (o6 + j * 4) p0 p1 p2 (t0 : Int) w2.heap.size t0 x1 w5.drew := HS5
                have rf5 := HH5.out.fz t0
                clear HS HB5
                by_cases hl : p2 < x1
                · have HRW := hidP (HS2.out he' hl)
                  have HH6 := hidP (HH5.out.set t0 (.int .i64 p2))
                  rw [set_num] at HH6
                  have HI6 := hidP (HI5.out.setCell (p := ⟨w2.heap.size, t0, none⟩) (Nat.le_refl _) (.int .i64 p2))
                  go_wp2
                  refine region_anyL (HeldJ b6 (o6 + j * 4) p0 p1 p2 (t0 : Int) w2.heap.size t0 x1) 12 (by kernel_rfl) ?_
                  refine anyL_take (i := 0) (v := ?v0_7) at0 (by kernel_rfl) (by kernel_rfl) (by kernel_rfl) (by kernel_rfl) (fun _ _ _ h => h) rfl ?y0_7 HS6 ?r0_7
                  case y0_7 => intro wx hx; obtain ⟨h0, h1, h2, h3, h4⟩ := hx; go_simp; try (with_reducible rfl)
                  simp only [Act.put, List.setIfInBounds_toArray, List.set_cons_zero, List.set_cons_succ]
                  refine anyL_take (i := 1) (v := ?v1_8) (atS at0) (by kernel_rfl) (by kernel_rfl) (by kernel_rfl) (by kernel_rfl) (fun _ _ _ h => h) rfl ?y1_8 HS6 ?r1_8
                  case y1_8 => intro wx hx; obtain ⟨h0, h1, h2, h3, h4⟩ := hx; go_simp; try (with_reducible rfl)
                  simp only [Act.put, List.setIfInBounds_toArray, List.set_cons_zero, List.set_cons_succ]
                  refine anyL_take (i := 2) (v := ?v2_9) (atS (atS at0)) (by kernel_rfl) (by kernel_rfl) (by kernel_rfl) (by kernel_rfl) (fun _ _ _ h => h) rfl ?y2_9 HS6 ?r2_9
                  case y2_9 => intro wx hx; obtain ⟨h0, h1, h2, h3, h4⟩ := hx; go_simp; try (with_reducible rfl)
                  simp only [Act.put, List.setIfInBounds_toArray, List.set_cons_zero, List.set_cons_succ]
                  refine anyL_take (i := 3) (v := ?v3_10) (atS (atS (atS at0))) (by kernel_rfl) (by kernel_rfl) (by kernel_rfl) (by kernel_rfl) (fun _ _ _ h => h) rfl ?y3_10 HS6 ?r3_10
                  case y3_10 => intro wx hx; obtain ⟨h0, h1, h2, h3, h4⟩ := hx; go_simp; try (with_reducible rfl)
                  simp only [Act.put, List.setIfInBounds_toArray, List.set_cons_zero, List.set_cons_succ]
                  refine anyL_take (i := 4) (v := ?v4_11) (atS (atS (atS (atS at0)))) (by kernel_rfl) (by kernel_rfl) (by kernel_rfl) (by kernel_rfl) (fun _ _ _ h => h) rfl ?y4_11 HS6 ?r4_11
                  case y4_11 => intro wx hx; obtain ⟨h0, h1, h2, h3, h4⟩ := hx; go_simp; try (with_reducible rfl)
                  simp only [Act.put, List.setIfInBounds_toArray, List.set_cons_zero, List.set_cons_succ]
                  refine anyL_take (i := 5) (v := ?v5_12) (atS (atS (atS (atS (atS at0))))) (by kernel_rfl) (by kernel_rfl) (by kernel_rfl) (by kernel_rfl) (fun _ _ _ h => h) rfl ?y5_12 HS6 ?r5_12
                  case y5_12 => intro wx hx; obtain ⟨h0, h1, h2, h3, h4⟩ := hx; go_simp; try (with_reducible rfl)
                  simp only [Act.put, List.setIfInBounds_toArray, List.set_cons_zero, List.set_cons_succ]
                  refine anyL_take (i := 6) (v := ?v6_13) (atS (atS (atS (atS (atS (atS at0)))))) (by kernel_rfl) (by kernel_rfl) (by kernel_rfl) (by kernel_rfl) (fun _ _ _ h => h) rfl ?y6_13 HS6 ?r6_13
                  case y6_13 => intro wx hx; obtain ⟨h0, h1, h2, h3, h4⟩ := hx; go_simp; try (with_reducible rfl)
                  simp only [Act.put, List.setIfInBounds_toArray, List.set_cons_zero, List.set_cons_succ]
                  refine anyL_take (i := 7) (v := ?v7_14) (atS (atS (atS (atS (atS (atS (atS at0))))))) (by kernel_rfl) (by kernel_rfl) (by kernel_rfl) (by kernel_rfl) (fun _ _ _ h => h) rfl ?y7_14 HS6 ?r7_14
                  case y7_14 => intro wx hx; obtain ⟨h0, h1, h2, h3, h4⟩ := hx; go_simp; try (with_reducible rfl)
                  simp only [Act.put, List.setIfInBounds_toArray, List.set_cons_zero, List.set_cons_succ]
                  refine anyL_take (i := 8) (v := ?v8_15) (atS (atS (atS (atS (atS (atS (atS (atS at0)))))))) (by kernel_rfl) (by kernel_rfl) (by kernel_rfl) (by kernel_rfl) (fun _ _ _ h => h) rfl ?y8_15 HS6 ?r8_15
                  case y8_15 => intro wx hx; obtain ⟨h0, h1, h2, h3, h4⟩ := hx; go_simp; try (with_reducible rfl)
                  simp only [Act.put, List.setIfInBounds_toArray, List.set_cons_zero, List.set_cons_succ]
                  refine anyL_take (i := 9) (v := ?v9_16) (atS (atS (atS (atS (atS (atS (atS (atS (atS at0))))))))) (by kernel_rfl) (by kernel_rfl) (by kernel_rfl) (by kernel_rfl) (fun _ _ _ h => h) rfl ?y9_16 HS6 ?r9_16
                  case y9_16 => intro wx hx; obtain ⟨h0, h1, h2, h3, h4⟩ := hx; go_simp; try (with_reducible rfl)
                  simp only [Act.put, List.setIfInBounds_toArray, List.set_cons_zero, List.set_cons_succ]
                  refine anyL_take (i := 10) (v := ?v10_17) (atS (atS (atS (atS (atS (atS (atS (atS (atS (atS at0)))))))))) (by kernel_rfl) (by kernel_rfl) (by kernel_rfl) (by kernel_rfl) (fun _ _ _ h => h) rfl ?y10_17 HS6 ?r10_17
                  case y10_17 => intro wx hx; obtain ⟨h0, h1, h2, h3, h4⟩ := hx; go_simp; try (with_reducible rfl)
                  simp only [Act.put, List.setIfInBounds_toArray, List.set_cons_zero, List.set_cons_succ]
                  refine anyL_take (i := 11) (v := ?v11_18) (atS (atS (atS (atS (atS (atS (atS (atS (atS (atS (atS at0))))))))))) (by kernel_rfl) (by kernel_rfl) (by kernel_rfl) (by kernel_rfl) (fun _ _ _ h => h) rfl ?y11_18 HS6 ?r11_18
                  case y11_18 => intro wx hx; obtain ⟨h0, h1, h2, h3, h4⟩ := hx; go_simp; try (with_reducible rfl)
                  simp only [Act.put, List.setIfInBounds_toArray, List.set_cons_zero, List.set_cons_succ]
                  refine anyL_one (i := 12) (atS (atS (atS (atS (atS (atS (atS (atS (atS (atS (atS (atS at0)))))))))))) (by kernel_rfl) rfl (fun K hK => ?_)
                  obtain ⟨h0, h1, h2, h3, h4⟩ := HS5
                  go_simp
                  refine hK _ _ (.inl rfl) (anyL_done (by kernel_rfl) (NoPanic.normal ?_))
                  try simp only [Act.put, List.setIfInBounds_toArray, List.set_cons_zero, List.set_cons_succ]
                  clear HS6 h0 h1 h2 h3 h4 rf5
                  go_wp2
                  go_roundw
                  case rel => exact ⟨j + 1, row.set t0 p2, by omega, by go_num, HRW, HH6.out.drew, HI6.out.drew⟩
                  case measure => simp [intOf]; omega
                · have HRW := hidP (HS1.out (.inr (fun p hp hpe => HSP.out p2 (by omega) p hp hpe)))
                  clear HS5 HS6
                  go_wp2
                  go_roundw
                  case rel => exact ⟨j + 1, row, by omega, by go_num, HRW, HH5, HI5⟩
                  case measure => simp [intOf]; omega
              · have HE1 := hidP (emp_any p0 p1 p2 (t0 : Int) w4.drew false he)
                have he' : empA (p0, p1, p2, p3) = false := he
                refine region_anyL (HeldJ b6 (o6 + j * 4) p0 p1 p2 (t0 : Int) w2.heap.size t0 x1) 100 (by kernel_rfl) ?_
                refine anyL_take (i := 0) (v := ?v0_19) at0 (by kernel_rfl) (by kernel_rfl) (by kernel_rfl) (by kernel_rfl) (fun _ _ _ h => h) rfl ?y0_19 HS ?r0_19
                case y0_19 => intro wx hx; obtain ⟨h0, h1, h2, h3, h4⟩ := hx; go_simp; try (with_reducible rfl)
                simp only [Act.put, List.setIfInBounds_toArray, List.set_cons_zero, List.set_cons_succ]
                refine anyL_take (i := 1) (v := ?v1_20) (atS at0) (by kernel_rfl) (by kernel_rfl) (by kernel_rfl) (by kernel_rfl) (fun _ _ _ h => h) rfl ?y1_20 HS ?r1_20
                case y1_20 => intro wx hx; obtain ⟨h0, h1, h2, h3, h4⟩ := hx; go_simp; try (with_reducible rfl)
                simp only [Act.put, List.setIfInBounds_toArray, List.set_cons_zero, List.set_cons_succ]
                refine anyL_take (i := 2) (v := ?v2_21) (atS (atS at0)) (by kernel_rfl) (by kernel_rfl) (by kernel_rfl) (by kernel_rfl) (fun _ _ _ h => h) rfl ?y2_21 HS ?r2_21
                case y2_21 => intro wx hx; obtain ⟨h0, h1, h2, h3, h4⟩ := hx; go_simp; try (with_reducible rfl)
                simp only [Act.put, List.setIfInBounds_toArray, List.set_cons_zero, List.set_cons_succ]
                refine anyL_take (i := 3) (v := ?v3_22) (atS (atS (atS at0))) (by kernel_rfl) (by kernel_rfl) (by kernel_rfl) (by kernel_rfl) (fun _ _ _ h => h) rfl ?y3_22 HS ?r3_22
                case y3_22 => intro wx hx; obtain ⟨h0, h1, h2, h3, h4⟩ := hx; go_simp; try (with_reducible rfl)
                simp only [Act.put, List.setIfInBounds_toArray, List.set_cons_zero, List.set_cons_succ]
                refine anyL_one (i := 4) (atS (atS (atS (atS at0)))) (by kernel_rfl) rfl (fun K hK => ?_)
                go_simp
                with_reducible refine HE1.out.mono ?_
                rintro e w5 ⟨rfl, hb5⟩
                have HS5 := HS.later hb5
                have HB5 := hidP (hbq.trans hb5)
                clear hb5
                refine hK _ _ (.inr HS5) ?_
                try simp only [Act.put, List.setIfInBounds_toArray, List.set_cons_zero, List.set_cons_succ]
                refine anyL_take (i := 5) (v := ?v5_23) (atS (atS (atS (atS (atS at0))))) (by kernel_rfl) (by kernel_rfl) (by kernel_rfl) (by kernel_rfl) (fun _ _ _ h => h) rfl ?y5_23 HS5 ?r5_23
                case y5_23 => intro wx hx; obtain ⟨h0, h1, h2, h3, h4⟩ := hx; go_simp; try (with_reducible rfl)
                simp only [Act.put, List.setIfInBounds_toArray, List.set_cons_zero, List.set_cons_succ]
                refine anyL_skip (i := 6) (atS (atS (atS (atS (atS (atS at0)))))) (by kernel_rfl) (by kernel_rfl) (by kernel_rfl) (by kernel_rfl) (fun _ _ _ h => h) (by rfl) HS5 ?_
                try simp only [Act.put, List.setIfInBounds_toArray, List.set_cons_zero, List.set_cons_succ]
                refine anyL_skip (i := 7) (atS (atS (atS (atS (atS (atS (atS at0))))))) (by kernel_rfl) (by kernel_rfl) (by kernel_rfl) (by kernel_rfl) (fun _ _ _ h => h) (by rfl) HS5 ?_
                try simp only [Act.put, List.setIfInBounds_toArray, List.set_cons_zero, List.set_cons_succ]
                refine anyL_skip (i := 8) (atS (atS (atS (atS (atS (atS (atS (atS at0)))))))) (by kernel_rfl) (by kernel_rfl) (by kernel_rfl) (by kernel_rfl) (fun _ _ _ h => h) (by rfl) HS5 ?_
                try simp only [Act.put, List.setIfInBounds_toArray, List.set_cons_zero, List.set_cons_succ]
                refine anyL_skip (i := 9) (atS (atS (atS (atS (atS (atS (atS (atS (atS at0))))))))) (by kernel_rfl) (by kernel_rfl) (by kernel_rfl) (by kernel_rfl) (fun _ _ _ h => h) (by rfl) HS5 ?_
                try simp only [Act.put, List.setIfInBounds_toArray, List.set_cons_zero, List.set_cons_succ]
                refine anyL_skip (i := 10) (atS (atS (atS (atS (atS (atS (atS (atS (atS (atS at0)))))))))) (by kernel_rfl) (by kernel_rfl) (by kernel_rfl) (by kernel_rfl) (fun _ _ _ h => h) (by rfl) HS5 ?_
                try simp only [Act.put, List.setIfInBounds_toArray, List.set_cons_zero, List.set_cons_succ]
                refine anyL_skip (i := 11) (atS (atS (atS (atS (atS (atS (atS (atS (atS (atS (atS at0))))))))))) (by kernel_rfl) (by kernel_rfl) (by kernel_rfl) (by kernel_rfl) (fun _ _ _ h => h) (by rfl) HS5 ?_
                try simp only [Act.put, List.setIfInBounds_toArray, List.set_cons_zero, List.set_cons_succ]
                refine anyL_skip (i := 12) (atS (atS (atS (atS (atS (atS (atS (atS (atS (atS (atS (atS at0)))))))))))) (by kernel_rfl) (by kernel_rfl) (by kernel_rfl) (by kernel_rfl) (fun _ _ _ h => h) (by rfl) HS5 ?_
                try simp only [Act.put, List.setIfInBounds_toArray, List.set_cons_zero, List.set_cons_succ]
                refine anyL_skip (i := 13) (atS (atS (atS (atS (atS (atS (atS (atS (atS (atS (atS (atS (atS at0))))))))))))) (by kernel_rfl) (by kernel_rfl) (by kernel_rfl) (by kernel_rfl) (fun _ _ _ h => h) (by rfl) HS5 ?_
                try simp only [Act.put, List.setIfInBounds_toArray, List.set_cons_zero, List.set_cons_succ]
                refine anyL_skip (i := 14) (atS (atS (atS (atS (atS (atS (atS (atS (atS (atS (atS (atS (atS (atS at0)))))))))))))) (by kernel_rfl) (by kernel_rfl) (by kernel_rfl) (by kernel_rfl) (fun _ _ _ h => h) (by rfl) HS5 ?_
                try simp only [Act.put, List.setIfInBounds_toArray, List.set_cons_zero, List.set_cons_succ]
                refine anyL_skip (i := 15) (atS (atS (atS (atS (atS (atS (atS (atS (atS (atS (atS (atS (atS (atS (atS at0))))))))))))))) (by kernel_rfl) (by kernel_rfl) (by kernel_rfl) (by kernel_rfl) (fun _ _ _ h => h) (by rfl) HS5 ?_
                try simp only [Act.put, List.setIfInBounds_toArray, List.set_cons_zero, List.set_cons_succ]
                refine anyL_skip (i := 16) (atS (atS (atS (atS (atS (atS (atS (atS (atS (atS (atS (atS (atS (atS (atS (atS at0)))))))))))))))) (by kernel_rfl) (by kernel_rfl) (by kernel_rfl) (by kernel_rfl) (fun _ _ _ h => h) (by rfl) HS5 ?_
                try simp only [Act.put, List.setIfInBounds_toArray, List.set_cons_zero, List.set_cons_succ]
                refine anyL_skip (i := 17) (atS (atS (atS (atS (atS (atS (atS (atS (atS (atS (atS (atS (atS (atS (atS (atS (atS at0))))))))))))))))) (by kernel_rfl) (by kernel_rfl) (by kernel_rfl) (by kernel_rfl) (fun _ _ _ h => h) (by rfl) HS5 ?_
                try simp only [Act.put, List.setIfInBounds_toArray, List.set_cons_zero, List.set_cons_succ]
                refine anyL_skip (i := 18) (atS (atS (atS (atS (atS (atS (atS (atS (atS (atS (atS (atS (atS (atS (atS (atS (atS (atS at0)))))))))))))))))) (by kernel_rfl) (by kernel_rfl) (by kernel_rfl) (by kernel_rfl) (fun _ _ _ h => h) (by rfl) HS5 ?_
                try simp only [Act.put, List.setIfInBounds_toArray, List.set_cons_zero, List.set_cons_succ]
                refine anyL_skip (i := 19) (atS (atS (atS (atS (atS (atS (atS (atS (atS (atS (atS (atS (atS (atS (atS (atS (atS (atS (atS at0))))))))))))))))))) (by kernel_rfl) (by kernel_rfl) (by kernel_rfl) (by kernel_rfl) (fun _ _ _ h => h) (by rfl) HS5 ?_
                try simp only [Act.put, List.setIfInBounds_toArray, List.set_cons_zero, List.set_cons_succ]
                refine anyL_take (i := 20) (v := ?v20_24) (atS (atS (atS (atS (atS (atS (atS (atS (atS (atS (atS (atS (atS (atS (atS (atS (atS (atS (atS (atS at0)))))))))))))))))))) (by kernel_rfl) (by kernel_rfl) (by kernel_rfl) (by kernel_rfl) (fun _ _ _ h => h) rfl ?y20_24 HS5 ?r20_24
                case y20_24 => intro wx hx; obtain ⟨h0, h1, h2, h3, h4⟩ := hx; go_simp; try (with_reducible rfl)
                simp only [Act.put, List.setIfInBounds_toArray, List.set_cons_zero, List.set_cons_succ]
                refine anyL_done (by kernel_rfl) (NoPanic.normal ?_)
                try simp only [Act.put, List.setIfInBounds_toArray, List.set_cons_zero, List.set_cons_succ]
                have HH5 := hidP (hbr.out.below HB5.out s2)
                have HI5 := hidP (hbi.out.trans (HB5.out.mono hbi.out.size))
                have HRW := hidP (HS1.out (.inl he'))
                clear HS HS5 HB5
                go_wp2
                go_roundw
                case rel => exact ⟨j + 1, row, by omega, by go_num, HRW, HH5, HI5⟩
                case measure => simp [intOf]; omega
            · have j1 : ¬ (j : Int) < (n1 : Int) := by omega
              obtain rfl : n1 = j := by omega
              have HNW := hidP (HSN.out row hri.out)
              obtain ⟨ap, cp, w7, hr7, hg7, hb7⟩ := hG.out.push hbi.out (by have := hK.out.lt; omega) (Nat.le_refl _) hbr.out hrl (by omega)
              rw [hdl] at hr7 hg7
              have R7 := hidP hr7
              have G7 := hidP hg7
              have HB7 := hidP (hb.out.trans ((hbi.out.mono hb.out.size).trans (hb7.mono (by omega))))
              have K7 : Hid (Blk w7 w.heap.size #[.int .i64 z, .slice (some ⟨b, off, none⟩) n cap] 24) := (hK.out.below hbi.out hK.out.lt).below hb7 (by omega)
              clear hr7 hg7 hb7 hri hbr
              go_wp2_with (first
                | (at_builtin; refine wpListAppendRun rfl _ _ 48 rfl rfl rfl R7.out ?_; clear R7))
              go_roundw
              case rel => exact ⟨q + 1, _, _, _, by omega, rfl, by go_num, G7, HNW, K7, HB7⟩
              case measure => simp [intOf]; omega
    · have hq1 : ¬ (q : Int) < (n : Int) := by omega
      obtain rfl : n = q := by omega
      have HFW := hidP (HFS.out d hR.out)
      have HG := hidP hG.out
      clear hR
      go_wp2
      clear hG
      go_loopw [10] (fun i wr => ∃ (k : Nat) (d : List (List Int)), k ≤ n ∧ i = .int .i64 k ∧ Hid (FwQ l k 0 0 d) ∧ Hid (GridM wr (w.heap.size + 1) n (.slice av n cv) gs d) ∧ Hid (Below w.heap.size w wr)) (fun i _ => n - (intOf i).toNat)
      case atStart => exact ⟨0, d, Nat.zero_le _, rfl, HFW, HG, hb⟩
      case round =>
        clear HFW HG hb
        obtain ⟨k, d, hk, rfl, hF, hG, hb⟩ := hrel
        by_cases hkl : k < n
        · have k0 : (0 : Int) ≤ (k : Int) := by omega
          have k1 : (k : Int) < (n : Int) := by omega
          go_wp2
          go_loopw [11] (fun i wr => ∃ (q : Nat) (d : List (List Int)), q ≤ n ∧ i = .int .i64 q ∧ Hid (FwQ l k q 0 d) ∧ Hid (GridM wr (w.heap.size + 1) n (.slice av n cv) gs d) ∧ Hid (Below w.heap.size w wr)) (fun i _ => n - (intOf i).toNat)
          case atStart => exact ⟨0, d, Nat.zero_le _, rfl, hF, hG, hb⟩
          case round =>
            clear hF hG hb
            obtain ⟨q, d, hq, rfl, hF, hG, hb⟩ := hrel
            by_cases hql : q < n
            · have q0 : (0 : Int) ≤ (q : Int) := by omega
              have q1 : (q : Int) < (n : Int) := by omega
              go_wp2
              go_loopw [12] (fun i wr => ∃ (p : Nat) (d : List (List Int)), p ≤ n ∧ i = .int .i64 p ∧ Hid (FwQ l k q p d) ∧ Hid (GridM wr (w.heap.size + 1) n (.slice av n cv) gs d) ∧ Hid (Below w.heap.size w wr)) (fun i _ => n - (intOf i).toNat)
              case atStart => exact ⟨0, d, Nat.zero_le _, rfl, hF, hG, hb⟩
              case round =>
                clear hF hG hb
                obtain ⟨p, d, hp, rfl, hF, hG, hb⟩ := hrel
                obtain ⟨w5, hw5⟩ : ∃ w5, w5 = wr := ⟨_, rfl⟩
                subst hw5
                by_cases hpl : p < n
                · have p0 : (0 : Int) ≤ (p : Int) := by omega
                  have p1 : (p : Int) < (n : Int) := by omega
                  have hdl : d.length = n := HFL.out k q p d hF.out
                  obtain ⟨Gb, cG, hve, hGb, hGl, hcs⟩ := hG.out.cells (by omega)
                  rw [hdl] at hve hcs
                  simp only [Value.slice.injEq, true_and] at hve
                  obtain ⟨rfl, rfl⟩ := hve
                  have cq := hcs q hql
                  have ck := hcs k hkl
                  have c1 := hG.out.get (q := q) (p := k) (by omega) hkl
                  have c2 := hG.out.get (q := k) (p := p) (by omega) hpl
                  have c3 := hG.out.get (q := q) (p := p) (by omega) hpl
                  have f3 := hG.out.fz (q := q) (by omega) p
                  have r1 := HFB.out k q p d hF.out hkl q k hql hkl
                  have r2 := HFB.out k q p d hF.out hkl k p hkl hpl
                  have r3 := HFB.out k q p d hF.out hkl q p hql hpl
                  have HN1 := hidP (HF1.out k q p d hF.out hkl hql hpl)
                  have HN2 := hidP (HF2.out k q p d hF.out hkl hql hpl)
                  have HGS := hidP (fun x => hG.out.set (q := q) (p := p) (by omega) hpl x)
                  have hGq : w.heap.size + 1 ≤ el gs q := (hG.out.2.2.1 q (by rw [hG.out.1]; omega)).1
                  clear hcs
                  obtain ⟨x1, hx1⟩ : ∃ x1, el (el d q) k = x1 := ⟨_, rfl⟩
                  obtain ⟨x2, hx2⟩ : ∃ x2, el (el d k) p = x2 := ⟨_, rfl⟩
                  obtain ⟨x3, hx3⟩ : ∃ x3, el (el d q) p = x3 := ⟨_, rfl⟩
                  rw [hx1] at c1 r1 HN1 HN2
                  rw [hx2] at c2 r2 HN1 HN2
                  rw [hx3] at c3 r3 HN1 HN2
                  clear hx1 hx2 hx3
                  rw [noneI_eq] at HN1 HN2 r1 r2 r3
                  generalize hgq : el gs q = Bq at *
                  generalize hgk : el gs k = Bk at *
                  by_cases e1 : x1 = 1152921504606846976
                  · have e1' : (x1 != 1152921504606846976) = false := by simp [e1]
                    have HW := hidP (HN1.out (fun g => g.1 e1))
                    clear e1 r1 r2 r3
                    go_wp2
                    go_quiet (fail)
                    go_wp2
                    go_roundw
                    case rel => exact ⟨p + 1, d, by omega, by go_num, HW, hG.out.later (below_drewN (Below.refl _ _) _), below_drewN hb.out _⟩
                    case measure => simp [intOf]; omega
                  · have e1' : (x1 != 1152921504606846976) = true := by simpa using e1
                    by_cases e2 : x2 = 1152921504606846976
                    · have e2' : (x2 != 1152921504606846976) = false := by simp [e2]
                      have HW := hidP (HN1.out (fun g => g.2.1 e2))
                      clear e1 e2 r1 r2 r3
                      go_wp2
                      go_quiet (fail)
                      go_wp2
                      go_roundw
                      case rel => exact ⟨p + 1, d, by omega, by go_num, HW, hG.out.later (below_drewN (Below.refl _ _) _), below_drewN hb.out _⟩
                      case measure => simp [intOf]; omega
                    · have e2' : (x2 != 1152921504606846976) = true := by simpa using e2
                      have hwr : IntKind.i64.wrap (x1 + x2) = x1 + x2 := wrapI (by omega) (by omega)
                      by_cases e3 : x1 + x2 < x3
                      · have HW := hidP (HN2.out ⟨e1, e2, e3⟩)
                        have HG2 := hidP (HGS.out (x1 + x2))
                        have HB2 := hidP (hb.out.setCell (p := ⟨Bq, p, none⟩) (by show w.heap.size ≤ Bq; omega) (.int .i64 (x1 + x2)))
                        clear e1 e2 r1 r2 r3
                        go_wp2
                        go_quiet (fail)
                        go_wp2
                        have HSF : HeldF Gb q (.slice (some ⟨Bq, 0, none⟩) n n) k (.slice (some ⟨Bk, 0, none⟩) n n) Bq x1 Bk p x2 (w5.drewN nq).drew := ⟨cq, ck, c1, c2⟩
                        have c3' : (w5.drewN nq).drew.cell? ⟨Bq, p, none⟩ = some (.int .i64 x3) := c3
                        have f3' : (w5.drewN nq).drew.frozen? ⟨Bq, p, none⟩ = false := f3
                        refine region_anyL (HeldF Gb q (.slice (some ⟨Bq, 0, none⟩) n n) k (.slice (some ⟨Bk, 0, none⟩) n n) Bq x1 Bk p x2) 21 (by kernel_rfl) ?_
                        refine anyL_take (i := 0) (v := ?v0_25) at0 (by kernel_rfl) (by kernel_rfl) (by kernel_rfl) (by kernel_rfl) (fun _ _ _ h => h) rfl ?y0_25 HSF ?r0_25
                        case y0_25 => intro wx hx; obtain ⟨h0, h1, h2, h3⟩ := hx; go_simp; try (with_reducible rfl)
                        simp only [Act.put, List.setIfInBounds_toArray, List.set_cons_zero, List.set_cons_succ]
                        refine anyL_take (i := 1) (v := ?v1_26) (atS at0) (by kernel_rfl) (by kernel_rfl) (by kernel_rfl) (by kernel_rfl) (fun _ _ _ h => h) rfl ?y1_26 HSF ?r1_26
                        case y1_26 => intro wx hx; obtain ⟨h0, h1, h2, h3⟩ := hx; go_simp; try (with_reducible rfl)
                        simp only [Act.put, List.setIfInBounds_toArray, List.set_cons_zero, List.set_cons_succ]
                        refine anyL_take (i := 2) (v := ?v2_27) (atS (atS at0)) (by kernel_rfl) (by kernel_rfl) (by kernel_rfl) (by kernel_rfl) (fun _ _ _ h => h) rfl ?y2_27 HSF ?r2_27
                        case y2_27 => intro wx hx; obtain ⟨h0, h1, h2, h3⟩ := hx; go_simp; try (with_reducible rfl)
                        simp only [Act.put, List.setIfInBounds_toArray, List.set_cons_zero, List.set_cons_succ]
                        refine anyL_take (i := 3) (v := ?v3_28) (atS (atS (atS at0))) (by kernel_rfl) (by kernel_rfl) (by kernel_rfl) (by kernel_rfl) (fun _ _ _ h => h) rfl ?y3_28 HSF ?r3_28
                        case y3_28 => intro wx hx; obtain ⟨h0, h1, h2, h3⟩ := hx; go_simp; try (with_reducible rfl)
                        simp only [Act.put, List.setIfInBounds_toArray, List.set_cons_zero, List.set_cons_succ]
                        refine anyL_take (i := 4) (v := ?v4_29) (atS (atS (atS (atS at0)))) (by kernel_rfl) (by kernel_rfl) (by kernel_rfl) (by kernel_rfl) (fun _ _ _ h => h) rfl ?y4_29 HSF ?r4_29
                        case y4_29 => intro wx hx; obtain ⟨h0, h1, h2, h3⟩ := hx; go_simp; try (with_reducible rfl)
                        simp only [Act.put, List.setIfInBounds_toArray, List.set_cons_zero, List.set_cons_succ]
                        refine anyL_take (i := 5) (v := ?v5_30) (atS (atS (atS (atS (atS at0))))) (by kernel_rfl) (by kernel_rfl) (by kernel_rfl) (by kernel_rfl) (fun _ _ _ h => h) rfl ?y5_30 HSF ?r5_30
                        case y5_30 => intro wx hx; obtain ⟨h0, h1, h2, h3⟩ := hx; go_simp; try (with_reducible rfl)
                        simp only [Act.put, List.setIfInBounds_toArray, List.set_cons_zero, List.set_cons_succ]
                        refine anyL_take (i := 6) (v := ?v6_31) (atS (atS (atS (atS (atS (atS at0)))))) (by kernel_rfl) (by kernel_rfl) (by kernel_rfl) (by kernel_rfl) (fun _ _ _ h => h) rfl ?y6_31 HSF ?r6_31
                        case y6_31 => intro wx hx; obtain ⟨h0, h1, h2, h3⟩ := hx; go_simp; try (with_reducible rfl)
                        simp only [Act.put, List.setIfInBounds_toArray, List.set_cons_zero, List.set_cons_succ]
                        refine anyL_take (i := 7) (v := ?v7_32) (atS (atS (atS (atS (atS (atS (atS at0))))))) (by kernel_rfl) (by kernel_rfl) (by kernel_rfl) (by kernel_rfl) (fun _ _ _ h => h) rfl ?y7_32 HSF ?r7_32
                        case y7_32 => intro wx hx; obtain ⟨h0, h1, h2, h3⟩ := hx; go_simp; try (with_reducible rfl)
                        simp only [Act.put, List.setIfInBounds_toArray, List.set_cons_zero, List.set_cons_succ]
                        refine anyL_take (i := 8) (v := ?v8_33) (atS (atS (atS (atS (atS (atS (atS (atS at0)))))))) (by kernel_rfl) (by kernel_rfl) (by kernel_rfl) (by kernel_rfl) (fun _ _ _ h => h) rfl ?y8_33 HSF ?r8_33
                        case y8_33 => intro wx hx; obtain ⟨h0, h1, h2, h3⟩ := hx; go_simp; try (with_reducible rfl)
                        simp only [Act.put, List.setIfInBounds_toArray, List.set_cons_zero, List.set_cons_succ]
                        refine anyL_take (i := 9) (v := ?v9_34) (atS (atS (atS (atS (atS (atS (atS (atS (atS at0))))))))) (by kernel_rfl) (by kernel_rfl) (by kernel_rfl) (by kernel_rfl) (fun _ _ _ h => h) rfl ?y9_34 HSF ?r9_34
                        case y9_34 => intro wx hx; obtain ⟨h0, h1, h2, h3⟩ := hx; go_simp; try (with_reducible rfl)
                        simp only [Act.put, List.setIfInBounds_toArray, List.set_cons_zero, List.set_cons_succ]
                        refine anyL_take (i := 10) (v := ?v10_35) (atS (atS (atS (atS (atS (atS (atS (atS (atS (atS at0)))))))))) (by kernel_rfl) (by kernel_rfl) (by kernel_rfl) (by kernel_rfl) (fun _ _ _ h => h) rfl ?y10_35 HSF ?r10_35
                        case y10_35 => intro wx hx; obtain ⟨h0, h1, h2, h3⟩ := hx; go_simp; try (with_reducible rfl)
                        simp only [Act.put, List.setIfInBounds_toArray, List.set_cons_zero, List.set_cons_succ]
                        refine anyL_take (i := 11) (v := ?v11_36) (atS (atS (atS (atS (atS (atS (atS (atS (atS (atS (atS at0))))))))))) (by kernel_rfl) (by kernel_rfl) (by kernel_rfl) (by kernel_rfl) (fun _ _ _ h => h) rfl ?y11_36 HSF ?r11_36
                        case y11_36 => intro wx hx; obtain ⟨h0, h1, h2, h3⟩ := hx; go_simp; try (with_reducible rfl)
                        simp only [Act.put, List.setIfInBounds_toArray, List.set_cons_zero, List.set_cons_succ]
                        refine anyL_take (i := 12) (v := ?v12_37) (atS (atS (atS (atS (atS (atS (atS (atS (atS (atS (atS (atS at0)))))))))))) (by kernel_rfl) (by kernel_rfl) (by kernel_rfl) (by kernel_rfl) (fun _ _ _ h => h) rfl ?y12_37 HSF ?r12_37
                        case y12_37 => intro wx hx; obtain ⟨h0, h1, h2, h3⟩ := hx; go_simp; try (with_reducible rfl)
                        simp only [Act.put, List.setIfInBounds_toArray, List.set_cons_zero, List.set_cons_succ]
                        refine anyL_take (i := 13) (v := ?v13_38) (atS (atS (atS (atS (atS (atS (atS (atS (atS (atS (atS (atS (atS at0))))))))))))) (by kernel_rfl) (by kernel_rfl) (by kernel_rfl) (by kernel_rfl) (fun _ _ _ h => h) rfl ?y13_38 HSF ?r13_38
                        case y13_38 => intro wx hx; obtain ⟨h0, h1, h2, h3⟩ := hx; go_simp; try (with_reducible rfl)
                        simp only [Act.put, List.setIfInBounds_toArray, List.set_cons_zero, List.set_cons_succ]
                        refine anyL_take (i := 14) (v := ?v14_39) (atS (atS (atS (atS (atS (atS (atS (atS (atS (atS (atS (atS (atS (atS at0)))))))))))))) (by kernel_rfl) (by kernel_rfl) (by kernel_rfl) (by kernel_rfl) (fun _ _ _ h => h) rfl ?y14_39 HSF ?r14_39
                        case y14_39 => intro wx hx; obtain ⟨h0, h1, h2, h3⟩ := hx; go_simp; try (with_reducible rfl)
                        simp only [Act.put, List.setIfInBounds_toArray, List.set_cons_zero, List.set_cons_succ]
                        refine anyL_take (i := 15) (v := ?v15_40) (atS (atS (atS (atS (atS (atS (atS (atS (atS (atS (atS (atS (atS (atS (atS at0))))))))))))))) (by kernel_rfl) (by kernel_rfl) (by kernel_rfl) (by kernel_rfl) (fun _ _ _ h => h) rfl ?y15_40 HSF ?r15_40
                        case y15_40 => intro wx hx; obtain ⟨h0, h1, h2, h3⟩ := hx; go_simp; try (with_reducible rfl)
                        simp only [Act.put, List.setIfInBounds_toArray, List.set_cons_zero, List.set_cons_succ]
                        refine anyL_take (i := 16) (v := ?v16_41) (atS (atS (atS (atS (atS (atS (atS (atS (atS (atS (atS (atS (atS (atS (atS (atS at0)))))))))))))))) (by kernel_rfl) (by kernel_rfl) (by kernel_rfl) (by kernel_rfl) (fun _ _ _ h => h) rfl ?y16_41 HSF ?r16_41
                        case y16_41 => intro wx hx; obtain ⟨h0, h1, h2, h3⟩ := hx; go_simp; try (with_reducible rfl)
                        simp only [Act.put, List.setIfInBounds_toArray, List.set_cons_zero, List.set_cons_succ]
                        refine anyL_take (i := 17) (v := ?v17_42) (atS (atS (atS (atS (atS (atS (atS (atS (atS (atS (atS (atS (atS (atS (atS (atS (atS at0))))))))))))))))) (by kernel_rfl) (by kernel_rfl) (by kernel_rfl) (by kernel_rfl) (fun _ _ _ h => h) rfl ?y17_42 HSF ?r17_42
                        case y17_42 => intro wx hx; obtain ⟨h0, h1, h2, h3⟩ := hx; go_simp; try (with_reducible rfl)
                        simp only [Act.put, List.setIfInBounds_toArray, List.set_cons_zero, List.set_cons_succ]
                        refine anyL_take (i := 18) (v := ?v18_43) (atS (atS (atS (atS (atS (atS (atS (atS (atS (atS (atS (atS (atS (atS (atS (atS (atS (atS at0)))))))))))))))))) (by kernel_rfl) (by kernel_rfl) (by kernel_rfl) (by kernel_rfl) (fun _ _ _ h => h) rfl ?y18_43 HSF ?r18_43
                        case y18_43 => intro wx hx; obtain ⟨h0, h1, h2, h3⟩ := hx; go_simp; try (with_reducible rfl)
                        simp only [Act.put, List.setIfInBounds_toArray, List.set_cons_zero, List.set_cons_succ]
                        refine anyL_take (i := 19) (v := ?v19_44) (atS (atS (atS (atS (atS (atS (atS (atS (atS (atS (atS (atS (atS (atS (atS (atS (atS (atS (atS at0))))))))))))))))))) (by kernel_rfl) (by kernel_rfl) (by kernel_rfl) (by kernel_rfl) (fun _ _ _ h => h) rfl ?y19_44 HSF ?r19_44
                        case y19_44 => intro wx hx; obtain ⟨h0, h1, h2, h3⟩ := hx; go_simp; try (with_reducible rfl)
                        simp only [Act.put, List.setIfInBounds_toArray, List.set_cons_zero, List.set_cons_succ]
                        refine anyL_take (i := 20) (v := ?v20_45) (atS (atS (atS (atS (atS (atS (atS (atS (atS (atS (atS (atS (atS (atS (atS (atS (atS (atS (atS (atS at0)))))))))))))))))))) (by kernel_rfl) (by kernel_rfl) (by kernel_rfl) (by kernel_rfl) (fun _ _ _ h => h) rfl ?y20_45 HSF ?r20_45
                        case y20_45 => intro wx hx; obtain ⟨h0, h1, h2, h3⟩ := hx; go_simp; try (with_reducible rfl)
                        simp only [Act.put, List.setIfInBounds_toArray, List.set_cons_zero, List.set_cons_succ]
                        refine anyL_one (i := 21) (atS (atS (atS (atS (atS (atS (atS (atS (atS (atS (atS (atS (atS (atS (atS (atS (atS (atS (atS (atS (atS at0))))))))))))))))))))) (by kernel_rfl) rfl (fun K hK => ?_)
                        go_simp
                        refine hK _ _ (.inl rfl) (anyL_done (by kernel_rfl) (NoPanic.normal ?_))
                        try simp only [Act.put, List.setIfInBounds_toArray, List.set_cons_zero, List.set_cons_succ]
                        clear HSF
                        go_wp2
                        go_roundw
                        case rel => exact ⟨p + 1, _, by omega, by go_num, HW, HG2.out.later (((below_drewN (Below.refl _ _) nq).drew)), (below_drewN HB2.out nq).drew⟩
                        case measure => simp [intOf]; omega
                      · have HW := hidP (HN1.out (fun g => e3 g.2.2))
                        clear e1 e2 r1 r2 r3
                        go_wp2
                        go_quiet (fail)
                        go_wp2
                        go_roundw
                        case rel => exact ⟨p + 1, d, by omega, by go_num, HW, hG.out.later (below_drewN (Below.refl _ _) _), below_drewN hb.out _⟩
                        case measure => simp [intOf]; omega
                · have p1 : ¬ (p : Int) < (n : Int) := by omega
                  obtain rfl : n = p := by omega
                  have HW := hidP (HF3.out k q d hF.out)
                  go_wp2
                  go_roundw
                  case rel => exact ⟨q + 1, d, by omega, by go_num, HW, hG, hb⟩
                  case measure => simp [intOf]; omega
            · have q1 : ¬ (q : Int) < (n : Int) := by omega
              obtain rfl : n = q := by omega
              have HW := hidP (HF4.out k d hF.out)
              go_wp2
              go_roundw
              case rel => exact ⟨k + 1, d, by omega, by go_num, HW, hG, hb⟩
              case measure => simp [intOf]; omega
        · have k1 : ¬ (k : Int) < (n : Int) := by omega
          obtain rfl : n = k := by omega
          have HW := hidP (HFE.out d hF.out)
          have hdl : d.length = n := HFL.out n 0 0 d hF.out
          go_wp2
          go_ret
          first | exact ⟨_, gs, d, rfl, hG.out, ⟨hdl, HW.out⟩, hb.out⟩ | exact ⟨_, rfl, ⟨gs, d, hG.out, ⟨hdl, HW.out⟩, hb.out⟩⟩ | exact ⟨_, rfl, gs, d, hG.out, hdl, HW.out, hb.out⟩
end Go.Proofs.Ytjpfpdbhdcopbaa.Wt
