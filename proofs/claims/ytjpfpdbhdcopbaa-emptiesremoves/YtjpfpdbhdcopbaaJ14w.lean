/- The program's empties: is an arc empty; the first hops of a state. The program's table of hops, each row in a block of its own; empties.shorten. The program's empties.hopsOf. -/
import Derived.Test.YtjpfpdbhdcopbaaJ14x
import Derived.Test.YtjpfpdbhdcopbaaNn
import Derived.Test.YtjpfpdbhdcopbaaRn
import Derived.Test.YtjpfpdbhdcopbaaRg
import Derived.BigQuiet
namespace Go.Proofs.Ytjpfpdbhdcopbaa.Wt
open Go.ChangeShapes Go.WideShapes Go.ChangeAt Go.RowKit
open Go.Proofs.Ytjpfpdbhdcopbaa.Pl
set_option linter.unusedVariables false
set_option linter.unusedSimpArgs false
theorem empP_any (a0 a1 a2 a3 : Int) (w : World) (r : Bool) (hr : empA (a0, a1, a2, a3) = r) : Calls Try.prog 49 #[.agg #[.int .i64 a0, .int .i64 a1, .int .i64 a2, .int .i64 a3]] w fun e w' => e = .returned (.bool r) ∧ Below w.heap.size w w' := by
  by_cases h : a0 = 0
  · subst h
    by_cases h1 : a1 = 0
    · subst h1
      obtain rfl : r = true := by rw [← hr]; rfl
      clear hr
      go_enter Try.func49, Try.ntmps49
      go_wp2
      go_ret
      exact ⟨rfl, by go_grown⟩
    · have hne : (a1 == 0) = false := by simpa using h1
      obtain rfl : r = false := by rw [← hr]; simp [empA, h1]
      clear hr
      go_enter Try.func49, Try.ntmps49
      go_wp2
      go_ret
      exact ⟨rfl, by go_grown⟩
  · have hne : (a0 == 0) = false := by simpa using h
    obtain rfl : r = false := by rw [← hr]; simp [empA, h]
    clear hr
    go_enter Try.func49, Try.ntmps49
    go_wp2
    go_ret
    exact ⟨rfl, by go_grown⟩
theorem aptI_eq : aptI = 4611686018427387903 := rfl
theorem made_zeroP (w : World) (n : Nat) (T : TypeId) : Blk (w.alloc (.cells (Array.replicate n (Value.int .i64 0)) T)) w.heap.size ((List.replicate n (0 : Int)).map (Value.int .i64)).toArray T := by
  have e : ((List.replicate n (0 : Int)).map (Value.int .i64)).toArray = Array.replicate n (Value.int .i64 0) := by simp
  rw [e]
  exact Blk.made _ _ _
def HeldE1 (b : Nat) (p0 p1 p2 p3 : Int) (g t : Nat) (x : Int) (w : World) : Prop := w.cell? ⟨b, 0, none⟩ = some (.int .i64 p0) ∧ w.cell? ⟨b, 1, none⟩ = some (.int .i64 p1) ∧ w.cell? ⟨b, 2, none⟩ = some (.int .i64 p2) ∧ w.cell? ⟨b, 3, none⟩ = some (.int .i64 p3) ∧ w.cell? ⟨g, t, none⟩ = some (.int .i64 x)
set_option maxRecDepth 100000 in
set_option maxHeartbeats 3200000 in
theorem firstHops_any (z : Int) (l : List St) (q : Nat) (f : Int) (va : Value) (w : World) (hr : faultM (z, l) = 0) (hq : q < l.length) (hA : Arcs w va (el l q).2) :
    Calls Try.prog 46 #[.int .i64 (q : Int), .agg #[.int .i64 f, va], .int .i64 (l.length : Int)] w fun e w' => e = .returned (.slice (some ⟨w.heap.size + 1, 0, none⟩) l.length l.length) ∧ (∃ row, RowI l q (el l q).2.length row ∧ Blk w' (w.heap.size + 1) ((rowA row).map (Value.int .i64)).toArray 3) ∧ Below w.heap.size w w' := by
  have h60 : l.length ≤ 60 := (right_size hr).1
  have HTO : Hid (∀ i, i < (el l q).2.length → (∃ t0 : Nat, t0 < l.length ∧ (el (el l q).2 i).2.2.2 = (t0 : Int)) ∧ 0 ≤ (el (el l q).2 i).2.2.1 ∧ (el (el l q).2 i).2.2.1 ≤ 1000000000) := fun i hi => by
    have h3 := (right_parts hr).2 (el l q) (el_mem hq)
    simp only [stB, Bool.and_eq_true, List.all_eq_true] at h3
    have h4 := h3.2 _ (el_mem hi)
    simp only [arcB, inB, Bool.and_eq_true, decide_eq_true_eq] at h4
    exact ⟨⟨(el (el l q).2 i).2.2.2.toNat, by omega, by omega⟩, by omega, by omega⟩
  have hl4 : (el l q).2.length ≤ 400 := (right_states hr q hq).2.1
  have HRI : Hid (RowI l q 0 ((List.replicate l.length noneI).set q 0)) := rowI_start hq
  have HBD : Hid (∀ j row, RowI l q j row → ∀ p, p < l.length → el row p = noneI ∨ el row p ≤ 100000000000) := fun j row h p hp => rowI_bd (m := (z, l)) hr h hp
  have HSK : Hid (∀ j row, RowI l q j row → empA (el (el l q).2 j) = false → RowI l q (j + 1) row) := fun j row h g => rowI_skip h (.inl g)
  have HSE : Hid (∀ (j t : Nat) (row : List Int), RowI l q j row → j < (el l q).2.length → empA (el (el l q).2 j) = true → (el (el l q).2 j).2.2.2 = (t : Int) → t < l.length → 0 ≤ (el (el l q).2 j).2.2.1 → RowI l q (j + 1) (row.set t (lowV (el (el l q).2 j).2.2.1 (el row t)))) := fun j t row h hj he ht htl h0 => rowI_low h hj he ht htl h0
  have HSL : Hid (∀ j row, RowI l q j row → row.length = l.length) := fun j row h => h.1
  obtain ⟨a2, cap2, rfl, hc2⟩ := hA.get
  have HC2 := hidP hc2
  clear hr hA hc2
  obtain ⟨ar, har⟩ : ∃ ar, (el l q).2 = ar := ⟨_, rfl⟩
  rw [har] at hl4 HTO HSK HSE HC2 ⊢
  clear har
  generalize hn1 : ar.length = n1 at *
  generalize hn : l.length = n at *
  have HN := hidP hn
  have HN1 := hidP hn1
  clear hn hn1
  have q0 : (0 : Int) ≤ (q : Int) := by omega
  have q1 : (q : Int) < (n : Int) := by omega
  have hmk := run_nums n (by omega)
  go_enter Try.func46, Try.ntmps46
  go_wp2
  clear hmk
  go_loopw [15] (fun i wi => ∃ (k : Nat) (row : List Int), k ≤ n ∧ i = .int .i64 k ∧ Hid (row.length = n) ∧ Hid (∀ j, j < k → el row j = aptI) ∧ Hid (Blk wi (w.heap.size + 1) (row.map (Value.int .i64)).toArray 3) ∧ Hid (Blk wi w.heap.size #[.int .i64 f, .slice a2 n1 cap2] 46) ∧ Hid (Below w.heap.size w wi)) (fun i _ => n - (intOf i).toNat)
  case atStart => exact ⟨0, List.replicate n 0, Nat.zero_le _, rfl, (by show _ = _; simp), fun j hj => absurd hj (by omega), (by have := made_zeroP (w.alloc (.cells #[.int .i64 f, .slice a2 n1 cap2] 46)) n 3; rw [World.size_alloc] at this; exact this), (Blk.made _ _ _).alloc _, ((Below.refl _ _).alloc (Nat.le_refl _) _).alloc (by simp) _⟩
  case round =>
    obtain ⟨k, row, hk, rfl, hrl, hel, hbr, hbs, hbi⟩ := hrel
    obtain ⟨w3, hw3⟩ : ∃ w3, w3 = wr := ⟨_, rfl⟩
    subst hw3
    by_cases hkl : k < n
    · have k0 : (0 : Int) ≤ (k : Int) := by omega
      have k1 : (k : Int) < (n : Int) := by omega
      have e0 := num_cell hbr.out (j := k) (by rw [hrl.out]; exact hkl)
      have f0 := hbr.out.fz k
      have HB' := hidP (hbr.out.set k (.int .i64 aptI))
      rw [set_num] at HB'
      have HI' := hidP (hbi.out.setCell (p := ⟨w.heap.size + 1, k, none⟩) (by show w.heap.size ≤ w.heap.size + 1; omega) (.int .i64 aptI))
      have HT' := hidP (hbs.out.setO ⟨w.heap.size + 1, k, none⟩ (.int .i64 aptI) (by show w.heap.size ≠ w.heap.size + 1; omega))
      have HE' : Hid (∀ j, j < k + 1 → el (row.set k aptI) j = aptI) := fun j hj => by
        rw [el_setN (by rw [hrl.out]; exact hkl)]
        split
        · rfl
        · exact hel.out j (by omega)
      have HL' : Hid ((row.set k aptI).length = n) := by show _ = _; rw [List.length_set]; exact hrl.out
      rw [aptI_eq] at HB' HI' HL' HT'
      have HE2 : Hid (∀ j, j < k + 1 → el (row.set k 4611686018427387903) j = aptI) := HE'
      clear hbr hbi hel hbs HE'
      go_wp2
      go_roundw
      case rel => exact ⟨k + 1, row.set k 4611686018427387903, by omega, by go_num, HL', HE2, HB', HT', HI'⟩
      case measure => simp [intOf]; omega
    · have k1 : ¬ (k : Int) < (n : Int) := by omega
      have hrow : row = rowA (List.replicate n noneI) := el_ext (by rw [hrl.out]; simp [rowA]) fun j hj => by
        rw [hel.out j (by rw [hrl.out] at hj; omega), el_rowA (by rw [hrl.out] at hj; simpa using hj), el_replicateT (by rw [hrl.out] at hj; exact hj)]
        rfl
      subst hrow
      have e0 := num_cell hbr.out (j := q) (by rw [hrl.out]; exact hq)
      have f0 := hbr.out.fz q
      have HB' := hidP (hbr.out.set q (.int .i64 (toA 0)))
      rw [set_num, rowA_set] at HB'
      rw [show toA 0 = 0 from rfl] at HB'
      have HI' := hidP (hbi.out.setCell (p := ⟨w.heap.size + 1, q, none⟩) (by show w.heap.size ≤ w.heap.size + 1; omega) (.int .i64 0))
      have HT' := hidP (hbs.out.setO ⟨w.heap.size + 1, q, none⟩ (.int .i64 0) (by show w.heap.size ≠ w.heap.size + 1; omega))
      have s1 := HT'.out.cell 1 (v := .slice a2 n1 cap2) rfl
      clear hbr hbi hel hrl hbs
      generalize (List.replicate n noneI).set q 0 = row0 at *
      generalize el (rowA (List.replicate n noneI)) q = x0 at *
      go_wp2
      clear e0 f0 s1
      go_loopw [28] (fun i wi => ∃ (j : Nat) (row : List Int), j ≤ n1 ∧ i = .int .i64 j ∧ Hid (RowI l q j row) ∧ Hid (Blk wi (w.heap.size + 1) ((rowA row).map (Value.int .i64)).toArray 3) ∧ Hid (Below w.heap.size w wi)) (fun i _ => n1 - (intOf i).toNat)
      case atStart => exact ⟨0, row0, Nat.zero_le _, rfl, HRI, HB', HI'⟩
      case round =>
        clear HRI HB' HI' HT'
        obtain ⟨j, row, hj, rfl, hri, hbr, hbi⟩ := hrel
        obtain ⟨w4, hw4⟩ : ∃ w4, w4 = wr := ⟨_, rfl⟩
        subst hw4
        have hrl : row.length = n := HSL.out j row hri.out
        by_cases hjl : j < n1
        · have j0 : (0 : Int) ≤ (j : Int) := by omega
          have j1 : (j : Int) < (n1 : Int) := by omega
          obtain ⟨b6, o6, rfl, hb6, p0c, p1c, p2c, p3c⟩ := HC2.out j hjl
          have p0c := (hbi.out.cell (p := ⟨b6, o6 + j * 4, none⟩) hb6).trans p0c
          have p1c := (hbi.out.cell (p := ⟨b6, o6 + j * 4 + 1, none⟩) hb6).trans p1c
          have p2c := (hbi.out.cell (p := ⟨b6, o6 + j * 4 + 2, none⟩) hb6).trans p2c
          have p3c := (hbi.out.cell (p := ⟨b6, o6 + j * 4 + 3, none⟩) hb6).trans p3c
          obtain ⟨⟨t0, htl, ht0⟩, hw0, hw1⟩ := HTO.out j hjl
          have HS1 := hidP (HSK.out j row hri.out)
          have HS2 := hidP (fun he => HSE.out j t0 row hri.out hjl he ht0 htl hw0)
          have hxb := HBD.out j row hri.out t0 htl
          rw [ht0] at p3c
          obtain ⟨pp, hpp⟩ : ∃ pp, el ar j = pp := ⟨_, rfl⟩
          rw [hpp] at p0c p1c p2c HS1 HS2 hw1 ht0
          clear hpp
          obtain ⟨p0, p1, p2, p3⟩ := pp
          simp only at p0c p1c p2c HS1 HS2 hw1 ht0
          subst ht0
          have HLO := hidP (toA_low hw1 hxb)
          obtain ⟨x1, hx1⟩ : ∃ x1, el row t0 = x1 := ⟨_, rfl⟩
          have HX1 := hidP hx1
          rw [hx1] at HS2 HLO
          clear hx1 hxb hw0 hw1
          have t1 : (0 : Int) ≤ (t0 : Int) := by omega
          have t2 : (t0 : Int) < (n : Int) := by omega
          have s2 := hbr.out.lt
          rcases Bool.eq_false_or_eq_true (empA (p0, p1, p2, (t0 : Int))) with he | he
          · have HRW := hidP (HS2.out he)
            go_wp2_with (go_at_call 49; (with_reducible refine (empP_any _ _ _ _ _ _ he).mono ?_); rintro e w5 ⟨rfl, hb5⟩; obtain ⟨s5, k5, hb5'⟩ := boxed hb5 (by simp); have HK5 := hidP k5; have HB5 := hidP hb5'; clear hb5 hb5' k5)
            have HH5 := hidP (hbr.out.below HB5.out s2)
            have HI5 := hidP (hbi.out.trans (HB5.out.mono hbi.out.size))
            have rc := num_cell HH5.out (j := t0) (by rw [rowA_len, hrl]; exact htl)
            have rf5 := HH5.out.fz t0
            rw [el_rowA (by rw [hrl]; exact htl), HX1.out] at rc
            have HS5 : HeldE1 w4.heap.size p0 p1 p2 (t0 : Int) (w.heap.size + 1) t0 (toA x1) w5.drew := ⟨HK5.out.cell 0 rfl, HK5.out.cell 1 rfl, HK5.out.cell 2 rfl, HK5.out.cell 3 rfl, rc⟩
            have HH6 := hidP (HH5.out.set t0 (.int .i64 (toA (lowV p2 x1))))
            rw [set_num, rowA_set] at HH6
            have HI6 := hidP (HI5.out.setCell (p := ⟨w.heap.size + 1, t0, none⟩) (by show w.heap.size ≤ w.heap.size + 1; omega) (.int .i64 (toA (lowV p2 x1))))
            refine region_anyL (HeldE1 w4.heap.size p0 p1 p2 (t0 : Int) (w.heap.size + 1) t0 (toA x1)) 12 (by kernel_rfl) ?_
            refine anyL_take (i := 0) (v := ?v0_1) at0 (by kernel_rfl) (by kernel_rfl) (by kernel_rfl) (by kernel_rfl) (fun _ _ _ h => h) rfl ?y0_1 HS5 ?r0_1
            case y0_1 => intro wx hx; obtain ⟨h0, h1, h2, h3, h4⟩ := hx; go_simp; try (with_reducible rfl)
            simp only [Act.put, List.setIfInBounds_toArray, List.set_cons_zero, List.set_cons_succ]
            refine anyL_take (i := 1) (v := ?v1_2) (atS at0) (by kernel_rfl) (by kernel_rfl) (by kernel_rfl) (by kernel_rfl) (fun _ _ _ h => h) rfl ?y1_2 HS5 ?r1_2
            case y1_2 => intro wx hx; obtain ⟨h0, h1, h2, h3, h4⟩ := hx; go_simp; try (with_reducible rfl)
            simp only [Act.put, List.setIfInBounds_toArray, List.set_cons_zero, List.set_cons_succ]
            refine anyL_take (i := 2) (v := ?v2_3) (atS (atS at0)) (by kernel_rfl) (by kernel_rfl) (by kernel_rfl) (by kernel_rfl) (fun _ _ _ h => h) rfl ?y2_3 HS5 ?r2_3
            case y2_3 => intro wx hx; obtain ⟨h0, h1, h2, h3, h4⟩ := hx; go_simp; try (with_reducible rfl)
            simp only [Act.put, List.setIfInBounds_toArray, List.set_cons_zero, List.set_cons_succ]
            refine anyL_take (i := 3) (v := ?v3_4) (atS (atS (atS at0))) (by kernel_rfl) (by kernel_rfl) (by kernel_rfl) (by kernel_rfl) (fun _ _ _ h => h) rfl ?y3_4 HS5 ?r3_4
            case y3_4 => intro wx hx; obtain ⟨h0, h1, h2, h3, h4⟩ := hx; go_simp; try (with_reducible rfl)
            simp only [Act.put, List.setIfInBounds_toArray, List.set_cons_zero, List.set_cons_succ]
            refine anyL_take (i := 4) (v := ?v4_5) (atS (atS (atS (atS at0)))) (by kernel_rfl) (by kernel_rfl) (by kernel_rfl) (by kernel_rfl) (fun _ _ _ h => h) rfl ?y4_5 HS5 ?r4_5
            case y4_5 => intro wx hx; obtain ⟨h0, h1, h2, h3, h4⟩ := hx; go_simp; try (with_reducible rfl)
            simp only [Act.put, List.setIfInBounds_toArray, List.set_cons_zero, List.set_cons_succ]
            refine anyL_take (i := 5) (v := ?v5_6) (atS (atS (atS (atS (atS at0))))) (by kernel_rfl) (by kernel_rfl) (by kernel_rfl) (by kernel_rfl) (fun _ _ _ h => h) rfl ?y5_6 HS5 ?r5_6
            case y5_6 => intro wx hx; obtain ⟨h0, h1, h2, h3, h4⟩ := hx; go_simp; try (with_reducible rfl)
            simp only [Act.put, List.setIfInBounds_toArray, List.set_cons_zero, List.set_cons_succ]
            refine anyL_take (i := 6) (v := ?v6_7) (atS (atS (atS (atS (atS (atS at0)))))) (by kernel_rfl) (by kernel_rfl) (by kernel_rfl) (by kernel_rfl) (fun _ _ _ h => h) rfl ?y6_7 HS5 ?r6_7
            case y6_7 => intro wx hx; obtain ⟨h0, h1, h2, h3, h4⟩ := hx; go_simp; try (with_reducible rfl)
            simp only [Act.put, List.setIfInBounds_toArray, List.set_cons_zero, List.set_cons_succ]
            refine anyL_take (i := 7) (v := ?v7_8) (atS (atS (atS (atS (atS (atS (atS at0))))))) (by kernel_rfl) (by kernel_rfl) (by kernel_rfl) (by kernel_rfl) (fun _ _ _ h => h) rfl ?y7_8 HS5 ?r7_8
            case y7_8 => intro wx hx; obtain ⟨h0, h1, h2, h3, h4⟩ := hx; go_simp; try (with_reducible rfl)
            simp only [Act.put, List.setIfInBounds_toArray, List.set_cons_zero, List.set_cons_succ]
            refine anyL_take (i := 8) (v := ?v8_9) (atS (atS (atS (atS (atS (atS (atS (atS at0)))))))) (by kernel_rfl) (by kernel_rfl) (by kernel_rfl) (by kernel_rfl) (fun _ _ _ h => h) rfl ?y8_9 HS5 ?r8_9
            case y8_9 => intro wx hx; obtain ⟨h0, h1, h2, h3, h4⟩ := hx; go_simp; try (with_reducible rfl)
            simp only [Act.put, List.setIfInBounds_toArray, List.set_cons_zero, List.set_cons_succ]
            refine anyL_take (i := 9) (v := ?v9_10) (atS (atS (atS (atS (atS (atS (atS (atS (atS at0))))))))) (by kernel_rfl) (by kernel_rfl) (by kernel_rfl) (by kernel_rfl) (fun _ _ _ h => h) rfl ?y9_10 HS5 ?r9_10
            case y9_10 => intro wx hx; obtain ⟨h0, h1, h2, h3, h4⟩ := hx; go_simp; try (with_reducible rfl)
            simp only [Act.put, List.setIfInBounds_toArray, List.set_cons_zero, List.set_cons_succ]
            refine anyL_take (i := 10) (v := .int .i64 (toA (lowV p2 x1))) (atS (atS (atS (atS (atS (atS (atS (atS (atS (atS at0)))))))))) (by kernel_rfl) (by kernel_rfl) (by kernel_rfl) (by kernel_rfl) (fun _ _ _ h => h) rfl ?y10_39 HS5 ?r10_39
            case y10_39 => intro wx hx; obtain ⟨h0, h1, h2, h3, h4⟩ := hx; go_simp; rw [HLO.out]
            simp only [Act.put, List.setIfInBounds_toArray, List.set_cons_zero, List.set_cons_succ]
            refine anyL_take (i := 11) (v := ?v11_11) (atS (atS (atS (atS (atS (atS (atS (atS (atS (atS (atS at0))))))))))) (by kernel_rfl) (by kernel_rfl) (by kernel_rfl) (by kernel_rfl) (fun _ _ _ h => h) rfl ?y11_11 HS5 ?r11_11
            case y11_11 => intro wx hx; obtain ⟨h0, h1, h2, h3, h4⟩ := hx; go_simp; try (with_reducible rfl)
            simp only [Act.put, List.setIfInBounds_toArray, List.set_cons_zero, List.set_cons_succ]
            refine anyL_one (i := 12) (atS (atS (atS (atS (atS (atS (atS (atS (atS (atS (atS (atS at0)))))))))))) (by kernel_rfl) rfl (fun K hK => ?_)
            obtain ⟨h0, h1, h2, h3, h4⟩ := HS5
            go_simp
            refine hK _ _ (.inl rfl) (anyL_done (by kernel_rfl) (NoPanic.normal ?_))
            try simp only [Act.put, List.setIfInBounds_toArray, List.set_cons_zero, List.set_cons_succ]
            clear h0 h1 h2 h3 h4 rf5 rc
            go_wp2
            go_roundw
            case rel => exact ⟨j + 1, row.set t0 (lowV p2 x1), by omega, by go_num, HRW, HH6.out.drew, HI6.out.drew⟩
            case measure => simp [intOf]; omega
          · have HRW := hidP (HS1.out he)
            go_wp2_with (go_at_call 49; (with_reducible refine (empP_any _ _ _ _ _ _ he).mono ?_); rintro e w5 ⟨rfl, hb5⟩; obtain ⟨s5, k5, hb5'⟩ := boxed hb5 (by simp); have HB5 := hidP hb5'; clear hb5 hb5' k5)
            go_roundw
            case rel => exact ⟨j + 1, row, by omega, by go_num, HRW, hbr.out.below HB5.out s2, hbi.out.trans (HB5.out.mono hbi.out.size)⟩
            case measure => simp [intOf]; omega
        · have j1 : ¬ (j : Int) < (n1 : Int) := by omega
          obtain rfl : n1 = j := by omega
          go_wp2
          go_ret
          exact ⟨rfl, ⟨row, hri.out, hbr.out⟩, hbi.out⟩
end Go.Proofs.Ytjpfpdbhdcopbaa.Wt
namespace Go.Proofs.Ytjpfpdbhdcopbaa.Wt
open Go.ChangeShapes Go.WideShapes Go.ChangeAt Go.RowKit
open Go.Proofs.Ytjpfpdbhdcopbaa.Pl
set_option linter.unusedVariables false
set_option linter.unusedSimpArgs false
def rowV (n g : Nat) : Value := .slice (some ⟨g, 0, none⟩) n n
/-- The block G holds a table of n rows, of which those in the blocks gs are laid: the rows d, apart from each other, from block base on. -/
structure GridP (w : World) (base n G : Nat) (gs : List Nat) (d : List (List Int)) : Prop where
  len : gs.length = d.length
  few : gs.length ≤ n
  blk : Blk w G (gs.map (rowV n) ++ List.replicate (n - gs.length) (Value.slice none 0 0)).toArray 34
  low : base ≤ G
  row : ∀ j, j < gs.length → base ≤ el gs j ∧ (el d j).length = n ∧ Blk w (el gs j) ((rowA (el d j)).map (Value.int .i64)).toArray 3
  apt : ∀ i j, i < gs.length → j < gs.length → i ≠ j → el gs i ≠ el gs j
theorem GridP.ne {w : World} {base n G : Nat} {gs : List Nat} {d : List (List Int)} (h : GridP w base n G gs d) {j : Nat} (hj : j < gs.length) : G ≠ el gs j := fun e => by
  have h1 := h.blk
  have h2 := (h.row j hj).2.2
  rw [← e] at h2
  unfold Blk at h1 h2
  rw [h1] at h2
  simp at h2
theorem GridP.keep {w w' : World} {base n G : Nat} {gs : List Nat} {d : List (List Int)} (h : GridP w base n G gs d) (e : ∀ k, base ≤ k → k < w.heap.size → w'.heap[k]? = w.heap[k]?) : GridP w' base n G gs d :=
  ⟨h.len, h.few, h.blk.keep (e _ h.low h.blk.lt), h.low, fun j hj => ⟨(h.row j hj).1, (h.row j hj).2.1, (h.row j hj).2.2.keep (e _ (h.row j hj).1 (h.row j hj).2.2.lt)⟩, h.apt⟩
theorem GridP.later {w w' : World} {base n G : Nat} {gs : List Nat} {d : List (List Int)} (h : GridP w base n G gs d) (hb : Below w.heap.size w w') : GridP w' base n G gs d := h.keep fun k _ hk => hb.block k hk
theorem GridP.rowc {w : World} {base n G : Nat} {gs : List Nat} {d : List (List Int)} (h : GridP w base n G gs d) {q : Nat} (hq : q < d.length) : w.cell? ⟨G, q, none⟩ = some (.slice (some ⟨el gs q, 0, none⟩) n n) := by
  have hq' : q < gs.length := by rw [h.len]; exact hq
  refine h.blk.cell _ ?_
  rw [List.getElem?_toArray, List.getElem?_append_left (by simpa using hq')]
  simp [hq', el, rowV]
theorem GridP.get {w : World} {base n G : Nat} {gs : List Nat} {d : List (List Int)} (h : GridP w base n G gs d) {q p : Nat} (hq : q < d.length) (hp : p < n) : w.cell? ⟨el gs q, p, none⟩ = some (.int .i64 (toA (el (el d q) p))) := by
  obtain ⟨_, hl, hb⟩ := h.row q (by rw [h.len]; exact hq)
  have := num_cell hb (j := p) (by rw [rowA_len, hl]; exact hp)
  rw [el_rowA (by rw [hl]; exact hp)] at this
  exact this
theorem GridP.fz {w : World} {base n G : Nat} {gs : List Nat} {d : List (List Int)} (h : GridP w base n G gs d) {q : Nat} (hq : q < d.length) (p : Nat) : w.frozen? ⟨el gs q, p, none⟩ = false := (h.row q (by rw [h.len]; exact hq)).2.2.fz p
theorem GridP.put {w : World} {base n G : Nat} {gs : List Nat} {d : List (List Int)} (h : GridP w base n G gs d) {q p : Nat} (hq : q < d.length) (hp : p < n) (x : Int) : GridP (w.setCell ⟨el gs q, p, none⟩ (.int .i64 (toA x))) base n G gs (putD d q p x) := by
  have hqg : q < gs.length := by rw [h.len]; exact hq
  have hbq := (h.row q hqg).2.2
  refine ⟨by unfold putD; rw [List.length_set]; exact h.len, h.few, h.blk.setO _ _ (h.ne hqg), h.low, fun j hj => ?_, h.apt⟩
  unfold putD
  rw [el_set (by rw [← h.len]; exact hj)]
  by_cases e : q = j
  · subst e
    rw [if_pos rfl]
    refine ⟨(h.row q hj).1, by rw [List.length_set]; exact (h.row q hj).2.1, ?_⟩
    have h9 := hbq.set p (.int .i64 (toA x))
    rw [set_num, rowA_set] at h9
    exact h9
  · rw [if_neg e]
    exact ⟨(h.row j hj).1, (h.row j hj).2.1, (h.row j hj).2.2.setO _ _ (h.apt j q hj hqg (Ne.symm e))⟩
/-- One row more is laid. -/
theorem GridP.lay {w : World} {base n G g : Nat} {gs : List Nat} {d : List (List Int)} {r : List Int} (h : GridP w base n G gs d) (hl : gs.length < n) (hg : Blk w g ((rowA r).map (Value.int .i64)).toArray 3) (hr : r.length = n) (hb : base ≤ g) (hn : ∀ j, j < gs.length → el gs j ≠ g) : GridP (w.setCell ⟨G, gs.length, none⟩ (.slice (some ⟨g, 0, none⟩) n n)) base n G (gs ++ [g]) (d ++ [r]) := by
  have hGg : G ≠ g := fun e => by
    have h1 := h.blk
    rw [← e] at hg
    unfold Blk at h1 hg
    rw [h1] at hg
    simp at hg
  refine ⟨by simp [h.len], by simp; omega, ?_, h.low, fun j hj => ?_, fun i j hi hj hij => ?_⟩
  · have h9 := h.blk.set gs.length (.slice (some ⟨g, 0, none⟩) n n)
    have e1 : n - gs.length = (n - (gs ++ [g]).length) + 1 := by simp; omega
    have e2 : (gs.map (rowV n) ++ List.replicate (n - gs.length) (Value.slice none 0 0)).toArray.setIfInBounds gs.length (.slice (some ⟨g, 0, none⟩) n n) = ((gs ++ [g]).map (rowV n) ++ List.replicate (n - (gs ++ [g]).length) (Value.slice none 0 0)).toArray := by
      rw [e1, List.replicate_succ]
      simp [rowV, List.set_append]
    rw [e2] at h9
    exact h9
  · rw [List.length_append] at hj
    simp at hj
    by_cases e : j < gs.length
    · rw [el_left e, el_left (by rw [← h.len]; exact e)]
      exact ⟨(h.row j e).1, (h.row j e).2.1, (h.row j e).2.2.setO _ _ (Ne.symm (h.ne e))⟩
    · obtain rfl : j = gs.length := by omega
      rw [el_last, h.len, el_last]
      exact ⟨hb, hr, hg.setO _ _ (Ne.symm hGg)⟩
  · rw [List.length_append] at hi hj
    simp at hi hj
    by_cases ei : i < gs.length
    · by_cases ej : j < gs.length
      · rw [el_left ei, el_left ej]; exact h.apt i j ei ej hij
      · obtain rfl : j = gs.length := by omega
        rw [el_left ei, el_last]; exact hn i ei
    · obtain rfl : i = gs.length := by omega
      have ej : j < gs.length := by omega
      rw [el_last, el_left ej]; exact Ne.symm (hn j ej)
def HeldS (g k p : Nat) (x y : Int) (w : World) : Prop := w.cell? ⟨g, p, none⟩ = some (.int .i64 x) ∧ w.cell? ⟨k, p, none⟩ = some (.int .i64 y)
set_option maxRecDepth 100000 in
set_option maxHeartbeats 3200000 in
theorem shorten_any (m : Mc) (hr : faultM m = 0) (k q base G : Nat) (gs : List Nat) (d : List (List Int)) (w : World) (hk : k < m.2.length) (hq : q < m.2.length) (hF : FwQ m.2 k q 0 d) (hG : GridP w base m.2.length G gs d) :
    Calls Try.prog 47 #[.slice (some ⟨el gs q, 0, none⟩) m.2.length m.2.length, .slice (some ⟨el gs k, 0, none⟩) m.2.length m.2.length, .int .i64 (toA (el (el d q) k))] w fun e w' => e = .returned (.tuple #[]) ∧ (∃ d', FwQ m.2 k q m.2.length d' ∧ GridP w' base m.2.length G gs d') ∧ Below base w w' := by
  have h60 : m.2.length ≤ 60 := (right_size (z := m.1) (l := m.2) hr).1
  have hx := fw_first hr hF hk hq
  obtain ⟨x, hxe⟩ : ∃ x, el (el d q) k = x := ⟨_, rfl⟩
  rw [hxe] at hx ⊢
  have hxb := hx.bd (by omega)
  have HPU : Hid (∀ p d, FwQ m.2 k q p d → p < m.2.length → FwQ m.2 k q (p + 1) (putD d q p (newV x (el (el d k) p) (el (el d q) p)))) := fun p d h hp => fw_put hr h hx hk hq hp
  have HBD : Hid (∀ p d, FwQ m.2 k q p d → ∀ q' p', q' < m.2.length → p' < m.2.length → 0 ≤ el (el d q') p' ∧ (el (el d q') p' = noneI ∨ el (el d q') p' ≤ 61000000000)) := fun p d h q' p' h1 h2 => h.bd hr hk h1 h2
  have HFL : Hid (∀ p d, FwQ m.2 k q p d → d.length = m.2.length) := fun p d h => h.1
  have HF := hidP hF
  have HG := hidP hG
  have hXA := toA_bd hxb
  have HXB := hidP hxb
  clear hxe hx hr hF hG hxb
  generalize m.2.length = n at *
  generalize m.2 = l at *
  clear m
  generalize hgq : el gs q = Bq at *
  generalize hgk : el gs k = Bk at *
  have HGQ := hidP hgq
  have HGK := hidP hgk
  clear hgq hgk
  obtain ⟨xa, hxa⟩ : ∃ xa, toA x = xa := ⟨_, rfl⟩
  have HXA := hidP hxa
  rw [hxa] at hXA ⊢
  clear hxa
  obtain ⟨xa0, xa1⟩ := hXA
  go_enter Try.func47, Try.ntmps47
  go_wp2
  go_loopw [9] (fun i wi => ∃ (p : Nat) (d : List (List Int)), p ≤ n ∧ i = .int .i64 p ∧ Hid (FwQ l k q p d) ∧ Hid (GridP wi base n G gs d) ∧ Hid (Below base w wi)) (fun i _ => n - (intOf i).toNat)
  case atStart => exact ⟨0, d, Nat.zero_le _, rfl, HF, HG, Below.refl _ _⟩
  case round =>
    clear HF HG d
    obtain ⟨p, d, hp, rfl, hF, hG, hb⟩ := hrel
    obtain ⟨w5, hw5⟩ : ∃ w5, w5 = wr := ⟨_, rfl⟩
    subst hw5
    by_cases hpl : p < n
    · have p0 : (0 : Int) ≤ (p : Int) := by omega
      have p1 : (p : Int) < (n : Int) := by omega
      have hdl : d.length = n := HFL.out p d hF.out
      have c2 := hG.out.get (q := k) (p := p) (by omega) hpl
      have c3 := hG.out.get (q := q) (p := p) (by omega) hpl
      have f3 := hG.out.fz (q := q) (by omega) p
      have r2 := HBD.out p d hF.out k p hk hpl
      have r3 := HBD.out p d hF.out q p hq hpl
      have HNE := hidP (HPU.out p d hF.out hpl)
      have HNV := hidP (toA_new HXB.out r2 r3)
      have HGS := hidP (hG.out.put (q := q) (p := p) (by omega) hpl (newV x (el (el d k) p) (el (el d q) p)))
      have hGq : base ≤ el gs q := (hG.out.row q (by rw [hG.out.len]; omega)).1
      have h2A := toA_bd r2
      rw [HGQ.out] at c3 f3 HGS hGq
      rw [HGK.out] at c2
      rw [HXA.out] at HNV
      clear r2 r3
      generalize newV x (el (el d k) p) (el (el d q) p) = x4 at *
      generalize toA (el (el d k) p) = y2 at *
      generalize toA (el (el d q) p) = y3 at *
      obtain ⟨y20, y21⟩ := h2A
      have hwr : IntKind.i64.wrap (xa + y2) = xa + y2 := wrapI (by omega) (by omega)
      have HB2 := hidP (hb.out.setCell (p := ⟨Bq, p, none⟩) (by show base ≤ Bq; omega) (.int .i64 (toA x4)))
      go_wp2
      have HS : HeldS Bq Bk p y3 y2 w5.drew := ⟨c3, c2⟩
      refine region_anyL (HeldS Bq Bk p y3 y2) 14 (by kernel_rfl) ?_
      refine anyL_take (i := 0) (v := ?v0_12) at0 (by kernel_rfl) (by kernel_rfl) (by kernel_rfl) (by kernel_rfl) (fun _ _ _ h => h) rfl ?y0_12 HS ?r0_12
      case y0_12 => intro wx hx; obtain ⟨h0, h1⟩ := hx; go_simp; try (with_reducible rfl)
      simp only [Act.put, List.setIfInBounds_toArray, List.set_cons_zero, List.set_cons_succ]
      refine anyL_take (i := 1) (v := ?v1_13) (atS at0) (by kernel_rfl) (by kernel_rfl) (by kernel_rfl) (by kernel_rfl) (fun _ _ _ h => h) rfl ?y1_13 HS ?r1_13
      case y1_13 => intro wx hx; obtain ⟨h0, h1⟩ := hx; go_simp; try (with_reducible rfl)
      simp only [Act.put, List.setIfInBounds_toArray, List.set_cons_zero, List.set_cons_succ]
      refine anyL_take (i := 2) (v := ?v2_14) (atS (atS at0)) (by kernel_rfl) (by kernel_rfl) (by kernel_rfl) (by kernel_rfl) (fun _ _ _ h => h) rfl ?y2_14 HS ?r2_14
      case y2_14 => intro wx hx; obtain ⟨h0, h1⟩ := hx; go_simp; try (with_reducible rfl)
      simp only [Act.put, List.setIfInBounds_toArray, List.set_cons_zero, List.set_cons_succ]
      refine anyL_take (i := 3) (v := ?v3_15) (atS (atS (atS at0))) (by kernel_rfl) (by kernel_rfl) (by kernel_rfl) (by kernel_rfl) (fun _ _ _ h => h) rfl ?y3_15 HS ?r3_15
      case y3_15 => intro wx hx; obtain ⟨h0, h1⟩ := hx; go_simp; try (with_reducible rfl)
      simp only [Act.put, List.setIfInBounds_toArray, List.set_cons_zero, List.set_cons_succ]
      refine anyL_take (i := 4) (v := ?v4_16) (atS (atS (atS (atS at0)))) (by kernel_rfl) (by kernel_rfl) (by kernel_rfl) (by kernel_rfl) (fun _ _ _ h => h) rfl ?y4_16 HS ?r4_16
      case y4_16 => intro wx hx; obtain ⟨h0, h1⟩ := hx; go_simp; try (with_reducible rfl)
      simp only [Act.put, List.setIfInBounds_toArray, List.set_cons_zero, List.set_cons_succ]
      refine anyL_take (i := 5) (v := ?v5_17) (atS (atS (atS (atS (atS at0))))) (by kernel_rfl) (by kernel_rfl) (by kernel_rfl) (by kernel_rfl) (fun _ _ _ h => h) rfl ?y5_17 HS ?r5_17
      case y5_17 => intro wx hx; obtain ⟨h0, h1⟩ := hx; go_simp; try (with_reducible rfl)
      simp only [Act.put, List.setIfInBounds_toArray, List.set_cons_zero, List.set_cons_succ]
      refine anyL_take (i := 6) (v := ?v6_18) (atS (atS (atS (atS (atS (atS at0)))))) (by kernel_rfl) (by kernel_rfl) (by kernel_rfl) (by kernel_rfl) (fun _ _ _ h => h) rfl ?y6_18 HS ?r6_18
      case y6_18 => intro wx hx; obtain ⟨h0, h1⟩ := hx; go_simp; try (with_reducible rfl)
      simp only [Act.put, List.setIfInBounds_toArray, List.set_cons_zero, List.set_cons_succ]
      refine anyL_take (i := 7) (v := ?v7_19) (atS (atS (atS (atS (atS (atS (atS at0))))))) (by kernel_rfl) (by kernel_rfl) (by kernel_rfl) (by kernel_rfl) (fun _ _ _ h => h) rfl ?y7_19 HS ?r7_19
      case y7_19 => intro wx hx; obtain ⟨h0, h1⟩ := hx; go_simp; try (with_reducible rfl)
      simp only [Act.put, List.setIfInBounds_toArray, List.set_cons_zero, List.set_cons_succ]
      refine anyL_take (i := 8) (v := ?v8_20) (atS (atS (atS (atS (atS (atS (atS (atS at0)))))))) (by kernel_rfl) (by kernel_rfl) (by kernel_rfl) (by kernel_rfl) (fun _ _ _ h => h) rfl ?y8_20 HS ?r8_20
      case y8_20 => intro wx hx; obtain ⟨h0, h1⟩ := hx; go_simp; try (with_reducible rfl)
      simp only [Act.put, List.setIfInBounds_toArray, List.set_cons_zero, List.set_cons_succ]
      refine anyL_take (i := 9) (v := ?v9_21) (atS (atS (atS (atS (atS (atS (atS (atS (atS at0))))))))) (by kernel_rfl) (by kernel_rfl) (by kernel_rfl) (by kernel_rfl) (fun _ _ _ h => h) rfl ?y9_21 HS ?r9_21
      case y9_21 => intro wx hx; obtain ⟨h0, h1⟩ := hx; go_simp; try (with_reducible rfl)
      simp only [Act.put, List.setIfInBounds_toArray, List.set_cons_zero, List.set_cons_succ]
      refine anyL_take (i := 10) (v := ?v10_22) (atS (atS (atS (atS (atS (atS (atS (atS (atS (atS at0)))))))))) (by kernel_rfl) (by kernel_rfl) (by kernel_rfl) (by kernel_rfl) (fun _ _ _ h => h) rfl ?y10_22 HS ?r10_22
      case y10_22 => intro wx hx; obtain ⟨h0, h1⟩ := hx; go_simp; try (with_reducible rfl)
      simp only [Act.put, List.setIfInBounds_toArray, List.set_cons_zero, List.set_cons_succ]
      refine anyL_take (i := 11) (v := ?v11_23) (atS (atS (atS (atS (atS (atS (atS (atS (atS (atS (atS at0))))))))))) (by kernel_rfl) (by kernel_rfl) (by kernel_rfl) (by kernel_rfl) (fun _ _ _ h => h) rfl ?y11_23 HS ?r11_23
      case y11_23 => intro wx hx; obtain ⟨h0, h1⟩ := hx; go_simp; try (with_reducible rfl)
      simp only [Act.put, List.setIfInBounds_toArray, List.set_cons_zero, List.set_cons_succ]
      refine anyL_take (i := 12) (v := .int .i64 (toA x4)) (atS (atS (atS (atS (atS (atS (atS (atS (atS (atS (atS (atS at0)))))))))))) (by kernel_rfl) (by kernel_rfl) (by kernel_rfl) (by kernel_rfl) (fun _ _ _ h => h) rfl ?y12_40 HS ?r12_40
      case y12_40 => intro wx hx; obtain ⟨h0, h1⟩ := hx; go_simp; rw [HNV.out]
      simp only [Act.put, List.setIfInBounds_toArray, List.set_cons_zero, List.set_cons_succ]
      refine anyL_take (i := 13) (v := ?v13_24) (atS (atS (atS (atS (atS (atS (atS (atS (atS (atS (atS (atS (atS at0))))))))))))) (by kernel_rfl) (by kernel_rfl) (by kernel_rfl) (by kernel_rfl) (fun _ _ _ h => h) rfl ?y13_24 HS ?r13_24
      case y13_24 => intro wx hx; obtain ⟨h0, h1⟩ := hx; go_simp; try (with_reducible rfl)
      simp only [Act.put, List.setIfInBounds_toArray, List.set_cons_zero, List.set_cons_succ]
      refine anyL_one (i := 14) (atS (atS (atS (atS (atS (atS (atS (atS (atS (atS (atS (atS (atS (atS at0)))))))))))))) (by kernel_rfl) rfl (fun K hK => ?_)
      go_simp
      refine hK _ _ (.inl rfl) (anyL_done (by kernel_rfl) (NoPanic.normal ?_))
      try simp only [Act.put, List.setIfInBounds_toArray, List.set_cons_zero, List.set_cons_succ]
      clear HS
      go_wp2
      go_roundw
      case rel => exact ⟨p + 1, _, by omega, by go_num, HNE, HGS.out.later ((Below.refl _ _).drew), HB2.out.drew⟩
      case measure => simp [intOf]; omega
    · have p1 : ¬ (p : Int) < (n : Int) := by omega
      obtain rfl : n = p := by omega
      go_wp2
      go_end0
      exact ⟨rfl, ⟨d, hF.out, hG.out⟩, hb.out⟩
end Go.Proofs.Ytjpfpdbhdcopbaa.Wt
namespace Go.Proofs.Ytjpfpdbhdcopbaa.Wt
open Go.ChangeShapes Go.WideShapes Go.ChangeAt Go.RowKit
open Go.Proofs.Ytjpfpdbhdcopbaa.Pl
set_option linter.unusedVariables false
set_option linter.unusedSimpArgs false
theorem infoRowP : (Try.prog.info? 34).map (fun i => (i.zero, i.size, i.bytes)) = some (some (.slice none 0 0), 1, 24) := by kernel_rfl
theorem made_rowsP (n : Nat) : madeCells (Value.cells (.slice none 0 0)) (n * 1) = (List.replicate n (Value.slice none 0 0)).toArray := by
  have hz : Value.cells (.slice none 0 0) = #[.slice none 0 0] := rfl
  apply Array.ext_getElem?
  intro t
  simp only [madeCells, hz, Array.getElem?_map]
  by_cases ht : t < n
  · simp [ht, Nat.mod_one]
  · simp [ht]
theorem run_rowsP (n : Nat) (hn : n ≤ 1000) (W : World) : (Instr.makeSlice 48 (.int .i64 (n : Int)) (.int .i64 (n : Int))).run Try.prog W = .ok (.slice (some ⟨W.heap.size, 0, none⟩) n n) (W.alloc (.cells (List.replicate n (Value.slice none 0 0)).toArray 34)) := by
  obtain ⟨i1, hi1, hy0, hy1, hy2⟩ := info_parts infoRowP
  have h := run_make (P := Try.prog) W 48 34 i1 _ Try.underlying48 hi1 hy0 .i64 .i64 n n (by omega) (by omega) (by rw [hy2]; omega) (by omega)
  rw [hy1, Int.toNat_natCast, made_rowsP] at h
  exact h
theorem GridP.made (w : World) (base n : Nat) (hb : base ≤ w.heap.size) : GridP (w.alloc (.cells (Array.replicate n (Value.slice none 0 0)) 34)) base n w.heap.size [] [] :=
  ⟨rfl, Nat.zero_le _, (by have := Blk.made w (Array.replicate n (Value.slice none 0 0)) 34; simpa using this), hb, fun j hj => absurd hj (by simp), fun i j hi => absurd hi (by simp)⟩
theorem GridP.mono {w : World} {base base' n G : Nat} {gs : List Nat} {d : List (List Int)} (h : GridP w base n G gs d) (hb : base' ≤ base) : GridP w base' n G gs d :=
  ⟨h.len, h.few, h.blk, Nat.le_trans hb h.low, fun j hj => ⟨Nat.le_trans hb (h.row j hj).1, (h.row j hj).2⟩, h.apt⟩
def HeldT2 (G q : Nat) (vq : Value) (k : Nat) (vk : Value) (w : World) : Prop := w.cell? ⟨G, q, none⟩ = some vq ∧ w.cell? ⟨G, k, none⟩ = some vk
set_option maxRecDepth 100000 in
set_option maxHeartbeats 6400000 in
theorem hopsOf_any (z : Int) (l : List St) (a : Option Addr) (cap : Nat) (w : World) (h : Mach w (.agg #[.int .i64 z, .slice a l.length cap]) (z, l)) (hr : faultM (z, l) = 0) :
    Calls Try.prog 17 #[.agg #[.int .i64 z, .slice a l.length cap]] w fun e w' => e = .returned (.slice (some ⟨w.heap.size + 1, 0, none⟩) l.length l.length) ∧ (∃ gs d, GridP w' (w.heap.size + 1) l.length (w.heap.size + 1) gs d ∧ d.length = l.length ∧ HopT (z, l) (fun q p => el (el d q) p)) ∧ Below w.heap.size w w' := by
  obtain ⟨vs', hvs, hS⟩ := h
  simp only [Value.agg.injEq, Array.mk.injEq, List.cons.injEq, and_true, true_and] at hvs
  subst hvs
  obtain ⟨a', cap', hsl, hc⟩ := hS.get
  simp only [Value.slice.injEq, true_and] at hsl
  obtain ⟨rfl, rfl⟩ := hsl
  have h60 : l.length ≤ 60 := (right_size hr).1
  have HC : Hid (∀ j, j < l.length → ∃ b off va, a = some ⟨b, off, none⟩ ∧ b < w.heap.size ∧ w.cell? ⟨b, off + j * 2, none⟩ = some (.int .i64 (el l j).1) ∧ w.cell? ⟨b, off + j * 2 + 1, none⟩ = some va ∧ Arcs w va (el l j).2) := hc
  have HFH : Hid (∀ q f va (W : World), q < l.length → Arcs W va (el l q).2 → Calls Try.prog 46 #[.int .i64 (q : Int), .agg #[.int .i64 f, va], .int .i64 (l.length : Int)] W fun e w' => e = .returned (.slice (some ⟨W.heap.size + 1, 0, none⟩) l.length l.length) ∧ (∃ row, RowI l q (el l q).2.length row ∧ Blk w' (W.heap.size + 1) ((rowA row).map (Value.int .i64)).toArray 3) ∧ Below W.heap.size W w') := fun q f va W hq hA => firstHops_any z l q f va W hr hq hA
  have HSH : Hid (∀ k q base G gs d (W : World), k < l.length → q < l.length → FwQ l k q 0 d → GridP W base l.length G gs d → Calls Try.prog 47 #[.slice (some ⟨el gs q, 0, none⟩) l.length l.length, .slice (some ⟨el gs k, 0, none⟩) l.length l.length, .int .i64 (toA (el (el d q) k))] W fun e w' => e = .returned (.tuple #[]) ∧ (∃ d', FwQ l k q l.length d' ∧ GridP w' base l.length G gs d') ∧ Below base W w') := fun k q base G gs d W hk hq hF hG => shorten_any (z, l) hr k q base G gs d W hk hq hF hG
  have HFS : Hid (∀ d, RowsT l l.length d → FwQ l 0 0 0 d) := fun d hd => fw_start (m := (z, l)) hr hd
  have HFE : Hid (∀ d, FwQ l l.length 0 0 d → HopT (z, l) (fun q p => el (el d q) p)) := fun d hd => fw_end hr hd
  have HF3 : Hid (∀ k q d, FwQ l k q l.length d → FwQ l k (q + 1) 0 d) := fun k q d hd => fw_row hd
  have HF4 : Hid (∀ k d, FwQ l k l.length 0 d → FwQ l (k + 1) 0 0 d) := fun k d hd => fw_round hd
  have HFL : Hid (∀ k q p d, FwQ l k q p d → d.length = l.length) := fun k q p d hd => hd.1
  have HRN : Hid (∀ q d row, RowsT l q d → RowI l q (el l q).2.length row → RowsT l (q + 1) (d ++ [row])) := fun q d row h g => rowsT_snoc h g
  have HRL : Hid (∀ q row, RowI l q (el l q).2.length row → row.length = l.length) := fun q row h => h.1
  clear hS hc hr
  generalize HopT (z, l) = HT at *
  generalize hn : l.length = n at *
  clear hn
  have hmk := run_rowsP n (by omega)
  go_enter Try.func17, Try.ntmps17
  go_wp2
  clear hmk
  go_loopw [15] (fun i wr => ∃ (q : Nat) (gs : List Nat) (d : List (List Int)), q ≤ n ∧ i = .int .i64 q ∧ Hid (gs.length = q) ∧ Hid (GridP wr (w.heap.size + 1) n (w.heap.size + 1) gs d) ∧ Hid (RowsT l q d) ∧ Hid (Blk wr w.heap.size #[.int .i64 z, .slice a n cap] 24) ∧ Hid (Below w.heap.size w wr)) (fun i _ => n - (intOf i).toNat)
  case atStart => exact ⟨0, [], [], Nat.zero_le _, rfl, rfl, (by have := GridP.made (w.alloc (.cells #[.int .i64 z, .slice a n cap] 24)) (w.heap.size + 1) n (by simp); rw [World.size_alloc] at this; exact this), ⟨rfl, fun q hq => absurd hq (by omega)⟩, (Blk.made _ _ _).alloc _, ((Below.refl _ _).alloc (Nat.le_refl _) _).alloc (by simp) _⟩
  case round =>
    obtain ⟨q, gs, d, hq, rfl, hgl, hG, hR, hK, hb⟩ := hrel
    obtain ⟨w2, hw2⟩ : ∃ w2, w2 = wr := ⟨_, rfl⟩
    subst hw2
    by_cases hlt : q < n
    · have q0 : (0 : Int) ≤ (q : Int) := by omega
      have q1 : (q : Int) < (n : Int) := by omega
      obtain ⟨b, off, va, rfl, hbl, g0, g1, gA⟩ := HC.out q hlt
      have g0 := (hb.out.cell (p := ⟨b, off + q * 2, none⟩) hbl).trans g0
      have g1 := (hb.out.cell (p := ⟨b, off + q * 2 + 1, none⟩) hbl).trans g1
      have m1 := hK.out.cell 1 (v := .slice (some ⟨b, off, none⟩) n cap) rfl
      have s0 := hK.out.lt
      have s1 := hG.out.blk.lt
      obtain ⟨fi, hfi⟩ : ∃ fi, (el l q).1 = fi := ⟨_, rfl⟩
      rw [hfi] at g0
      clear hfi
      have HA := hidP ((gA.later hb.out (Nat.le_refl _)).later ((Below.refl _ _).alloc (Nat.le_refl _) (.cells #[.int .i64 fi, va] 46)) (Nat.le_refl _))
      have HFQ := hidP (fun f va W => HFH.out q f va W hlt)
      clear gA
      obtain ⟨av, nv, cv, rfl⟩ : ∃ av nv cv, va = .slice av nv cv := by
        obtain ⟨x, y, hx⟩ := Row.sl HA.out
        exact ⟨x, _, y, hx⟩
      go_wp2_with (go_at_call 46; (with_reducible refine (HFQ.out _ _ _ HA.out).mono ?_); rintro e w5 ⟨rfl, ⟨row, hri, hbr⟩, hb5⟩; obtain ⟨s5, k5, hb5'⟩ := boxed hb5 (by simp); have HRI := hidP hri; have HBR := hidP hbr; have HB5 := hidP hb5'; have HG5 := hidP (hG.out.later hb5'); have e5 := HG5.out.blk.cell q (v := .slice none 0 0) (by rw [List.getElem?_toArray, List.getElem?_append_right (by rw [List.length_map, hgl.out]; omega)]; rw [List.getElem?_replicate, if_pos (by rw [List.length_map, hgl.out]; omega)]); have f5 := HG5.out.blk.fz q; clear hri hbr hb5 hb5' k5)
      have HRT := hidP (HRN.out q d row hR.out HRI.out)
      have HLY := hidP (HG5.out.lay (by rw [hgl.out]; exact hlt) HBR.out (HRL.out q row HRI.out) (by simp; omega) (fun j hj => by have := (hG.out.row j hj).2.2.lt; simp; omega))
      rw [hgl.out] at HLY
      simp only [World.size_alloc] at HLY
      have HKL := hidP ((hK.out.below HB5.out hK.out.lt).setO ⟨w.heap.size + 1, q, none⟩ (.slice (some ⟨w2.heap.size + 1 + 1, 0, none⟩) n n) (by show w.heap.size ≠ w.heap.size + 1; omega))
      have HBL := hidP ((hb.out.trans (HB5.out.mono hb.out.size)).setCell (p := ⟨w.heap.size + 1, q, none⟩) (by show w.heap.size ≤ w.heap.size + 1; omega) (.slice (some ⟨w2.heap.size + 1 + 1, 0, none⟩) n n))
      go_roundw
      case rel => exact ⟨q + 1, gs ++ [w2.heap.size + 1 + 1], _, by omega, by go_num, (by show _ = _; simp [hgl.out]), HLY, HRT, HKL, HBL⟩
      case measure => simp [intOf]; omega
    · have q1 : ¬ (q : Int) < (n : Int) := by omega
      obtain rfl : n = q := by omega
      have HFW := hidP (HFS.out d hR.out)
      have HGG := hidP hG.out
      clear hR hG
      go_wp2
      go_loopw [32] (fun i wr => ∃ (k : Nat) (d : List (List Int)), k ≤ n ∧ i = .int .i64 k ∧ Hid (FwQ l k 0 0 d) ∧ Hid (GridP wr (w.heap.size + 1) n (w.heap.size + 1) gs d) ∧ Hid (Below w.heap.size w wr)) (fun i _ => n - (intOf i).toNat)
      case atStart => exact ⟨0, d, Nat.zero_le _, rfl, HFW, HGG, hb⟩
      case round =>
        clear HFW HGG hb hK
        obtain ⟨k, d, hk, rfl, hF, hG, hb⟩ := hrel
        by_cases hkl : k < n
        · have k0 : (0 : Int) ≤ (k : Int) := by omega
          have k1 : (k : Int) < (n : Int) := by omega
          go_wp2
          go_loopw [37] (fun i wr => ∃ (q : Nat) (d : List (List Int)), q ≤ n ∧ i = .int .i64 q ∧ Hid (FwQ l k q 0 d) ∧ Hid (GridP wr (w.heap.size + 1) n (w.heap.size + 1) gs d) ∧ Hid (Below w.heap.size w wr)) (fun i _ => n - (intOf i).toNat)
          case atStart => exact ⟨0, d, Nat.zero_le _, rfl, hF, hG, hb⟩
          case round =>
            clear hF hG hb
            obtain ⟨q, d, hq, rfl, hF, hG, hb⟩ := hrel
            obtain ⟨w5, hw5⟩ : ∃ w5, w5 = wr := ⟨_, rfl⟩
            subst hw5
            by_cases hql : q < n
            · have q0 : (0 : Int) ≤ (q : Int) := by omega
              have q1 : (q : Int) < (n : Int) := by omega
              have hdl : d.length = n := HFL.out k q 0 d hF.out
              have cq := hG.out.rowc (q := q) (by omega)
              have ck := hG.out.rowc (q := k) (by omega)
              have c1 := hG.out.get (q := q) (p := k) (by omega) hkl
              have HCC := hidP (HSH.out k q _ _ gs d w5.drew hkl hql hF.out (hG.out.later ((Below.refl _ _).drew)))
              have HLD : Hid (∀ W d', GridP W (w.heap.size + 1) n (w.heap.size + 1) gs d' → d'.length = n → HeldT2 (w.heap.size + 1) q (.slice (some ⟨el gs q, 0, none⟩) n n) k (.slice (some ⟨el gs k, 0, none⟩) n n) W) := fun W d' h hl => ⟨h.rowc (by omega), h.rowc (by omega)⟩
              generalize toA (el (el d q) k) = x1 at *
              generalize el gs q = Bq at *
              generalize el gs k = Bk at *
              go_wp2
              have c1' : w5.drew.cell? ⟨Bq, k, none⟩ = some (.int .i64 x1) := c1
              have HS : HeldT2 (w.heap.size + 1) q (.slice (some ⟨Bq, 0, none⟩) n n) k (.slice (some ⟨Bk, 0, none⟩) n n) w5.drew := ⟨cq, ck⟩
              refine region_anyL (HeldT2 (w.heap.size + 1) q (.slice (some ⟨Bq, 0, none⟩) n n) k (.slice (some ⟨Bk, 0, none⟩) n n)) 1000 (by kernel_rfl) ?_
              refine anyL_take (i := 0) (v := ?v0_25) at0 (by kernel_rfl) (by kernel_rfl) (by kernel_rfl) (by kernel_rfl) (fun _ _ _ h => h) rfl ?y0_25 HS ?r0_25
              case y0_25 => intro wx hx; obtain ⟨h0, h1⟩ := hx; go_simp; try (with_reducible rfl)
              simp only [Act.put, List.setIfInBounds_toArray, List.set_cons_zero, List.set_cons_succ]
              refine anyL_take (i := 1) (v := ?v1_26) (atS at0) (by kernel_rfl) (by kernel_rfl) (by kernel_rfl) (by kernel_rfl) (fun _ _ _ h => h) rfl ?y1_26 HS ?r1_26
              case y1_26 => intro wx hx; obtain ⟨h0, h1⟩ := hx; go_simp; try (with_reducible rfl)
              simp only [Act.put, List.setIfInBounds_toArray, List.set_cons_zero, List.set_cons_succ]
              refine anyL_take (i := 2) (v := ?v2_27) (atS (atS at0)) (by kernel_rfl) (by kernel_rfl) (by kernel_rfl) (by kernel_rfl) (fun _ _ _ h => h) rfl ?y2_27 HS ?r2_27
              case y2_27 => intro wx hx; obtain ⟨h0, h1⟩ := hx; go_simp; try (with_reducible rfl)
              simp only [Act.put, List.setIfInBounds_toArray, List.set_cons_zero, List.set_cons_succ]
              refine anyL_take (i := 3) (v := ?v3_28) (atS (atS (atS at0))) (by kernel_rfl) (by kernel_rfl) (by kernel_rfl) (by kernel_rfl) (fun _ _ _ h => h) rfl ?y3_28 HS ?r3_28
              case y3_28 => intro wx hx; obtain ⟨h0, h1⟩ := hx; go_simp; try (with_reducible rfl)
              simp only [Act.put, List.setIfInBounds_toArray, List.set_cons_zero, List.set_cons_succ]
              refine anyL_take (i := 4) (v := ?v4_29) (atS (atS (atS (atS at0)))) (by kernel_rfl) (by kernel_rfl) (by kernel_rfl) (by kernel_rfl) (fun _ _ _ h => h) rfl ?y4_29 HS ?r4_29
              case y4_29 => intro wx hx; obtain ⟨h0, h1⟩ := hx; go_simp; try (with_reducible rfl)
              simp only [Act.put, List.setIfInBounds_toArray, List.set_cons_zero, List.set_cons_succ]
              refine anyL_take (i := 5) (v := ?v5_30) (atS (atS (atS (atS (atS at0))))) (by kernel_rfl) (by kernel_rfl) (by kernel_rfl) (by kernel_rfl) (fun _ _ _ h => h) rfl ?y5_30 HS ?r5_30
              case y5_30 => intro wx hx; obtain ⟨h0, h1⟩ := hx; go_simp; try (with_reducible rfl)
              simp only [Act.put, List.setIfInBounds_toArray, List.set_cons_zero, List.set_cons_succ]
              refine anyL_take (i := 6) (v := ?v6_31) (atS (atS (atS (atS (atS (atS at0)))))) (by kernel_rfl) (by kernel_rfl) (by kernel_rfl) (by kernel_rfl) (fun _ _ _ h => h) rfl ?y6_31 HS ?r6_31
              case y6_31 => intro wx hx; obtain ⟨h0, h1⟩ := hx; go_simp; try (with_reducible rfl)
              simp only [Act.put, List.setIfInBounds_toArray, List.set_cons_zero, List.set_cons_succ]
              refine anyL_take (i := 7) (v := ?v7_32) (atS (atS (atS (atS (atS (atS (atS at0))))))) (by kernel_rfl) (by kernel_rfl) (by kernel_rfl) (by kernel_rfl) (fun _ _ _ h => h) rfl ?y7_32 HS ?r7_32
              case y7_32 => intro wx hx; obtain ⟨h0, h1⟩ := hx; go_simp; try (with_reducible rfl)
              simp only [Act.put, List.setIfInBounds_toArray, List.set_cons_zero, List.set_cons_succ]
              refine anyL_take (i := 8) (v := ?v8_33) (atS (atS (atS (atS (atS (atS (atS (atS at0)))))))) (by kernel_rfl) (by kernel_rfl) (by kernel_rfl) (by kernel_rfl) (fun _ _ _ h => h) rfl ?y8_33 HS ?r8_33
              case y8_33 => intro wx hx; obtain ⟨h0, h1⟩ := hx; go_simp; try (with_reducible rfl)
              simp only [Act.put, List.setIfInBounds_toArray, List.set_cons_zero, List.set_cons_succ]
              refine anyL_take (i := 9) (v := ?v9_34) (atS (atS (atS (atS (atS (atS (atS (atS (atS at0))))))))) (by kernel_rfl) (by kernel_rfl) (by kernel_rfl) (by kernel_rfl) (fun _ _ _ h => h) rfl ?y9_34 HS ?r9_34
              case y9_34 => intro wx hx; obtain ⟨h0, h1⟩ := hx; go_simp; try (with_reducible rfl)
              simp only [Act.put, List.setIfInBounds_toArray, List.set_cons_zero, List.set_cons_succ]
              refine anyL_take (i := 10) (v := ?v10_35) (atS (atS (atS (atS (atS (atS (atS (atS (atS (atS at0)))))))))) (by kernel_rfl) (by kernel_rfl) (by kernel_rfl) (by kernel_rfl) (fun _ _ _ h => h) rfl ?y10_35 HS ?r10_35
              case y10_35 => intro wx hx; obtain ⟨h0, h1⟩ := hx; go_simp; try (with_reducible rfl)
              simp only [Act.put, List.setIfInBounds_toArray, List.set_cons_zero, List.set_cons_succ]
              refine anyL_take (i := 11) (v := ?v11_36) (atS (atS (atS (atS (atS (atS (atS (atS (atS (atS (atS at0))))))))))) (by kernel_rfl) (by kernel_rfl) (by kernel_rfl) (by kernel_rfl) (fun _ _ _ h => h) rfl ?y11_36 HS ?r11_36
              case y11_36 => intro wx hx; obtain ⟨h0, h1⟩ := hx; go_simp; try (with_reducible rfl)
              simp only [Act.put, List.setIfInBounds_toArray, List.set_cons_zero, List.set_cons_succ]
              refine anyL_take (i := 12) (v := ?v12_37) (atS (atS (atS (atS (atS (atS (atS (atS (atS (atS (atS (atS at0)))))))))))) (by kernel_rfl) (by kernel_rfl) (by kernel_rfl) (by kernel_rfl) (fun _ _ _ h => h) rfl ?y12_37 HS ?r12_37
              case y12_37 => intro wx hx; obtain ⟨h0, h1⟩ := hx; go_simp; try (with_reducible rfl)
              simp only [Act.put, List.setIfInBounds_toArray, List.set_cons_zero, List.set_cons_succ]
              refine anyL_take (i := 13) (v := ?v13_38) (atS (atS (atS (atS (atS (atS (atS (atS (atS (atS (atS (atS (atS at0))))))))))))) (by kernel_rfl) (by kernel_rfl) (by kernel_rfl) (by kernel_rfl) (fun _ _ _ h => h) rfl ?y13_38 HS ?r13_38
              case y13_38 => intro wx hx; obtain ⟨h0, h1⟩ := hx; go_simp; try (with_reducible rfl)
              simp only [Act.put, List.setIfInBounds_toArray, List.set_cons_zero, List.set_cons_succ]
              refine anyL_one (i := 14) (atS (atS (atS (atS (atS (atS (atS (atS (atS (atS (atS (atS (atS (atS at0)))))))))))))) (by kernel_rfl) rfl (fun K hK => ?_)
              go_simp
              refine hK _ _ (.inr HS) ?_
              try simp only [Act.put, List.setIfInBounds_toArray, List.set_cons_zero, List.set_cons_succ]
              refine anyL_one (i := 15) (atS (atS (atS (atS (atS (atS (atS (atS (atS (atS (atS (atS (atS (atS (atS at0))))))))))))))) (by kernel_rfl) rfl (fun K hK => ?_)
              go_simp
              with_reducible refine HCC.out.mono ?_
              rintro e w6 ⟨rfl, ⟨d', hF6, hG6⟩, hb6⟩
              have HS6 := HLD.out w6 d' hG6 (HFL.out _ _ _ d' hF6)
              have HF6 := hidP (HF3.out k q d' hF6)
              have HG6 := hidP hG6
              have HB6 := hidP (hb.out.drew.trans (hb6.mono (by omega)))
              refine hK _ _ (.inr HS6) (anyL_done (by kernel_rfl) (NoPanic.normal ?_))
              try simp only [Act.put, List.setIfInBounds_toArray, List.set_cons_zero, List.set_cons_succ]
              clear HS HCC hF6 hG6 hb6 HS6 c1'
              go_wp2
              go_roundw
              case rel => exact ⟨q + 1, d', by omega, by go_num, HF6, HG6, HB6⟩
              case measure => simp [intOf]; omega
            · have q1 : ¬ (q : Int) < (n : Int) := by omega
              obtain rfl : n = q := by omega
              have HW := hidP (HF4.out k d hF.out)
              go_wp2
              go_roundw
              case rel => exact ⟨k + 1, d, by omega, by go_num, HW, hG, hb⟩
              case measure => simp [intOf]; omega
        · have k1 : ¬ (k : Int) < (n : Int) := by omega
          obtain rfl : n = k := by omega
          have HW := hidP (HFE.out d hF.out)
          have hdl : d.length = n := HFL.out n 0 0 d hF.out
          go_wp2
          go_ret
          exact ⟨rfl, ⟨gs, d, hG.out, hdl, HW.out⟩, hb.out⟩
end Go.Proofs.Ytjpfpdbhdcopbaa.Wt
