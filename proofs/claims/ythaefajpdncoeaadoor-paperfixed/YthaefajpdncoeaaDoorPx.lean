/- The program's writer: a start, a state, an arc. -/
import Derived.Test.YthaefajpdncoeaaDoorPw
import Derived.Test.YthaefajpdncoeaaDoorBlk
namespace Go.Proofs.YthaefajpdncoeaaDoor.Pl
theorem fin_shown {f : Int} (h : finB f = true) : Wt.showR f = (textS (finT f), 0) := by
  by_cases e : f = 1000000001
  · subst e; rw [Wt.showR_inf]; rfl
  · simp [finB, inB, e] at h
    rw [Wt.showR_num (wtB_true.2 (.inr h)) e, itoa_nat h.1]
    unfold finT decT
    rw [if_neg e]
    rfl
end Go.Proofs.YthaefajpdncoeaaDoor.Pl
namespace Go.Proofs.YthaefajpdncoeaaDoor.Wt
open Go.ChangeShapes Go.WideShapes Go.ChangeAt Go.RowKit
open Go.Proofs.YthaefajpdncoeaaDoor.Pl
set_option linter.unusedVariables false
set_option linter.unusedSimpArgs false
/-- A line of words that were just laid. -/
theorem line_new (B b : Nat) (l : List UInt8) (xs : List ByteArray) (n : Nat) (cs : Array Value) (w : World) (hcs : cs = (xs.map Value.string).toArray) (h : Bld B b l w) (hn : xs.length = n) (hn5 : n ≤ 100) (hx : (lineP (xs.map (·.data.toList))).length ≤ 1000) (hl : l.length ≤ 500000) (hBw : B ≤ w.heap.size)
    (t : List UInt8) (ht : l ++ lineP (xs.map (·.data.toList)) ++ [10] = t) :
    Calls Tryd.prog 32 #[.pointer (some ⟨b, 0, none⟩), .slice (some ⟨w.heap.size, 0, none⟩) n n] (w.alloc (.cells cs 9)) fun e w' => e = .returned (.tuple #[]) ∧ (Bld B b t w' ∧ Below B w w' ∧ Oth w w') := by
  subst hcs
  have hA : Below w.heap.size w (w.alloc (.cells (xs.map Value.string).toArray 9)) := (Below.refl _ _).alloc (Nat.le_refl _) _
  refine (line_any B b l w.heap.size n xs n _ (h.later hA) (Wds.made w xs _) hn (Nat.le_refl _) hn5 hx hl (by simp; omega) t ht).mono ?_
  rintro e w' ⟨rfl, h1, h2, h3⟩
  exact ⟨rfl, h1, (hA.mono hBw).trans h2, (Oth.of hA).trans h3⟩
theorem start_any (B b : Nat) (l : List UInt8) (z : Int) (w : World) (h : Bld B b l w) (htab : Tab w) (h0 : -1 ≤ z) (h1 : z ≤ 60) (hl : l.length ≤ 400000) (hBw : B ≤ w.heap.size) (t : List UInt8) (ht : l ++ headT z = t) :
    Calls Tryd.prog 15 #[.pointer (some ⟨b, 0, none⟩), .int .i64 z] w fun e w' => e = .returned (.tuple #[]) ∧ (Bld B b t w' ∧ Below B w w' ∧ Oth w w') := by
  have hs : (startT z).length ≤ 10 := by
    unfold startT
    split
    · decide
    · exact dec_short (by omega)
  have HL : Hid (∀ W : World, Below w.heap.size w W → Calls Tryd.prog 32 #[.pointer (some ⟨b, 0, none⟩), .slice (some ⟨W.heap.size, 0, none⟩) 2 2] (W.alloc (.cells #[.string ⟨#[115, 116, 97, 114, 116]⟩, .string (textS (startT z))] 9)) fun e w' => e = .returned (.tuple #[]) ∧ (Bld B b t w' ∧ Below B W w' ∧ Oth W w')) := fun W hW =>
    line_new B b l [⟨#[115, 116, 97, 114, 116]⟩, textS (startT z)] 2 _ W rfl (h.later hW) rfl (by omega) (by
      show ([115, 116, 97, 114, 116] ++ [32] ++ startT z).length ≤ _
      simp; omega) (by omega) (Nat.le_trans hBw hW.size) t (by rw [← ht]; show _ = l ++ (lineP [wStart, startT z] ++ [10]); rw [← List.append_assoc]; rfl)
  by_cases hz : z < 0
  · have e : textS (startT z) = ⟨#[45]⟩ := by unfold startT; rw [if_pos hz]; rfl
    have HL2 : Hid (Calls Tryd.prog 32 #[.pointer (some ⟨b, 0, none⟩), .slice (some ⟨w.heap.size, 0, none⟩) 2 2] (w.alloc (.cells #[.string ⟨#[115, 116, 97, 114, 116]⟩, .string ⟨#[45]⟩] 9)) fun e w' => e = .returned (.tuple #[]) ∧ (Bld B b t w' ∧ Below B w w' ∧ Oth w w')) := by
      have := HL.out w (Below.refl _ _); rw [e] at this; exact this
    clear HL e hs ht h htab
    go_enter Tryd.func15, Tryd.ntmps15
    go_wp2_with (first | (go_at_call 32; (with_reducible refine HL2.out.mono ?_); rintro e w1 ⟨rfl, hB1, hb1, ho1⟩))
    refine bodyPost_ret (results_none rfl _ _ _) rfl ?_
    exact ⟨rfl, hB1, hb1, ho1⟩
  · have e : startT z = decT z := by unfold startT; rw [if_neg hz]
    have HI : Hid (Calls Tryd.prog 33 #[.int .i64 z] w fun e w' => e = .returned (.string (textS (startT z))) ∧ Below w.heap.size w w') := by
      have := itoa_t z w htab (by omega) (by omega); rw [← e] at this; exact this
    have HBW : Hid (B ≤ w.heap.size) := hBw
    clear e hs ht h htab
    generalize textS (startT z) = y at *
    go_enter Tryd.func15, Tryd.ntmps15
    go_wp2_with (first
      | (go_at_call 33; (with_reducible refine HI.out.mono ?_); rintro e w1 ⟨rfl, hb1⟩; have HB1 : Hid (Below w.heap.size w w1) := hb1; clear hb1)
      | (go_at_call 32; (with_reducible refine (HL.out _ HB1.out).mono ?_); rintro e w2 ⟨rfl, hB2, hb2, ho2⟩))
    go_end0
    exact ⟨rfl, hB2, (HB1.out.mono HBW.out).trans hb2, (Oth.of HB1.out).trans ho2⟩
theorem state_any (B b : Nat) (l : List UInt8) (f : Int) (w : World) (h : Bld B b l w) (htab : Tab w) (hf : finB f = true) (hl : l.length ≤ 400000) (hBw : B ≤ w.heap.size) (t : List UInt8) (ht : l ++ stT f = t) :
    Calls Tryd.prog 16 #[.pointer (some ⟨b, 0, none⟩), .int .i64 f] w fun e w' => e = .returned (.tuple #[]) ∧ (Bld B b t w' ∧ Below B w w' ∧ Oth w w') := by
  have hs := fin_short hf
  have HL : Hid (∀ W : World, Below w.heap.size w W → Calls Tryd.prog 32 #[.pointer (some ⟨b, 0, none⟩), .slice (some ⟨W.heap.size, 0, none⟩) 2 2] (W.alloc (.cells #[.string ⟨#[115, 116, 97, 116, 101]⟩, .string (textS (finT f))] 9)) fun e w' => e = .returned (.tuple #[]) ∧ (Bld B b t w' ∧ Below B W w' ∧ Oth W w')) := fun W hW =>
    line_new B b l [⟨#[115, 116, 97, 116, 101]⟩, textS (finT f)] 2 _ W rfl (h.later hW) rfl (by omega) (by
      show ([115, 116, 97, 116, 101] ++ [32] ++ finT f).length ≤ _
      simp; omega) (by omega) (Nat.le_trans hBw hW.size) t (by rw [← ht]; show _ = l ++ (lineP [wState, finT f] ++ [10]); rw [← List.append_assoc]; rfl)
  have HS : Hid (Calls Tryd.prog 34 #[.int .i64 f] w fun e w' => e = .returned (.tuple #[.string (textS (finT f)), .int .i64 0]) ∧ Below w.heap.size w w') := by
    have := show_any f w htab; rw [fin_shown hf] at this; exact this
  have HBW : Hid (B ≤ w.heap.size) := hBw
  clear hs ht h htab
  generalize textS (finT f) = y at *
  go_enter Tryd.func16, Tryd.ntmps16
  go_wp2_with (first
    | (go_at_call 34; (with_reducible refine HS.out.mono ?_); rintro e w1 ⟨rfl, hb1⟩; have HB1 : Hid (Below w.heap.size w w1) := hb1; clear hb1)
    | (go_at_call 32; (with_reducible refine (HL.out _ HB1.out).mono ?_); rintro e w2 ⟨rfl, hB2, hb2, ho2⟩))
  go_end0
  exact ⟨rfl, hB2, (HB1.out.mono HBW.out).trans hb2, (Oth.of HB1.out).trans ho2⟩
def HeldY (b : Nat) (x0 x1 x2 x3 : Int) (w : World) : Prop := w.cell? ⟨b, 0, none⟩ = some (.int .i64 x0) ∧ w.cell? ⟨b, 1, none⟩ = some (.int .i64 x1) ∧ w.cell? ⟨b, 2, none⟩ = some (.int .i64 x2) ∧ w.cell? ⟨b, 3, none⟩ = some (.int .i64 x3)
theorem HeldY.later {b : Nat} {x0 x1 x2 x3 : Int} {w w' : World} {B : Nat} (h : HeldY b x0 x1 x2 x3 w) (hb : Below B w w') (hB : b < B) : HeldY b x0 x1 x2 x3 w' := ⟨(hb.cell (p := ⟨b, 0, none⟩) hB).trans h.1, (hb.cell (p := ⟨b, 1, none⟩) hB).trans h.2.1, (hb.cell (p := ⟨b, 2, none⟩) hB).trans h.2.2.1, (hb.cell (p := ⟨b, 3, none⟩) hB).trans h.2.2.2⟩
set_option maxRecDepth 100000 in
set_option maxHeartbeats 1000000 in
theorem arc_any (B b : Nat) (l : List UInt8) (n : Nat) (a : Ar) (w : World) (h : Bld B b l w) (htab : Tab w) (hn : n ≤ 60) (ha : arcB n a = true) (hl : l.length ≤ 400000) (hBw : B ≤ w.heap.size) (t : List UInt8) (ht : l ++ arcT a = t) :
    Calls Tryd.prog 17 #[.pointer (some ⟨b, 0, none⟩), .agg #[.int .i64 a.1, .int .i64 a.2.1, .int .i64 a.2.2.1, .int .i64 a.2.2.2]] w fun e w' => e = .returned (.tuple #[]) ∧ (Bld B b t w' ∧ Below B w w' ∧ Oth w w') := by
  obtain ⟨x0, x1, x2, x3⟩ := a
  simp only [arcB, inB, Bool.and_eq_true, decide_eq_true_eq] at ha
  have l0 : (decT x0).length ≤ 10 := dec_short (by omega)
  have l1 : (decT x1).length ≤ 10 := dec_short (by omega)
  have l2 : (decT x2).length ≤ 10 := dec_short (by omega)
  have l3 : (decT x3).length ≤ 10 := dec_short (by omega)
  have HL : Hid (∀ W : World, Below w.heap.size w W → Calls Tryd.prog 32 #[.pointer (some ⟨b, 0, none⟩), .slice (some ⟨W.heap.size, 0, none⟩) 5 5] (W.alloc (.cells #[.string ⟨#[97, 114, 99]⟩, .string (textS (decT x3)), .string (textS (decT x0)), .string (textS (decT x1)), .string (textS (decT x2))] 9)) fun e w' => e = .returned (.tuple #[]) ∧ (Bld B b t w' ∧ Below B W w' ∧ Oth W w')) := fun W hW =>
    line_new B b l [⟨#[97, 114, 99]⟩, textS (decT x3), textS (decT x0), textS (decT x1), textS (decT x2)] 5 _ W rfl (h.later hW) rfl (by omega) (by
      show ([97, 114, 99] ++ [32] ++ (decT x3 ++ [32] ++ (decT x0 ++ [32] ++ (decT x1 ++ [32] ++ decT x2)))).length ≤ _
      simp; omega) (by omega) (Nat.le_trans hBw hW.size) t (by rw [← ht]; show _ = l ++ (lineP [wArc, decT x3, decT x0, decT x1, decT x2] ++ [10]); rw [← List.append_assoc]; rfl)
  have I0 : Hid (∀ W : World, Below w.heap.size w W → Calls Tryd.prog 33 #[.int .i64 x0] W fun e w' => e = .returned (.string (textS (decT x0))) ∧ Below W.heap.size W w') := fun W hW => itoa_t x0 W (htab.later hW) (by omega) (by omega)
  have I1 : Hid (∀ W : World, Below w.heap.size w W → Calls Tryd.prog 33 #[.int .i64 x1] W fun e w' => e = .returned (.string (textS (decT x1))) ∧ Below W.heap.size W w') := fun W hW => itoa_t x1 W (htab.later hW) (by omega) (by omega)
  have I2 : Hid (∀ W : World, Below w.heap.size w W → Calls Tryd.prog 33 #[.int .i64 x2] W fun e w' => e = .returned (.string (textS (decT x2))) ∧ Below W.heap.size W w') := fun W hW => itoa_t x2 W (htab.later hW) (by omega) (by omega)
  have I3 : Hid (∀ W : World, Below w.heap.size w W → Calls Tryd.prog 33 #[.int .i64 x3] W fun e w' => e = .returned (.string (textS (decT x3))) ∧ Below W.heap.size W w') := fun W hW => itoa_t x3 W (htab.later hW) (by omega) (by omega)
  have HBW : Hid (B ≤ w.heap.size) := hBw
  clear ht h htab l0 l1 l2 l3 ha
  simp only
  generalize textS (decT x0) = D0 at *
  generalize textS (decT x1) = D1 at *
  generalize textS (decT x2) = D2 at *
  generalize textS (decT x3) = D3 at *
  go_enter Tryd.func17, Tryd.ntmps17
  go_wp2
  have b1 := Blk.made w #[.int .i64 x0, .int .i64 x1, .int .i64 x2, .int .i64 x3] 46
  have HBD : Hid (Below w.heap.size w (w.alloc (.cells #[.int .i64 x0, .int .i64 x1, .int .i64 x2, .int .i64 x3] 46)).drew) := ((Below.refl _ _).alloc (Nat.le_refl _) _).drew
  have HSD : HeldY w.heap.size x0 x1 x2 x3 (w.alloc (.cells #[.int .i64 x0, .int .i64 x1, .int .i64 x2, .int .i64 x3] 46)).drew := ⟨b1.cell 0 rfl, b1.cell 1 rfl, b1.cell 2 rfl, b1.cell 3 rfl⟩
  have HZ : Hid (w.heap.size < (w.alloc (.cells #[.int .i64 x0, .int .i64 x1, .int .i64 x2, .int .i64 x3] 46)).drew.heap.size) := by show _ < (w.alloc (.cells #[.int .i64 x0, .int .i64 x1, .int .i64 x2, .int .i64 x3] 46)).heap.size; simp
  have HBb : Hid (Blk (w.alloc (.cells #[.int .i64 x0, .int .i64 x1, .int .i64 x2, .int .i64 x3] 46)).drew w.heap.size #[.int .i64 x0, .int .i64 x1, .int .i64 x2, .int .i64 x3] 46) := b1.drew
  clear b1
  refine region_anyL (HeldY w.heap.size x0 x1 x2 x3) 1000 (by kernel_rfl) ?_
  generalize (w.alloc (.cells #[.int .i64 x0, .int .i64 x1, .int .i64 x2, .int .i64 x3] 46)).drew = W0 at *
  refine anyL_take (i := 0) (v := ?v0_1) at0 (by kernel_rfl) (by kernel_rfl) (by kernel_rfl) (by kernel_rfl) (fun _ _ _ h => h) rfl ?y0_1 HSD ?r0_1
  case y0_1 => intro wx hx; obtain ⟨h1, h2, h3, h4⟩ := hx; go_simp; try (with_reducible rfl)
  simp only [Act.put, List.setIfInBounds_toArray, List.set_cons_zero, List.set_cons_succ]
  refine anyL_take (i := 1) (v := ?v1_2) (atS at0) (by kernel_rfl) (by kernel_rfl) (by kernel_rfl) (by kernel_rfl) (fun _ _ _ h => h) rfl ?y1_2 HSD ?r1_2
  case y1_2 => intro wx hx; obtain ⟨h1, h2, h3, h4⟩ := hx; go_simp; try (with_reducible rfl)
  simp only [Act.put, List.setIfInBounds_toArray, List.set_cons_zero, List.set_cons_succ]
  refine anyL_take (i := 2) (v := ?v2_3) (atS (atS at0)) (by kernel_rfl) (by kernel_rfl) (by kernel_rfl) (by kernel_rfl) (fun _ _ _ h => h) rfl ?y2_3 HSD ?r2_3
  case y2_3 => intro wx hx; obtain ⟨h1, h2, h3, h4⟩ := hx; go_simp; try (with_reducible rfl)
  simp only [Act.put, List.setIfInBounds_toArray, List.set_cons_zero, List.set_cons_succ]
  refine anyL_take (i := 4) (v := ?v4_4) (atS (atS (atS (atS at0)))) (by kernel_rfl) (by kernel_rfl) (by kernel_rfl) (by kernel_rfl) (fun _ _ _ h => h) rfl ?y4_4 HSD ?r4_4
  case y4_4 => intro wx hx; obtain ⟨h1, h2, h3, h4⟩ := hx; go_simp; try (with_reducible rfl)
  simp only [Act.put, List.setIfInBounds_toArray, List.set_cons_zero, List.set_cons_succ]
  refine anyL_take (i := 5) (v := ?v5_5) (atS (atS (atS (atS (atS at0))))) (by kernel_rfl) (by kernel_rfl) (by kernel_rfl) (by kernel_rfl) (fun _ _ _ h => h) rfl ?y5_5 HSD ?r5_5
  case y5_5 => intro wx hx; obtain ⟨h1, h2, h3, h4⟩ := hx; go_simp; try (with_reducible rfl)
  simp only [Act.put, List.setIfInBounds_toArray, List.set_cons_zero, List.set_cons_succ]
  refine anyL_take (i := 7) (v := ?v7_6) (atS (atS (atS (atS (atS (atS (atS at0))))))) (by kernel_rfl) (by kernel_rfl) (by kernel_rfl) (by kernel_rfl) (fun _ _ _ h => h) rfl ?y7_6 HSD ?r7_6
  case y7_6 => intro wx hx; obtain ⟨h1, h2, h3, h4⟩ := hx; go_simp; try (with_reducible rfl)
  simp only [Act.put, List.setIfInBounds_toArray, List.set_cons_zero, List.set_cons_succ]
  refine anyL_take (i := 8) (v := ?v8_7) (atS (atS (atS (atS (atS (atS (atS (atS at0)))))))) (by kernel_rfl) (by kernel_rfl) (by kernel_rfl) (by kernel_rfl) (fun _ _ _ h => h) rfl ?y8_7 HSD ?r8_7
  case y8_7 => intro wx hx; obtain ⟨h1, h2, h3, h4⟩ := hx; go_simp; try (with_reducible rfl)
  simp only [Act.put, List.setIfInBounds_toArray, List.set_cons_zero, List.set_cons_succ]
  refine anyL_take (i := 10) (v := ?v10_8) (atS (atS (atS (atS (atS (atS (atS (atS (atS (atS at0)))))))))) (by kernel_rfl) (by kernel_rfl) (by kernel_rfl) (by kernel_rfl) (fun _ _ _ h => h) rfl ?y10_8 HSD ?r10_8
  case y10_8 => intro wx hx; obtain ⟨h1, h2, h3, h4⟩ := hx; go_simp; try (with_reducible rfl)
  simp only [Act.put, List.setIfInBounds_toArray, List.set_cons_zero, List.set_cons_succ]
  refine anyL_take (i := 11) (v := ?v11_9) (atS (atS (atS (atS (atS (atS (atS (atS (atS (atS (atS at0))))))))))) (by kernel_rfl) (by kernel_rfl) (by kernel_rfl) (by kernel_rfl) (fun _ _ _ h => h) rfl ?y11_9 HSD ?r11_9
  case y11_9 => intro wx hx; obtain ⟨h1, h2, h3, h4⟩ := hx; go_simp; try (with_reducible rfl)
  simp only [Act.put, List.setIfInBounds_toArray, List.set_cons_zero, List.set_cons_succ]
  refine anyL_one (i := 3) (atS (atS (atS at0))) (by kernel_rfl) rfl (fun K hK => ?_)
  go_simp
  refine (I3.out _ HBD.out).mono ?_
  rintro e w3 ⟨rfl, hbc⟩
  have HS3 : HeldY w.heap.size x0 x1 x2 x3 w3 := HSD.later hbc HZ.out
  have HB3 : Hid (Below w.heap.size w w3) := HBD.out.trans (hbc.mono HBD.out.size)
  have HB3b : Hid (Blk w3 w.heap.size #[.int .i64 x0, .int .i64 x1, .int .i64 x2, .int .i64 x3] 46) := HBb.out.below hbc HZ.out
  have HZ3 : Hid (w.heap.size < w3.heap.size) := Nat.lt_of_lt_of_le HZ.out hbc.size
  refine hK _ _ (.inr HS3) ?_
  try simp only [Act.put, List.setIfInBounds_toArray, List.set_cons_zero, List.set_cons_succ]
  clear hbc
  refine anyL_one (i := 6) (atS (atS (atS (atS (atS (atS at0)))))) (by kernel_rfl) rfl (fun K hK => ?_)
  go_simp
  refine (I0.out _ HB3.out).mono ?_
  rintro e w4 ⟨rfl, hbc⟩
  have HS4 : HeldY w.heap.size x0 x1 x2 x3 w4 := HS3.later hbc HZ3.out
  have HB4 : Hid (Below w.heap.size w w4) := HB3.out.trans (hbc.mono HB3.out.size)
  have HB4b : Hid (Blk w4 w.heap.size #[.int .i64 x0, .int .i64 x1, .int .i64 x2, .int .i64 x3] 46) := HB3b.out.below hbc HZ3.out
  have HZ4 : Hid (w.heap.size < w4.heap.size) := Nat.lt_of_lt_of_le HZ3.out hbc.size
  refine hK _ _ (.inr HS4) ?_
  try simp only [Act.put, List.setIfInBounds_toArray, List.set_cons_zero, List.set_cons_succ]
  clear hbc
  refine anyL_one (i := 9) (atS (atS (atS (atS (atS (atS (atS (atS (atS at0))))))))) (by kernel_rfl) rfl (fun K hK => ?_)
  go_simp
  refine (I1.out _ HB4.out).mono ?_
  rintro e w5 ⟨rfl, hbc⟩
  have HS5 : HeldY w.heap.size x0 x1 x2 x3 w5 := HS4.later hbc HZ4.out
  have HB5 : Hid (Below w.heap.size w w5) := HB4.out.trans (hbc.mono HB4.out.size)
  have HB5b : Hid (Blk w5 w.heap.size #[.int .i64 x0, .int .i64 x1, .int .i64 x2, .int .i64 x3] 46) := HB4b.out.below hbc HZ4.out
  have HZ5 : Hid (w.heap.size < w5.heap.size) := Nat.lt_of_lt_of_le HZ4.out hbc.size
  refine hK _ _ (.inr HS5) ?_
  try simp only [Act.put, List.setIfInBounds_toArray, List.set_cons_zero, List.set_cons_succ]
  clear hbc
  refine anyL_one (i := 12) (atS (atS (atS (atS (atS (atS (atS (atS (atS (atS (atS (atS at0)))))))))))) (by kernel_rfl) rfl (fun K hK => ?_)
  go_simp
  refine (I2.out _ HB5.out).mono ?_
  rintro e w6 ⟨rfl, hbc⟩
  have HS6 : HeldY w.heap.size x0 x1 x2 x3 w6 := HS5.later hbc HZ5.out
  have HB6 : Hid (Below w.heap.size w w6) := HB5.out.trans (hbc.mono HB5.out.size)
  have HB6b : Hid (Blk w6 w.heap.size #[.int .i64 x0, .int .i64 x1, .int .i64 x2, .int .i64 x3] 46) := HB5b.out.below hbc HZ5.out
  have HZ6 : Hid (w.heap.size < w6.heap.size) := Nat.lt_of_lt_of_le HZ5.out hbc.size
  refine hK _ _ (.inr HS6) ?_
  try simp only [Act.put, List.setIfInBounds_toArray, List.set_cons_zero, List.set_cons_succ]
  clear hbc
  refine anyL_one (i := 13) (atS (atS (atS (atS (atS (atS (atS (atS (atS (atS (atS (atS (atS at0))))))))))))) (by kernel_rfl) rfl (fun K hK => ?_)
  go_simp
  have HA : Hid (Below w6.heap.size w6 (w6.alloc (.cells #[.string ⟨#[97, 114, 99]⟩, .string D3, .string D0, .string D1, .string D2] 9))) := (Below.refl _ _).alloc (Nat.le_refl _) _
  refine hK _ _ (.inr (HS6.later HA.out HZ6.out)) ?_
  try simp only [Act.put, List.setIfInBounds_toArray, List.set_cons_zero, List.set_cons_succ]
  refine anyL_one (i := 14) (atS (atS (atS (atS (atS (atS (atS (atS (atS (atS (atS (atS (atS (atS at0)))))))))))))) (by kernel_rfl) rfl (fun K hK => ?_)
  go_simp
  refine (HL.out _ HB6.out).mono ?_
  rintro e w7 ⟨rfl, hB7, hb7, ho7⟩
  have HS7 : HeldY w.heap.size x0 x1 x2 x3 w7 := by
    have e7 := ho7 w.heap.size _ _ _ (HB6b.out) (by decide) (by decide)
    exact ⟨Blk.cell (t := 46) e7 0 rfl, Blk.cell (t := 46) e7 1 rfl, Blk.cell (t := 46) e7 2 rfl, Blk.cell (t := 46) e7 3 rfl⟩
  have HW7 : Hid (Below B w w7) := (HB6.out.mono HBW.out).trans hb7
  have HO7 : Hid (Oth w w7) := (Oth.of HB6.out).trans ho7
  refine hK _ _ (.inr HS7) (anyL_done (by kernel_rfl) (NoPanic.normal ?_))
  try simp only [Act.put, List.setIfInBounds_toArray, List.set_cons_zero, List.set_cons_succ]
  clear HS7 HS6 HS5 HS4 HS3 HSD
  go_wp2
  go_end0
  exact ⟨rfl, hB7, HW7.out, HO7.out⟩
end Go.Proofs.YthaefajpdncoeaaDoor.Wt
