/- The program: the reader takes a state. -/
import Derived.Test.YtbbjpdadickilaaEf
import Derived.Test.YtbbjpdadickilaaRp
namespace Go.Proofs.Ytbbjpdadickilaa.Pl
set_option linter.unusedVariables false
/-- The first arcs of the state that stands first in the bytes. -/
def arcsHd (l : List Int) (j : Nat) : List Ar := (List.range j).map fun i => arcHd (l.drop (6 + 9 * i))
theorem arcsHd_len (l : List Int) (j : Nat) : (arcsHd l j).length = j := by simp [arcsHd]
theorem arcsHd_succ (l : List Int) (j : Nat) : arcsHd l (j + 1) = arcsHd l j ++ [arcHd (l.drop (6 + 9 * j))] := by simp [arcsHd, List.range_succ]
end Go.Proofs.Ytbbjpdadickilaa.Pl
namespace Go.Proofs.Ytbbjpdadickilaa.Wt
open Go.ChangeShapes Go.WideShapes Go.ChangeAt Go.RowKit
open Go.Proofs.Ytbbjpdadickilaa.Pl
set_option linter.unusedVariables false
set_option linter.unusedSimpArgs false
theorem RdAt.below {w w' : World} {B R C : Nat} {l : List Int} (h : RdAt w B R l) (hb : Below C w w') (hC : R < C) : RdAt w' B R l := by
  obtain ⟨a, c, h1, h2, h3, h4, h5⟩ := h
  refine ⟨a, c, h1.below hb hC, h2, h3, h4, fun j hj => ?_⟩
  obtain ⟨b, off, e1, e2, e3⟩ := h5 j hj
  exact ⟨b, off, e1, e2, (hb.cell (by show b < C; omega)).trans e3⟩
theorem gBel {w W W' : World} {R C : Nat} (h : w.grownBy W (some R)) (hb : Below C W W') (hC : w.heap.size ≤ C) : w.grownBy W' (some R) :=
  ⟨hb.os.trans h.os, hb.tape.trans h.tape, hb.output.trans h.output, Nat.le_trans h.size hb.size, fun k hk hne => (hb.block k (by omega)).trans (h.block k hk hne)⟩
theorem own_keep {w W : World} {base R : Nat} {e : TypeId} {s : Nat} {v : Value} {n : Nat} {xs : List Value} (h : w.ownsRow base e s v n xs) (hg : w.grownBy W (some R)) (hR : R < base) : W.ownsRow base e s v n xs :=
  h.kept hg (.inr fun e => by have := own_geK h R e; omega)
/-- What comes of a state: it is there as a whole, or the reader gives up. -/
def StRes (B R : Nat) (l : List Int) (mn : Nat) (w : World) (e : Ending) (w' : World) : Prop :=
  (6 + 9 * mn ≤ l.length ∧ ∃ a c, e = .returned (.agg #[.int .i64 (joinL (l.take 4)), .slice a mn c]) ∧ w'.ownsRow w.heap.size 53 4 (.slice a mn c) (arcsHd l mn).length ((arcsHd l mn).flatMap encA) ∧ RdAt w' B R (l.drop (6 + 9 * mn)) ∧ w.grownBy w' (some R)) ∨
  (l.length < 6 + 9 * mn ∧ e = .panicked formP ∧ w.grownBy w' (some R))
set_option maxRecDepth 100000 in
set_option maxHeartbeats 800000 in
theorem state_any (B R : Nat) (l : List Int) (w : World) (h : RdAt w B R l) (h6 : 6 ≤ l.length) (mn : Nat) (hm : joinL ((l.drop 4).take 2) = mn) (hmn : mn < 65536) :
    Calls Try.prog 44 #[.pointer (some ⟨R, 0, none⟩)] w fun e w' => StRes B R l mn w e w' := by
  obtain ⟨fin, hfin⟩ : ∃ x, joinL (l.take 4) = x := ⟨_, rfl⟩
  have hRl := h.lt
  have hb0 : Below w.heap.size w (w.alloc (.cells #[.int .i64 0, .slice none 0 0] 45)) := (Below.refl _ _).alloc (Nat.le_refl _) _
  have HR0 : Hid (RdAt (w.alloc (.cells #[.int .i64 0, .slice none 0 0] 45)) B R l) := h.new hb0
  have HG0 : Hid (w.grownBy (w.alloc (.cells #[.int .i64 0, .slice none 0 0] 45)) (some R)) := gNew hb0
  have HA0 : Hid (Blk (w.alloc (.cells #[.int .i64 0, .slice none 0 0] 45)) w.heap.size #[.int .i64 0, .slice none 0 0] 45) := Blk.made w _ _
  have F1 : Hid (∀ W, RdAt W B R l → Calls Try.prog 36 #[.pointer (some ⟨R, 0, none⟩), .int .i64 4] W fun e w' => e = .returned (.int .i64 fin) ∧ RdAt w' B R (l.drop 4) ∧ W.grownBy w' (some R)) := fun W g => by rw [← hfin]; exact number_ok4 B R l W g (by omega)
  have F2 : Hid (∀ W, RdAt W B R (l.drop 4) → Calls Try.prog 36 #[.pointer (some ⟨R, 0, none⟩), .int .i64 2] W fun e w' => e = .returned (.int .i64 (mn : Int)) ∧ RdAt w' B R (l.drop 6) ∧ W.grownBy w' (some R)) := fun W g => by
    have := number_ok2 B R (l.drop 4) W g (by rw [List.length_drop]; omega)
    rw [hm, List.drop_drop] at this
    exact this
  have F3 : Hid (∀ j W, 6 + 9 * j + 9 ≤ l.length → RdAt W B R (l.drop (6 + 9 * j)) → Calls Try.prog 47 #[.pointer (some ⟨R, 0, none⟩)] W fun e w' => e = .returned (.agg #[.int .i64 (arcHd (l.drop (6 + 9 * j))).1, .int .i64 (arcHd (l.drop (6 + 9 * j))).2.1, .int .i64 (arcHd (l.drop (6 + 9 * j))).2.2.1, .int .i64 (arcHd (l.drop (6 + 9 * j))).2.2.2]) ∧ RdAt w' B R (l.drop (6 + 9 * (j + 1))) ∧ W.grownBy w' (some R)) := fun j W hj g => by
    have := arc_ok B R _ W g (by rw [List.length_drop]; omega)
    rw [List.drop_drop] at this
    exact this
  have F4 : Hid (∀ j W, l.length < 6 + 9 * j + 9 → RdAt W B R (l.drop (6 + 9 * j)) → Calls Try.prog 47 #[.pointer (some ⟨R, 0, none⟩)] W fun e w' => e = .panicked formP ∧ W.grownBy w' (some R)) := fun j W hj g => arc_no B R _ W g (by rw [List.length_drop]; omega)
  have HS : Hid (∀ j, arcsHd l (j + 1) = arcsHd l j ++ [arcHd (l.drop (6 + 9 * j))]) := fun j => arcsHd_succ l j
  have HLn : Hid (∀ j, (arcsHd l j).length = j) := fun j => arcsHd_len l j
  have HA : Hid (∀ a c w', 6 + 9 * mn ≤ l.length → w'.ownsRow w.heap.size 53 4 (.slice a mn c) (arcsHd l mn).length ((arcsHd l mn).flatMap encA) → RdAt w' B R (l.drop (6 + 9 * mn)) → w.grownBy w' (some R) → StRes B R l mn w (.returned (.agg #[.int .i64 fin, .slice a mn c])) w') := fun a c w' g1 g2 g3 g4 => .inl ⟨g1, a, c, by rw [hfin], g2, g3, g4⟩
  have HN : Hid (∀ w', l.length < 6 + 9 * mn → w.grownBy w' (some R) → StRes B R l mn w (.panicked formP) w') := fun w' g1 g2 => .inr ⟨g1, rfl, g2⟩
  clear hb0 h hm hfin
  generalize hAR : arcsHd l = AR at *
  obtain ⟨DR, hDR⟩ : ∃ DR : Nat → List Int, ∀ j, l.drop (6 + 9 * j) = DR j := ⟨_, fun _ => rfl⟩
  have hD0 : l.drop 6 = DR 0 := hDR 0
  simp only [hDR] at F3 F4 HS HA
  rw [hD0] at F2
  generalize l.drop 4 = M1 at *
  generalize l.length = n at *
  clear hAR hDR hD0
  go_enter Try.func44, Try.ntmps44
  go_wp2_with (first
    | (go_at_call 36; (with_reducible refine (F1.out _ HR0.out).mono ?_); rintro e w1 ⟨rfl, hr, hg⟩; have hs1 := hg.size; rw [World.size_alloc] at hs1; have HR1 := hid (hr.new ((Below.refl _ _).alloc (Nat.le_refl _) (.cells #[.int .i64 fin, .slice none 0 0] 45))); have HG1 := hid (gTrans (gTrans HG0.out hg) (gNew ((Below.refl _ _).alloc (Nat.le_refl _) (.cells #[.int .i64 fin, .slice none 0 0] 45)))); have HA1 := hid ((blkS HA0.out hg (by omega)).alloc (.cells #[.int .i64 fin, .slice none 0 0] 45)); have HS1 := hid (Blk.made w1 #[.int .i64 fin, .slice none 0 0] 45); clear hr hg)
    | (go_at_call 36; (with_reducible refine (F2.out _ HR1.out).mono ?_); rintro e w2 ⟨rfl, hr, hg⟩; have HR2 := hid hr; have HG2 := hid (gTrans HG1.out hg); have HA2 := hid (blkS HA1.out hg (by omega)); have HS2 := hid (blkS HS1.out hg (by omega)); clear hr hg))
  go_loopw [9] (fun s9 wr => ∃ (j : Nat) (va : Value), j ≤ mn ∧ s9 = .int .i64 j ∧ 6 + 9 * j ≤ n ∧ Hid (RdAt wr B R (DR j)) ∧ Hid (w.grownBy wr (some R)) ∧ Hid (Blk wr w.heap.size #[.int .i64 0, .slice none 0 0] 45) ∧ Hid (Blk wr w1.heap.size #[.int .i64 fin, va] 45) ∧ Hid (wr.ownsRow (w1.heap.size + 1) 53 4 va (AR j).length ((AR j).flatMap encA))) (fun s9 _ => mn - (intOf s9).toNat)
  case atStart => exact ⟨0, .slice none 0 0, Nat.zero_le _, rfl, by omega, HR2, HG2, HA2, HS2, by have e0 : AR 0 = [] := List.eq_nil_of_length_eq_zero (HLn.out 0); rw [e0]; exact World.ownsRow_nil _ _ _ _⟩
  case round =>
    obtain ⟨j, va, hj, rfl, hjn, hr, hg, ha, hs, ho⟩ := hrel
    clear HR0 HG0 HA0 HR1 HG1 HA1 HS1 HR2 HG2 HA2 HS2 F1 F2
    by_cases hjm : j < mn
    · have hjm' : (j : Int) < (mn : Int) := by omega
      by_cases h9 : 6 + 9 * j + 9 ≤ n
      · have hS1 := HS.out j
        have HL1 := hid (HLn.out j)
        have F3j : Hid (∀ W, RdAt W B R (DR j) → Calls Try.prog 47 #[.pointer (some ⟨R, 0, none⟩)] W fun e w' => e = .returned (.agg #[.int .i64 (arcHd (DR j)).1, .int .i64 (arcHd (DR j)).2.1, .int .i64 (arcHd (DR j)).2.2.1, .int .i64 (arcHd (DR j)).2.2.2]) ∧ RdAt w' B R (DR (j + 1)) ∧ W.grownBy w' (some R)) := fun W g => F3.out j W h9 g
        obtain ⟨x, hX⟩ : ∃ x, arcHd (DR j) = x := ⟨_, rfl⟩
        rw [hX] at hS1 F3j
        obtain ⟨x0, x1, x2, x3⟩ := x
        simp only at F3j
        have HS1 := hid hS1
        clear hS1 hX F3 F4
        generalize AR j = ar at *
        obtain ⟨aa, ca, hva⟩ := own_sl ho.out
        subst hva
        have HRD : Hid (RdAt wr.drew B R (DR j)) := hr.out
        have HSD : HeldF w1.heap.size (.slice aa ar.length ca) wr.drew := ⟨hs.out.cell 1 rfl, trivial⟩
        go_wp2
        refine region_anyL (HeldF w1.heap.size (.slice aa ar.length ca)) 7 (by kernel_rfl) ?_
        refine anyL_take (i := 0) (v := ?v0_1) at0 (by kernel_rfl) (by kernel_rfl) (by kernel_rfl) (by kernel_rfl) (fun _ _ _ h => h) rfl ?y0_1 HSD ?r0_1
        case y0_1 => intro wx hx; obtain ⟨h1, h2⟩ := hx; go_simp; try (with_reducible rfl)
        simp only [Act.put, List.setIfInBounds_toArray, List.set_cons_zero, List.set_cons_succ]
        refine anyL_take (i := 1) (v := ?v1_2) (atS at0) (by kernel_rfl) (by kernel_rfl) (by kernel_rfl) (by kernel_rfl) (fun _ _ _ h => h) rfl ?y1_2 HSD ?r1_2
        case y1_2 => intro wx hx; obtain ⟨h1, h2⟩ := hx; go_simp; try (with_reducible rfl)
        simp only [Act.put, List.setIfInBounds_toArray, List.set_cons_zero, List.set_cons_succ]
        refine anyL_take (i := 2) (v := ?v2_3) (atS (atS at0)) (by kernel_rfl) (by kernel_rfl) (by kernel_rfl) (by kernel_rfl) (fun _ _ _ h => h) rfl ?y2_3 HSD ?r2_3
        case y2_3 => intro wx hx; obtain ⟨h1, h2⟩ := hx; go_simp; try (with_reducible rfl)
        simp only [Act.put, List.setIfInBounds_toArray, List.set_cons_zero, List.set_cons_succ]
        refine anyL_one (i := 3) (atS (atS (atS at0))) (by kernel_rfl) rfl (fun K hK => ?_)
        go_simp
        refine (F3j.out _ HRD.out).mono ?_
        rintro e1 w5 ⟨rfl, hr5, hg5⟩
        have HS5b : Hid (Blk w5 w1.heap.size #[.int .i64 fin, .slice aa ar.length ca] 45) := blkS (w := wr.drew) hs.out hg5 (by omega)
        have HO5 : w5.ownsRow (w1.heap.size + 1) 53 4 (.slice aa ar.length ca) ar.length (ar.flatMap encA) := own_keep (w := wr.drew) ho.out hg5 (by omega)
        have hs5 : w1.heap.size < w5.heap.size := HS5b.out.lt
        obtain ⟨a6, k6, w6, hr6, ho6, hb6⟩ := arc_push (W := w5) (base := w1.heap.size + 1) HO5 (x0, x1, x2, x3) (by have := HL1.out; omega) (by omega)
        have R6 := hid hr6
        have HO6 := hid ho6
        have HS5 : HeldF w1.heap.size (.slice aa ar.length ca) w5 := ⟨HS5b.out.cell 1 rfl, trivial⟩
        have HSA : HeldF w1.heap.size (.slice aa ar.length ca) (w5.alloc (.cells #[.int .i64 x0, .int .i64 x1, .int .i64 x2, .int .i64 x3] 53)) := ⟨(HS5b.out.alloc _).cell 1 rfl, trivial⟩
        have HS6b : Hid (Blk w6 w1.heap.size #[.int .i64 fin, .slice aa ar.length ca] 45) := HS5b.out.below hb6 (Nat.lt_succ_self _)
        have HS6 : HeldF w1.heap.size (.slice aa ar.length ca) w6 := ⟨HS6b.out.cell 1 rfl, trivial⟩
        have f6 := HS6b.out.fz 1
        have c6 := HS6b.out.cell 1 (v := .slice aa ar.length ca) rfl
        have HR6 : Hid (RdAt w6 B R (DR (j + 1))) := hr5.below hb6 (by omega)
        have HG6 : Hid (w.grownBy w6 (some R)) := gBel (gTrans hg.out (grown_drew hg5)) hb6 (by omega)
        have HA6 : Hid (Blk w6 w.heap.size #[.int .i64 0, .slice none 0 0] 45) := (blkS (w := wr.drew) ha.out hg5 (by omega)).below hb6 (by omega)
        clear hr6 ho6 hb6 HO5 hr5 hg5
        refine hK _ _ (.inr HS5) ?_
        try simp only [Act.put, List.setIfInBounds_toArray, List.set_cons_zero, List.set_cons_succ]
        refine anyL_one (i := 4) (atS (atS (atS (atS at0)))) (by kernel_rfl) rfl (fun K hK => ?_)
        go_simp
        refine hK _ _ (.inr HSA) ?_
        try simp only [Act.put, List.setIfInBounds_toArray, List.set_cons_zero, List.set_cons_succ]
        refine anyL_one (i := 5) (atS (atS (atS (atS (atS at0))))) (by kernel_rfl) rfl (fun K hK => ?_)
        refine wp_append_run (.tmp 12) (.tmp 15) 43 rfl rfl rfl R6.out ?_
        refine hK _ _ (.inr HS6) ?_
        try simp only [Act.put, List.setIfInBounds_toArray, List.set_cons_zero, List.set_cons_succ]
        refine anyL_one (i := 6) (atS (atS (atS (atS (atS (atS at0)))))) (by kernel_rfl) rfl (fun K hK => ?_)
        go_simp
        refine hK _ _ (.inr HS6) ?_
        try simp only [Act.put, List.setIfInBounds_toArray, List.set_cons_zero, List.set_cons_succ]
        refine anyL_one (i := 7) (atS (atS (atS (atS (atS (atS (atS at0))))))) (by kernel_rfl) rfl (fun K hK => ?_)
        go_simp
        refine hK _ _ (.inl rfl) (anyL_done (by kernel_rfl) (NoPanic.normal ?_))
        try simp only [Act.put, List.setIfInBounds_toArray, List.set_cons_zero, List.set_cons_succ]
        clear HSD HSA HS5 HS6
        go_wp2
        go_roundw
        case rel => exact ⟨j + 1, .slice a6 (ar.length + 1) k6, by omega, by go_num, by omega, HR6.out.set (by omega) _ _, gSt HG6.out (by omega) _ _, HA6.out.setO ⟨w1.heap.size, 1, none⟩ _ (by show _ ≠ w1.heap.size; omega), HS6b.out.set 1 _, by rw [HS1.out]; exact ownsRow_setCell_below HO6.out (a := ⟨w1.heap.size, 1, none⟩) (Nat.lt_succ_self _) _⟩
        case measure => simp [intOf]; omega
      · have F4j : Hid (∀ W, RdAt W B R (DR j) → Calls Try.prog 47 #[.pointer (some ⟨R, 0, none⟩)] W fun e w' => e = .panicked formP ∧ W.grownBy w' (some R)) := fun W g => F4.out j W (by omega) g
        have HNj : Hid (∀ w', w.grownBy w' (some R) → StRes B R l mn w (.panicked formP) w') := fun w' g => HN.out w' (by omega) g
        clear F3 F4 HN
        generalize AR j = ar at *
        obtain ⟨aa, ca, hva⟩ := own_sl ho.out
        subst hva
        have HRD : Hid (RdAt wr.drew B R (DR j)) := hr.out
        have HSD : HeldF w1.heap.size (.slice aa ar.length ca) wr.drew := ⟨hs.out.cell 1 rfl, trivial⟩
        go_wp2
        refine region_anyP (fun c W => c = formP ∧ w.grownBy W (some R)) (HeldF w1.heap.size (.slice aa ar.length ca)) 7 (by kernel_rfl) ?_ ?_
        · intro c a W hd hx
          obtain ⟨rfl, hx⟩ := hx
          exact ⟨hd, HNj.out _ hx⟩
        refine anyL_take (i := 0) (v := ?v0_4) at0 (by kernel_rfl) (by kernel_rfl) (by kernel_rfl) (by kernel_rfl) (fun _ _ _ h => h) rfl ?y0_4 HSD ?r0_4
        case y0_4 => intro wx hx; obtain ⟨h1, h2⟩ := hx; go_simp; try (with_reducible rfl)
        simp only [Act.put, List.setIfInBounds_toArray, List.set_cons_zero, List.set_cons_succ]
        refine anyL_take (i := 1) (v := ?v1_5) (atS at0) (by kernel_rfl) (by kernel_rfl) (by kernel_rfl) (by kernel_rfl) (fun _ _ _ h => h) rfl ?y1_5 HSD ?r1_5
        case y1_5 => intro wx hx; obtain ⟨h1, h2⟩ := hx; go_simp; try (with_reducible rfl)
        simp only [Act.put, List.setIfInBounds_toArray, List.set_cons_zero, List.set_cons_succ]
        refine anyL_take (i := 2) (v := ?v2_6) (atS (atS at0)) (by kernel_rfl) (by kernel_rfl) (by kernel_rfl) (by kernel_rfl) (fun _ _ _ h => h) rfl ?y2_6 HSD ?r2_6
        case y2_6 => intro wx hx; obtain ⟨h1, h2⟩ := hx; go_simp; try (with_reducible rfl)
        simp only [Act.put, List.setIfInBounds_toArray, List.set_cons_zero, List.set_cons_succ]
        refine anyL_one (i := 3) (atS (atS (atS at0))) (by kernel_rfl) rfl (fun K hK => ?_)
        go_simp
        refine (F4j.out _ HRD.out).mono ?_
        rintro e1 w5 ⟨rfl, hg5⟩
        exact ⟨rfl, rfl, gTrans hg.out (grown_drew hg5)⟩
    · have hjm' : ¬ (j : Int) < (mn : Int) := by omega
      obtain rfl : j = mn := by omega
      have hL1 := HLn.out j
      obtain ⟨aa, ca, hva⟩ := own_sl ho.out
      rw [hL1] at hva
      subst hva
      have s0 := hs.out.cell 0 (v := .int .i64 fin) rfl
      have s1 := hs.out.cell 1 (v := .slice aa j ca) rfl
      have a0 := ha.out.cell 0 (v := .int .i64 0) rfl
      have a1 := ha.out.cell 1 (v := .slice none 0 0) rfl
      have b0 := ha.out.fz 0
      have b1 := ha.out.fz 1
      go_wp2
      have KA := (ha.out.set 0 (.int .i64 fin)).set 1 (.slice aa j ca)
      have k0 := KA.cell 0 (v := .int .i64 fin) rfl
      have k1 := KA.cell 1 (v := .slice aa j ca) rfl
      generalize hW5 : (wr.setCell ⟨w.heap.size, 0, none⟩ (.int .i64 fin)).setCell ⟨w.heap.size, 1, none⟩ (.slice aa j ca) = W5 at *
      refine bodyPost_ret (v := .agg #[.int .i64 fin, .slice aa j ca]) (by simp [results, Try.results44, go_sem, k0, k1]) rfl (HA.out _ _ _ hjn ?_ ?_ ?_)
      · rw [← hW5]
        exact ownMono (ownsRow_setCell_below (ownsRow_setCell_below ho.out (a := ⟨w.heap.size, 0, none⟩) (by show w.heap.size < _; omega) _) (a := ⟨w.heap.size, 1, none⟩) (by show w.heap.size < _; omega) _) (by omega)
      · rw [← hW5]
        exact (hr.out.set (by omega) _ _).set (by omega) _ _
      · rw [← hW5]
        exact gSt (gSt hg.out (by omega) _ _) (by omega) _ _
end Go.Proofs.Ytbbjpdadickilaa.Wt
