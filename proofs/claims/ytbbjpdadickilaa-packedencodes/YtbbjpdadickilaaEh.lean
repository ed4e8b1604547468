/- The program: the reader takes a machine. -/
import Derived.Test.YtbbjpdadickilaaEg
namespace Go.Proofs.Ytbbjpdadickilaa.Pl
set_option linter.unusedVariables false
theorem arcHd_seg (bd : List Int) (i : Nat) : arcHd (bd.drop i) = (joinL (seg bd i 2), joinL (seg bd (i + 2) 2), joinL (seg bd (i + 4) 4), joinL (seg bd (i + 8) 1)) := by
  unfold arcHd seg
  simp only [List.drop_drop]
theorem prs_arcs {bd : List Int} {sts : List St} {i mn : Nat} (hb : bytesB bd) (h : Prs bd sts i) (h9 : i + 6 + 9 * mn ≤ bd.length) (hm : joinL (((bd.drop i).drop 4).take 2) = mn) :
    ∀ j, j ≤ mn → PrsA bd sts (joinL ((bd.drop i).take 4)) mn (arcsHd (bd.drop i) j) (i + 6 + 9 * j)
  | 0, _ => by
    have := PrsA.start hb h (by omega) (by rw [← hm]; unfold seg; rw [List.drop_drop]) h9
    exact this
  | j + 1, hj => by
    have h1 := prs_arcs hb h h9 hm j (by omega)
    have h2 := PrsA.step hb h1 (by rw [arcsHd_len]; omega)
    rw [arcsHd_succ, List.drop_drop, arcHd_seg, ← Nat.add_assoc]
    exact h2
theorem prs_state {bd : List Int} {sts : List St} {i mn : Nat} (hb : bytesB bd) (h : Prs bd sts i) (h9 : i + 6 + 9 * mn ≤ bd.length) (hm : joinL (((bd.drop i).drop 4).take 2) = mn) :
    Prs bd (sts ++ [(joinL ((bd.drop i).take 4), arcsHd (bd.drop i) mn)]) (i + (6 + 9 * mn)) := by
  have h1 := (prs_arcs hb h h9 hm mn (Nat.le_refl _)).done (arcsHd_len _ _)
  rw [← Nat.add_assoc]
  exact h1
end Go.Proofs.Ytbbjpdadickilaa.Pl
namespace Go.Proofs.Ytbbjpdadickilaa.Wt
open Go.ChangeShapes Go.WideShapes Go.ChangeAt Go.RowKit
open Go.Proofs.Ytbbjpdadickilaa.Pl
set_option linter.unusedVariables false
set_option linter.unusedSimpArgs false
set_option maxRecDepth 100000 in
theorem state_no0 (B R : Nat) (l : List Int) (w : World) (h : RdAt w B R l) (hk : 0 ≤ l.length) (hk2 : l.length < 4) :
    Calls Try.prog 44 #[.pointer (some ⟨R, 0, none⟩)] w fun e w' => e = .panicked formP ∧ w.grownBy w' (some R) := by
  have hRl := h.lt
  have hb0 : Below w.heap.size w (w.alloc (.cells #[.int .i64 0, .slice none 0 0] 45)) := (Below.refl _ _).alloc (Nat.le_refl _) _
  have HR0 : Hid (RdAt (w.alloc (.cells #[.int .i64 0, .slice none 0 0] 45)) B R l) := h.new hb0
  have HG0 : Hid (w.grownBy (w.alloc (.cells #[.int .i64 0, .slice none 0 0] 45)) (some R)) := gNew hb0
  have FN : Hid (∀ W, RdAt W B R l → Calls Try.prog 36 #[.pointer (some ⟨R, 0, none⟩), .int .i64 4] W fun e w' => e = .panicked formP ∧ W = w') := fun W g => number_no4 B R _ W g hk2
  clear h hb0
  go_enter Try.func44, Try.ntmps44
  go_wp2_with (first
    | (go_at_call 36; (with_reducible refine (FN.out _ HR0.out).mono ?_); rintro e wn ⟨rfl, rfl⟩))
  exact ⟨rfl, rfl, HG0.out⟩
set_option maxRecDepth 100000 in
theorem state_no1 (B R : Nat) (l : List Int) (w : World) (h : RdAt w B R l) (hk : 4 ≤ l.length) (hk2 : l.length < 6) :
    Calls Try.prog 44 #[.pointer (some ⟨R, 0, none⟩)] w fun e w' => e = .panicked formP ∧ w.grownBy w' (some R) := by
  have hRl := h.lt
  have hb0 : Below w.heap.size w (w.alloc (.cells #[.int .i64 0, .slice none 0 0] 45)) := (Below.refl _ _).alloc (Nat.le_refl _) _
  have HR0 : Hid (RdAt (w.alloc (.cells #[.int .i64 0, .slice none 0 0] 45)) B R l) := h.new hb0
  have HG0 : Hid (w.grownBy (w.alloc (.cells #[.int .i64 0, .slice none 0 0] 45)) (some R)) := gNew hb0
  obtain ⟨fin, hfin⟩ : ∃ x, joinL (l.take 4) = x := ⟨_, rfl⟩
  have F1 : Hid (∀ W, RdAt W B R l → Calls Try.prog 36 #[.pointer (some ⟨R, 0, none⟩), .int .i64 4] W fun e w' => e = .returned (.int .i64 fin) ∧ RdAt w' B R (l.drop 4) ∧ W.grownBy w' (some R)) := fun W g => by rw [← hfin]; exact number_ok4 B R l W g (by omega)
  have FN : Hid (∀ W, RdAt W B R (l.drop 4) → Calls Try.prog 36 #[.pointer (some ⟨R, 0, none⟩), .int .i64 2] W fun e w' => e = .panicked formP ∧ W = w') := fun W g => number_no2 B R _ W g (by rw [List.length_drop]; omega)
  clear h hb0 hfin
  generalize l.drop 4 = M1 at *
  go_enter Try.func44, Try.ntmps44
  go_wp2_with (first
    | (go_at_call 36; (with_reducible refine (F1.out _ HR0.out).mono ?_); rintro e w1 ⟨rfl, hr, hg⟩; have HR1 := hid (hr.new ((Below.refl _ _).alloc (Nat.le_refl _) (.cells #[.int .i64 fin, .slice none 0 0] 45))); have HG1 := hid (gTrans (gTrans HG0.out hg) (gNew ((Below.refl _ _).alloc (Nat.le_refl _) (.cells #[.int .i64 fin, .slice none 0 0] 45)))); clear hr hg)
    | (go_at_call 36; (with_reducible refine (FN.out _ HR1.out).mono ?_); rintro e wn ⟨rfl, rfl⟩))
  exact ⟨rfl, rfl, HG1.out⟩
theorem state_no (B R : Nat) (l : List Int) (w : World) (h : RdAt w B R l) (hk : l.length < 6) :
    Calls Try.prog 44 #[.pointer (some ⟨R, 0, none⟩)] w fun e w' => e = .panicked formP ∧ w.grownBy w' (some R) := by
  by_cases h4 : l.length < 4
  · exact state_no0 B R l w h (by omega) h4
  · exact state_no1 B R l w h (by omega) hk
theorem OwnSts.keepR {w w' : World} {base R : Nat} {v : Value} {l : List St} (h : OwnSts w base v l) (hg : w.grownBy w' (some R)) (hR : R < base) : OwnSts w' base v l := by
  obtain ⟨vs, h1, h2, h3⟩ := h
  exact ⟨vs, own_keep h1 hg hR, h2, fun j hj => ⟨(h3 j hj).1, own_keep (h3 j hj).2 hg hR⟩⟩
/-- What comes of a machine: its states stand in the bytes, or no machine has these bytes and the reader gives up. -/
def MaRes (B R : Nat) (bd : List Int) (w : World) (e : Ending) (w' : World) : Prop :=
  (∃ (sts : List St) (i : Nat) (a : Option Addr) (c : Nat), e = .returned (.agg #[.int .i64 (el bd 2 - 1), .slice a sts.length c]) ∧ OwnSts w' w.heap.size (.slice a sts.length c) sts ∧ Prs bd sts i ∧ (sts.length : Int) = el bd 1 ∧ RdAt w' B R (bd.drop i) ∧ w.grownBy w' (some R)) ∨
  (e = .panicked formP ∧ (∀ r, faultM r = 0 → packB r ≠ bd) ∧ w.grownBy w' (some R))
theorem take_one {l : List Int} {i : Nat} (h : i < l.length) : joinL ((l.drop i).take 1) = el l i := by
  have h1 : (l.drop i).take 1 = [el l i] := by
    rw [List.drop_eq_getElem_cons h, List.take_succ_cons, List.take_zero, el_get h]
  rw [h1]
  show 256 * 0 + el l i = el l i
  omega
set_option maxRecDepth 100000 in
set_option maxHeartbeats 1600000 in
theorem machine_read (B R : Nat) (bd : List Int) (w : World) (h : RdAt w B R (bd.drop 1)) (hbb : bytesB bd) (h3 : 3 ≤ bd.length) (hl : bd.length ≤ 8000) :
    Calls Try.prog 37 #[.pointer (some ⟨R, 0, none⟩)] w fun e w' => MaRes B R bd w e w' := by
  have hRl := h.lt
  have t1 : joinL ((bd.drop 1).take 1) = el bd 1 := take_one (by omega)
  have t2 : joinL ((bd.drop 2).take 1) = el bd 2 := take_one (by omega)
  have y1b := hbb (el bd 1) (el_mem (by omega))
  have y2b := hbb (el bd 2) (el_mem (by omega))
  have hb0 : Below w.heap.size w (w.alloc (.cells #[.int .i64 0, .slice none 0 0] 24)) := (Below.refl _ _).alloc (Nat.le_refl _) _
  have HR0 : Hid (RdAt (w.alloc (.cells #[.int .i64 0, .slice none 0 0] 24)) B R (bd.drop 1)) := h.new hb0
  have HG0 : Hid (w.grownBy (w.alloc (.cells #[.int .i64 0, .slice none 0 0] 24)) (some R)) := gNew hb0
  have HA0 : Hid (Blk (w.alloc (.cells #[.int .i64 0, .slice none 0 0] 24)) w.heap.size #[.int .i64 0, .slice none 0 0] 24) := Blk.made w _ _
  have F1 : Hid (∀ W, RdAt W B R (bd.drop 1) → Calls Try.prog 36 #[.pointer (some ⟨R, 0, none⟩), .int .i64 1] W fun e w' => e = .returned (.int .i64 (el bd 1)) ∧ RdAt w' B R (bd.drop 2) ∧ W.grownBy w' (some R)) := fun W g => by
    have := number_ok1 B R (bd.drop 1) W g (by rw [List.length_drop]; omega)
    rw [t1, List.drop_drop] at this
    exact this
  have F2 : Hid (∀ W, RdAt W B R (bd.drop 2) → Calls Try.prog 36 #[.pointer (some ⟨R, 0, none⟩), .int .i64 1] W fun e w' => e = .returned (.int .i64 (el bd 2)) ∧ RdAt w' B R (bd.drop 3) ∧ W.grownBy w' (some R)) := fun W g => by
    have := number_ok1 B R (bd.drop 2) W g (by rw [List.length_drop]; omega)
    rw [t2, List.drop_drop] at this
    exact this
  have HBB : Hid (bytesB bd) := hbb
  have HP0 : Hid (Prs bd [] 3) := Prs.start h3
  have HA : Hid (∀ (sts : List St) (i : Nat) (a : Option Addr) (c : Nat) (w' : World), OwnSts w' w.heap.size (.slice a sts.length c) sts → Prs bd sts i → (sts.length : Int) = el bd 1 → RdAt w' B R (bd.drop i) → w.grownBy w' (some R) → MaRes B R bd w (.returned (.agg #[.int .i64 (el bd 2 - 1), .slice a sts.length c])) w') := fun sts i a c w' g1 g2 g3 g4 g5 => .inl ⟨sts, i, a, c, rfl, g1, g2, g3, g4, g5⟩
  have HN : Hid (∀ w', (∀ r, faultM r = 0 → packB r ≠ bd) → w.grownBy w' (some R) → MaRes B R bd w (.panicked formP) w') := fun w' g1 g2 => .inr ⟨rfl, g1, g2⟩
  have HNR : Hid (∀ (sts : List St) (i : Nat), Prs bd sts i → (sts.length : Int) < el bd 1 → bd.length < i + 6 → ∀ r, faultM r = 0 → packB r ≠ bd) := fun sts i hp hq h6 => no_room hp hq h6
  have HNA : Hid (∀ (sts : List St) (i many : Nat), Prs bd sts i → (sts.length : Int) < el bd 1 → i + 6 ≤ bd.length → joinL (((bd.drop i).drop 4).take 2) = many → bd.length < i + 6 + 9 * many → ∀ r, faultM r = 0 → packB r ≠ bd) := fun sts i many hp hq h6 hm h9 => no_arcs hp hq h6 (by rw [← hm]; unfold seg; rw [List.drop_drop]) h9
  have HPS : Hid (∀ (sts : List St) (i mn : Nat), Prs bd sts i → i + 6 + 9 * mn ≤ bd.length → joinL (((bd.drop i).drop 4).take 2) = mn → Prs bd (sts ++ [(joinL ((bd.drop i).take 4), arcsHd (bd.drop i) mn)]) (i + (6 + 9 * mn))) := fun sts i mn hp h9 hm => prs_state HBB.out hp h9 hm
  have HPL : Hid (∀ (sts : List St) (i : Nat), Prs bd sts i → i ≤ bd.length) := fun sts i hp => hp.2.1
  clear hb0 h t1 t2 hbb
  generalize el bd 1 = y1 at *
  generalize el bd 2 = y2 at *
  have u1 : IntKind.i64.wrap (y2 - 1) = y2 - 1 := wrapI (by omega) (by omega)
  have HL := hid hl
  go_enter Try.func37, Try.ntmps37
  go_wp2_with (first
    | (go_at_call 36; (with_reducible refine (F1.out _ HR0.out).mono ?_); rintro e w0 ⟨rfl, hr, hg⟩; have hs0 := hg.size; rw [World.size_alloc] at hs0; have HR1 := hid hr; have HG1 := hid (gTrans HG0.out hg); have HA1 := hid (blkS HA0.out hg (by omega)); clear hr hg)
    | (go_at_call 36; (with_reducible refine (F2.out _ HR1.out).mono ?_); rintro e w1 ⟨rfl, hr, hg⟩; have hs1 := hg.size; have HR2 := hid (hr.new ((Below.refl _ _).alloc (Nat.le_refl _) (.cells #[.int .i64 (y2 - 1), .slice none 0 0] 24))); have HG2 := hid (gTrans (gTrans HG1.out hg) (gNew ((Below.refl _ _).alloc (Nat.le_refl _) (.cells #[.int .i64 (y2 - 1), .slice none 0 0] 24)))); have HA2 := hid ((blkS HA1.out hg (by omega)).alloc (.cells #[.int .i64 (y2 - 1), .slice none 0 0] 24)); have HS2 := hid (Blk.made w1 #[.int .i64 (y2 - 1), .slice none 0 0] 24); clear hr hg))
  go_loopw [12] (fun s12 wr => ∃ (sts : List St) (i : Nat) (vs : Value), s12 = .int .i64 sts.length ∧ (sts.length : Int) ≤ y1 ∧ Hid (Prs bd sts i) ∧ Hid (RdAt wr B R (bd.drop i)) ∧ Hid (w.grownBy wr (some R)) ∧ Hid (Blk wr w.heap.size #[.int .i64 0, .slice none 0 0] 24) ∧ Hid (Blk wr w1.heap.size #[.int .i64 (y2 - 1), vs] 24) ∧ Hid (OwnSts wr (w1.heap.size + 1) vs sts)) (fun s12 _ => (y1 - intOf s12).toNat)
  case atStart => exact ⟨[], 3, .slice none 0 0, rfl, by simp; omega, HP0, HR2, HG2, HA2, HS2, OwnSts.nil _ _⟩
  case round =>
    obtain ⟨sts, i, vs, rfl, hle, hp, hr, hg, ha, hs, ho⟩ := hrel
    clear HR0 HG0 HA0 HR1 HG1 HA1 HR2 HG2 HA2 HS2 F1 F2 HP0
    obtain ⟨av, cv, hvs⟩ := ho.out.sts.sl
    subst hvs
    have hil := HPL.out sts i hp.out
    have HRD : Hid (RdAt wr.drew B R (bd.drop i)) := hr.out
    have HSD : HeldF w1.heap.size (.slice av sts.length cv) wr.drew := ⟨hs.out.cell 1 rfl, trivial⟩
    have hdl : (bd.drop i).length = bd.length - i := List.length_drop
    by_cases hlt : (sts.length : Int) < y1
    · by_cases h6 : i + 6 ≤ bd.length
      · have hbi : bytesB (bd.drop i) := bytes_drop HBB.out i
        have hr2 := join_range2 (x := ((bd.drop i).drop 4).take 2) (bytes_take (bytes_drop hbi 4) 2) (by rw [List.length_take, List.length_drop]; omega)
        obtain ⟨mn, hmn⟩ : ∃ mn : Nat, joinL (((bd.drop i).drop 4).take 2) = (mn : Int) := ⟨(joinL (((bd.drop i).drop 4).take 2)).toNat, by omega⟩
        by_cases h9 : i + 6 + 9 * mn ≤ bd.length
        · have HPN : Hid (Prs bd (sts ++ [(joinL ((bd.drop i).take 4), arcsHd (bd.drop i) mn)]) (i + (6 + 9 * mn))) := HPS.out sts i mn hp.out h9 hmn
          have FS : Hid (∀ W, RdAt W B R (bd.drop i) → Calls Try.prog 44 #[.pointer (some ⟨R, 0, none⟩)] W fun e w' => ∃ a c, e = .returned (.agg #[.int .i64 (joinL ((bd.drop i).take 4)), .slice a mn c]) ∧ w'.ownsRow W.heap.size 53 4 (.slice a mn c) (arcsHd (bd.drop i) mn).length ((arcsHd (bd.drop i) mn).flatMap encA) ∧ RdAt w' B R (bd.drop (i + (6 + 9 * mn))) ∧ W.grownBy w' (some R)) := fun W g => by
            refine (state_any B R _ W g (by omega) mn hmn (by omega)).mono ?_
            rintro e w' (⟨_, a, c, h1, h2, h3, h4⟩ | ⟨h1, _⟩)
            · rw [List.drop_drop] at h3
              exact ⟨a, c, h1, h2, h3, h4⟩
            · omega
          have hsl : sts.length ≤ 255 := by omega
          clear hdl hbi hr2 hmn
          generalize joinL ((bd.drop i).take 4) = fin at *
          generalize arcsHd (bd.drop i) mn = ar at *
          generalize i + (6 + 9 * mn) = i2 at *
          go_wp2
          refine region_anyL (HeldF w1.heap.size (.slice av sts.length cv)) 7 (by kernel_rfl) ?_
          refine anyL_take (i := 0) (v := ?v0_1) at0 (by kernel_rfl) (by kernel_rfl) (by kernel_rfl) (by kernel_rfl) (fun _ _ _ h => h) rfl ?y0_1 HSD ?r0_1
          case y0_1 => intro wx hx; obtain ⟨h1, h2⟩ := hx; go_simp; try (with_reducible rfl)
          simp only [Act.put, List.setIfInBounds_toArray, List.set_cons_zero, List.set_cons_succ]
          refine anyL_take (i := 1) (v := ?v1_2) (atS at0) (by kernel_rfl) (by kernel_rfl) (by kernel_rfl) (by kernel_rfl) (fun _ _ _ h => h) rfl ?y1_2 HSD ?r1_2
          case y1_2 => intro wx hx; obtain ⟨h1, h2⟩ := hx; go_simp; try (with_reducible rfl)
          simp only [Act.put, List.setIfInBounds_toArray, List.set_cons_zero, List.set_cons_succ]
          refine anyL_take (i := 2) (v := ?v2_3) (atS (atS at0)) (by kernel_rfl) (by kernel_rfl) (by kernel_rfl) (by kernel_rfl) (fun _ _ _ h => h) rfl ?y2_3 HSD ?r2_3
          case y2_3 => intro wx hx; obtain ⟨h1, h2⟩ := hx; go_simp; try (with_reducible rfl)
          simp only [Act.put, List.setIfInBounds_toArray, List.set_cons_zero, List.set_cons_succ]
          refine anyL_one (i := 3) (atS (atS (atS at0))) (by kernel_rfl) rfl (fun K hK => ?_)
          go_simp
          refine (FS.out _ HRD.out).mono ?_
          rintro e1 w5 ⟨aa, ca, rfl, ho5, hr5, hg5⟩
          have HS5b : Hid (Blk w5 w1.heap.size #[.int .i64 (y2 - 1), .slice av sts.length cv] 24) := blkS (w := wr.drew) hs.out hg5 (by omega)
          have HT5 : OwnSts w5 (w1.heap.size + 1) (.slice av sts.length cv) sts := OwnSts.keepR (w := wr.drew) ho.out hg5 (by omega)
          have hs5 : w1.heap.size < w5.heap.size := HS5b.out.lt
          have hsr : w1.heap.size < wr.heap.size := hs.out.lt
          obtain ⟨v6, w6, hr6, ho6, hb6⟩ := run_push (W := w5.alloc (.cells #[.int .i64 fin, .slice aa mn ca] 45)) (w1 := w5) (fin, ar) sts (.slice aa mn ca) (.slice av sts.length cv) (w1.heap.size + 1) rfl rfl rfl rfl HT5 (ownMono ho5 (by show _ ≤ wr.heap.size; omega)) (by omega) (by omega)
          obtain ⟨a6, c6, hv6⟩ := ho6.sts.sl
          rw [show (sts ++ [(fin, ar)]).length = sts.length + 1 from by simp] at hv6
          subst hv6
          have R6 := hid hr6
          have HO6 := hid ho6
          have HS5 : HeldF w1.heap.size (.slice av sts.length cv) w5 := ⟨HS5b.out.cell 1 rfl, trivial⟩
          have HSA : HeldF w1.heap.size (.slice av sts.length cv) (w5.alloc (.cells #[.int .i64 fin, .slice aa mn ca] 45)) := ⟨(HS5b.out.alloc _).cell 1 rfl, trivial⟩
          have HS6b : Hid (Blk w6 w1.heap.size #[.int .i64 (y2 - 1), .slice av sts.length cv] 24) := HS5b.out.below hb6 (Nat.lt_succ_self _)
          have HS6 : HeldF w1.heap.size (.slice av sts.length cv) w6 := ⟨HS6b.out.cell 1 rfl, trivial⟩
          have f6 := HS6b.out.fz 1
          have c6' := HS6b.out.cell 1 (v := .slice av sts.length cv) rfl
          have HR6 : Hid (RdAt w6 B R (bd.drop i2)) := hr5.below hb6 (by omega)
          have HG6 : Hid (w.grownBy w6 (some R)) := gBel (gTrans hg.out (grown_drew hg5)) hb6 (by omega)
          have HA6 : Hid (Blk w6 w.heap.size #[.int .i64 0, .slice none 0 0] 24) := (blkS (w := wr.drew) ha.out hg5 (by omega)).below hb6 (by omega)
          clear hr6 ho6 hb6 HT5 ho5 hr5 hg5
          refine hK _ _ (.inr HS5) ?_
          try simp only [Act.put, List.setIfInBounds_toArray, List.set_cons_zero, List.set_cons_succ]
          refine anyL_one (i := 4) (atS (atS (atS (atS at0)))) (by kernel_rfl) rfl (fun K hK => ?_)
          go_simp
          refine hK _ _ (.inr HSA) ?_
          try simp only [Act.put, List.setIfInBounds_toArray, List.set_cons_zero, List.set_cons_succ]
          refine anyL_one (i := 5) (atS (atS (atS (atS (atS at0))))) (by kernel_rfl) rfl (fun K hK => ?_)
          refine wp_append_run (.tmp 15) (.tmp 18) 22 rfl rfl rfl R6.out ?_
          refine hK _ _ (.inr HS6) ?_
          try simp only [Act.put, List.setIfInBounds_toArray, List.set_cons_zero, List.set_cons_succ]
          refine anyL_one (i := 6) (atS (atS (atS (atS (atS (atS at0)))))) (by kernel_rfl) rfl (fun K hK => ?_)
          go_simp
          refine hK _ _ (.inr HS6) ?_
          try simp only [Act.put, List.setIfInBounds_toArray, List.set_cons_zero, List.set_cons_succ]
          refine anyL_one (i := 7) (atS (atS (atS (atS (atS (atS (atS at0))))))) (by kernel_rfl) rfl (fun K hK => ?_)
          go_simp
          refine hK _ _ (.inl rfl) (anyL_done (by kernel_rfl) (NoPanic.normal ?_))
          try simp only [Act.put, List.setIfInBounds_toArray, List.set_cons_zero, List.set_cons_succ]
          clear HSD HSA HS5 HS6
          go_wp2
          go_roundw
          case rel => exact ⟨sts ++ [(fin, ar)], i2, .slice a6 (sts.length + 1) c6, by simp, by simp; omega, HPN, HR6.out.set (by omega) _ _, gSt HG6.out (by omega) _ _, HA6.out.setO ⟨w1.heap.size, 1, none⟩ _ (by show _ ≠ w1.heap.size; omega), HS6b.out.set 1 _, HO6.out.setCell (a := ⟨w1.heap.size, 1, none⟩) (Nat.lt_succ_self _) _⟩
          case measure => simp [intOf]; omega
        · have HNj : Hid (∀ w', w.grownBy w' (some R) → MaRes B R bd w (.panicked formP) w') := fun w' g => HN.out w' (HNA.out sts i mn hp.out hlt h6 hmn (by omega)) g
          have FS : Hid (∀ W, RdAt W B R (bd.drop i) → Calls Try.prog 44 #[.pointer (some ⟨R, 0, none⟩)] W fun e w' => e = .panicked formP ∧ W.grownBy w' (some R)) := fun W g => by
            refine (state_any B R _ W g (by omega) mn hmn (by omega)).mono ?_
            rintro e w' (⟨h1, _⟩ | ⟨_, h1, h2⟩)
            · omega
            · exact ⟨h1, h2⟩
          clear hdl hbi hr2 hmn
          go_wp2
          refine region_anyP (fun c W => c = formP ∧ w.grownBy W (some R)) (HeldF w1.heap.size (.slice av sts.length cv)) 7 (by kernel_rfl) ?_ ?_
          · intro c a W hd hx
            obtain ⟨rfl, hx⟩ := hx
            exact ⟨hd, HNj.out _ hx⟩
          refine anyL_take (i := 0) (v := ?v0_4) at0 (by kernel_rfl) (by kernel_rfl) (by kernel_rfl) (by kernel_rfl) (fun _ _ _ h => h) rfl ?y0_4 HSD ?r0_4
          case y0_4 => intro wx hx; obtain ⟨h1, h2⟩ := hx; go_simp; try (with_reducible rfl)
          simp only [Act.put, List.setIfInBounds_toArray, List.set_cons_zero, List.set_cons_succ]
          refine anyL_take (i := 1) (v := ?v1_5) (atS at0) (by kernel_rfl) (by kernel_rfl) (by kernel_rfl) (by kernel_rfl) (fun _ _ _ h => h) rfl ?y1_5 HSD ?r1_5
          case y1_5 => intro wx hx; obtain ⟨h1, h2⟩ := hx; go_simp; try (with_reducible rfl)
          simp only [Act.put, List.setIfInBounds_toArray, List.set_cons_zero, List.set_cons_succ]
          refine anyL_take (i := 2) (v := ?v2_6) (atS (atS at0)) (by kernel_rfl) (by kernel_rfl) (by kernel_rfl) (by kernel_rfl) (fun _ _ _ h => h) rfl ?y2_6 HSD ?r2_6
          case y2_6 => intro wx hx; obtain ⟨h1, h2⟩ := hx; go_simp; try (with_reducible rfl)
          simp only [Act.put, List.setIfInBounds_toArray, List.set_cons_zero, List.set_cons_succ]
          refine anyL_one (i := 3) (atS (atS (atS at0))) (by kernel_rfl) rfl (fun K hK => ?_)
          go_simp
          refine (FS.out _ HRD.out).mono ?_
          rintro e1 w5 ⟨rfl, hg5⟩
          exact ⟨rfl, rfl, gTrans hg.out (grown_drew hg5)⟩
      · have HNj : Hid (∀ w', w.grownBy w' (some R) → MaRes B R bd w (.panicked formP) w') := fun w' g => HN.out w' (HNR.out sts i hp.out hlt (by omega)) g
        have FS : Hid (∀ W, RdAt W B R (bd.drop i) → Calls Try.prog 44 #[.pointer (some ⟨R, 0, none⟩)] W fun e w' => e = .panicked formP ∧ W.grownBy w' (some R)) := fun W g => state_no B R _ W g (by omega)
        clear hdl
        go_wp2
        refine region_anyP (fun c W => c = formP ∧ w.grownBy W (some R)) (HeldF w1.heap.size (.slice av sts.length cv)) 7 (by kernel_rfl) ?_ ?_
        · intro c a W hd hx
          obtain ⟨rfl, hx⟩ := hx
          exact ⟨hd, HNj.out _ hx⟩
        refine anyL_take (i := 0) (v := ?v0_7) at0 (by kernel_rfl) (by kernel_rfl) (by kernel_rfl) (by kernel_rfl) (fun _ _ _ h => h) rfl ?y0_7 HSD ?r0_7
        case y0_7 => intro wx hx; obtain ⟨h1, h2⟩ := hx; go_simp; try (with_reducible rfl)
        simp only [Act.put, List.setIfInBounds_toArray, List.set_cons_zero, List.set_cons_succ]
        refine anyL_take (i := 1) (v := ?v1_8) (atS at0) (by kernel_rfl) (by kernel_rfl) (by kernel_rfl) (by kernel_rfl) (fun _ _ _ h => h) rfl ?y1_8 HSD ?r1_8
        case y1_8 => intro wx hx; obtain ⟨h1, h2⟩ := hx; go_simp; try (with_reducible rfl)
        simp only [Act.put, List.setIfInBounds_toArray, List.set_cons_zero, List.set_cons_succ]
        refine anyL_take (i := 2) (v := ?v2_9) (atS (atS at0)) (by kernel_rfl) (by kernel_rfl) (by kernel_rfl) (by kernel_rfl) (fun _ _ _ h => h) rfl ?y2_9 HSD ?r2_9
        case y2_9 => intro wx hx; obtain ⟨h1, h2⟩ := hx; go_simp; try (with_reducible rfl)
        simp only [Act.put, List.setIfInBounds_toArray, List.set_cons_zero, List.set_cons_succ]
        refine anyL_one (i := 3) (atS (atS (atS at0))) (by kernel_rfl) rfl (fun K hK => ?_)
        go_simp
        refine (FS.out _ HRD.out).mono ?_
        rintro e1 w5 ⟨rfl, hg5⟩
        exact ⟨rfl, rfl, gTrans hg.out (grown_drew hg5)⟩
    · have s0 := hs.out.cell 0 (v := .int .i64 (y2 - 1)) rfl
      have s1 := hs.out.cell 1 (v := .slice av sts.length cv) rfl
      have a0 := ha.out.cell 0 (v := .int .i64 0) rfl
      have a1 := ha.out.cell 1 (v := .slice none 0 0) rfl
      have b0 := ha.out.fz 0
      have b1 := ha.out.fz 1
      have hsq : (sts.length : Int) = y1 := by omega
      have HSQ := hid hsq
      clear hsq hdl
      go_wp2
      have KA := (ha.out.set 0 (.int .i64 (y2 - 1))).set 1 (.slice av sts.length cv)
      have k0 := KA.cell 0 (v := .int .i64 (y2 - 1)) rfl
      have k1 := KA.cell 1 (v := .slice av sts.length cv) rfl
      generalize hW5 : (wr.setCell ⟨w.heap.size, 0, none⟩ (.int .i64 (y2 - 1))).setCell ⟨w.heap.size, 1, none⟩ (.slice av sts.length cv) = W5 at *
      refine bodyPost_ret (v := .agg #[.int .i64 (y2 - 1), .slice av sts.length cv]) (by simp [results, Try.results37, go_sem, k0, k1]) rfl (HA.out sts i _ _ _ ?_ hp.out HSQ.out ?_ ?_)
      · rw [← hW5]
        exact ((ho.out.setCell (a := ⟨w.heap.size, 0, none⟩) (by show w.heap.size < _; omega) _).setCell (a := ⟨w.heap.size, 1, none⟩) (by show w.heap.size < _; omega) _).monoB (by omega)
      · rw [← hW5]
        exact (hr.out.set (by omega) _ _).set (by omega) _ _
      · rw [← hW5]
        exact gSt (gSt hg.out (by omega) _ _) (by omega) _ _
end Go.Proofs.Ytbbjpdadickilaa.Wt
