/- The program: the reader takes an arc. -/
import Derived.Test.YtbbjpdadickilaaEd
namespace Go.Proofs.Ytbbjpdadickilaa.Pl
/-- The arc that stands first in the bytes. -/
def arcHd (l : List Int) : Ar := (joinL (l.take 2), joinL ((l.drop 2).take 2), joinL ((l.drop 4).take 4), joinL ((l.drop 8).take 1))
end Go.Proofs.Ytbbjpdadickilaa.Pl
namespace Go.Proofs.Ytbbjpdadickilaa.Wt
open Go.ChangeShapes Go.WideShapes Go.ChangeAt Go.RowKit
open Go.Proofs.Ytbbjpdadickilaa.Pl
set_option linter.unusedVariables false
set_option linter.unusedSimpArgs false
/-- The way that the reader goes: its own block alone changes, where the call began in w. -/
theorem gSt {w W : World} {R : Nat} (h : w.grownBy W (some R)) {g : Nat} (hg : w.heap.size ≤ g) (o : Nat) (v : Value) : w.grownBy (W.setCell ⟨g, o, none⟩ v) (some R) := gSetNew h hg o v
theorem blkS {w W : World} {R g : Nat} {cs : Array Value} {t : TypeId} (hb : Blk w g cs t) (h : w.grownBy W (some R)) (hg : R < g) : Blk W g cs t := hb.grown h (by intro e; injection e; omega)
set_option maxRecDepth 100000 in
theorem arc_ok (B R : Nat) (l : List Int) (w : World) (h : RdAt w B R l) (hk : 9 ≤ l.length) :
    Calls Try.prog 47 #[.pointer (some ⟨R, 0, none⟩)] w fun e w' => e = .returned (.agg #[.int .i64 (arcHd l).1, .int .i64 (arcHd l).2.1, .int .i64 (arcHd l).2.2.1, .int .i64 (arcHd l).2.2.2]) ∧ RdAt w' B R (l.drop 9) ∧ w.grownBy w' (some R) := by
  obtain ⟨x0, e0⟩ : ∃ x, joinL (l.take 2) = x := ⟨_, rfl⟩
  obtain ⟨x1, e1⟩ : ∃ x, joinL ((l.drop 2).take 2) = x := ⟨_, rfl⟩
  obtain ⟨x2, e2⟩ : ∃ x, joinL ((l.drop 4).take 4) = x := ⟨_, rfl⟩
  obtain ⟨x3, e3⟩ : ∃ x, joinL ((l.drop 8).take 1) = x := ⟨_, rfl⟩
  have hX : arcHd l = (x0, x1, x2, x3) := by unfold arcHd; rw [e0, e1, e2, e3]
  rw [hX]
  have hRl := h.lt
  have hb0 : Below w.heap.size w ((w.alloc (.cells #[.int .i64 0, .int .i64 0, .int .i64 0, .int .i64 0] 53)).alloc (.cells #[.int .i64 0, .int .i64 0, .int .i64 0, .int .i64 0] 53)) := ((Below.refl _ _).alloc (Nat.le_refl _) _).alloc (by simp) _
  have HR0 : Hid (RdAt ((w.alloc (.cells #[.int .i64 0, .int .i64 0, .int .i64 0, .int .i64 0] 53)).alloc (.cells #[.int .i64 0, .int .i64 0, .int .i64 0, .int .i64 0] 53)) B R l) := h.new hb0
  have HG0 : Hid (w.grownBy ((w.alloc (.cells #[.int .i64 0, .int .i64 0, .int .i64 0, .int .i64 0] 53)).alloc (.cells #[.int .i64 0, .int .i64 0, .int .i64 0, .int .i64 0] 53)) (some R)) := gNew hb0
  have HA0 : Hid (Blk ((w.alloc (.cells #[.int .i64 0, .int .i64 0, .int .i64 0, .int .i64 0] 53)).alloc (.cells #[.int .i64 0, .int .i64 0, .int .i64 0, .int .i64 0] 53)) w.heap.size #[.int .i64 0, .int .i64 0, .int .i64 0, .int .i64 0] 53) := (Blk.made w _ _).alloc _
  have HC0 : Hid (Blk ((w.alloc (.cells #[.int .i64 0, .int .i64 0, .int .i64 0, .int .i64 0] 53)).alloc (.cells #[.int .i64 0, .int .i64 0, .int .i64 0, .int .i64 0] 53)) (w.heap.size + 1) #[.int .i64 0, .int .i64 0, .int .i64 0, .int .i64 0] 53) := by
    have := Blk.made (w.alloc (.cells #[.int .i64 0, .int .i64 0, .int .i64 0, .int .i64 0] 53)) #[.int .i64 0, .int .i64 0, .int .i64 0, .int .i64 0] 53
    rw [World.size_alloc] at this
    exact this
  clear hb0 h
  have F1 : Hid (∀ W, RdAt W B R l → Calls Try.prog 36 #[.pointer (some ⟨R, 0, none⟩), .int .i64 2] W fun e w' => e = .returned (.int .i64 x0) ∧ RdAt w' B R (l.drop 2) ∧ W.grownBy w' (some R)) := fun W g => by rw [← e0]; exact number_ok2 B R l W g (by omega)
  have F2 : Hid (∀ W, RdAt W B R (l.drop 2) → Calls Try.prog 36 #[.pointer (some ⟨R, 0, none⟩), .int .i64 2] W fun e w' => e = .returned (.int .i64 x1) ∧ RdAt w' B R (l.drop 4) ∧ W.grownBy w' (some R)) := fun W g => by
    have := number_ok2 B R (l.drop 2) W g (by rw [List.length_drop]; omega)
    rw [e1, List.drop_drop] at this
    exact this
  have F3 : Hid (∀ W, RdAt W B R (l.drop 4) → Calls Try.prog 36 #[.pointer (some ⟨R, 0, none⟩), .int .i64 4] W fun e w' => e = .returned (.int .i64 x2) ∧ RdAt w' B R (l.drop 8) ∧ W.grownBy w' (some R)) := fun W g => by
    have := number_ok4 B R (l.drop 4) W g (by rw [List.length_drop]; omega)
    rw [e2, List.drop_drop] at this
    exact this
  have F4 : Hid (∀ W, RdAt W B R (l.drop 8) → Calls Try.prog 36 #[.pointer (some ⟨R, 0, none⟩), .int .i64 1] W fun e w' => e = .returned (.int .i64 x3) ∧ RdAt w' B R (l.drop 9) ∧ W.grownBy w' (some R)) := fun W g => by
    have := number_ok1 B R (l.drop 8) W g (by rw [List.length_drop]; omega)
    rw [e3, List.drop_drop] at this
    exact this
  generalize l.drop 2 = M1 at *
  generalize l.drop 4 = M2 at *
  generalize l.drop 8 = M3 at *
  generalize l.drop 9 = M4 at *
  clear e0 e1 e2 e3 hX
  go_enter Try.func47, Try.ntmps47
  go_wp2_with (first
    | (go_at_call 36; (with_reducible refine (F1.out _ HR0.out).mono ?_); rintro e w1 ⟨rfl, hr, hg⟩; have HR1 := hid hr; have HG1 := hid (gTrans HG0.out hg); have HA1 := hid (blkS HA0.out hg (by omega)); have HC1 := hid (blkS HC0.out hg (by omega)); have c1 := HC1.out.cell 0 (v := .int .i64 0) rfl; have f1 := HC1.out.fz 0; clear hr hg)
    | (go_at_call 36; (with_reducible refine (F2.out _ (HR1.out.set (by omega) _ _)).mono ?_); rintro e w2 ⟨rfl, hr, hg⟩; have HR2 := hid hr; have HG2 := hid (gTrans (gSt HG1.out (by omega) _ _) hg); have HA2 := hid (blkS (HA1.out.setO ⟨w.heap.size + 1, 0, none⟩ _ (by simp)) hg (by omega)); have HC2 := hid (blkS (HC1.out.set 0 (.int .i64 x0)) hg (by omega)); have c2 := HC2.out.cell 1 (v := .int .i64 0) rfl; have f2 := HC2.out.fz 1; clear hr hg)
    | (go_at_call 36; (with_reducible refine (F3.out _ (HR2.out.set (by omega) _ _)).mono ?_); rintro e w3 ⟨rfl, hr, hg⟩; have HR3 := hid hr; have HG3 := hid (gTrans (gSt HG2.out (by omega) _ _) hg); have HA3 := hid (blkS (HA2.out.setO ⟨w.heap.size + 1, 1, none⟩ _ (by simp)) hg (by omega)); have HC3 := hid (blkS (HC2.out.set 1 (.int .i64 x1)) hg (by omega)); have c3 := HC3.out.cell 2 (v := .int .i64 0) rfl; have f3 := HC3.out.fz 2; clear hr hg)
    | (go_at_call 36; (with_reducible refine (F4.out _ (HR3.out.set (by omega) _ _)).mono ?_); rintro e w4 ⟨rfl, hr, hg⟩; have HR4 := hid hr; have HG4 := hid (gTrans (gSt HG3.out (by omega) _ _) hg); have HA4 := hid (blkS (HA3.out.setO ⟨w.heap.size + 1, 2, none⟩ _ (by simp)) hg (by omega)); have HC4 := hid (blkS (HC3.out.set 2 (.int .i64 x2)) hg (by omega)); have c4 := HC4.out.cell 3 (v := .int .i64 0) rfl; have f4 := HC4.out.fz 3; have c40 := HC4.out.cell 0 (v := .int .i64 x0) rfl; have c41 := HC4.out.cell 1 (v := .int .i64 x1) rfl; have c42 := HC4.out.cell 2 (v := .int .i64 x2) rfl; have a40 := HA4.out.cell 0 (v := .int .i64 0) rfl; have a41 := HA4.out.cell 1 (v := .int .i64 0) rfl; have a42 := HA4.out.cell 2 (v := .int .i64 0) rfl; have a43 := HA4.out.cell 3 (v := .int .i64 0) rfl; have b40 := HA4.out.fz 0; have b41 := HA4.out.fz 1; have b42 := HA4.out.fz 2; have b43 := HA4.out.fz 3; clear hr hg))
  have KA := ((((HA4.out.setO ⟨w.heap.size + 1, 3, none⟩ (.int .i64 x3) (by simp)).set 0 (.int .i64 x0)).set 1 (.int .i64 x1)).set 2 (.int .i64 x2)).set 3 (.int .i64 x3)
  have k0 := KA.cell 0 (v := .int .i64 x0) rfl
  have k1 := KA.cell 1 (v := .int .i64 x1) rfl
  have k2 := KA.cell 2 (v := .int .i64 x2) rfl
  have k3 := KA.cell 3 (v := .int .i64 x3) rfl
  generalize hW5 : ((((w4.setCell ⟨w.heap.size + 1, 3, none⟩ (.int .i64 x3)).setCell ⟨w.heap.size, 0, none⟩ (.int .i64 x0)).setCell ⟨w.heap.size, 1, none⟩ (.int .i64 x1)).setCell ⟨w.heap.size, 2, none⟩ (.int .i64 x2)).setCell ⟨w.heap.size, 3, none⟩ (.int .i64 x3) = W5 at *
  refine bodyPost_ret (v := .agg #[.int .i64 x0, .int .i64 x1, .int .i64 x2, .int .i64 x3]) (by simp [results, Try.results47, go_sem, k0, k1, k2, k3]) rfl ⟨rfl, ?_, ?_⟩
  · rw [← hW5]
    exact ((((HR4.out.set (by omega) _ _).set (by omega) _ _).set (by omega) _ _).set (by omega) _ _).set (by omega) _ _
  · rw [← hW5]
    exact gSt (gSt (gSt (gSt (gSt HG4.out (by omega) _ _) (by omega) _ _) (by omega) _ _) (by omega) _ _) (by omega) _ _
set_option maxRecDepth 100000 in
theorem arc_no0 (B R : Nat) (l : List Int) (w : World) (h : RdAt w B R l) (hk : 0 ≤ l.length) (hk2 : l.length < 2) :
    Calls Try.prog 47 #[.pointer (some ⟨R, 0, none⟩)] w fun e w' => e = .panicked formP ∧ w.grownBy w' (some R) := by
  have hRl := h.lt
  have hb0 : Below w.heap.size w ((w.alloc (.cells #[.int .i64 0, .int .i64 0, .int .i64 0, .int .i64 0] 53)).alloc (.cells #[.int .i64 0, .int .i64 0, .int .i64 0, .int .i64 0] 53)) := ((Below.refl _ _).alloc (Nat.le_refl _) _).alloc (by simp) _
  have HR0 : Hid (RdAt ((w.alloc (.cells #[.int .i64 0, .int .i64 0, .int .i64 0, .int .i64 0] 53)).alloc (.cells #[.int .i64 0, .int .i64 0, .int .i64 0, .int .i64 0] 53)) B R l) := h.new hb0
  have HG0 : Hid (w.grownBy ((w.alloc (.cells #[.int .i64 0, .int .i64 0, .int .i64 0, .int .i64 0] 53)).alloc (.cells #[.int .i64 0, .int .i64 0, .int .i64 0, .int .i64 0] 53)) (some R)) := gNew hb0
  have HA0 : Hid (Blk ((w.alloc (.cells #[.int .i64 0, .int .i64 0, .int .i64 0, .int .i64 0] 53)).alloc (.cells #[.int .i64 0, .int .i64 0, .int .i64 0, .int .i64 0] 53)) w.heap.size #[.int .i64 0, .int .i64 0, .int .i64 0, .int .i64 0] 53) := (Blk.made w _ _).alloc _
  have HC0 : Hid (Blk ((w.alloc (.cells #[.int .i64 0, .int .i64 0, .int .i64 0, .int .i64 0] 53)).alloc (.cells #[.int .i64 0, .int .i64 0, .int .i64 0, .int .i64 0] 53)) (w.heap.size + 1) #[.int .i64 0, .int .i64 0, .int .i64 0, .int .i64 0] 53) := by
    have := Blk.made (w.alloc (.cells #[.int .i64 0, .int .i64 0, .int .i64 0, .int .i64 0] 53)) #[.int .i64 0, .int .i64 0, .int .i64 0, .int .i64 0] 53
    rw [World.size_alloc] at this
    exact this
  clear hb0 h
  have FN : Hid (∀ W, RdAt W B R l → Calls Try.prog 36 #[.pointer (some ⟨R, 0, none⟩), .int .i64 2] W fun e w' => e = .panicked formP ∧ W = w') := fun W g => number_no2 B R _ W g (by omega)
  go_enter Try.func47, Try.ntmps47
  go_wp2_with (first
    | (go_at_call 36; (with_reducible refine (FN.out _ HR0.out).mono ?_); rintro e wn ⟨rfl, rfl⟩))
  exact ⟨rfl, rfl, HG0.out⟩
set_option maxRecDepth 100000 in
theorem arc_no1 (B R : Nat) (l : List Int) (w : World) (h : RdAt w B R l) (hk : 2 ≤ l.length) (hk2 : l.length < 4) :
    Calls Try.prog 47 #[.pointer (some ⟨R, 0, none⟩)] w fun e w' => e = .panicked formP ∧ w.grownBy w' (some R) := by
  obtain ⟨x0, e0⟩ : ∃ x, joinL (l.take 2) = x := ⟨_, rfl⟩
  have hRl := h.lt
  have hb0 : Below w.heap.size w ((w.alloc (.cells #[.int .i64 0, .int .i64 0, .int .i64 0, .int .i64 0] 53)).alloc (.cells #[.int .i64 0, .int .i64 0, .int .i64 0, .int .i64 0] 53)) := ((Below.refl _ _).alloc (Nat.le_refl _) _).alloc (by simp) _
  have HR0 : Hid (RdAt ((w.alloc (.cells #[.int .i64 0, .int .i64 0, .int .i64 0, .int .i64 0] 53)).alloc (.cells #[.int .i64 0, .int .i64 0, .int .i64 0, .int .i64 0] 53)) B R l) := h.new hb0
  have HG0 : Hid (w.grownBy ((w.alloc (.cells #[.int .i64 0, .int .i64 0, .int .i64 0, .int .i64 0] 53)).alloc (.cells #[.int .i64 0, .int .i64 0, .int .i64 0, .int .i64 0] 53)) (some R)) := gNew hb0
  have HA0 : Hid (Blk ((w.alloc (.cells #[.int .i64 0, .int .i64 0, .int .i64 0, .int .i64 0] 53)).alloc (.cells #[.int .i64 0, .int .i64 0, .int .i64 0, .int .i64 0] 53)) w.heap.size #[.int .i64 0, .int .i64 0, .int .i64 0, .int .i64 0] 53) := (Blk.made w _ _).alloc _
  have HC0 : Hid (Blk ((w.alloc (.cells #[.int .i64 0, .int .i64 0, .int .i64 0, .int .i64 0] 53)).alloc (.cells #[.int .i64 0, .int .i64 0, .int .i64 0, .int .i64 0] 53)) (w.heap.size + 1) #[.int .i64 0, .int .i64 0, .int .i64 0, .int .i64 0] 53) := by
    have := Blk.made (w.alloc (.cells #[.int .i64 0, .int .i64 0, .int .i64 0, .int .i64 0] 53)) #[.int .i64 0, .int .i64 0, .int .i64 0, .int .i64 0] 53
    rw [World.size_alloc] at this
    exact this
  clear hb0 h
  have F1 : Hid (∀ W, RdAt W B R l → Calls Try.prog 36 #[.pointer (some ⟨R, 0, none⟩), .int .i64 2] W fun e w' => e = .returned (.int .i64 x0) ∧ RdAt w' B R (l.drop 2) ∧ W.grownBy w' (some R)) := fun W g => by rw [← e0]; exact number_ok2 B R l W g (by omega)
  have FN : Hid (∀ W, RdAt W B R (l.drop 2) → Calls Try.prog 36 #[.pointer (some ⟨R, 0, none⟩), .int .i64 2] W fun e w' => e = .panicked formP ∧ W = w') := fun W g => number_no2 B R _ W g (by rw [List.length_drop]; omega)
  generalize l.drop 2 = M1 at *
  clear e0
  go_enter Try.func47, Try.ntmps47
  go_wp2_with (first
    | (go_at_call 36; (with_reducible refine (F1.out _ HR0.out).mono ?_); rintro e w1 ⟨rfl, hr, hg⟩; have HR1 := hid hr; have HG1 := hid (gTrans HG0.out hg); have HA1 := hid (blkS HA0.out hg (by omega)); have HC1 := hid (blkS HC0.out hg (by omega)); have c1 := HC1.out.cell 0 (v := .int .i64 0) rfl; have f1 := HC1.out.fz 0; clear hr hg)
    | (go_at_call 36; (with_reducible refine (FN.out _ (HR1.out.set (by omega) _ _)).mono ?_); rintro e wn ⟨rfl, rfl⟩))
  exact ⟨rfl, rfl, (gSt HG1.out (by omega) _ _)⟩
set_option maxRecDepth 100000 in
theorem arc_no2 (B R : Nat) (l : List Int) (w : World) (h : RdAt w B R l) (hk : 4 ≤ l.length) (hk2 : l.length < 8) :
    Calls Try.prog 47 #[.pointer (some ⟨R, 0, none⟩)] w fun e w' => e = .panicked formP ∧ w.grownBy w' (some R) := by
  obtain ⟨x0, e0⟩ : ∃ x, joinL (l.take 2) = x := ⟨_, rfl⟩
  obtain ⟨x1, e1⟩ : ∃ x, joinL ((l.drop 2).take 2) = x := ⟨_, rfl⟩
  have hRl := h.lt
  have hb0 : Below w.heap.size w ((w.alloc (.cells #[.int .i64 0, .int .i64 0, .int .i64 0, .int .i64 0] 53)).alloc (.cells #[.int .i64 0, .int .i64 0, .int .i64 0, .int .i64 0] 53)) := ((Below.refl _ _).alloc (Nat.le_refl _) _).alloc (by simp) _
  have HR0 : Hid (RdAt ((w.alloc (.cells #[.int .i64 0, .int .i64 0, .int .i64 0, .int .i64 0] 53)).alloc (.cells #[.int .i64 0, .int .i64 0, .int .i64 0, .int .i64 0] 53)) B R l) := h.new hb0
  have HG0 : Hid (w.grownBy ((w.alloc (.cells #[.int .i64 0, .int .i64 0, .int .i64 0, .int .i64 0] 53)).alloc (.cells #[.int .i64 0, .int .i64 0, .int .i64 0, .int .i64 0] 53)) (some R)) := gNew hb0
  have HA0 : Hid (Blk ((w.alloc (.cells #[.int .i64 0, .int .i64 0, .int .i64 0, .int .i64 0] 53)).alloc (.cells #[.int .i64 0, .int .i64 0, .int .i64 0, .int .i64 0] 53)) w.heap.size #[.int .i64 0, .int .i64 0, .int .i64 0, .int .i64 0] 53) := (Blk.made w _ _).alloc _
  have HC0 : Hid (Blk ((w.alloc (.cells #[.int .i64 0, .int .i64 0, .int .i64 0, .int .i64 0] 53)).alloc (.cells #[.int .i64 0, .int .i64 0, .int .i64 0, .int .i64 0] 53)) (w.heap.size + 1) #[.int .i64 0, .int .i64 0, .int .i64 0, .int .i64 0] 53) := by
    have := Blk.made (w.alloc (.cells #[.int .i64 0, .int .i64 0, .int .i64 0, .int .i64 0] 53)) #[.int .i64 0, .int .i64 0, .int .i64 0, .int .i64 0] 53
    rw [World.size_alloc] at this
    exact this
  clear hb0 h
  have F1 : Hid (∀ W, RdAt W B R l → Calls Try.prog 36 #[.pointer (some ⟨R, 0, none⟩), .int .i64 2] W fun e w' => e = .returned (.int .i64 x0) ∧ RdAt w' B R (l.drop 2) ∧ W.grownBy w' (some R)) := fun W g => by rw [← e0]; exact number_ok2 B R l W g (by omega)
  have F2 : Hid (∀ W, RdAt W B R (l.drop 2) → Calls Try.prog 36 #[.pointer (some ⟨R, 0, none⟩), .int .i64 2] W fun e w' => e = .returned (.int .i64 x1) ∧ RdAt w' B R (l.drop 4) ∧ W.grownBy w' (some R)) := fun W g => by
    have := number_ok2 B R (l.drop 2) W g (by rw [List.length_drop]; omega)
    rw [e1, List.drop_drop] at this
    exact this
  have FN : Hid (∀ W, RdAt W B R (l.drop 4) → Calls Try.prog 36 #[.pointer (some ⟨R, 0, none⟩), .int .i64 4] W fun e w' => e = .panicked formP ∧ W = w') := fun W g => number_no4 B R _ W g (by rw [List.length_drop]; omega)
  generalize l.drop 2 = M1 at *
  generalize l.drop 4 = M2 at *
  clear e0 e1
  go_enter Try.func47, Try.ntmps47
  go_wp2_with (first
    | (go_at_call 36; (with_reducible refine (F1.out _ HR0.out).mono ?_); rintro e w1 ⟨rfl, hr, hg⟩; have HR1 := hid hr; have HG1 := hid (gTrans HG0.out hg); have HA1 := hid (blkS HA0.out hg (by omega)); have HC1 := hid (blkS HC0.out hg (by omega)); have c1 := HC1.out.cell 0 (v := .int .i64 0) rfl; have f1 := HC1.out.fz 0; clear hr hg)
    | (go_at_call 36; (with_reducible refine (F2.out _ (HR1.out.set (by omega) _ _)).mono ?_); rintro e w2 ⟨rfl, hr, hg⟩; have HR2 := hid hr; have HG2 := hid (gTrans (gSt HG1.out (by omega) _ _) hg); have HA2 := hid (blkS (HA1.out.setO ⟨w.heap.size + 1, 0, none⟩ _ (by simp)) hg (by omega)); have HC2 := hid (blkS (HC1.out.set 0 (.int .i64 x0)) hg (by omega)); have c2 := HC2.out.cell 1 (v := .int .i64 0) rfl; have f2 := HC2.out.fz 1; clear hr hg)
    | (go_at_call 36; (with_reducible refine (FN.out _ (HR2.out.set (by omega) _ _)).mono ?_); rintro e wn ⟨rfl, rfl⟩))
  exact ⟨rfl, rfl, (gSt HG2.out (by omega) _ _)⟩
set_option maxRecDepth 100000 in
theorem arc_no3 (B R : Nat) (l : List Int) (w : World) (h : RdAt w B R l) (hk : 8 ≤ l.length) (hk2 : l.length < 9) :
    Calls Try.prog 47 #[.pointer (some ⟨R, 0, none⟩)] w fun e w' => e = .panicked formP ∧ w.grownBy w' (some R) := by
  obtain ⟨x0, e0⟩ : ∃ x, joinL (l.take 2) = x := ⟨_, rfl⟩
  obtain ⟨x1, e1⟩ : ∃ x, joinL ((l.drop 2).take 2) = x := ⟨_, rfl⟩
  obtain ⟨x2, e2⟩ : ∃ x, joinL ((l.drop 4).take 4) = x := ⟨_, rfl⟩
  have hRl := h.lt
  have hb0 : Below w.heap.size w ((w.alloc (.cells #[.int .i64 0, .int .i64 0, .int .i64 0, .int .i64 0] 53)).alloc (.cells #[.int .i64 0, .int .i64 0, .int .i64 0, .int .i64 0] 53)) := ((Below.refl _ _).alloc (Nat.le_refl _) _).alloc (by simp) _
  have HR0 : Hid (RdAt ((w.alloc (.cells #[.int .i64 0, .int .i64 0, .int .i64 0, .int .i64 0] 53)).alloc (.cells #[.int .i64 0, .int .i64 0, .int .i64 0, .int .i64 0] 53)) B R l) := h.new hb0
  have HG0 : Hid (w.grownBy ((w.alloc (.cells #[.int .i64 0, .int .i64 0, .int .i64 0, .int .i64 0] 53)).alloc (.cells #[.int .i64 0, .int .i64 0, .int .i64 0, .int .i64 0] 53)) (some R)) := gNew hb0
  have HA0 : Hid (Blk ((w.alloc (.cells #[.int .i64 0, .int .i64 0, .int .i64 0, .int .i64 0] 53)).alloc (.cells #[.int .i64 0, .int .i64 0, .int .i64 0, .int .i64 0] 53)) w.heap.size #[.int .i64 0, .int .i64 0, .int .i64 0, .int .i64 0] 53) := (Blk.made w _ _).alloc _
  have HC0 : Hid (Blk ((w.alloc (.cells #[.int .i64 0, .int .i64 0, .int .i64 0, .int .i64 0] 53)).alloc (.cells #[.int .i64 0, .int .i64 0, .int .i64 0, .int .i64 0] 53)) (w.heap.size + 1) #[.int .i64 0, .int .i64 0, .int .i64 0, .int .i64 0] 53) := by
    have := Blk.made (w.alloc (.cells #[.int .i64 0, .int .i64 0, .int .i64 0, .int .i64 0] 53)) #[.int .i64 0, .int .i64 0, .int .i64 0, .int .i64 0] 53
    rw [World.size_alloc] at this
    exact this
  clear hb0 h
  have F1 : Hid (∀ W, RdAt W B R l → Calls Try.prog 36 #[.pointer (some ⟨R, 0, none⟩), .int .i64 2] W fun e w' => e = .returned (.int .i64 x0) ∧ RdAt w' B R (l.drop 2) ∧ W.grownBy w' (some R)) := fun W g => by rw [← e0]; exact number_ok2 B R l W g (by omega)
  have F2 : Hid (∀ W, RdAt W B R (l.drop 2) → Calls Try.prog 36 #[.pointer (some ⟨R, 0, none⟩), .int .i64 2] W fun e w' => e = .returned (.int .i64 x1) ∧ RdAt w' B R (l.drop 4) ∧ W.grownBy w' (some R)) := fun W g => by
    have := number_ok2 B R (l.drop 2) W g (by rw [List.length_drop]; omega)
    rw [e1, List.drop_drop] at this
    exact this
  have F3 : Hid (∀ W, RdAt W B R (l.drop 4) → Calls Try.prog 36 #[.pointer (some ⟨R, 0, none⟩), .int .i64 4] W fun e w' => e = .returned (.int .i64 x2) ∧ RdAt w' B R (l.drop 8) ∧ W.grownBy w' (some R)) := fun W g => by
    have := number_ok4 B R (l.drop 4) W g (by rw [List.length_drop]; omega)
    rw [e2, List.drop_drop] at this
    exact this
  have FN : Hid (∀ W, RdAt W B R (l.drop 8) → Calls Try.prog 36 #[.pointer (some ⟨R, 0, none⟩), .int .i64 1] W fun e w' => e = .panicked formP ∧ W = w') := fun W g => number_no1 B R _ W g (by rw [List.length_drop]; omega)
  generalize l.drop 2 = M1 at *
  generalize l.drop 4 = M2 at *
  generalize l.drop 8 = M3 at *
  clear e0 e1 e2
  go_enter Try.func47, Try.ntmps47
  go_wp2_with (first
    | (go_at_call 36; (with_reducible refine (F1.out _ HR0.out).mono ?_); rintro e w1 ⟨rfl, hr, hg⟩; have HR1 := hid hr; have HG1 := hid (gTrans HG0.out hg); have HA1 := hid (blkS HA0.out hg (by omega)); have HC1 := hid (blkS HC0.out hg (by omega)); have c1 := HC1.out.cell 0 (v := .int .i64 0) rfl; have f1 := HC1.out.fz 0; clear hr hg)
    | (go_at_call 36; (with_reducible refine (F2.out _ (HR1.out.set (by omega) _ _)).mono ?_); rintro e w2 ⟨rfl, hr, hg⟩; have HR2 := hid hr; have HG2 := hid (gTrans (gSt HG1.out (by omega) _ _) hg); have HA2 := hid (blkS (HA1.out.setO ⟨w.heap.size + 1, 0, none⟩ _ (by simp)) hg (by omega)); have HC2 := hid (blkS (HC1.out.set 0 (.int .i64 x0)) hg (by omega)); have c2 := HC2.out.cell 1 (v := .int .i64 0) rfl; have f2 := HC2.out.fz 1; clear hr hg)
    | (go_at_call 36; (with_reducible refine (F3.out _ (HR2.out.set (by omega) _ _)).mono ?_); rintro e w3 ⟨rfl, hr, hg⟩; have HR3 := hid hr; have HG3 := hid (gTrans (gSt HG2.out (by omega) _ _) hg); have HA3 := hid (blkS (HA2.out.setO ⟨w.heap.size + 1, 1, none⟩ _ (by simp)) hg (by omega)); have HC3 := hid (blkS (HC2.out.set 1 (.int .i64 x1)) hg (by omega)); have c3 := HC3.out.cell 2 (v := .int .i64 0) rfl; have f3 := HC3.out.fz 2; clear hr hg)
    | (go_at_call 36; (with_reducible refine (FN.out _ (HR3.out.set (by omega) _ _)).mono ?_); rintro e wn ⟨rfl, rfl⟩))
  exact ⟨rfl, rfl, (gSt HG3.out (by omega) _ _)⟩
theorem arc_no (B R : Nat) (l : List Int) (w : World) (h : RdAt w B R l) (hk : l.length < 9) :
    Calls Try.prog 47 #[.pointer (some ⟨R, 0, none⟩)] w fun e w' => e = .panicked formP ∧ w.grownBy w' (some R) := by
  by_cases h2 : l.length < 2
  · exact arc_no0 B R l w h (by omega) h2
  · by_cases h4 : l.length < 4
    · exact arc_no1 B R l w h (by omega) h4
    · by_cases h8 : l.length < 8
      · exact arc_no2 B R l w h (by omega) h8
      · exact arc_no3 B R l w h (by omega) hk
end Go.Proofs.Ytbbjpdadickilaa.Wt
