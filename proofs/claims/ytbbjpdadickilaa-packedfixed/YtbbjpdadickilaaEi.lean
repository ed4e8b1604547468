/- The program: a machine out of bytes without their sum; the reader's way out is caught. -/
import Derived.Test.YtbbjpdadickilaaEh
import Derived.Defers
import Derived.Recover
namespace Go.Proofs.Ytbbjpdadickilaa.Wt
open Go.ChangeShapes Go.WideShapes Go.ChangeAt Go.RowKit
open Go.Proofs.Ytbbjpdadickilaa.Pl
set_option linter.unusedVariables false
set_option linter.unusedSimpArgs false
theorem assert_err (w : World) : (Instr.typeAssert (.iface 27 (.int .i64 3)) 20 27 true).run Try.prog w = .ok (.tuple #[.int .i64 3, .bool true]) w := by kernel_rfl
theorem assert_nil (w : World) : (Instr.typeAssert .nilIface 20 27 true).run Try.prog w = .ok (.tuple #[.int .i64 0, .bool false]) w := by kernel_rfl
set_option maxRecDepth 100000 in
theorem catch_idle (p q : Addr) (w : World) :
    CallsD Try.prog 35 #[.pointer (some p), .pointer (some q)] .returning w fun e u' w' => e = .returned (.tuple #[]) ∧ u' = .returning ∧ w' = w := by
  refine callsD_of_wpS Try.func35 rfl fun c₀ cs hu => ?_
  apply wpS_seq
  apply wpS_region
  simp [wpOpsS, go_sem, recoverD, hu, Try.ntmps35, Exit.thenS, assert_nil]
  apply wpS_seq
  apply wpS_region
  simp [wpOpsS, go_sem, Exit.thenS]
  refine wpS_cond (t := false) (by simp [Act.eval, Array.replicate]) ?_
  simp only [Bool.false_eq_true, if_false]
  refine wpS_of_wp (wp_skip ?_)
  cases c₀
  simp_all [bodyPostS, results, Try.results35]
set_option maxRecDepth 100000 in
theorem catch_panicking (M E : Nat) (x0 x1 y0 : Value) (older : List PanicEntry) (w : World) (hM : Blk w M #[x0, x1] 24) (hE : Blk w E #[y0] 27) (hne : E ≠ M) :
    CallsD Try.prog 35 #[.pointer (some ⟨M, 0, none⟩), .pointer (some ⟨E, 0, none⟩)] (.panicking ({ v := .iface 27 (.int .i64 3), recovered := false } :: older)) w fun e u' w' =>
      e = .returned (.tuple #[]) ∧ u' = .panicking ({ v := .iface 27 (.int .i64 3), recovered := true } :: older) ∧ w' = ((w.setCell ⟨M, 0, none⟩ (.int .i64 0)).setCell ⟨M, 1, none⟩ (.slice none 0 0)).setCell ⟨E, 0, none⟩ (.int .i64 3) := by
  have c0 := hM.cell 0 (v := x0) rfl
  have c1 := hM.cell 1 (v := x1) rfl
  have f0 := hM.fz 0
  have f1 := hM.fz 1
  have d0 := hE.cell 0 (v := y0) rfl
  have g0 := hE.fz 0
  have d1 := (hE.setO ⟨M, 0, none⟩ (.int .i64 0) hne).cell 0 (v := y0) rfl
  have d2 := ((hE.setO ⟨M, 0, none⟩ (.int .i64 0) hne).setO ⟨M, 1, none⟩ (.slice none 0 0) hne).cell 0 (v := y0) rfl
  refine callsD_of_wpS Try.func35 rfl fun c₀ cs hu => ?_
  apply wpS_seq
  apply wpS_region
  simp [wpOpsS, go_sem, recoverD, hu, Try.ntmps35, Exit.thenS, assert_err]
  apply wpS_seq
  apply wpS_region
  simp [wpOpsS, go_sem, Exit.thenS]
  refine wpS_cond (t := true) (by simp [Act.eval, Array.replicate]) ?_
  simp only [if_true]
  apply wpS_region
  simp [wpOpsS, go_sem, c0, c1, f0, f1, d0, d1, d2, g0, bodyPostS, results, Try.results35]
/-- What comes of bytes without their sum. -/
def MoAns (bd : List Int) (w : World) (e : Ending) (w' : World) : Prop := ∃ (a : Option Addr) (c : Nat) (m : Mc) (ec : Int), e = .returned (.tuple #[.agg #[.int .i64 m.1, .slice a m.2.length c], .int .i64 ec]) ∧ OwnSts w' w.heap.size (.slice a m.2.length c) m.2 ∧ okM m ∧ ((ec = 0 ∧ packB m = bd ∧ ∀ r, faultM r = 0 → packB r = bd → r = m) ∨ (ec = 3 ∧ m = (0, []) ∧ ∀ r, faultM r = 0 → packB r ≠ bd)) ∧ Below w.heap.size w w'
theorem MoAns.none {bd : List Int} {w w' : World} (h : ∀ r, faultM r = 0 → packB r ≠ bd) (hb : Below w.heap.size w w') : MoAns bd w (.returned (.tuple #[.agg #[.int .i64 0, .slice none 0 0], .int .i64 3])) w' := ⟨Option.none, 0, (0, []), 3, rfl, OwnSts.nil _ _, ⟨by simp, fun j hj => absurd hj (by simp)⟩, .inr ⟨rfl, rfl, h⟩, hb⟩
/-- The two variables of the answer, at the end. -/
theorem res_mo (tm : Array Value) (W : World) (M E : Nat) (x0 x1 y0 : Value) (hM : Blk W M #[x0, x1] 24) (hE : Blk W E #[y0] 27) (h2 : tm.getD 2 undef = .pointer (some ⟨M, 0, none⟩)) (h3 : tm.getD 3 undef = .pointer (some ⟨E, 0, none⟩)) : (results Try.f26 tm).run Try.prog W = .ok (.tuple #[.agg #[x0, x1], y0]) W := by
  have c0 := hM.cell 0 (v := x0) rfl
  have c1 := hM.cell 1 (v := x1) rfl
  have d0 := hE.cell 0 (v := y0) rfl
  simp only [Array.getD_eq_getD_getElem?] at h2 h3
  simp [results, Try.results26, go_sem, h2, h3, c0, c1, d0]
theorem leave_idle {tm : Array Value} {R : Ending → World → Prop} {W : World} {M E : Nat} {x0 x1 y0 : Value} (hM : Blk W M #[x0, x1] 24) (hE : Blk W E #[y0] 27) (h2 : tm.getD 2 undef = .pointer (some ⟨M, 0, none⟩)) (h3 : tm.getD 3 undef = .pointer (some ⟨E, 0, none⟩)) (hR : R (.returned (.tuple #[.agg #[x0, x1], y0])) W) :
    bodyPostD Try.prog Try.f26 R .ret { tmps := tm, defers := [{ target := .fn (.func 35) #[.pointer (some ⟨M, 0, none⟩), .pointer (some ⟨E, 0, none⟩)], args := #[] }] } W := by
  refine leaves_cons (f := 35) (args := #[.pointer (some ⟨M, 0, none⟩), .pointer (some ⟨E, 0, none⟩)]) (by simp) (by simp [go_sem]) ?_
  refine (catch_idle _ _ _).mono ?_
  rintro e u' w'' ⟨rfl, rfl, rfl⟩
  exact ⟨_, res_mo _ _ M E x0 x1 y0 hM hE h2 h3, hR⟩
theorem leave_caught {tm : Array Value} {R : Ending → World → Prop} {W : World} {M E : Nat} {x0 x1 y0 : Value} (hM : Blk W M #[x0, x1] 24) (hE : Blk W E #[y0] 27) (hne : E ≠ M) (h2 : tm.getD 2 undef = .pointer (some ⟨M, 0, none⟩)) (h3 : tm.getD 3 undef = .pointer (some ⟨E, 0, none⟩)) (hR : R (.returned (.tuple #[.agg #[.int .i64 0, .slice none 0 0], .int .i64 3])) (((W.setCell ⟨M, 0, none⟩ (.int .i64 0)).setCell ⟨M, 1, none⟩ (.slice none 0 0)).setCell ⟨E, 0, none⟩ (.int .i64 3))) :
    bodyPostD Try.prog Try.f26 R (.panic formP) { tmps := tm, defers := [{ target := .fn (.func 35) #[.pointer (some ⟨M, 0, none⟩), .pointer (some ⟨E, 0, none⟩)], args := #[] }] } W := by
  refine leaves_cons (f := 35) (args := #[.pointer (some ⟨M, 0, none⟩), .pointer (some ⟨E, 0, none⟩)]) (by simp) (by simp [go_sem]) ?_
  refine (catch_panicking M E x0 x1 y0 [] _ hM hE hne).mono ?_
  rintro e u' w'' ⟨rfl, rfl, rfl⟩
  exact ⟨_, res_mo _ _ M E _ _ _ (((hM.set 0 (.int .i64 0)).set 1 (.slice none 0 0)).setO ⟨E, 0, none⟩ (.int .i64 3) (Ne.symm hne)) (((hE.setO ⟨M, 0, none⟩ (.int .i64 0) hne).setO ⟨M, 1, none⟩ (.slice none 0 0) hne).set 0 (.int .i64 3)) h2 h3, hR⟩
theorem three_made (w : World) (c0 c1 c2 : Array Value) (t0 t1 t2 : TypeId) : Blk (((w.alloc (.cells c0 t0)).alloc (.cells c1 t1)).alloc (.cells c2 t2)) w.heap.size c0 t0 ∧ Blk (((w.alloc (.cells c0 t0)).alloc (.cells c1 t1)).alloc (.cells c2 t2)) (w.heap.size + 1) c1 t1 ∧ Blk (((w.alloc (.cells c0 t0)).alloc (.cells c1 t1)).alloc (.cells c2 t2)) (w.heap.size + 2) c2 t2 := by
  have k1 := Blk.made (w.alloc (.cells c0 t0)) c1 t1
  have k2 := Blk.made ((w.alloc (.cells c0 t0)).alloc (.cells c1 t1)) c2 t2
  simp only [World.size_alloc] at k1 k2
  exact ⟨((Blk.made w c0 t0).alloc _).alloc _, k1.alloc _, k2⟩
theorem below_three (w : World) (o0 o1 o2 : Obj) : Below w.heap.size w (((w.alloc o0).alloc o1).alloc o2) := (((Below.refl _ _).alloc (Nat.le_refl _) _).alloc (by simp) _).alloc (by simp; omega) _
set_option maxRecDepth 100000 in
theorem machineOf_any (a : Option Addr) (c : Nat) (bd : List Int) (w : World) (h : Bys w (.slice a bd.length c) bd) (hbb : bytesB bd) (h3 : 3 ≤ bd.length) (h8 : bd.length ≤ 8000) (hc : bd.length ≤ c) :
    Calls Try.prog 26 #[.slice a bd.length c] w fun e w' => MoAns bd w e w' := by
  have hmf : ∀ (fn : Fn) (first cap : Array Value) (w : World), (Instr.makeFunc fn first cap).run Try.prog w = .ok (.func fn first cap) w := fun _ _ _ _ => rfl
  obtain ⟨n, hn⟩ : ∃ n, bd.length = n := ⟨_, rfl⟩
  obtain ⟨hM0, hE0, hR0⟩ := three_made w #[.int .i64 0, .slice none 0 0] #[.int .i64 0] #[.slice a n c] 24 27 69
  have hb0 := below_three w (.cells #[.int .i64 0, .slice none 0 0] 24) (.cells #[.int .i64 0] 27) (.cells #[.slice a n c] 69)
  have hrd : RdAt (((w.alloc (.cells #[.int .i64 0, .slice none 0 0] 24)).alloc (.cells #[.int .i64 0] 27)).alloc (.cells #[.slice a n c] 69)) w.heap.size (w.heap.size + 2) bd := by
    refine ⟨a, c, by rw [hn]; exact hR0, hc, by omega, hbb, fun j hj => ?_⟩
    obtain ⟨a', cap', hv, hg⟩ := h.get
    obtain ⟨b, off, e1, e2, e3⟩ := hg j hj
    injection hv with h4 _ _
    exact ⟨b, off, by rw [h4, e1], e2, (hb0.cell (by show b < _; exact e2)).trans e3⟩
  have F1 : Hid (Calls Try.prog 36 #[.pointer (some ⟨w.heap.size + 2, 0, none⟩), .int .i64 1] (((w.alloc (.cells #[.int .i64 0, .slice none 0 0] 24)).alloc (.cells #[.int .i64 0] 27)).alloc (.cells #[.slice a n c] 69)) fun e w' => e = .returned (.int .i64 (el bd 0)) ∧ RdAt w' w.heap.size (w.heap.size + 2) (bd.drop 1) ∧ ((((w.alloc (.cells #[.int .i64 0, .slice none 0 0] 24)).alloc (.cells #[.int .i64 0] 27)).alloc (.cells #[.slice a n c] 69))).grownBy w' (some (w.heap.size + 2))) := by
    have := number_ok1 _ _ bd _ hrd (by omega)
    rw [show joinL (bd.take 1) = el bd 0 from take_one (l := bd) (i := 0) (by omega)] at this
    exact this
  have HM0 := hid hM0
  have HE0 := hid hE0
  have HB0 := hid hb0
  have HFM : Hid (∀ W, RdAt W w.heap.size (w.heap.size + 2) (bd.drop 1) → Calls Try.prog 37 #[.pointer (some ⟨w.heap.size + 2, 0, none⟩)] W fun e w' => MaRes w.heap.size (w.heap.size + 2) bd W e w') := fun W g => machine_read _ _ bd W g hbb h3 h8
  have HGB : Hid (∀ W W', Below w.heap.size w W → W.grownBy W' (some (w.heap.size + 2)) → Below w.heap.size w W') := fun W W' g1 g2 => g1.trans (gBelow g2 (fun k hk => by injection hk; omega) g1.size)
  have HKM : Hid (∀ W W' cs, Blk W w.heap.size cs 24 → W.grownBy W' (some (w.heap.size + 2)) → Blk W' w.heap.size cs 24) := fun W W' cs g1 g2 => g1.grown g2 (by simp)
  have HKE : Hid (∀ W W' cs, Blk W (w.heap.size + 1) cs 27 → W.grownBy W' (some (w.heap.size + 2)) → Blk W' (w.heap.size + 1) cs 27) := fun W W' cs g1 g2 => g1.grown g2 (by simp)
  have HNO : Hid (∀ W', (∀ r, faultM r = 0 → packB r ≠ bd) → Below w.heap.size w W' → MoAns bd w (.returned (.tuple #[.agg #[.int .i64 0, .slice none 0 0], .int .i64 3])) W') := fun W' g1 g2 => MoAns.none g1 g2
  have H84 : Hid (el bd 0 ≠ 84 → ∀ r, faultM r = 0 → packB r ≠ bd) := fun g r hr hb => g (head_parts hb).2.1
  have HAR : Hid (∀ (sts : List St) (i : Nat), Prs bd sts i → (sts.length : Int) = el bd 1 → (∀ r, faultM r = 0 → packB r = bd → el bd 0 = 84 ∧ i = bd.length ∧ r = (el bd 2 - 1, sts)) ∧ (el bd 0 = 84 → i = bd.length → 3 ≤ bd.length → packB (el bd 2 - 1, sts) = bd)) := fun sts i hp hq => all_read hp hq
  have HOK : Hid (∀ (sts : List St) (i : Nat), Prs bd sts i → (sts.length : Int) = el bd 1 → okM (el bd 2 - 1, sts)) := fun sts i hp hq => ⟨by have := hbb (el bd 1) (el_mem (by omega)); simp only; omega, fun j hj => by
    have := (hp.2.2.2 (el sts j) (el_mem hj)).2.1
    simp only
    omega⟩
  rw [hn]
  clear hM0 hE0 hR0 hb0 hrd h hbb
  by_cases h84 : el bd 0 = 84
  · have e84 : (el bd 0 != 84) = false := by simpa using h84
    go_enter_defers Try.func26, Try.ntmps26
    go_wp2_with (first
      | (go_at_call 36; (with_reducible refine F1.out.mono ?_); rintro e w1 ⟨rfl, hr1, hg1⟩; have HB1 := hid (HGB.out _ _ HB0.out hg1); have HM1 := hid (HKM.out _ _ _ HM0.out hg1); have HE1 := hid (HKE.out _ _ _ HE0.out hg1); have c0 := HM1.out.cell 0 (v := .int .i64 0) rfl; have c1 := HM1.out.cell 1 (v := .slice none 0 0) rfl; have f0 := HM1.out.fz 0; have f1 := HM1.out.fz 1; have d0 := HE1.out.cell 0 (v := .int .i64 0) rfl; have g0 := HE1.out.fz 0; have HR1 := hid hr1; clear hr1 hg1)
      | (go_at_call 37; (with_reducible refine (HFM.out _ HR1.out).mono ?_); rintro e w2 hres; rcases hres with ⟨sts, i, av, cv, rfl, ho, hp, hq, hr, hg⟩ | ⟨rfl, hno, hg⟩; have HB2 := hid (HGB.out _ _ HB1.out hg); have HM2 := hid ((HKM.out _ _ _ HM1.out hg).alloc (.cells #[.int .i64 (el bd 2 - 1), .slice av sts.length cv] 24)); have HE2 := hid ((HKE.out _ _ _ HE1.out hg).alloc (.cells #[.int .i64 (el bd 2 - 1), .slice av sts.length cv] 24)); have HR2 := hid (Blk.made w2 #[.int .i64 (el bd 2 - 1), .slice av sts.length cv] 24); have HO2 := hid ho; have HP2 := hid hp; have HQ2 := hid hq; obtain ⟨ar, cr, hBr, _, _, _, _⟩ := hr; have HD := hid (List.length_drop (l := bd) (i := i)); generalize (bd.drop i).length = dl at *; have r0 := (hBr.alloc (.cells #[.int .i64 (el bd 2 - 1), .slice av sts.length cv] 24)).cell 0 (v := .slice ar dl cr) rfl; have q0 := HR2.out.cell 0 (v := .int .i64 (el bd 2 - 1)) rfl; have q1 := HR2.out.cell 1 (v := .slice av sts.length cv) rfl; have c0 := HM2.out.cell 0 (v := .int .i64 0) rfl; have c1 := HM2.out.cell 1 (v := .slice none 0 0) rfl; have f0 := HM2.out.fz 0; have f1 := HM2.out.fz 1; have d0 := HE2.out.cell 0 (v := .int .i64 0) rfl; have g0 := HE2.out.fz 0; clear ho hp hq hg hBr))
    · have hdl : 0 < dl := by assumption
      have hs2 := HB2.out.size
      refine leave_idle (M := w.heap.size) (E := w.heap.size + 1) (((HM2.out.set 0 (.int .i64 0)).set 1 (.slice none 0 0)).setO ⟨w.heap.size + 1, 0, none⟩ (.int .i64 3) (by simp)) (((HE2.out.setO ⟨w.heap.size, 0, none⟩ (.int .i64 0) (by simp)).setO ⟨w.heap.size, 1, none⟩ (.slice none 0 0) (by simp)).set 0 (.int .i64 3)) rfl rfl (HNO.out _ (fun r hr hb => ?_) ?_)
      · have h1 := ((HAR.out sts i HP2.out HQ2.out).1 r hr hb).2.1
        have h2 := HD.out
        omega
      · exact (((HB2.out.alloc hs2 _).setCell (Nat.le_refl _) _).setCell (Nat.le_refl _) _).setCell (p := ⟨w.heap.size + 1, 0, none⟩) (by show _ ≤ w.heap.size + 1; omega) _
    · have hdl : dl = 0 := by omega
      have hs2 := HB2.out.size
      have hi : i = bd.length := by
        have h1 := HD.out
        have h2 := HP2.out.2.1
        omega
      have hm1 := HM1.out.lt
      have he1 := HE1.out.lt
      obtain ⟨hr1, hr2⟩ := HAR.out sts i HP2.out HQ2.out
      have hoA : OwnSts (w2.alloc (.cells #[.int .i64 (el bd 2 - 1), .slice av sts.length cv] 24)) w1.heap.size (.slice av sts.length cv) sts := HO2.out.kept (grownB ((Below.refl _ _).alloc (Nat.le_refl _) _))
      refine leave_idle (M := w.heap.size) (E := w.heap.size + 1) (((HM2.out.set 0 (.int .i64 (el bd 2 - 1))).set 1 (.slice av sts.length cv)).setO ⟨w.heap.size + 1, 0, none⟩ (.int .i64 0) (by simp)) (((HE2.out.setO ⟨w.heap.size, 0, none⟩ (.int .i64 (el bd 2 - 1)) (by simp)).setO ⟨w.heap.size, 1, none⟩ (.slice av sts.length cv) (by simp)).set 0 (.int .i64 0)) rfl rfl ?_
      refine ⟨av, cv, (el bd 2 - 1, sts), 0, rfl, (((hoA.setCell (a := ⟨w.heap.size, 0, none⟩) hm1 _).setCell (a := ⟨w.heap.size, 1, none⟩) hm1 _).setCell (a := ⟨w.heap.size + 1, 0, none⟩) he1 _).monoB (Nat.le_of_lt hm1), HOK.out sts i HP2.out HQ2.out, .inl ⟨rfl, hr2 h84 hi h3, fun r hr hb => (hr1 r hr hb).2.2⟩, ?_⟩
      exact (((HB2.out.alloc hs2 _).setCell (Nat.le_refl _) _).setCell (Nat.le_refl _) _).setCell (p := ⟨w.heap.size + 1, 0, none⟩) (by show _ ≤ w.heap.size + 1; omega) _
    · have hB2 := HGB.out _ _ HB1.out hg
      have hs2 := hB2.size
      refine leave_caught (M := w.heap.size) (E := w.heap.size + 1) (HKM.out _ _ _ HM1.out hg) (HKE.out _ _ _ HE1.out hg) (by simp) rfl rfl (HNO.out _ hno ?_)
      exact ((hB2.setCell (Nat.le_refl _) _).setCell (Nat.le_refl _) _).setCell (p := ⟨w.heap.size + 1, 0, none⟩) (by show _ ≤ w.heap.size + 1; omega) _
  · have e84 : (el bd 0 != 84) = true := bne_iff_ne.2 h84
    go_enter_defers Try.func26, Try.ntmps26
    go_wp2_with (first
      | (go_at_call 36; (with_reducible refine F1.out.mono ?_); rintro e w1 ⟨rfl, hr1, hg1⟩; have HB1 := hid (HGB.out _ _ HB0.out hg1); have HM1 := hid (HKM.out _ _ _ HM0.out hg1); have HE1 := hid (HKE.out _ _ _ HE0.out hg1); have c0 := HM1.out.cell 0 (v := .int .i64 0) rfl; have c1 := HM1.out.cell 1 (v := .slice none 0 0) rfl; have f0 := HM1.out.fz 0; have f1 := HM1.out.fz 1; have d0 := HE1.out.cell 0 (v := .int .i64 0) rfl; have g0 := HE1.out.fz 0; clear hr1 hg1))
    have hs1 := HB1.out.size
    refine leave_idle (M := w.heap.size) (E := w.heap.size + 1) (((HM1.out.set 0 (.int .i64 0)).set 1 (.slice none 0 0)).setO ⟨w.heap.size + 1, 0, none⟩ (.int .i64 3) (by simp)) (((HE1.out.setO ⟨w.heap.size, 0, none⟩ (.int .i64 0) (by simp)).setO ⟨w.heap.size, 1, none⟩ (.slice none 0 0) (by simp)).set 0 (.int .i64 3)) rfl rfl (HNO.out _ (H84.out h84) ?_)
    exact ((HB1.out.setCell (Nat.le_refl _) _).setCell (Nat.le_refl _) _).setCell (p := ⟨w.heap.size + 1, 0, none⟩) (by show _ ≤ w.heap.size + 1; omega) _
end Go.Proofs.Ytbbjpdadickilaa.Wt
