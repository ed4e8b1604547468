/- The statement ComposeExpands: whatever two machines and triple are given, the program's answer and the document's agree and no machine is changed, for every input and without any condition. -/
import Derived.Test.YthcfkiinjcbajaaMcO
import Derived.Test.YthcfkiinjcbajaaMcC
import Derived.Test.YthcfkiinjcbajaaMcS
import Derived.Test.YthcfkiinjcbajaaLo
import Derived.Test.YthcfkiinjcbajaaCx
import Derived.Test.YthcfkiinjcbajaaHr
import Derived.Test.YthcfkiinjcbajaaHy
import Derived.Test.YthcfkiinjcbajaaJ16b
import Derived.Lib.SmallJoins
import Derived.ChangeOld
import Derived.Below
namespace Go.Proofs.Ythcfkiinjcbajaa.composeExpands
open Go.ChangeShapes Go.WideShapes Go.ChangeAt Go.RowKit
open Go.Proofs.Ythcfkiinjcbajaa.Pl Go.Proofs.Ythcfkiinjcbajaa.Wt
set_option linter.unusedVariables false

theorem own : ownKnob Try.prog.godebug = none := by kernel_rfl
theorem laidOut : laidOutB Try.prog = true := by kernel_rfl
theorem expR_len {a b : Mc} (t : Tr) : (expR a b t).length ≤ 200000 := by
  unfold expR
  split
  · rename_i h
    unfold expE at h
    by_cases fa : faultM a = 0
    · by_cases fb : faultM b = 0
      · exact expT_len fa fb t
      · rw [if_neg (fun g => g fa), if_pos fb] at h
        exact absurd h fb
    · rw [if_pos fa] at h
      exact absurd h fa
  · exact Nat.zero_le _
set_option maxRecDepth 100000 in
set_option maxHeartbeats 1600000 in
theorem walk (vp : Value) (p : Mc) (vq : Value) (q : Mc) (t0 t1 t2 : Int) (w : World) (hp : Mach w vp p ∧ okM p ∧ (Lit.int .i64 p.1).wf = true ∧ ∀ s ∈ p.2, (Lit.int .i64 s.1).wf = true ∧ ∀ a ∈ s.2, wfA a) (hq : Mach w vq q ∧ okM q ∧ (Lit.int .i64 q.1).wf = true ∧ ∀ s ∈ q.2, (Lit.int .i64 s.1).wf = true ∧ ∀ a ∈ s.2, wfA a) (w0 : (Lit.int .i64 t0).wf = true) (w1 : (Lit.int .i64 t1).wf = true) (w2 : (Lit.int .i64 t2).wf = true) :
    Calls Try.prog 3 #[vp, vq, .agg #[.int .i64 t0, .int .i64 t1, .int .i64 t2]] w fun e w' => e = .returned (.bool true) ∧ Below w.heap.size w w' := by
  clear w0 w1 w2
  obtain ⟨hp, hokp, _⟩ := hp
  obtain ⟨hq, hokq, _⟩ := hq
  have HIP : Hid (Mach w vp p) := hp
  have HIQ : Hid (Mach w vq q) := hq
  have HKP : Hid (okM p) := hokp
  have HKQ : Hid (okM q) := hokq
  have HPC : Hid (∀ W v u, Mach W v p → Mach W u q → Calls Try.prog 10 #[v, u, .agg #[.int .i64 t0, .int .i64 t1, .int .i64 t2]] W fun e w' => ExpRes (expF p q (t0, t1, t2)) (expR p q (t0, t1, t2)) (expE p q (t0, t1, t2)) W e w') := fun W v u hv hu => expandP_any v u p q (t0, t1, t2) W hv hokp hu hokq
  have HRC : Hid (∀ W v u, Mach W v p → Mach W u q → Calls Try.prog 11 #[v, u, .agg #[.int .i64 t0, .int .i64 t1, .int .i64 t2]] W fun e w' => ExpRes (expF p q (t0, t1, t2)) (expR p q (t0, t1, t2)) (expE p q (t0, t1, t2)) W e w') := fun W v u hv hu => expandedR_any v u p q (t0, t1, t2) W hv hokp hu hokq
  have HLN := hidP (expR_len (a := p) (b := q) (t0, t1, t2))
  generalize expF p q (t0, t1, t2) = f at *
  generalize expR p q (t0, t1, t2) = hs at *
  generalize expE p q (t0, t1, t2) = r at *
  have e1 : (r == r) = true := by simp
  have e2 : (f == f) = true := by simp
  obtain ⟨vsp, rfl, hSp⟩ := hp
  obtain ⟨ap, cp, rfl⟩ := hSp.sl
  obtain ⟨vsq, rfl, hSq⟩ := hq
  obtain ⟨aq, cq, rfl⟩ := hSq.sl
  clear hSp hSq hokp hokq
  go_enter Try.func3, Try.ntmps3
  go_wp2_with (first
    | (go_at_call 9; (with_reducible refine (machine_any _ p _ (HIP.out.later (B := w.heap.size) (by go_grown) (Nat.le_refl _)) HKP.out).mono ?_); rintro e w1 ⟨v1, rfl, hi, hb⟩; have HI1 : Hid (Mach w1 v1 p) := hi; obtain ⟨vs1, rfl, hS1⟩ := hi; obtain ⟨a1, c1, rfl⟩ := hS1.sl; clear hS1; obtain ⟨s1, b1, b2, b3, hb1⟩ := boxedThree hb (by simp); have x0 := b1.cell 0 (v := .int .i64 p.1) rfl; have x1 := b1.cell 1 (v := .slice ap p.2.length cp) rfl; have y0 := b2.cell 0 (v := .int .i64 q.1) rfl; have y1 := b2.cell 1 (v := .slice aq q.2.length cq) rfl; have z0 := b3.cell 0 (v := .int .i64 t0) rfl; have z1 := b3.cell 1 (v := .int .i64 t1) rfl; have z2 := b3.cell 2 (v := .int .i64 t2) rfl; have HB1 : Hid (Below w.heap.size w w1) := hb1; have n1 : w.heap.size < w1.heap.size := (by omega); have n2 : w.heap.size + 1 < w1.heap.size := (by omega); have n3 : w.heap.size + 1 + 1 < w1.heap.size := (by omega); clear b1 b2 b3 hb1 hb)
    | (go_at_call 9; (with_reducible refine (machine_any _ q _ (HIQ.out.later (HB1.out.alloc HB1.out.size _) (Nat.le_refl _)) HKQ.out).mono ?_); rintro e w2 ⟨v2, rfl, hi, hb⟩; have HI2 : Hid (Mach w2 v2 q) := hi; obtain ⟨vs2, rfl, hS2⟩ := hi; obtain ⟨a2, c2, rfl⟩ := hS2.sl; clear hS2; obtain ⟨s2, b4, hb2⟩ := boxed hb (by simp); have u0 := b4.cell 0 (v := .int .i64 p.1) rfl; have u1 := b4.cell 1 (v := .slice a1 p.2.length c1) rfl; have x0 := low x0 hb2; have x1 := low x1 hb2; have y0 := low y0 hb2; have y1 := low y1 hb2; have z0 := low z0 hb2; have z1 := low z1 hb2; have z2 := low z2 hb2; have HB2 : Hid (Below w.heap.size w w2) := HB1.out.trans (hb2.mono HB1.out.size); have HB12 : Hid (Below w1.heap.size w1 w2) := hb2; have m0 : w1.heap.size < w2.heap.size := (by omega); have m1 : w.heap.size < w2.heap.size := (by omega); have m2 : w.heap.size + 1 < w2.heap.size := (by omega); have m3 : w.heap.size + 1 + 1 < w2.heap.size := (by omega); clear b4 hb2 hb)
    | (go_at_call 10; (with_reducible refine (HPC.out _ _ _ (HI1.out.later (HB12.out.alloc HB12.out.size _) (Nat.le_refl _)) (HI2.out.later (B := w2.heap.size) (by go_grown) (Nat.le_refl _))).mono ?_); rintro e w3 ⟨vh3, rfl, hh3, hb⟩; have HH3 := hidP hh3; obtain ⟨s3, b5, hb3⟩ := boxed hb (by simp); have d0 := b5.cell 0 (v := .int .i64 q.1) rfl; have d1 := b5.cell 1 (v := .slice a2 q.2.length c2) rfl; have u0 := low u0 hb3; have u1 := low u1 hb3; have x0 := low x0 hb3; have x1 := low x1 hb3; have y0 := low y0 hb3; have y1 := low y1 hb3; have z0 := low z0 hb3; have z1 := low z1 hb3; have z2 := low z2 hb3; have HB3 : Hid (Below w.heap.size w w3) := HB2.out.trans (hb3.mono HB2.out.size); have HB13 : Hid (Below w1.heap.size w1 w3) := HB12.out.trans (hb3.mono HB12.out.size); have HB23 : Hid (Below w2.heap.size w2 w3) := hb3; clear b5 hb3 hb hh3)
    | (go_at_call 11; (with_reducible refine (HRC.out _ _ _ (HIP.out.later HB3.out (Nat.le_refl _)) (HIQ.out.later HB3.out (Nat.le_refl _))).mono ?_); rintro e w4 ⟨vh4, rfl, hh4, hb4⟩; have HH4 := hidP hh4; have HH34 := hidP (HH3.out.later hb4 (Nat.le_refl _)); have d0 := low d0 hb4; have d1 := low d1 hb4; have u0 := low u0 hb4; have u1 := low u1 hb4; have x0 := low x0 hb4; have x1 := low x1 hb4; have y0 := low y0 hb4; have y1 := low y1 hb4; have HB4 : Hid (Below w.heap.size w w4) := HB3.out.trans (hb4.mono HB3.out.size); have HB14 : Hid (Below w1.heap.size w1 w4) := HB13.out.trans (hb4.mono HB13.out.size); have HB24 : Hid (Below w2.heap.size w2 w4) := HB23.out.trans (hb4.mono HB23.out.size); clear hb4 hh4)
    | (go_at_call 12; (with_reducible refine (sameHops_any _ _ hs _ HH34.out HH4.out (Nat.le_trans HLN.out (by omega))).mono ?_); rintro e w5 ⟨rfl, hb5⟩; have d0 := low d0 hb5; have d1 := low d1 hb5; have u0 := low u0 hb5; have u1 := low u1 hb5; have x0 := low x0 hb5; have x1 := low x1 hb5; have y0 := low y0 hb5; have y1 := low y1 hb5; have HB5 : Hid (Below w.heap.size w w5) := HB4.out.trans (hb5.mono HB4.out.size); have HB15 : Hid (Below w1.heap.size w1 w5) := HB14.out.trans (hb5.mono HB14.out.size); have HB25 : Hid (Below w2.heap.size w2 w5) := HB24.out.trans (hb5.mono HB24.out.size); clear hb5)
    | (go_at_call 13; (with_reducible refine (sameMachine_any _ _ p _ (HI1.out.later HB15.out (Nat.le_refl _)) (HIP.out.later HB5.out (Nat.le_refl _)) HKP.out).mono ?_); rintro e w6 ⟨rfl, hb6⟩; have d0 := low d0 hb6; have d1 := low d1 hb6; have y0 := low y0 hb6; have y1 := low y1 hb6; have HB6 : Hid (Below w.heap.size w w6) := HB5.out.trans (hb6.mono HB5.out.size); have HB26 : Hid (Below w2.heap.size w2 w6) := HB25.out.trans (hb6.mono HB25.out.size); clear hb6)
    | (go_at_call 13; (with_reducible refine (sameMachine_any _ _ q _ (HI2.out.later HB26.out (Nat.le_refl _)) (HIQ.out.later HB6.out (Nat.le_refl _)) HKQ.out).mono ?_); rintro e w7 ⟨rfl, hb7⟩; have HB7 : Hid (Below w.heap.size w w7) := HB6.out.trans (hb7.mono HB6.out.size); clear hb7))
  go_ret
  exact ⟨rfl, HB7.out⟩

set_option maxRecDepth 100000 in
theorem lifted (os : Os) (started : os.Started) (H : Type) (enc : TypeId × Value → H) :
    ReturnsInHanded {} Try.checked os 3 .any (Rows.composeExpandsSpec.pre6 enc Try.prog Try.f3 Rows.composeExpandsRow.domain false) (Rows.composeExpandsSpec.post enc Try.prog Try.f3 false true false false) := by
  refine returnsInHanded_of_change_sized (C := Try.checked) own started (by kernel_rfl) Try.func3
    (ChangeSpec.witness6 (enc := enc) (C := Try.checked) false ⟨#[], #[.agg #[.int .i64 0, .slice none 0 0], .agg #[.int .i64 0, .slice none 0 0], .agg #[.int .i64 0, .int .i64 0, .int .i64 0]], []⟩ 8 (by kernel_rfl) (by kernel_rfl) (by kernel_rfl) (by kernel_rfl)) ?_
  intro W base args ds gs before hval0 hW hcnd hsz0 _
  have hsz : (DataW.weightsEach Try.prog (Try.f3.params.toList ++ Rows.composeExpandsSpec.plain.varTypes Try.prog) (ds ++ gs)).all (· ≤ reachBytes) = true := hsz0
  have hval : ∀ (j : Nat) t v, Try.f3.params[j]? = some t → args[j]? = some v → Value.okWide Try.prog W .any base t v := hval0
  clear hval0 hsz0
  have hW' := hW
  obtain ⟨p, q, hA0, hV, rfl, hfz, hnd⟩ := hW
  have hA : DataW.TrodAll enc Try.prog W 0 (fun _ => true) true Try.f3.params.toList args.toList ds p := hA0
  rw [Try.params3] at hA hval hsz
  obtain ⟨v0, vs0, d0, ds0, p0, q0, hargs, rfl, rfl, h0, r0⟩ := trodAll_cons hA
  obtain ⟨v1, vs1, d1, ds1, p1, q1, rfl, rfl, rfl, h1, r1⟩ := trodAll_cons r0
  obtain ⟨v2, vs2, d2, ds2, p2, q2, rfl, rfl, rfl, h2, r2⟩ := trodAll_cons r1
  obtain ⟨rfl, rfl, rfl⟩ := trodAll_nil r2
  obtain rfl : args = #[v0, v1, v2] := by cases args; simp_all
  obtain ⟨rfl, rfl⟩ := trodVars_none hV
  have k0 := h0
  have lt0 : ∀ x ∈ p0, x.block < W.heap.size := by obtain ⟨m, hm⟩ := k0; exact DataW.trod_lt m _ _ _ hm
  obtain ⟨z0, w0⟩ : ∃ m : Mc, Mach W v0 m ∧ okM m ∧ (Lit.int .i64 m.1).wf = true ∧ ∀ s ∈ m.2, (Lit.int .i64 s.1).wf = true ∧ ∀ a ∈ s.2, wfA a := by
    obtain ⟨c0, c1, y0, y1, n, rfl, hd, hp, t0, t1⟩ := Go.Joins.open_agg2 Try.underlying24 (by kernel_rfl) (by kernel_rfl) (hval 0 24 v0 rfl rfl) h0
    subst hd
    exact open_machine t0 t1 ((Fits.arg hsz (j := 0) rfl rfl).field Try.underlying24 (f := 1) rfl rfl)
  have k1 := h1
  have lt1 : ∀ x ∈ p1, x.block < W.heap.size := by obtain ⟨m, hm⟩ := k1; exact DataW.trod_lt m _ _ _ hm
  obtain ⟨z1, w1⟩ : ∃ m : Mc, Mach W v1 m ∧ okM m ∧ (Lit.int .i64 m.1).wf = true ∧ ∀ s ∈ m.2, (Lit.int .i64 s.1).wf = true ∧ ∀ a ∈ s.2, wfA a := by
    obtain ⟨c0, c1, y0, y1, n, rfl, hd, hp, t0, t1⟩ := Go.Joins.open_agg2 Try.underlying24 (by kernel_rfl) (by kernel_rfl) (hval 1 24 v1 rfl rfl) h1
    subst hd
    exact open_machine t0 t1 ((Fits.arg hsz (j := 1) rfl rfl).field Try.underlying24 (f := 1) rfl rfl)
  obtain ⟨c2_0, c2_1, c2_2, y2_0, y2_1, y2_2, m2, rfl, rfl, rfl, hy2_0, hy2_1, hy2_2⟩ := Go.Joins.open_agg3 Try.underlying26 (by kernel_rfl) (by kernel_rfl) (hval 2 26 v2 rfl rfl) h2
  obtain ⟨a2_0, e2_0, rfl, w2_0⟩ := DataW.trod_int Try.underlying3 hy2_0
  obtain ⟨a2_1, e2_1, rfl, w2_1⟩ := DataW.trod_int Try.underlying3 hy2_1
  obtain ⟨a2_2, e2_2, rfl, w2_2⟩ := DataW.trod_int Try.underlying3 hy2_2
  simp at e2_0 e2_1 e2_2
  subst e2_0 e2_1 e2_2
  have sh2 : ∀ (W2 : World) (sp : Nat → Bool), DataW.Trod enc Try.prog W2 0 sp true 26 (.agg #[.int .i64 a2_0, .int .i64 a2_1, .int .i64 a2_2]) (.agg [.lit (.int .i64 a2_0), .lit (.int .i64 a2_1), .lit (.int .i64 a2_2)]) [] := fun W2 sp => Go.Joins.shut_agg3 (y0 := (.lit (.int .i64 a2_0), [])) (y1 := (.lit (.int .i64 a2_1), [])) (y2 := (.lit (.int .i64 a2_2), [])) Try.underlying26 (by kernel_rfl) (by kernel_rfl) (shut_int Try.underlying3 w2_0) (shut_int Try.underlying3 w2_1) (shut_int Try.underlying3 w2_2)
  refine (walk v0 z0 v1 z1 a2_0 a2_1 a2_2 W w0 w1 w2_0 w2_1 w2_2).mono fun e W' ⟨he, bel⟩ => ?_
  subst he
  exact ⟨_, rfl, _, _, _, [], _, [], hW', trodAll_mk1 (shut_bool Try.underlying4 _), (trodAll_cons_mk (Below.trod laidOut (by kernel_rfl) (of_decide_eq_true (by kernel_rfl)) k0 bel lt0) (trodAll_cons_mk (Below.trod laidOut (by kernel_rfl) (of_decide_eq_true (by kernel_rfl)) k1 bel lt1) (trodAll_cons_mk (sh2 _ _) trodAll_mk0))), rfl, bel.frame _, fun h => by cases h⟩
end Go.Proofs.Ythcfkiinjcbajaa.composeExpands
namespace Go.Proofs.Ythcfkiinjcbajaa
theorem composeExpands_holds : Rows.ComposeExpandsSaid :=
  OpenClaim.holds_of_wide 3 Try.f3 rfl rfl rfl rfl rfl rfl rfl ⟨rfl, rfl, rfl, rfl, rfl⟩ rfl rfl rfl rfl rfl (by kernel_rfl) Try.func3 (by kernel_rfl)
    (of_decide_eq_true (by kernel_rfl)) (by unfold Func.isWrapper; first | (rw [if_pos (by decide +kernel)]; kernel_rfl) | (rw [if_neg (by decide +kernel)]; exact ⟨rfl, rfl⟩))
    (fun os started H enc _ => composeExpands.lifted os started H enc)
#print axioms composeExpands_holds
end Go.Proofs.Ythcfkiinjcbajaa
