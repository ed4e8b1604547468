/- The statement ComposeComposes: whatever two machines are given, the program's answer and the document's agree and no machine is changed, for every input and without any condition. -/
import Derived.Test.YthcfkiinjcbajaaMcO
import Derived.Test.YthcfkiinjcbajaaMcC
import Derived.Test.YthcfkiinjcbajaaMcS
import Derived.Test.YthcfkiinjcbajaaLo
import Derived.Test.YthcfkiinjcbajaaCx
import Derived.Test.YthcfkiinjcbajaaIb
import Derived.Test.YthcfkiinjcbajaaPlainQn
import Derived.Lib.SmallJoins
import Derived.ChangeOld
import Derived.Below
namespace Go.Proofs.Ythcfkiinjcbajaa.composeComposes
open Go.ChangeShapes Go.WideShapes Go.ChangeAt Go.RowKit
open Go.Proofs.Ythcfkiinjcbajaa.Pl Go.Proofs.Ythcfkiinjcbajaa.Wt
set_option linter.unusedVariables false

theorem own : ownKnob Try.prog.godebug = none := by kernel_rfl
theorem laidOut : laidOutB Try.prog = true := by kernel_rfl
set_option maxRecDepth 100000 in
set_option maxHeartbeats 800000 in
theorem walk (vp : Value) (p : Mc) (vq : Value) (q : Mc) (w : World) (hp : Mach w vp p ∧ okM p ∧ (Lit.int .i64 p.1).wf = true ∧ ∀ s ∈ p.2, (Lit.int .i64 s.1).wf = true ∧ ∀ a ∈ s.2, wfA a) (hq : Mach w vq q ∧ okM q ∧ (Lit.int .i64 q.1).wf = true ∧ ∀ s ∈ q.2, (Lit.int .i64 s.1).wf = true ∧ ∀ a ∈ s.2, wfA a) :
    Calls Try.prog 4 #[vp, vq] w fun e w' => e = .returned (.bool true) ∧ Below w.heap.size w w' := by
  obtain ⟨hp, hokp, _⟩ := hp
  obtain ⟨hq, hokq, _⟩ := hq
  have HIP : Hid (Mach w vp p) := hp
  have HIQ : Hid (Mach w vq q) := hq
  have HKP : Hid (okM p) := hokp
  have HKQ : Hid (okM q) := hokq
  have HKR : Hid (okM ((cpsA p q).1)) := cpsA_ok p q
  have HPC : Hid (∀ W v u, Mach W v p → Mach W u q → Calls Try.prog 14 #[v, u] W fun e w' => RatRes ((cpsA p q).1) ((cpsA p q).2) W e w') := fun W v u hv hu => composeP_any v u p q W hv hokp hu hokq
  have HRC : Hid (∀ W v u, Mach W v p → Mach W u q → Calls Try.prog 15 #[v, u] W fun e w' => RatRes ((cpsA p q).1) ((cpsA p q).2) W e w') := fun W v u hv hu => composedR_any v u p q W hv hokp hu hokq
  generalize (cpsA p q).1 = R at *
  generalize (cpsA p q).2 = r at *
  have e1 : (r == r) = true := by simp
  obtain ⟨vsp, rfl, hSp⟩ := hp
  obtain ⟨ap, cp, rfl⟩ := hSp.sl
  obtain ⟨vsq, rfl, hSq⟩ := hq
  obtain ⟨aq, cq, rfl⟩ := hSq.sl
  clear hSp hSq hokp hokq
  have HB0 : Hid (∀ o1 o2, Below w.heap.size w ((w.alloc o1).alloc o2)) := fun o1 o2 => ((Below.refl _ _).alloc (Nat.le_refl _) _).alloc (by simp) _
  go_enter Try.func4, Try.ntmps4
  go_wp2_with (first
    | (go_at_call 9; (with_reducible refine (machine_any _ p _ (HIP.out.later (HB0.out _ _) (Nat.le_refl _)) HKP.out).mono ?_); rintro e w1 ⟨v1, rfl, hi, hb⟩; have HI1 : Hid (Mach w1 v1 p) := hi; obtain ⟨vs1, rfl, hS1⟩ := hi; obtain ⟨a1, c1, rfl⟩ := hS1.sl; clear hS1; obtain ⟨s1, b1, b2, hb1⟩ := boxedTwo hb (by simp); have HP1 := hidP b1; have HQ1 := hidP b2; have HB1 : Hid (Below w.heap.size w w1) := hb1; have x0 := (b2.alloc (.cells #[.int .i64 p.1, .slice a1 p.2.length c1] 24)).cell 0 (v := .int .i64 q.1) rfl; have x1 := (b2.alloc (.cells #[.int .i64 p.1, .slice a1 p.2.length c1] 24)).cell 1 (v := .slice aq q.2.length cq) rfl; clear b1 b2 hb1 hb)
    | (go_at_call 9; (with_reducible refine (machine_any _ q _ (HIQ.out.later (HB1.out.alloc HB1.out.size _) (Nat.le_refl _)) HKQ.out).mono ?_); rintro e w2 ⟨v2, rfl, hi, hb⟩; have HI2 : Hid (Mach w2 v2 q) := hi; obtain ⟨vs2, rfl, hS2⟩ := hi; obtain ⟨a2, c2, rfl⟩ := hS2.sl; clear hS2; obtain ⟨s2, b2, hb2⟩ := boxed hb (by simp); have HC2 := hidP b2; have HB2 := hidP hb2; have HP2 := hidP (HP1.out.below hb2 HP1.out.lt); have HQ2 := hidP (HQ1.out.below hb2 HQ1.out.lt); have y0 := (b2.alloc (.cells #[.int .i64 q.1, .slice a2 q.2.length c2] 24)).cell 0 (v := .int .i64 p.1) rfl; have y1 := (b2.alloc (.cells #[.int .i64 q.1, .slice a2 q.2.length c2] 24)).cell 1 (v := .slice a1 p.2.length c1) rfl; clear b2 hb2 hb)
    | (go_at_call 14; (with_reducible refine (HPC.out _ _ _ (HI1.out.later (HB2.out.alloc HB2.out.size _) (Nat.le_refl _)) (HI2.out.later (B := w2.heap.size) (by go_grown) (Nat.le_refl _))).mono ?_); rintro e w3 ⟨v3, rfl, hi, hb⟩; have HI3 : Hid (Mach w3 v3 R) := hi; obtain ⟨vs3, rfl, hS3⟩ := hi; obtain ⟨a3, c3, rfl⟩ := hS3.sl; clear hS3; obtain ⟨s3, b3, hb3⟩ := boxed hb (by simp); have HD3 := hidP b3; have HC3 := hidP (HC2.out.below hb3 HC2.out.lt); have HP3 := hidP (HP2.out.below hb3 HP2.out.lt); have HQ3 := hidP (HQ2.out.below hb3 HQ2.out.lt); have HB3 := hidP hb3; have HB3w : Hid (Below w.heap.size w w3) := (HB1.out.trans (HB2.out.mono HB1.out.size)).trans (hb3.mono (Nat.le_trans HB1.out.size HB2.out.size)); have z0 := (HP3.out.alloc (.cells #[.int .i64 R.1, .slice a3 R.2.length c3] 24)).cell 0 (v := .int .i64 p.1) rfl; have z1 := (HP3.out.alloc (.cells #[.int .i64 R.1, .slice a3 R.2.length c3] 24)).cell 1 (v := .slice ap p.2.length cp) rfl; have z2 := (HQ3.out.alloc (.cells #[.int .i64 R.1, .slice a3 R.2.length c3] 24)).cell 0 (v := .int .i64 q.1) rfl; have z3 := (HQ3.out.alloc (.cells #[.int .i64 R.1, .slice a3 R.2.length c3] 24)).cell 1 (v := .slice aq q.2.length cq) rfl; clear b3 hb3 hb)
    | (go_at_call 15; (with_reducible refine (HRC.out _ _ _ (HIP.out.later (HB3w.out.alloc HB3w.out.size _) (Nat.le_refl _)) (HIQ.out.later (HB3w.out.alloc HB3w.out.size _) (Nat.le_refl _))).mono ?_); rintro e w4 ⟨v4, rfl, hi, hb⟩; have HI4 : Hid (Mach w4 v4 R) := hi; obtain ⟨vs4, rfl, hS4⟩ := hi; obtain ⟨a4, c4, rfl⟩ := hS4.sl; clear hS4; obtain ⟨s4, b4, hb4⟩ := boxed hb (by simp); have HE4 := hidP b4; have HD4 := hidP (HD3.out.below hb4 HD3.out.lt); have HC4 := hidP (HC3.out.below hb4 HC3.out.lt); have HP4 := hidP (HP3.out.below hb4 HP3.out.lt); have HQ4 := hidP (HQ3.out.below hb4 HQ3.out.lt); have HB4 := hidP hb4; have HB4w : Hid (Below w.heap.size w w4) := HB3w.out.trans (hb4.mono HB3w.out.size); have k0 := (b4.alloc (.cells #[.int .i64 R.1, .slice a4 R.2.length c4] 24)).cell 0 (v := .int .i64 R.1) rfl; have k1 := (b4.alloc (.cells #[.int .i64 R.1, .slice a4 R.2.length c4] 24)).cell 1 (v := .slice a3 R.2.length c3) rfl; clear b4 hb4 hb)
    | (go_at_call 13; (with_reducible refine (sameMachine_any _ _ R _ (HI3.out.later (HB4.out.alloc HB4.out.size _) (Nat.le_refl _)) (HI4.out.later ((Below.refl _ _).alloc (Nat.le_refl _) _) (Nat.le_refl _)) HKR.out).mono ?_); rintro e w5 ⟨rfl, hb⟩; obtain ⟨s5, b5, hb5⟩ := boxed hb (by simp); have HC5 := hidP (HC4.out.below hb5 HC4.out.lt); have HD5 := hidP (HD4.out.below hb5 HD4.out.lt); have HP5 := hidP (HP4.out.below hb5 HP4.out.lt); have HQ5 := hidP (HQ4.out.below hb5 HQ4.out.lt); have HB5w : Hid (Below w.heap.size w w5) := HB4w.out.trans (hb5.mono HB4w.out.size); have HB25 : Hid (Below w2.heap.size w2 w5) := (HB3.out.trans (HB4.out.mono HB3.out.size)).trans (hb5.mono (Nat.le_trans HB3.out.size HB4.out.size)); have HB15 : Hid (Below w1.heap.size w1 w5) := HB2.out.trans (HB25.out.mono HB2.out.size); have j0 := HC5.out.cell 0 (v := .int .i64 p.1) rfl; have j1 := HC5.out.cell 1 (v := .slice a1 p.2.length c1) rfl; have j2 := HP5.out.cell 0 (v := .int .i64 p.1) rfl; have j3 := HP5.out.cell 1 (v := .slice ap p.2.length cp) rfl; clear hb b5 hb5)
    | (go_at_call 13; (with_reducible refine (sameMachine_any _ _ p _ (HI1.out.later HB15.out (Nat.le_refl _)) (HIP.out.later HB5w.out (Nat.le_refl _)) HKP.out).mono ?_); rintro e w6 ⟨rfl, hb6⟩; have HB6w : Hid (Below w.heap.size w w6) := HB5w.out.trans (hb6.mono HB5w.out.size); have HB26 : Hid (Below w2.heap.size w2 w6) := HB25.out.trans (hb6.mono HB25.out.size); have HD6 := hidP (HD5.out.below hb6 HD5.out.lt); have HQ6 := hidP (HQ5.out.below hb6 HQ5.out.lt); have i0 := HD6.out.cell 0 (v := .int .i64 q.1) rfl; have i1 := HD6.out.cell 1 (v := .slice a2 q.2.length c2) rfl; have i2 := HQ6.out.cell 0 (v := .int .i64 q.1) rfl; have i3 := HQ6.out.cell 1 (v := .slice aq q.2.length cq) rfl; clear hb6)
    | (go_at_call 13; (with_reducible refine (sameMachine_any _ _ q _ (HI2.out.later HB26.out (Nat.le_refl _)) (HIQ.out.later HB6w.out (Nat.le_refl _)) HKQ.out).mono ?_); rintro e w7 ⟨rfl, hb7⟩; have HB7w : Hid (Below w.heap.size w w7) := HB6w.out.trans (hb7.mono HB6w.out.size); clear hb7))
  go_ret
  exact ⟨rfl, HB7w.out⟩

set_option maxRecDepth 100000 in
theorem lifted (os : Os) (started : os.Started) (H : Type) (enc : TypeId × Value → H) :
    ReturnsInHanded {} Try.checked os 4 .any (Rows.composeComposesSpec.pre6 enc Try.prog Try.f4 Rows.composeComposesRow.domain false) (Rows.composeComposesSpec.post enc Try.prog Try.f4 false true false false) := by
  refine returnsInHanded_of_change_sized (C := Try.checked) own started (by kernel_rfl) Try.func4
    (ChangeSpec.witness6 (enc := enc) (C := Try.checked) false ⟨#[], #[.agg #[.int .i64 0, .slice none 0 0], .agg #[.int .i64 0, .slice none 0 0]], []⟩ 8 (by kernel_rfl) (by kernel_rfl) (by kernel_rfl) (by kernel_rfl)) ?_
  intro W base args ds gs before hval0 hW hcnd hsz0 _
  have hsz : (DataW.weightsEach Try.prog (Try.f4.params.toList ++ Rows.composeComposesSpec.plain.varTypes Try.prog) (ds ++ gs)).all (· ≤ reachBytes) = true := hsz0
  have hval : ∀ (j : Nat) t v, Try.f4.params[j]? = some t → args[j]? = some v → Value.okWide Try.prog W .any base t v := hval0
  clear hval0 hsz0
  have hW' := hW
  obtain ⟨p, q, hA0, hV, rfl, hfz, hnd⟩ := hW
  have hA : DataW.TrodAll enc Try.prog W 0 (fun _ => true) true Try.f4.params.toList args.toList ds p := hA0
  rw [Try.params4] at hA hval hsz
  obtain ⟨v0, vs0, d0, ds0, p0, q0, hargs, rfl, rfl, h0, r0⟩ := trodAll_cons hA
  obtain ⟨v1, vs1, d1, ds1, p1, q1, rfl, rfl, rfl, h1, r1⟩ := trodAll_cons r0
  obtain ⟨rfl, rfl, rfl⟩ := trodAll_nil r1
  obtain rfl : args = #[v0, v1] := by cases args; simp_all
  obtain ⟨rfl, rfl⟩ := trodVars_none hV
  have k0 := h0
  have lt0 : ∀ x ∈ p0, x.block < W.heap.size := by obtain ⟨m, hm⟩ := k0; exact DataW.trod_lt m _ _ _ hm
  obtain ⟨z0, w0⟩ : ∃ m : Mc, Mach W v0 m ∧ okM m ∧ (Lit.int .i64 m.1).wf = true ∧ ∀ s ∈ m.2, (Lit.int .i64 s.1).wf = true ∧ ∀ a ∈ s.2, wfA a := by
    obtain ⟨c0, c1, y0, y1, n, rfl, hd, hp, t0, t1⟩ := Go.Joins.open_agg2 Try.underlying24 (by kernel_rfl) (by kernel_rfl) (hval 0 24 v0 rfl rfl) h0
    subst hd
    exact open_machine t0 t1 ((Fits.arg hsz (j := 0) rfl rfl).field Try.underlying24 (f := 1) rfl rfl)
  have k1 := h1
  have lt1 : ∀ x ∈ p1, x.block < W.heap.size := by obtain ⟨m, hm⟩ := k1; exact DataW.trod_lt m _ _ _ hm
  obtain ⟨z1, w1⟩ : ∃ m : Mc, Mach W v1 m ∧ okM m ∧ (Lit.int .i64 m.1).wf = true ∧ ∀ s ∈ m.2, (Lit.int .i64 s.1).wf = true ∧ ∀ a ∈ s.2, wfA a := by
    obtain ⟨c0, c1, y0, y1, n, rfl, hd, hp, t0, t1⟩ := Go.Joins.open_agg2 Try.underlying24 (by kernel_rfl) (by kernel_rfl) (hval 1 24 v1 rfl rfl) h1
    subst hd
    exact open_machine t0 t1 ((Fits.arg hsz (j := 1) rfl rfl).field Try.underlying24 (f := 1) rfl rfl)
  refine (walk v0 z0 v1 z1 W w0 w1).mono fun e W' ⟨he, bel⟩ => ?_
  subst he
  exact ⟨_, rfl, _, _, _, [], _, [], hW', trodAll_mk1 (shut_bool Try.underlying4 _), (trodAll_cons_mk (Below.trod laidOut (by kernel_rfl) (of_decide_eq_true (by kernel_rfl)) k0 bel lt0) (trodAll_cons_mk (Below.trod laidOut (by kernel_rfl) (of_decide_eq_true (by kernel_rfl)) k1 bel lt1) trodAll_mk0)), rfl, bel.frame _, fun h => by cases h⟩
end Go.Proofs.Ythcfkiinjcbajaa.composeComposes
namespace Go.Proofs.Ythcfkiinjcbajaa
theorem composeComposes_holds : Rows.ComposeComposesSaid :=
  OpenClaim.holds_of_wide 4 Try.f4 rfl rfl rfl rfl rfl rfl rfl ⟨rfl, rfl, rfl, rfl, rfl⟩ rfl rfl rfl rfl rfl (by kernel_rfl) Try.func4 (by kernel_rfl)
    (of_decide_eq_true (by kernel_rfl)) (by unfold Func.isWrapper; first | (rw [if_pos (by decide +kernel)]; kernel_rfl) | (rw [if_neg (by decide +kernel)]; exact ⟨rfl, rfl⟩))
    (fun os started H enc _ => composeComposes.lifted os started H enc)
#print axioms composeComposes_holds
end Go.Proofs.Ythcfkiinjcbajaa
