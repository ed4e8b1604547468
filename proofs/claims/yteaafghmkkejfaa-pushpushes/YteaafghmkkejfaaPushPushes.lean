/- The statement PushPushes: whatever machine is given, the program's answer and the document's agree and no machine is changed, for every input and without any condition. -/
import Derived.Test.YteaafghmkkejfaaMcO
import Derived.Test.YteaafghmkkejfaaMcC
import Derived.Test.YteaafghmkkejfaaMcS
import Derived.Test.YteaafghmkkejfaaLo
import Derived.Test.YteaafghmkkejfaaPz
import Derived.Test.YteaafghmkkejfaaPs
import Derived.Test.YteaafghmkkejfaaJ15u
import Derived.Lib.SmallJoins
import Derived.ChangeOld
import Derived.Below
namespace Go.Proofs.Yteaafghmkkejfaa.pushPushes
open Go.ChangeShapes Go.WideShapes Go.ChangeAt Go.RowKit
open Go.Proofs.Yteaafghmkkejfaa.Pl Go.Proofs.Yteaafghmkkejfaa.Wt
set_option linter.unusedVariables false

theorem own : ownKnob Try.prog.godebug = none := by kernel_rfl
theorem laidOut : laidOutB Try.prog = true := by kernel_rfl
set_option maxRecDepth 100000 in
theorem walk (v : Value) (m : Mc) (w : World) (h : Mach w v m ∧ okM m ∧ (Lit.int .i64 m.1).wf = true ∧ ∀ s ∈ m.2, (Lit.int .i64 s.1).wf = true ∧ ∀ a ∈ s.2, wfA a) :
    Calls Try.prog 3 #[v] w fun e w' => e = .returned (.bool true) ∧ Below w.heap.size w w' := by
  obtain ⟨h, hok, _⟩ := h
  have HI : Hid (Mach w v m) := h
  have HK : Hid (okM m) := hok
  have HKR : Hid (∀ x tt ec, PshAns m x tt ec → okM x) := fun x tt ec h => psh_ok hok h
  have HPC : Hid (∀ W v, Mach W v m → Calls Try.prog 8 #[v] W fun e w' => PshRes (PshAns m) W e w') := fun W v hW => pushP_any v m W hW hok
  have HRC : Hid (∀ W v, Mach W v m → Calls Try.prog 9 #[v] W fun e w' => PshRes (PshAns m) W e w') := fun W v hW => pushed_any v m W hW hok
  obtain ⟨vs, rfl, hS⟩ := h
  obtain ⟨a, cap, rfl⟩ := hS.sl
  clear hS hok
  have HB0 : Hid (Below w.heap.size w (w.alloc (.cells #[.int .i64 m.1, .slice a m.2.length cap] 24))) := (Below.refl _ _).alloc (Nat.le_refl _) _
  go_enter Try.func3, Try.ntmps3
  go_wp2_with (first
    | (go_at_call 7; (with_reducible refine (machine_any _ m _ (HI.out.later HB0.out (Nat.le_refl _)) HK.out).mono ?_); rintro e w1 ⟨v1, rfl, hi, hb⟩; have HI1 : Hid (Mach w1 v1 m) := hi; obtain ⟨vs1, rfl, hS1⟩ := hi; obtain ⟨a1, cap1, rfl⟩ := hS1.sl; clear hS1; obtain ⟨s1, b1, hb1⟩ := boxed hb (by simp); have x0 := b1.cell 0 (v := .int .i64 m.1) rfl; have x1 := b1.cell 1 (v := .slice a m.2.length cap) rfl; have HB1 : Hid (Below w.heap.size w w1) := hb1; clear b1 hb1 hb)
    | (go_at_call 8; (with_reducible refine (HPC.out _ _ (HI1.out.later (B := w1.heap.size) (by go_grown) (Nat.le_refl _))).mono ?_); rintro e w2 ⟨v2, R, T, r, rfl, hq, hi, hb⟩; have HQ2 := hidP hq; have HKX := hidP (HKR.out _ _ _ hq); clear hq; have HI2 : Hid (Mach w2 v2 R) := hi; obtain ⟨vs2, rfl, hS2⟩ := hi; obtain ⟨a2, cap2, rfl⟩ := hS2.sl; clear hS2; obtain ⟨s2, b2, hb2⟩ := boxed hb (by simp); have d0 := b2.cell 0 (v := .int .i64 m.1) rfl; have d1 := b2.cell 1 (v := .slice a1 m.2.length cap1) rfl; have y0 := low x0 hb2; have y1 := low x1 hb2; have z0 : w.heap.size < w2.heap.size := World.block_lt_of_cell? _ _ y0; have z1 : w1.heap.size < w2.heap.size := World.block_lt_of_cell? _ _ d0; have HB2 : Hid (Below w1.heap.size w1 w2) := hb2; have HB2' : Hid (Below w.heap.size w w2) := HB1.out.trans (hb2.mono HB1.out.size); clear b2 hb2 hb)
    | (go_at_call 9; (with_reducible refine (HRC.out _ _ (HI.out.later (HB2'.out.alloc HB2'.out.size _) (Nat.le_refl _))).mono ?_); rintro e w3 ⟨v3, R3, T3, r3, rfl, hq, hi, hb⟩; obtain ⟨rfl, rfl, rfl⟩ := PshAns.one HQ2.out hq; have ee : (r == r) = true := (by simp); have et : (T == T) = true := (by simp); clear hq; have HI3 : Hid (Mach w3 v3 R) := hi; obtain ⟨vs3, rfl, hS3⟩ := hi; obtain ⟨a3, cap3, rfl⟩ := hS3.sl; clear hS3; obtain ⟨s3, b3, hb3⟩ := boxed hb (by simp); have k0 := b3.cell 0 (v := .int .i64 R.1) rfl; have k1 := b3.cell 1 (v := .slice a2 R.2.length cap2) rfl; have c0 := low d0 hb3; have c1 := low d1 hb3; have c2 := low y0 hb3; have c3 := low y1 hb3; have z2 : w.heap.size < w3.heap.size := World.block_lt_of_cell? _ _ c2; have z3 : w1.heap.size < w3.heap.size := World.block_lt_of_cell? _ _ c0; have z4 : w2.heap.size < w3.heap.size := World.block_lt_of_cell? _ _ k0; have HB3 : Hid (Below w1.heap.size w1 w3) := HB2.out.trans (hb3.mono HB2.out.size); have HB3' : Hid (Below w.heap.size w w3) := HB2'.out.trans (hb3.mono HB2'.out.size); have HB3r : Hid (Below w2.heap.size w2 w3) := hb3; clear b3 hb3 hb)
    | (go_at_call 10; (with_reducible refine (sameMachine_any _ _ R _ (HI2.out.later (HB3r.out.alloc HB3r.out.size _) (Nat.le_refl _)) (HI3.out.later ((Below.refl _ _).alloc (Nat.le_refl _) _) (Nat.le_refl _)) HKX.out).mono ?_); rintro e w4 ⟨rfl, hb4⟩; obtain ⟨s4, b4, hb4'⟩ := boxed hb4 (by simp); have HB4 : Hid (Below w.heap.size w w4) := HB3'.out.trans (hb4'.mono HB3'.out.size); have HB4r : Hid (Below w1.heap.size w1 w4) := HB3.out.trans (hb4'.mono HB3.out.size); have e0 := low c0 hb4'; have e1 := low c1 hb4'; have e2 := low c2 hb4'; have e3 := low c3 hb4'; clear hb4 hb4' b4)
    | (go_at_call 10; (with_reducible refine (sameMachine_any _ _ m _ (HI1.out.later HB4r.out (Nat.le_refl _)) (HI.out.later HB4.out (Nat.le_refl _)) HK.out).mono ?_); rintro e w5 ⟨rfl, hb5⟩; have HB5 : Hid (Below w.heap.size w w5) := HB4.out.trans (hb5.mono HB4.out.size); clear hb5))
  go_ret
  exact ⟨rfl, HB5.out⟩

set_option maxRecDepth 100000 in
theorem lifted (os : Os) (started : os.Started) (H : Type) (enc : TypeId × Value → H) :
    ReturnsInHanded {} Try.checked os 3 .any (Rows.pushPushesSpec.pre6 enc Try.prog Try.f3 Rows.pushPushesRow.domain false) (Rows.pushPushesSpec.post enc Try.prog Try.f3 false true false false) := by
  refine returnsInHanded_of_change_sized (C := Try.checked) own started (by kernel_rfl) Try.func3
    (ChangeSpec.witness6 (enc := enc) (C := Try.checked) false ⟨#[], #[.agg #[.int .i64 0, .slice none 0 0]], []⟩ 8 (by kernel_rfl) (by kernel_rfl) (by kernel_rfl) (by kernel_rfl)) ?_
  intro W base args ds gs before hval0 hW hcnd hsz0 _
  have hsz : (DataW.weightsEach Try.prog (Try.f3.params.toList ++ Rows.pushPushesSpec.plain.varTypes Try.prog) (ds ++ gs)).all (· ≤ reachBytes) = true := hsz0
  have hval : ∀ (j : Nat) t v, Try.f3.params[j]? = some t → args[j]? = some v → Value.okWide Try.prog W .any base t v := hval0
  clear hval0 hsz0
  have hW' := hW
  obtain ⟨p, q, hA0, hV, rfl, hfz, hnd⟩ := hW
  have hA : DataW.TrodAll enc Try.prog W 0 (fun _ => true) true Try.f3.params.toList args.toList ds p := hA0
  rw [Try.params3] at hA hval hsz
  obtain ⟨v0, vs0, d0, ds0, p0, q0, hargs, rfl, rfl, h0, r0⟩ := trodAll_cons hA
  obtain ⟨rfl, rfl, rfl⟩ := trodAll_nil r0
  obtain rfl : args = #[v0] := by cases args; simp_all
  obtain ⟨rfl, rfl⟩ := trodVars_none hV
  have k0 := h0
  have lt0 : ∀ x ∈ p0, x.block < W.heap.size := by obtain ⟨m, hm⟩ := k0; exact DataW.trod_lt m _ _ _ hm
  obtain ⟨z0, w0⟩ : ∃ m : Mc, Mach W v0 m ∧ okM m ∧ (Lit.int .i64 m.1).wf = true ∧ ∀ s ∈ m.2, (Lit.int .i64 s.1).wf = true ∧ ∀ a ∈ s.2, wfA a := by
    obtain ⟨c0, c1, y0, y1, n, rfl, hd, hp, t0, t1⟩ := Go.Joins.open_agg2 Try.underlying24 (by kernel_rfl) (by kernel_rfl) (hval 0 24 v0 rfl rfl) h0
    subst hd
    exact open_machine t0 t1 ((Fits.arg hsz (j := 0) rfl rfl).field Try.underlying24 (f := 1) rfl rfl)
  refine (walk v0 z0 W w0).mono fun e W' ⟨he, bel⟩ => ?_
  subst he
  exact ⟨_, rfl, _, _, _, [], _, [], hW', trodAll_mk1 (shut_bool Try.underlying4 _), (trodAll_cons_mk (Below.trod laidOut (by kernel_rfl) (of_decide_eq_true (by kernel_rfl)) k0 bel lt0) trodAll_mk0), rfl, bel.frame _, fun h => by cases h⟩
end Go.Proofs.Yteaafghmkkejfaa.pushPushes
namespace Go.Proofs.Yteaafghmkkejfaa
theorem pushPushes_holds : Rows.PushPushesSaid :=
  OpenClaim.holds_of_wide 3 Try.f3 rfl rfl rfl rfl rfl rfl rfl ⟨rfl, rfl, rfl, rfl, rfl⟩ rfl rfl rfl rfl rfl (by kernel_rfl) Try.func3 (by kernel_rfl)
    (of_decide_eq_true (by kernel_rfl)) (by unfold Func.isWrapper; first | (rw [if_pos (by decide +kernel)]; kernel_rfl) | (rw [if_neg (by decide +kernel)]; exact ⟨rfl, rfl⟩))
    (fun os started H enc _ => pushPushes.lifted os started H enc)
#print axioms pushPushes_holds
end Go.Proofs.Yteaafghmkkejfaa
