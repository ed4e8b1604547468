/- The statement PackedEncodes: whatever machine is given, the program's Encode and the document's answer agree and the machine is not changed, for every input and without any condition. -/
import Derived.Test.YtbbjpdadickilaaMcO
import Derived.Test.YtbbjpdadickilaaMcC
import Derived.Test.YtbbjpdadickilaaLo
import Derived.Test.YtbbjpdadickilaaMcS
import Derived.Test.YtbbjpdadickilaaEp
import Derived.Test.YtbbjpdadickilaaPk
import Derived.Test.YtbbjpdadickilaaBq
import Derived.Lib.SmallJoins
import Derived.ChangeOld
import Derived.Below
namespace Go.Proofs.Ytbbjpdadickilaa.packedEncodes
open Go.ChangeShapes Go.WideShapes Go.ChangeAt Go.RowKit
open Go.Proofs.Ytbbjpdadickilaa.Pl Go.Proofs.Ytbbjpdadickilaa.Wt
set_option linter.unusedVariables false

theorem own : ownKnob Try.prog.godebug = none := by kernel_rfl
theorem laidOut : laidOutB Try.prog = true := by kernel_rfl
theorem walk (v : Value) (m : Mc) (w : World) (h : Mach w v m ∧ okM m ∧ (Lit.int .i64 m.1).wf = true ∧ ∀ s ∈ m.2, (Lit.int .i64 s.1).wf = true ∧ ∀ a ∈ s.2, wfA a) :
    Calls Try.prog 3 #[v] w fun e w' => e = .returned (.bool true) ∧ Below w.heap.size w w' := by
  obtain ⟨h, hok, _⟩ := h
  have HI : Hid (Mach w v m) := h
  have HK : Hid (okM m) := hok
  obtain ⟨s, hs⟩ : ∃ s, faultM m = s := ⟨_, rfl⟩
  have HS : Hid (faultM m = s) := hs
  have e1 : (s == s) = true := by simp
  obtain ⟨vs, rfl, hS⟩ := h
  obtain ⟨a, cap, rfl⟩ := hS.sl
  clear hs hS hok
  have HB0 : Hid (Below w.heap.size w (w.alloc (.cells #[.int .i64 m.1, .slice a m.2.length cap] 24))) := (Below.refl _ _).alloc (Nat.le_refl _) _
  go_enter Try.func3, Try.ntmps3
  go_wp2_with (first
    | (go_at_call 7; (with_reducible refine (machine_any _ m _ (HI.out.later HB0.out (Nat.le_refl _)) HK.out).mono ?_); rintro e w1 ⟨v1, rfl, hi, hb⟩; have HI1 : Hid (Mach w1 v1 m) := hi; obtain ⟨vs1, rfl, hS1⟩ := hi; obtain ⟨a1, cap1, rfl⟩ := hS1.sl; clear hS1; obtain ⟨s1, b1, hb1⟩ := boxed hb (by simp); have c0 := b1.cell 0 (v := .int .i64 m.1) rfl; have c1 := b1.cell 1 (v := .slice a m.2.length cap) rfl; have HB1 : Hid (Below w.heap.size w w1) := hb1; clear b1 hb1 hb)
    | (go_at_call 8; (with_reducible refine (encodeP_any _ m _ (HI1.out.later (B := w1.heap.size) (by go_grown) (Nat.le_refl _)) HK.out).mono ?_); rintro e w2 ⟨v2, he, ho, hb⟩; rw [HS.out] at he; subst he; obtain ⟨s2, b2, hb2⟩ := boxed hb (by simp); have d0 := b2.cell 0 (v := .int .i64 m.1) rfl; have d1 := b2.cell 1 (v := .slice a1 m.2.length cap1) rfl; have d2 := low c0 hb2; have d3 := low c1 hb2; have HO2 : Hid (Bys w2 v2 (if faultM m = 0 then packM m else [])) := ho.bys; have HB2 : Hid (Below w1.heap.size w1 w2) := hb2; have HB2' : Hid (Below w.heap.size w w2) := HB1.out.trans (hb2.mono HB1.out.size); obtain ⟨a2, n2, c2, hv2⟩ := ho.sl; subst hv2; clear b2 hb2 hb ho)
    | (go_at_call 9; (with_reducible refine (packedR_any _ m _ (HI.out.later HB2'.out (Nat.le_refl _)) HK.out).mono ?_); rintro e w3 ⟨v3, he, ho, hb⟩; rw [HS.out] at he; subst he; have e0 := low d0 hb; have e2 := low d1 hb; have e3 := low d2 hb; have e4 := low d3 hb; have HO2' := hid (HO2.out.later hb (Nat.le_refl _)); have HO3 : Hid (Bys w3 v3 (if faultM m = 0 then packM m else [])) := ho.bys; have HB3 : Hid (Below w1.heap.size w1 w3) := HB2.out.trans (hb.mono HB2.out.size); have HB3' : Hid (Below w.heap.size w w3) := HB2'.out.trans (hb.mono HB2'.out.size); obtain ⟨a3, n3, c3, hv3⟩ := ho.sl; subst hv3; clear hb ho)
    | (go_at_call 10; (with_reducible refine (sameBytes_any _ _ _ _ HO2'.out HO3.out).mono ?_); rintro e w4 ⟨rfl, rfl⟩)
    | (go_at_call 11; (with_reducible refine (sameMachine_any _ _ m _ (HI1.out.later HB3.out (Nat.le_refl _)) (HI.out.later HB3'.out (Nat.le_refl _)) HK.out).mono ?_); rintro e w5 ⟨rfl, hb5⟩; have HB5 : Hid (Below w.heap.size w w5) := HB3'.out.trans (hb5.mono HB3'.out.size); clear hb5))
  go_ret
  exact ⟨rfl, HB5.out⟩
set_option maxRecDepth 100000 in
theorem lifted (os : Os) (started : os.Started) (H : Type) (enc : TypeId × Value → H) :
    ReturnsInHanded {} Try.checked os 3 .any (Rows.packedEncodesSpec.pre6 enc Try.prog Try.f3 Rows.packedEncodesRow.domain false) (Rows.packedEncodesSpec.post enc Try.prog Try.f3 false true false false) := by
  refine returnsInHanded_of_change_sized (C := Try.checked) own started (by kernel_rfl) Try.func3
    (ChangeSpec.witness6 (enc := enc) (C := Try.checked) false ⟨#[], #[.agg #[.int .i64 0, .slice none 0 0]], []⟩ 8 (by kernel_rfl) (by kernel_rfl) (by kernel_rfl) (by kernel_rfl)) ?_
  intro W base args ds gs before hval0 hW hcnd hsz0 _
  have hsz : (DataW.weightsEach Try.prog (Try.f3.params.toList ++ Rows.packedEncodesSpec.plain.varTypes Try.prog) (ds ++ gs)).all (· ≤ reachBytes) = true := hsz0
  have hval : ∀ (j : Nat) t v, Try.f3.params[j]? = some t → args[j]? = some v → Value.okWide Try.prog W .any base t v := hval0
  clear hval0 hsz0
  have hW' := hW
  obtain ⟨p, q, hA0, hV, rfl, hfz, hnd⟩ := hW
  have hA : DataW.TrodAll enc Try.prog W 0 (fun _ => true) true Try.f3.params.toList args.toList ds p := hA0
  rw [Try.params3] at hA hval hsz
  obtain ⟨v0, vs0, d0, ds0, p0, q0, hargs, rfl, rfl, h0, r0⟩ := trodAll_cons hA
  obtain ⟨rfl, rfl, rfl⟩ := trodAll_nil r0
  obtain rfl : args = #[v0] := by cases args; simp_all
  obtain ⟨rfl, rfl⟩ := trodVars_none hV
  have k0 := h0
  have lt0 : ∀ x ∈ p0, x.block < W.heap.size := by obtain ⟨m, hm⟩ := k0; exact DataW.trod_lt m _ _ _ hm
  obtain ⟨z0, w0⟩ : ∃ m : Mc, Mach W v0 m ∧ okM m ∧ (Lit.int .i64 m.1).wf = true ∧ ∀ s ∈ m.2, (Lit.int .i64 s.1).wf = true ∧ ∀ a ∈ s.2, wfA a := by
    obtain ⟨c0, c1, y0, y1, n, rfl, hd, hp, t0, t1⟩ := Go.Joins.open_agg2 Try.underlying24 (by kernel_rfl) (by kernel_rfl) (hval 0 24 v0 rfl rfl) h0
    subst hd
    exact open_machine t0 t1 ((Fits.arg hsz (j := 0) rfl rfl).field Try.underlying24 (f := 1) rfl rfl)
  refine (walk v0 z0 W w0).mono fun e W' ⟨he, bel⟩ => ?_
  subst he
  exact ⟨_, rfl, _, _, _, [], _, [], hW', trodAll_mk1 (shut_bool Try.underlying4 _), (trodAll_cons_mk (Below.trod laidOut (by kernel_rfl) (of_decide_eq_true (by kernel_rfl)) k0 bel lt0) trodAll_mk0), rfl, bel.frame _, fun h => by cases h⟩
end Go.Proofs.Ytbbjpdadickilaa.packedEncodes
namespace Go.Proofs.Ytbbjpdadickilaa
theorem packedEncodes_holds : Rows.PackedEncodesSaid :=
  OpenClaim.holds_of_wide 3 Try.f3 rfl rfl rfl rfl rfl rfl rfl ⟨rfl, rfl, rfl, rfl, rfl⟩ rfl rfl rfl rfl rfl (by kernel_rfl) Try.func3 (by kernel_rfl)
    (of_decide_eq_true (by kernel_rfl)) (by unfold Func.isWrapper; first | (rw [if_pos (by decide +kernel)]; kernel_rfl) | (rw [if_neg (by decide +kernel)]; exact ⟨rfl, rfl⟩))
    (fun os started H enc _ => packedEncodes.lifted os started H enc)
#print axioms packedEncodes_holds
end Go.Proofs.Ytbbjpdadickilaa
