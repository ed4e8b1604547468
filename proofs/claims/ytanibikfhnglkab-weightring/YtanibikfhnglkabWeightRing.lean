/- The statement WeightRing: weights are a semiring, for every three numbers, without any condition. -/
import Derived.Test.YtanibikfhnglkabKp
import Derived.ShutString
import Derived.ChangeOld
import Derived.Below
namespace Go.Proofs.Ytanibikfhnglkab.weightRing
open Go.ChangeShapes Go.WideShapes Go.ChangeAt Go.RowKit
open Go.Proofs.Ytanibikfhnglkab.Pl Go.Proofs.Ytanibikfhnglkab.Wt
set_option linter.unusedVariables false

theorem own : ownKnob Try.prog.godebug = none := by kernel_rfl
def Up (a : Int) : Prop := a = 1000000001 ∨ 0 ≤ a ∧ a ≤ 333333333
def Up3 (a b c : Int) : Prop := Up a ∧ Up b ∧ Up c

theorem sideP {a b c : Int} (h : Up3 a b c) : okP a b ∧ okP (mn a b) c ∧ okP b c ∧ okP a (mn b c) ∧ okP b a ∧ okP (tm a b) (tm a c) ∧ okP a 1000000001 ∧ okP a a := by
  unfold Up3 Up at h
  unfold okP Two mn tm
  refine ⟨?_, ?_, ?_, ?_, ?_, ?_, ?_, ?_⟩ <;> (repeat' split) <;> omega
theorem sideT {a b c : Int} (h : Up3 a b c) : okT a b ∧ okT (tm a b) c ∧ okT b c ∧ okT a (tm b c) ∧ okT b a ∧ okT a (mn b c) ∧ okT a c ∧ okT a 0 ∧ okT a 1000000001 := by
  unfold Up3 Up at h
  unfold okT Two mn tm
  refine ⟨?_, ?_, ?_, ?_, ?_, ?_, ?_, ?_, ?_⟩ <;> (repeat' split) <;> omega

set_option maxHeartbeats 4000000 in
theorem walk (a0 a1 a2 : Int) (w : World) (w0 : (Lit.int .i64 a0).wf = true) (w1 : (Lit.int .i64 a1).wf = true) (w2 : (Lit.int .i64 a2).wf = true) :
    Calls Try.prog 3 #[.int .i64 a0, .int .i64 a1, .int .i64 a2] w fun e w' => e = .returned (.bool true) ∧ Below w.heap.size w w' := by
  have HW0 : Hid ((Lit.int .i64 a0).wf = true) := w0
  have HW1 : Hid ((Lit.int .i64 a1).wf = true) := w1
  have HW2 : Hid ((Lit.int .i64 a2).wf = true) := w2
  have HU : Hid (Up3 (someI a0) (someI a1) (someI a2)) := ⟨someI_up a0, someI_up a1, someI_up a2⟩
  clear w0 w1 w2
  generalize ha : someI a0 = a at HU
  generalize hb : someI a1 = b at HU
  generalize hc : someI a2 = c at HU
  have HA : Hid (someI a0 = a) := ha
  have HB : Hid (someI a1 = b) := hb
  have HC : Hid (someI a2 = c) := hc
  clear ha hb hc
  have e1 : (mn (mn a b) c == mn a (mn b c)) = true := by have h := HU.out; unfold Up3 Up at h; unfold mn; simp only [beq_iff_eq]; omega
  have e2 : (tm (tm a b) c == tm a (tm b c)) = true := by have h := HU.out; unfold Up3 Up at h; unfold tm; simp only [beq_iff_eq]; repeat' split
                                                          all_goals omega
  have e3 : (mn a b == mn b a) = true := by unfold mn; simp only [beq_iff_eq]; omega
  have e4 : (tm a b == tm b a) = true := by have h := HU.out; unfold Up3 Up at h; unfold tm; simp only [beq_iff_eq]; repeat' split
                                            all_goals omega
  have e5 : (tm a (mn b c) == mn (tm a b) (tm a c)) = true := by have h := HU.out; unfold Up3 Up at h; unfold tm mn; simp only [beq_iff_eq]; repeat' split
                                                                 all_goals omega
  have e6 : (mn a 1000000001 == a) = true := by have h := HU.out; unfold Up3 Up at h; unfold mn; simp only [beq_iff_eq]; omega
  have e7 : (tm a 0 == a) = true := by have h := HU.out; unfold Up3 Up at h; unfold tm; simp only [beq_iff_eq]; split <;> omega
  have e8 : (tm a 1000000001 == 1000000001) = true := by simp [tm]
  have e9 : (mn a a == a) = true := by unfold mn; simp
  have e10 : 0 ≤ mn a b := by have h := HU.out; unfold Up3 Up at h; unfold mn; omega
  obtain ⟨p1, p2, p3, p4, p5, p6, p7, p8⟩ := sideP HU.out
  obtain ⟨t1, t2, t3, t4, t5, t6, t7, t8, t9⟩ := sideT HU.out
  have hb0 : Below w.heap.size w w := Below.refl _ _
  go_enter Try.func3, Try.ntmps3
  go_wp2_with (first
    | (go_at_call 6; refine (some_any _ _ ?_).mono ?_; (first | exact HW0.out | exact HW1.out | exact HW2.out); (first | rw [HA.out] | rw [HB.out] | rw [HC.out]); rintro e w' ⟨rfl, rfl⟩)
    | (go_at_call 7; refine (plusH _ _ w _ ?_ ?_).mono ?_; assumption; assumption; rintro e w1 ⟨rfl, hb1⟩)
    | (go_at_call 8; refine (timesH _ _ w _ ?_ ?_).mono ?_; assumption; assumption; rintro e w1 ⟨rfl, hb1⟩))
  go_ret
  exact ⟨rfl, by assumption⟩

set_option maxRecDepth 100000 in
theorem lifted (os : Os) (started : os.Started) (H : Type) (enc : TypeId × Value → H) :
    ReturnsInHanded {} Try.checked os 3 .any (Rows.weightRingSpec.pre6 enc Try.prog Try.f3 Rows.weightRingRow.domain false) (Rows.weightRingSpec.post enc Try.prog Try.f3 false true false false) := by
  refine returnsInHanded_of_change (C := Try.checked) own started (by kernel_rfl) Try.func3
    (ChangeSpec.witness6 (enc := enc) (C := Try.checked) false ⟨#[], #[.int .i64 0, .int .i64 0, .int .i64 0], []⟩ 8 (by kernel_rfl) (by kernel_rfl) (by kernel_rfl) (by kernel_rfl)) ?_
  intro W base args ds gs before hval0 hW hcnd _
  have hval : ∀ (j : Nat) t v, Try.f3.params[j]? = some t → args[j]? = some v → Value.okWide Try.prog W .any base t v := hval0
  have hW' := hW
  obtain ⟨p, q, hA0, hV, rfl, hfz, hnd⟩ := hW
  have hA : DataW.TrodAll enc Try.prog W 0 (fun _ => true) true Try.f3.params.toList args.toList ds p := hA0
  rw [Try.params3] at hA hval
  obtain ⟨v0, vs0, d0, ds0, p0, q0, hargs, rfl, rfl, h0, r0⟩ := trodAll_cons hA
  obtain ⟨v1, vs1, d1, ds1, p1, q1, rfl, rfl, rfl, h1, r1⟩ := trodAll_cons r0
  obtain ⟨v2, vs2, d2, ds2, p2, q2, rfl, rfl, rfl, h2, r2⟩ := trodAll_cons r1
  obtain ⟨rfl, rfl, rfl⟩ := trodAll_nil r2
  obtain rfl : args = #[v0, v1, v2] := by cases args; simp_all
  obtain ⟨rfl, rfl⟩ := trodVars_none hV
  obtain ⟨a0, rfl, rfl, rfl, w0⟩ := open_int Try.underlying3 (hval 0 3 v0 rfl rfl) h0
  obtain ⟨a1, rfl, rfl, rfl, w1⟩ := open_int Try.underlying3 (hval 1 3 v1 rfl rfl) h1
  obtain ⟨a2, rfl, rfl, rfl, w2⟩ := open_int Try.underlying3 (hval 2 3 v2 rfl rfl) h2
  clear hA0 hval0
  refine (walk a0 a1 a2 W w0 w1 w2).mono fun e W' ⟨he, bel⟩ => ?_
  subst he
  exact ⟨_, rfl, _, _, _, [], _, [], hW', trodAll_mk1 (shut_bool Try.underlying4 _), (trodAll_cons_mk (shut_int Try.underlying3 w0) (trodAll_cons_mk (shut_int Try.underlying3 w1) (trodAll_cons_mk (shut_int Try.underlying3 w2) trodAll_mk0))), rfl, bel.frame _, fun h => by cases h⟩
end Go.Proofs.Ytanibikfhnglkab.weightRing
namespace Go.Proofs.Ytanibikfhnglkab
theorem weightRing_holds : Rows.WeightRingSaid :=
  OpenClaim.holds_of_wide 3 Try.f3 rfl rfl rfl rfl rfl rfl rfl ⟨rfl, rfl, rfl, rfl, rfl⟩ rfl rfl rfl rfl rfl (by kernel_rfl) Try.func3 (by kernel_rfl)
    (of_decide_eq_true (by kernel_rfl)) (by unfold Func.isWrapper; first | (rw [if_pos (by decide +kernel)]; kernel_rfl) | (rw [if_neg (by decide +kernel)]; exact ⟨rfl, rfl⟩))
    (fun os started H enc _ => weightRing.lifted os started H enc)
#print axioms weightRing_holds
end Go.Proofs.Ytanibikfhnglkab
