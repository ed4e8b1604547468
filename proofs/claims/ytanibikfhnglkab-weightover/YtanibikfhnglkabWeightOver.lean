/- The statement WeightOver: what is left, put back, is what there was, for every two numbers, without any condition. -/
import Derived.Test.YtanibikfhnglkabKp
import Derived.ShutString
import Derived.ChangeOld
import Derived.Below
namespace Go.Proofs.Ytanibikfhnglkab.weightOver
open Go.ChangeShapes Go.WideShapes Go.ChangeAt Go.RowKit
open Go.Proofs.Ytanibikfhnglkab.Pl Go.Proofs.Ytanibikfhnglkab.Wt
set_option linter.unusedVariables false

theorem own : ownKnob Try.prog.godebug = none := by kernel_rfl
def Up (a : Int) : Prop := a = 1000000001 ∨ 0 ≤ a ∧ a ≤ 333333333
def Up2 (a b : Int) : Prop := Up a ∧ Up b
theorem overR_none {a b : Int} (h : Up2 a b) (g : b = 1000000001 ∨ a < b) : overR a b = (0, 12) := by
  unfold Up2 Up at h
  have e : (wtB a && wtB b) = true := by rw [Bool.and_eq_true]; exact ⟨wtB_true.2 (by omega), wtB_true.2 (by omega)⟩
  unfold overR
  rw [if_pos e, if_pos g]
theorem overR_some {a b : Int} (h : Up2 a b) (g : ¬ (b = 1000000001 ∨ a < b)) : ∃ c, overR a b = (c, 0) ∧ okT b c ∧ tm b c = a := by
  unfold Up2 Up at h
  have e : (wtB a && wtB b) = true := by rw [Bool.and_eq_true]; exact ⟨wtB_true.2 (by omega), wtB_true.2 (by omega)⟩
  unfold overR
  rw [if_pos e, if_neg g]
  by_cases c : a = 1000000001
  · rw [if_pos c]
    exact ⟨_, rfl, by unfold okT Two; omega, by unfold tm; split <;> omega⟩
  · rw [if_neg c]
    exact ⟨_, rfl, by unfold okT Two; omega, by unfold tm; split <;> omega⟩

set_option maxHeartbeats 1000000 in
theorem walk (a0 a1 : Int) (w : World) (w0 : (Lit.int .i64 a0).wf = true) (w1 : (Lit.int .i64 a1).wf = true) :
    Calls Try.prog 4 #[.int .i64 a0, .int .i64 a1] w fun e w' => e = .returned (.bool true) ∧ Below w.heap.size w w' := by
  have HW0 : Hid ((Lit.int .i64 a0).wf = true) := w0
  have HW1 : Hid ((Lit.int .i64 a1).wf = true) := w1
  have HU : Hid (Up2 (someI a0) (someI a1)) := ⟨someI_up a0, someI_up a1⟩
  clear w0 w1
  generalize ha : someI a0 = a at HU
  generalize hb : someI a1 = b at HU
  have HA : Hid (someI a0 = a) := ha
  have HB : Hid (someI a1 = b) := hb
  clear ha hb
  have hb0 : Below w.heap.size w w := Below.refl _ _
  by_cases g : b = 1000000001 ∨ a < b
  · have HO : Hid (overR a b = (0, 12)) := overR_none HU.out g
    rcases bool_cases (b == 1000000001) with eb | eb
    · clear g
      go_enter Try.func4, Try.ntmps4
      go_wp2_with (first
        | (go_at_call 6; refine (some_any _ _ ?_).mono ?_; (first | exact HW0.out | exact HW1.out); (first | rw [HA.out] | rw [HB.out]); rintro e w' ⟨rfl, rfl⟩)
        | (go_at_call 9; refine (over_any _ _ _).mono ?_; rw [HO.out]; rintro e w1 ⟨rfl, hb1⟩))
      go_ret
      exact ⟨rfl, hb1⟩
    · have hl : a < b := by simp at eb; omega
      clear g
      go_enter Try.func4, Try.ntmps4
      go_wp2_with (first
        | (go_at_call 6; refine (some_any _ _ ?_).mono ?_; (first | exact HW0.out | exact HW1.out); (first | rw [HA.out] | rw [HB.out]); rintro e w' ⟨rfl, rfl⟩)
        | (go_at_call 9; refine (over_any _ _ _).mono ?_; rw [HO.out]; rintro e w1 ⟨rfl, hb1⟩))
      go_ret
      exact ⟨rfl, hb1⟩
  · obtain ⟨c, ho, ht, hm⟩ := overR_some HU.out g
    have HO : Hid (overR a b = (c, 0)) := ho
    have e1 : (tm b c == a) = true := by simpa using hm
    have eb : (b == 1000000001) = false := by simp; omega
    have hl : ¬ a < b := by omega
    clear g ho hm
    go_enter Try.func4, Try.ntmps4
    go_wp2_with (first
      | (go_at_call 6; refine (some_any _ _ ?_).mono ?_; (first | exact HW0.out | exact HW1.out); (first | rw [HA.out] | rw [HB.out]); rintro e w' ⟨rfl, rfl⟩)
      | (go_at_call 9; refine (over_any _ _ _).mono ?_; rw [HO.out]; rintro e w1 ⟨rfl, hb1⟩)
      | (go_at_call 8; refine (timesH _ _ w _ ?_ ?_).mono ?_; assumption; assumption; rintro e w1 ⟨rfl, hb2⟩))
    go_ret
    exact ⟨rfl, hb2⟩

set_option maxRecDepth 100000 in
theorem lifted (os : Os) (started : os.Started) (H : Type) (enc : TypeId × Value → H) :
    ReturnsInHanded {} Try.checked os 4 .any (Rows.weightOverSpec.pre6 enc Try.prog Try.f4 Rows.weightOverRow.domain false) (Rows.weightOverSpec.post enc Try.prog Try.f4 false true false false) := by
  refine returnsInHanded_of_change (C := Try.checked) own started (by kernel_rfl) Try.func4
    (ChangeSpec.witness6 (enc := enc) (C := Try.checked) false ⟨#[], #[.int .i64 0, .int .i64 0], []⟩ 8 (by kernel_rfl) (by kernel_rfl) (by kernel_rfl) (by kernel_rfl)) ?_
  intro W base args ds gs before hval0 hW hcnd _
  have hval : ∀ (j : Nat) t v, Try.f4.params[j]? = some t → args[j]? = some v → Value.okWide Try.prog W .any base t v := hval0
  have hW' := hW
  obtain ⟨p, q, hA0, hV, rfl, hfz, hnd⟩ := hW
  have hA : DataW.TrodAll enc Try.prog W 0 (fun _ => true) true Try.f4.params.toList args.toList ds p := hA0
  rw [Try.params4] at hA hval
  obtain ⟨v0, vs0, d0, ds0, p0, q0, hargs, rfl, rfl, h0, r0⟩ := trodAll_cons hA
  obtain ⟨v1, vs1, d1, ds1, p1, q1, rfl, rfl, rfl, h1, r1⟩ := trodAll_cons r0
  obtain ⟨rfl, rfl, rfl⟩ := trodAll_nil r1
  obtain rfl : args = #[v0, v1] := by cases args; simp_all
  obtain ⟨rfl, rfl⟩ := trodVars_none hV
  obtain ⟨a0, rfl, rfl, rfl, w0⟩ := open_int Try.underlying3 (hval 0 3 v0 rfl rfl) h0
  obtain ⟨a1, rfl, rfl, rfl, w1⟩ := open_int Try.underlying3 (hval 1 3 v1 rfl rfl) h1
  clear hA0 hval0
  refine (walk a0 a1 W w0 w1).mono fun e W' ⟨he, bel⟩ => ?_
  subst he
  exact ⟨_, rfl, _, _, _, [], _, [], hW', trodAll_mk1 (shut_bool Try.underlying4 _), (trodAll_cons_mk (shut_int Try.underlying3 w0) (trodAll_cons_mk (shut_int Try.underlying3 w1) trodAll_mk0)), rfl, bel.frame _, fun h => by cases h⟩
end Go.Proofs.Ytanibikfhnglkab.weightOver
namespace Go.Proofs.Ytanibikfhnglkab
theorem weightOver_holds : Rows.WeightOverSaid :=
  OpenClaim.holds_of_wide 4 Try.f4 rfl rfl rfl rfl rfl rfl rfl ⟨rfl, rfl, rfl, rfl, rfl⟩ rfl rfl rfl rfl rfl (by kernel_rfl) Try.func4 (by kernel_rfl)
    (of_decide_eq_true (by kernel_rfl)) (by unfold Func.isWrapper; first | (rw [if_pos (by decide +kernel)]; kernel_rfl) | (rw [if_neg (by decide +kernel)]; exact ⟨rfl, rfl⟩))
    (fun os started H enc _ => weightOver.lifted os started H enc)
#print axioms weightOver_holds
end Go.Proofs.Ytanibikfhnglkab
