/- The statement NamesChecks: whatever table is given, the program's Check and the document's answer agree and the table is not changed, for every input and without any condition. -/
import Derived.Test.YtljpbkkofalinaaNmO
import Derived.Test.YtljpbkkofalinaaNmL
import Derived.Test.YtljpbkkofalinaaNmF
import Derived.Test.YtljpbkkofalinaaIz
import Derived.ShutString
import Derived.ChangeOld
import Derived.Below
namespace Go.Proofs.Ytljpbkkofalinaa.namesChecks
open Go.ChangeShapes Go.WideShapes Go.ChangeAt Go.RowKit
open Go.Proofs.Ytljpbkkofalinaa.Pl Go.Proofs.Ytljpbkkofalinaa.Wt
set_option linter.unusedVariables false

theorem own : ownKnob Try.prog.godebug = none := by kernel_rfl
theorem laidOut : laidOutB Try.prog = true := by kernel_rfl
theorem walk (v : Value) (ns : List Nm) (w : World) (h : Nms w v ns ∧ ns.length * 24 ≤ 140737488351232 ∧ ∀ p ∈ ns, p.1.size ≤ maxLen ∧ (Lit.int .i64 p.2).wf = true) :
    Calls Try.prog 3 #[v] w fun e w' => e = .returned (.bool true) ∧ Below w.heap.size w w' := by
  obtain ⟨h, hr, _⟩ := h
  have HI : Hid (Nms w v ns) := h
  have HM : Hid (ns.length ≤ maxLen) := by show _ ≤ _; unfold maxLen; omega
  have HR : Hid (ns.length * 24 ≤ 140737488351232) := hr
  clear h hr
  generalize hs : faultR ns = s
  have HS : Hid (faultR ns = s) := hs
  clear hs
  go_enter Try.func3, Try.ntmps3
  go_wp2_with (first
    | (go_at_call 6; (with_reducible refine (clone_any _ ns _ HI.out HR.out).mono ?_); rintro e w1 ⟨v1, rfl, hi, hb⟩; have HI1 : Hid (Nms w1 v1 ns) := hi; have HB1 : Hid (Below w.heap.size w w1) := hb; clear hi hb)
    | (go_at_call 7; (with_reducible refine (check_any _ ns _ HI1.out HM.out _ HS.out).mono ?_); rintro e w2 ⟨rfl, hb⟩; have HB2 : Hid (Below w1.heap.size w1 w2) := hb; have HB3 : Hid (Below w.heap.size w w2) := HB1.out.trans (hb.mono HB1.out.size); clear hb)
    | (go_at_call 8; (with_reducible refine (fault_any _ ns _ (HI.out.later HB3.out (Nat.le_refl _)) HM.out).mono ?_); rw [HS.out]; rintro e w3 ⟨rfl, hb⟩; have HB4 : Hid (Below w2.heap.size w2 w3) := hb; have HB5 : Hid (Below w1.heap.size w1 w3) := HB2.out.trans (hb.mono HB2.out.size); have HB6 : Hid (Below w.heap.size w w3) := HB3.out.trans (hb.mono HB3.out.size); clear hb)
    | (go_at_call 9; (with_reducible refine (same_any _ _ ns _ (HI1.out.later HB5.out (Nat.le_refl _)) (HI.out.later HB6.out (Nat.le_refl _)) HM.out).mono ?_); rintro e w4 ⟨rfl, hb4⟩))
  go_ret
  exact ⟨rfl, HB6.out.trans (hb4.mono HB6.out.size)⟩

set_option maxRecDepth 100000 in
theorem lifted (os : Os) (started : os.Started) (H : Type) (enc : TypeId × Value → H) :
    ReturnsInHanded {} Try.checked os 3 .any (Rows.namesChecksSpec.pre6 enc Try.prog Try.f3 Rows.namesChecksRow.domain false) (Rows.namesChecksSpec.post enc Try.prog Try.f3 false true false false) := by
  refine returnsInHanded_of_change_sized (C := Try.checked) own started (by kernel_rfl) Try.func3
    (ChangeSpec.witness6 (enc := enc) (C := Try.checked) false ⟨#[], #[.slice none 0 0], []⟩ 8 (by kernel_rfl) (by kernel_rfl) (by kernel_rfl) (by kernel_rfl)) ?_
  intro W base args ds gs before hval0 hW hcnd hsz0 _
  have hsz : (DataW.weightsEach Try.prog (Try.f3.params.toList ++ Rows.namesChecksSpec.plain.varTypes Try.prog) (ds ++ gs)).all (· ≤ reachBytes) = true := hsz0
  have hval : ∀ (j : Nat) t v, Try.f3.params[j]? = some t → args[j]? = some v → Value.okWide Try.prog W .any base t v := hval0
  clear hval0 hsz0
  have hW' := hW
  obtain ⟨p, q, hA0, hV, rfl, hfz, hnd⟩ := hW
  have hA : DataW.TrodAll enc Try.prog W 0 (fun _ => true) true Try.f3.params.toList args.toList ds p := hA0
  rw [Try.params3] at hA hval hsz
  obtain ⟨v0, vs0, d0, ds0, p0, q0, hargs, rfl, rfl, h0, r0⟩ := trodAll_cons hA
  obtain ⟨rfl, rfl, rfl⟩ := trodAll_nil r0
  obtain rfl : args = #[v0] := by cases args; simp_all
  obtain ⟨rfl, rfl⟩ := trodVars_none hV
  have k0 := h0
  have lt0 : ∀ x ∈ p0, x.block < W.heap.size := by obtain ⟨m, hm⟩ := k0; exact DataW.trod_lt m _ _ _ hm
  obtain ⟨z0, w0⟩ : ∃ ns : List Nm, Nms W v0 ns ∧ ns.length * 24 ≤ 140737488351232 ∧ ∀ p ∈ ns, p.1.size ≤ maxLen ∧ (Lit.int .i64 p.2).wf = true := by
    obtain ⟨al0, ll0, cl0, rfl⟩ := okWide_slice Try.underlying22 (hval 0 22 v0 rfl rfl)
    obtain ⟨fuel, hf⟩ := h0
    obtain ⟨ns, hn, hwf, hx⟩ := open_names (v := .slice al0 ll0 cl0) hf
    refine ⟨ns, hn, ?_, hwf⟩
    rcases hx with ⟨rfl, _⟩ | ⟨xs, ys, hd, hl⟩
    · simp
    · have hsw := sized_slice hsz (j := 0) (t := 22) (e := 39) rfl (congrArg some hd) Try.underlying22
      have hby : Try.prog.bytesOf 39 = 24 := by kernel_rfl
      rw [hby] at hsw
      simp only [reachBytes] at hsw
      omega
  refine (walk v0 z0 W w0).mono fun e W' ⟨he, bel⟩ => ?_
  subst he
  exact ⟨_, rfl, _, _, _, [], _, [], hW', trodAll_mk1 (shut_bool Try.underlying4 _), (trodAll_cons_mk (Below.trod laidOut (by kernel_rfl) (of_decide_eq_true (by kernel_rfl)) k0 bel lt0) trodAll_mk0), rfl, bel.frame _, fun h => by cases h⟩
end Go.Proofs.Ytljpbkkofalinaa.namesChecks
namespace Go.Proofs.Ytljpbkkofalinaa
theorem namesChecks_holds : Rows.NamesChecksSaid :=
  OpenClaim.holds_of_wide 3 Try.f3 rfl rfl rfl rfl rfl rfl rfl ⟨rfl, rfl, rfl, rfl, rfl⟩ rfl rfl rfl rfl rfl (by kernel_rfl) Try.func3 (by kernel_rfl)
    (of_decide_eq_true (by kernel_rfl)) (by unfold Func.isWrapper; first | (rw [if_pos (by decide +kernel)]; kernel_rfl) | (rw [if_neg (by decide +kernel)]; exact ⟨rfl, rfl⟩))
    (fun os started H enc _ => namesChecks.lifted os started H enc)
#print axioms namesChecks_holds
end Go.Proofs.Ytljpbkkofalinaa
