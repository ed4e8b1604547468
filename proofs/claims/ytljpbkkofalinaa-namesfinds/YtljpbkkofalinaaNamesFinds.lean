/- The statement NamesFinds: whatever table and text are given, the program's Find and the document's answer agree and the table is not changed, for every input and without any condition. -/
import Derived.Test.YtljpbkkofalinaaNmO
import Derived.Test.YtljpbkkofalinaaNmL
import Derived.Test.YtljpbkkofalinaaFd
import Derived.Test.YtljpbkkofalinaaFdR
import Derived.ShutString
import Derived.ChangeOld
import Derived.ChangeMaps5
import Derived.Below
namespace Go.Proofs.Ytljpbkkofalinaa.namesFinds
open Go.ChangeShapes Go.WideShapes Go.ChangeAt Go.RowKit Go.ChangeMaps
open Go.Proofs.Ytljpbkkofalinaa.Pl Go.Proofs.Ytljpbkkofalinaa.Wt
set_option linter.unusedVariables false

theorem own : ownKnob Try.prog.godebug = none := by kernel_rfl
theorem laidOut : laidOutB Try.prog = true := by kernel_rfl
theorem core (v : Value) (ns : List Nm) (s : ByteArray) (w : World) (h : Nms w v ns) (hr : ns.length * 24 ≤ 140737488351232) (x : Int) (y : Int)
    (hp : ∀ v' w', Nms w' v' ns → Calls Try.prog 10 #[v', .string s] w' fun e w2 => e = .returned (.tuple #[.int .i64 x, .int .i64 y]) ∧ Below w'.heap.size w' w2)
    (hq : ∀ v' w', Nms w' v' ns → Calls Try.prog 11 #[v', .string s] w' fun e w2 => e = .returned (.tuple #[.int .i64 x, .int .i64 y]) ∧ Below w'.heap.size w' w2) :
    Calls Try.prog 4 #[v, .string s] w fun e w' => e = .returned (.bool true) ∧ Below w.heap.size w w' := by
  have HI : Hid (Nms w v ns) := h
  have HM : Hid (ns.length ≤ maxLen) := by show _ ≤ _; unfold maxLen; omega
  have HR : Hid (ns.length * 24 ≤ 140737488351232) := hr
  have HP : Hid (∀ v' w', Nms w' v' ns → Calls Try.prog 10 #[v', .string s] w' fun e w2 => e = .returned (.tuple #[.int .i64 x, .int .i64 y]) ∧ Below w'.heap.size w' w2) := hp
  have HQ : Hid (∀ v' w', Nms w' v' ns → Calls Try.prog 11 #[v', .string s] w' fun e w2 => e = .returned (.tuple #[.int .i64 x, .int .i64 y]) ∧ Below w'.heap.size w' w2) := hq
  clear h hr hp hq
  go_enter Try.func4, Try.ntmps4
  go_wp2_with (first
    | (go_at_call 6; (with_reducible refine (clone_any _ ns _ HI.out HR.out).mono ?_); rintro e w1 ⟨v1, rfl, hi, hb⟩; have HI1 : Hid (Nms w1 v1 ns) := hi; have HB1 : Hid (Below w.heap.size w w1) := hb; clear hi hb)
    | (go_at_call 10; (with_reducible refine (HP.out _ _ HI1.out).mono ?_); rintro e w2 ⟨rfl, hb⟩; have HB2 : Hid (Below w1.heap.size w1 w2) := hb; have HB3 : Hid (Below w.heap.size w w2) := HB1.out.trans (hb.mono HB1.out.size); clear hb)
    | (go_at_call 11; (with_reducible refine (HQ.out _ _ (HI.out.later HB3.out (Nat.le_refl _))).mono ?_); rintro e w3 ⟨rfl, hb⟩; have HB4 : Hid (Below w2.heap.size w2 w3) := hb; have HB5 : Hid (Below w1.heap.size w1 w3) := HB2.out.trans (hb.mono HB2.out.size); have HB6 : Hid (Below w.heap.size w w3) := HB3.out.trans (hb.mono HB3.out.size); clear hb)
    | (go_at_call 9; (with_reducible refine (same_any _ _ ns _ (HI1.out.later HB5.out (Nat.le_refl _)) (HI.out.later HB6.out (Nat.le_refl _)) HM.out).mono ?_); rintro e w4 ⟨rfl, hb4⟩))
  go_ret
  exact ⟨rfl, HB6.out.trans (hb4.mono HB6.out.size)⟩
theorem walk (v : Value) (ns : List Nm) (s : ByteArray) (w : World) (h : Nms w v ns ∧ ns.length * 24 ≤ 140737488351232 ∧ ∀ p ∈ ns, p.1.size ≤ maxLen ∧ (Lit.int .i64 p.2).wf = true) (hs : s.size ≤ maxLen) :
    Calls Try.prog 4 #[v, .string s] w fun e w' => e = .returned (.bool true) ∧ Below w.heap.size w w' := by
  obtain ⟨h, hr, _⟩ := h
  have hm : ns.length ≤ maxLen := by unfold maxLen; omega
  by_cases h0 : faultR ns = 0
  · by_cases hj : ∃ j, textAt ns s j
    · obtain ⟨j, hj⟩ := hj
      exact core v ns s w h hr (nm ns j).2 0 (fun v' w' hn => find_hit v' ns s w' hn hm hs h0 j hj _ rfl) (fun v' w' hn => found_hit v' ns s w' hn hm h0 j hj _ rfl)
    · exact core v ns s w h hr 0 12 (fun v' w' hn => find_miss v' ns s w' hn hm hs h0 (fun j k => hj ⟨j, k⟩)) (fun v' w' hn => found_miss v' ns s w' hn hm h0 (fun j k => hj ⟨j, k⟩))
  · exact core v ns s w h hr 0 (faultR ns) (fun v' w' hn => find_bad v' ns s w' hn hm _ rfl h0) (fun v' w' hn => found_bad v' ns s w' hn hm _ rfl h0)

set_option maxRecDepth 100000 in
theorem lifted (os : Os) (started : os.Started) (H : Type) (enc : TypeId × Value → H) :
    ReturnsInHanded {} Try.checked os 4 .any (Rows.namesFindsSpec.pre6 enc Try.prog Try.f4 Rows.namesFindsRow.domain false) (Rows.namesFindsSpec.post enc Try.prog Try.f4 false true false false) := by
  refine returnsInHanded_of_change_sized (C := Try.checked) own started (by kernel_rfl) Try.func4
    (ChangeSpec.witness6 (enc := enc) (C := Try.checked) false ⟨#[], #[.slice none 0 0, .string ByteArray.empty], []⟩ 8 (by kernel_rfl) (by kernel_rfl) (by kernel_rfl) (by kernel_rfl)) ?_
  intro W base args ds gs before hval0 hW hcnd hsz0 _
  have hsz : (DataW.weightsEach Try.prog (Try.f4.params.toList ++ Rows.namesFindsSpec.plain.varTypes Try.prog) (ds ++ gs)).all (· ≤ reachBytes) = true := hsz0
  have hval : ∀ (j : Nat) t v, Try.f4.params[j]? = some t → args[j]? = some v → Value.okWide Try.prog W .any base t v := hval0
  clear hval0 hsz0
  have hW' := hW
  obtain ⟨p, q, hA0, hV, rfl, hfz, hnd⟩ := hW
  have hA : DataW.TrodAll enc Try.prog W 0 (fun _ => true) true Try.f4.params.toList args.toList ds p := hA0
  rw [Try.params4] at hA hval hsz
  obtain ⟨v0, vs0, d0, ds0, p0, q0, hargs, rfl, rfl, h0, r0⟩ := trodAll_cons hA
  obtain ⟨v1, vs1, d1, ds1, p1, q1, rfl, rfl, rfl, h1, r1⟩ := trodAll_cons r0
  obtain ⟨rfl, rfl, rfl⟩ := trodAll_nil r1
  obtain rfl : args = #[v0, v1] := by cases args; simp_all
  obtain ⟨rfl, rfl⟩ := trodVars_none hV
  have k0 := h0
  have lt0 : ∀ x ∈ p0, x.block < W.heap.size := by obtain ⟨m, hm⟩ := k0; exact DataW.trod_lt m _ _ _ hm
  obtain ⟨z0, w0⟩ : ∃ ns : List Nm, Nms W v0 ns ∧ ns.length * 24 ≤ 140737488351232 ∧ ∀ p ∈ ns, p.1.size ≤ maxLen ∧ (Lit.int .i64 p.2).wf = true := by
    obtain ⟨al0, ll0, cl0, rfl⟩ := okWide_slice Try.underlying22 (hval 0 22 v0 rfl rfl)
    obtain ⟨fuel, hf⟩ := h0
    obtain ⟨ns, hn, hwf, hx⟩ := open_names (v := .slice al0 ll0 cl0) hf
    refine ⟨ns, hn, ?_, hwf⟩
    rcases hx with ⟨rfl, _⟩ | ⟨xs, ys, hd, hl⟩
    · simp
    · have hsw := sized_slice hsz (j := 0) (t := 22) (e := 39) rfl (congrArg some hd) Try.underlying22
      have hby : Try.prog.bytesOf 39 = 24 := by kernel_rfl
      rw [hby] at hsw
      simp only [reachBytes] at hsw
      omega
  obtain ⟨a1, rfl, rfl, rfl, w1⟩ := open_string Try.underlying9 (hval 1 9 v1 rfl rfl) h1
  refine (walk v0 z0 a1 W w0 w1).mono fun e W' ⟨he, bel⟩ => ?_
  subst he
  exact ⟨_, rfl, _, _, _, [], _, [], hW', trodAll_mk1 (shut_bool Try.underlying4 _), (trodAll_cons_mk (Below.trod laidOut (by kernel_rfl) (of_decide_eq_true (by kernel_rfl)) k0 bel lt0) (trodAll_cons_mk (shut_string Try.underlying9 w1) trodAll_mk0)), rfl, bel.frame _, fun h => by cases h⟩
end Go.Proofs.Ytljpbkkofalinaa.namesFinds
namespace Go.Proofs.Ytljpbkkofalinaa
theorem namesFinds_holds : Rows.NamesFindsSaid :=
  OpenClaim.holds_of_wide 4 Try.f4 rfl rfl rfl rfl rfl rfl rfl ⟨rfl, rfl, rfl, rfl, rfl⟩ rfl rfl rfl rfl rfl (by kernel_rfl) Try.func4 (by kernel_rfl)
    (of_decide_eq_true (by kernel_rfl)) (by unfold Func.isWrapper; first | (rw [if_pos (by decide +kernel)]; kernel_rfl) | (rw [if_neg (by decide +kernel)]; exact ⟨rfl, rfl⟩))
    (fun os started H enc _ => namesFinds.lifted os started H enc)
#print axioms namesFinds_holds
end Go.Proofs.Ytljpbkkofalinaa
