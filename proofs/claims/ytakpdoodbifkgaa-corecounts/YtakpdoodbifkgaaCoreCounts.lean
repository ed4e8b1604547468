/- The statement CoreCounts: whatever machine is given, the program's Count and the document's answer agree, for every input and without any condition. -/
import Derived.Test.YtakpdoodbifkgaaMcO
import Derived.Test.YtakpdoodbifkgaaMcC
import Derived.Test.YtakpdoodbifkgaaMcM
import Derived.Laws.StructEq
import Derived.Lib.SmallJoins
import Derived.ChangeOld
import Derived.Below
namespace Go.Proofs.Ytakpdoodbifkgaa.coreCounts
open Go.ChangeShapes Go.WideShapes Go.ChangeAt Go.RowKit
open Go.Proofs.Ytakpdoodbifkgaa.Pl Go.Proofs.Ytakpdoodbifkgaa.Wt
set_option linter.unusedVariables false

theorem own : ownKnob Try.prog.godebug = none := by kernel_rfl
theorem laidOut : laidOutB Try.prog = true := by kernel_rfl
theorem some_counts (m : Mc) (r : Int) : ∃ c0 c1 c2 : Int, if r = 0 then c0 = m.2.length ∧ c1 = arcN m.2 ∧ c2 = finN m.2 else c0 = 0 ∧ c1 = 0 ∧ c2 = 0 := by
  by_cases h : r = 0
  · exact ⟨_, _, _, by rw [if_pos h]; exact ⟨rfl, rfl, rfl⟩⟩
  · exact ⟨_, _, _, by rw [if_neg h]; exact ⟨rfl, rfl, rfl⟩⟩
theorem walk (v : Value) (m : Mc) (w : World) (h : Mach w v m ∧ okM m ∧ (Lit.int .i64 m.1).wf = true ∧ ∀ s ∈ m.2, (Lit.int .i64 s.1).wf = true ∧ ∀ a ∈ s.2, wfA a) :
    Calls Try.prog 4 #[v] w fun e w' => e = .returned (.bool true) ∧ Below w.heap.size w w' := by
  obtain ⟨h, hok, _⟩ := h
  have HI : Hid (Mach w v m) := h
  have HK : Hid (okM m) := hok
  generalize hs : faultM m = s
  have HS : Hid (faultM m = s) := hs
  obtain ⟨c0, c1, c2, hcs⟩ := some_counts m s
  have HC : Hid (if s = 0 then c0 = m.2.length ∧ c1 = arcN m.2 ∧ c2 = finN m.2 else c0 = 0 ∧ c1 = 0 ∧ c2 = 0) := hcs
  obtain ⟨vs, rfl, hS⟩ := h
  obtain ⟨a, cap, rfl⟩ := hS.sl
  clear hs hS hok hcs
  have HB0 : Hid (Below w.heap.size w (w.alloc (.cells #[.int .i64 m.1, .slice a m.2.length cap] 24))) := (Below.refl _ _).alloc (Nat.le_refl _) _
  go_enter Try.func4, Try.ntmps4
  go_wp2_with (first
    | (go_at_call 7; (with_reducible refine (machine_any _ m _ (HI.out.later HB0.out (Nat.le_refl _)) HK.out).mono ?_); rintro e w1 ⟨v1, rfl, hi, hb⟩; have HI1 : Hid (Mach w1 v1 m) := hi; obtain ⟨vs1, rfl, hS1⟩ := hi; obtain ⟨a1, cap1, rfl⟩ := hS1.sl; clear hS1; obtain ⟨s1, b1, hb1⟩ := boxed hb (by simp); have x0 := b1.cell 0 (v := .int .i64 m.1) rfl; have x1 := b1.cell 1 (v := .slice a m.2.length cap) rfl; have HB1 : Hid (Below w.heap.size w w1) := hb1; clear b1 hb1 hb)
    | (go_at_call 11; (with_reducible refine (count_any _ m _ HI1.out HK.out _ _ _ _ HS.out HC.out).mono ?_); rintro e w2 ⟨rfl, hb⟩; have y0 := low x0 hb; have y1 := low x1 hb; have y2 : w.heap.size < w2.heap.size := World.block_lt_of_cell? _ _ y0; have HB2 : Hid (Below w.heap.size w w2) := HB1.out.trans (hb.mono HB1.out.size); clear hb)
    | (go_at_call 12; (with_reducible refine (counted_any _ m _ (HI.out.later (HB2.out.alloc HB2.out.size _) (Nat.le_refl _)) HK.out _ _ _ _ HS.out HC.out).mono ?_); rintro e w3 ⟨rfl, hb⟩; obtain ⟨s3, b3, hb3⟩ := boxed hb (by simp); have z0 := b3.cell 0 (v := .int .i64 c0) rfl; have z1 := b3.cell 1 (v := .int .i64 c1) rfl; have z2 := b3.cell 2 (v := .int .i64 c2) rfl; have z3 : w2.heap.size < w3.heap.size := World.block_lt_of_cell? _ _ z0; have HB3 : Hid (Below w.heap.size w w3) := HB2.out.trans (hb3.mono HB2.out.size); clear b3 hb3 hb))
  go_ret
  exact ⟨rfl, by (have h := HB3.out); go_grown⟩

set_option maxRecDepth 100000 in
theorem lifted (os : Os) (started : os.Started) (H : Type) (enc : TypeId × Value → H) :
    ReturnsInHanded {} Try.checked os 4 .any (Rows.coreCountsSpec.pre6 enc Try.prog Try.f4 Rows.coreCountsRow.domain false) (Rows.coreCountsSpec.post enc Try.prog Try.f4 false true false false) := by
  refine returnsInHanded_of_change_sized (C := Try.checked) own started (by kernel_rfl) Try.func4
    (ChangeSpec.witness6 (enc := enc) (C := Try.checked) false ⟨#[], #[.agg #[.int .i64 0, .slice none 0 0]], []⟩ 8 (by kernel_rfl) (by kernel_rfl) (by kernel_rfl) (by kernel_rfl)) ?_
  intro W base args ds gs before hval0 hW hcnd hsz0 _
  have hsz : (DataW.weightsEach Try.prog (Try.f4.params.toList ++ Rows.coreCountsSpec.plain.varTypes Try.prog) (ds ++ gs)).all (· ≤ reachBytes) = true := hsz0
  have hval : ∀ (j : Nat) t v, Try.f4.params[j]? = some t → args[j]? = some v → Value.okWide Try.prog W .any base t v := hval0
  clear hval0 hsz0
  have hW' := hW
  obtain ⟨p, q, hA0, hV, rfl, hfz, hnd⟩ := hW
  have hA : DataW.TrodAll enc Try.prog W 0 (fun _ => true) true Try.f4.params.toList args.toList ds p := hA0
  rw [Try.params4] at hA hval hsz
  obtain ⟨v0, vs0, d0, ds0, p0, q0, hargs, rfl, rfl, h0, r0⟩ := trodAll_cons hA
  obtain ⟨rfl, rfl, rfl⟩ := trodAll_nil r0
  obtain rfl : args = #[v0] := by cases args; simp_all
  obtain ⟨rfl, rfl⟩ := trodVars_none hV
  have k0 := h0
  have lt0 : ∀ x ∈ p0, x.block < W.heap.size := by obtain ⟨m, hm⟩ := k0; exact DataW.trod_lt m _ _ _ hm
  obtain ⟨z0, w0⟩ : ∃ m : Mc, Mach W v0 m ∧ okM m ∧ (Lit.int .i64 m.1).wf = true ∧ ∀ s ∈ m.2, (Lit.int .i64 s.1).wf = true ∧ ∀ a ∈ s.2, wfA a := by
    obtain ⟨c0, c1, y0, y1, n, rfl, hd, hp, t0, t1⟩ := Go.Joins.open_agg2 Try.underlying24 (by kernel_rfl) (by kernel_rfl) (hval 0 24 v0 rfl rfl) h0
    subst hd
    exact open_machine t0 t1 ((Fits.arg hsz (j := 0) rfl rfl).field Try.underlying24 (f := 1) rfl rfl)
  refine (walk v0 z0 W w0).mono fun e W' ⟨he, bel⟩ => ?_
  subst he
  exact ⟨_, rfl, _, _, _, [], _, [], hW', trodAll_mk1 (shut_bool Try.underlying4 _), (trodAll_cons_mk (Below.trod laidOut (by kernel_rfl) (of_decide_eq_true (by kernel_rfl)) k0 bel lt0) trodAll_mk0), rfl, bel.frame _, fun h => by cases h⟩
end Go.Proofs.Ytakpdoodbifkgaa.coreCounts
namespace Go.Proofs.Ytakpdoodbifkgaa
theorem coreCounts_holds : Rows.CoreCountsSaid :=
  OpenClaim.holds_of_wide 4 Try.f4 rfl rfl rfl rfl rfl rfl rfl ⟨rfl, rfl, rfl, rfl, rfl⟩ rfl rfl rfl rfl rfl (by kernel_rfl) Try.func4 (by kernel_rfl)
    (of_decide_eq_true (by kernel_rfl)) (by unfold Func.isWrapper; first | (rw [if_pos (by decide +kernel)]; kernel_rfl) | (rw [if_neg (by decide +kernel)]; exact ⟨rfl, rfl⟩))
    (fun os started H enc _ => coreCounts.lifted os started H enc)
#print axioms coreCounts_holds
end Go.Proofs.Ytakpdoodbifkgaa
