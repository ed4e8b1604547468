/- The statement BestCosts: whatever machine and number are given, the program's Costs and the document's answer agree and the machine is not changed, for every input and without any condition. -/
import Derived.Test.YtobhjhjfannnnaaUaa
import Derived.Test.YtobhjhjfannnnaaUab
import Derived.Test.YtobhjhjfannnnaaUac
import Derived.Test.YtobhjhjfannnnaaUaB
import Derived.Test.YtobhjhjfannnnaaUaC
import Derived.Test.YtobhjhjfannnnaaUaz
import Derived.Lib.SmallJoins
import Derived.ChangeOld
import Derived.Below
namespace Go.Proofs.Ytobhjhjfannnnaa.bestCosts
open Go.ChangeShapes Go.WideShapes Go.ChangeAt Go.RowKit
open Go.Proofs.Ytobhjhjfannnnaa.Pl Go.Proofs.Ytobhjhjfannnnaa.Wt
set_option linter.unusedVariables false
theorem costAns_short {m : Mc} {n : Int} {L : List Int} {e : Int} (h : CostAns m n L e) : L.length ≤ 20 := by
 rcases h with ⟨_, rfl, _⟩ | ⟨_, _, rfl, _⟩ | ⟨_, h0, h1, vs, ec, _, ⟨_, rfl, _⟩ | ⟨_, _, rfl, _⟩ | ⟨_, _, R, hC, ⟨_, rfl, _⟩ | ⟨_, rfl, _⟩⟩⟩
 all_goals first
  | (have := hC.len; omega)
  | simp
theorem own : ownKnob Try.prog.godebug = none := by kernel_rfl
theorem laidOut : laidOutB Try.prog = true := by kernel_rfl
theorem walk (v : Value) (m : Mc) (n : Int) (w : World) (h : Mach w v m ∧ okM m ∧ (Lit.int .i64 m.1).wf = true ∧ ∀ s ∈ m.2, (Lit.int .i64 s.1).wf = true ∧ ∀ a ∈ s.2, wfA a) (hw : (Lit.int .i64 n).wf = true) :
  Calls Try.prog 4 #[v, .int .i64 n] w fun e w' => e = .returned (.bool true) ∧ Below w.heap.size w w' := by
 obtain ⟨h, hok, _⟩ := h
 have HI : Hid (Mach w v m) := h
 have HK : Hid (okM m) := hok
 have hn32 : m.2.length * 32 ≤ 140737488351232 := hok.1
 obtain ⟨vs, rfl, hS⟩ := h
 obtain ⟨a, cap, rfl⟩ := hS.sl
 clear hS hok
 have HB0 : Hid (Below w.heap.size w (w.alloc (.cells #[.int .i64 m.1, .slice a m.2.length cap] 24))) := (Below.refl _ _).alloc (Nat.le_refl _) _
 go_enter Try.func4, Try.ntmps4
 go_wp2_with (first
  | (go_at_call 9; (with_reducible refine (machine_any _ m _ (HI.out.later HB0.out (Nat.le_refl _)) HK.out).mono ?_); rintro e w1 ⟨v1, rfl, hi, hb⟩; have HI1 : Hid (Mach w1 v1 m) := hi; obtain ⟨vs1, rfl, hS1⟩ := hi; obtain ⟨a1, cap1, rfl⟩ := hS1.sl; clear hS1; obtain ⟨s1, b1, hb1⟩ := boxed hb (by simp); have c0 := b1.cell 0 (v := .int .i64 m.1) rfl; have c1 := b1.cell 1 (v := .slice a m.2.length cap) rfl; have HB1 : Hid (Below w.heap.size w w1) := hb1; clear b1 hb1 hb)
  | (go_at_call 14; (with_reducible refine (Bw.costP_any _ m n _ (HI1.out.later (B := w1.heap.size) (by go_grown) (Nat.le_refl _)) HK.out).mono ?_); rintro e w2 ⟨v2, out, ec2, rfl, han2, hbs2, hb⟩; have HA2 : Hid (CostAns m n out ec2) := han2; have HS2 : Hid (Nums w2 v2 out) := hbs2; obtain ⟨s2, b2, hb2⟩ := boxed hb (by simp); have d0 := b2.cell 0 (v := .int .i64 m.1) rfl; have d1 := b2.cell 1 (v := .slice a1 m.2.length cap1) rfl; have d2 := low c0 hb2; have d3 := low c1 hb2; have HB2 : Hid (Below w1.heap.size w1 w2) := hb2; have HB2' : Hid (Below w.heap.size w w2) := HB1.out.trans (hb2.mono HB1.out.size); clear b2 hb2 hb han2 hbs2)
  | (go_at_call 15; (with_reducible refine (costsR_any _ m n _ (HI.out.later HB2'.out (Nat.le_refl _)) HK.out).mono ?_); rintro e w3 ⟨v3, out3, ec3, rfl, han3, hbs3, hb⟩; have hE := han3.one HA2.out; have hec : ec3 = ec2 := hE.2; rw [hE.1] at hbs3; subst hec; have HS3 : Hid (Nums w3 v3 out) := hbs3; have HS2' : Hid (Nums w3 v2 out) := HS2.out.later hb (Nat.le_refl _); have HLN : Hid (out.length ≤ 4398046511104) := (by have h9 := costAns_short HA2.out; show _ ≤ _; omega); have e0 := low d0 hb; have e1 := low d1 hb; have e2 := low d2 hb; have e3 := low d3 hb; have HB3 : Hid (Below w1.heap.size w1 w3) := HB2.out.trans (hb.mono HB2.out.size); have HB3' : Hid (Below w.heap.size w w3) := HB2'.out.trans (hb.mono HB2'.out.size); clear hb han3 hbs3 hE)
  | (go_at_call 12; (with_reducible refine (sameNums_any _ _ out _ HS2'.out HS3.out (Nat.le_trans HLN.out (by omega))).mono ?_); rintro e w4 ⟨rfl, hb4⟩; have f0 := low e0 hb4; have f1 := low e1 hb4; have f2 := low e2 hb4; have f3 := low e3 hb4; have HB4 : Hid (Below w1.heap.size w1 w4) := HB3.out.trans (hb4.mono HB3.out.size); have HB4' : Hid (Below w.heap.size w w4) := HB3'.out.trans (hb4.mono HB3'.out.size); clear hb4)
  | (go_at_call 13; (with_reducible refine (sameMachine_any _ _ m _ (HI1.out.later HB4.out (Nat.le_refl _)) (HI.out.later HB4'.out (Nat.le_refl _)) HK.out).mono ?_); rintro e w5 ⟨rfl, hb5⟩; have HB5 : Hid (Below w.heap.size w w5) := HB4'.out.trans (hb5.mono HB4'.out.size); clear hb5))
 go_ret
 exact ⟨rfl, HB5.out⟩
set_option maxRecDepth 100000 in
theorem lifted (os : Os) (started : os.Started) (H : Type) (enc : TypeId × Value → H) :
  ReturnsInHanded {} Try.checked os 4 .any (Rows.bestCostsSpec.pre6 enc Try.prog Try.f4 Rows.bestCostsRow.domain false) (Rows.bestCostsSpec.post enc Try.prog Try.f4 false true false false) := by
 refine returnsInHanded_of_change_sized (C := Try.checked) own started (by kernel_rfl) Try.func4
  (ChangeSpec.witness6 (enc := enc) (C := Try.checked) false ⟨#[], #[.agg #[.int .i64 0, .slice none 0 0], .int .i64 0], []⟩ 8 (by kernel_rfl) (by kernel_rfl) (by kernel_rfl) (by kernel_rfl)) ?_
 intro W base args ds gs before hval0 hW hcnd hsz0 _
 have hsz : (DataW.weightsEach Try.prog (Try.f4.params.toList ++ Rows.bestCostsSpec.plain.varTypes Try.prog) (ds ++ gs)).all (· ≤ reachBytes) = true := hsz0
 have hval : ∀ (j : Nat) t v, Try.f4.params[j]? = some t → args[j]? = some v → Value.okWide Try.prog W .any base t v := hval0
 clear hval0 hsz0
 have hW' := hW
 obtain ⟨p, q, hA0, hV, rfl, hfz, hnd⟩ := hW
 have hA : DataW.TrodAll enc Try.prog W 0 (fun _ => true) true Try.f4.params.toList args.toList ds p := hA0
 rw [Try.params4] at hA hval hsz
 obtain ⟨v0, vs0, d0, ds0, p0, q0, hargs, rfl, rfl, h0, r0⟩ := trodAll_cons hA
 obtain ⟨v1, vs1, d1, ds1, p1, q1, rfl, rfl, rfl, h1, r1⟩ := trodAll_cons r0
 obtain ⟨rfl, rfl, rfl⟩ := trodAll_nil r1
 obtain rfl : args = #[v0, v1] := by cases args; simp_all
 obtain ⟨rfl, rfl⟩ := trodVars_none hV
 have k0 := h0
 have lt0 : ∀ x ∈ p0, x.block < W.heap.size := by obtain ⟨m, hm⟩ := k0; exact DataW.trod_lt m _ _ _ hm
 obtain ⟨z0, w0⟩ : ∃ m : Mc, Mach W v0 m ∧ okM m ∧ (Lit.int .i64 m.1).wf = true ∧ ∀ s ∈ m.2, (Lit.int .i64 s.1).wf = true ∧ ∀ a ∈ s.2, wfA a := by
  obtain ⟨c0, c1, y0, y1, n, rfl, hd, hp, t0, t1⟩ := Go.Joins.open_agg2 Try.underlying24 (by kernel_rfl) (by kernel_rfl) (hval 0 24 v0 rfl rfl) h0
  subst hd
  exact open_machine t0 t1 ((Fits.arg hsz (j := 0) rfl rfl).field Try.underlying24 (f := 1) rfl rfl)
 obtain ⟨a1, rfl, rfl, rfl, w1⟩ := open_int Try.underlying3 (hval 1 3 v1 rfl rfl) h1
 refine (walk v0 z0 a1 W w0 w1).mono fun e W' ⟨he, bel⟩ => ?_
 subst he
 exact ⟨_, rfl, _, _, _, [], _, [], hW', trodAll_mk1 (shut_bool Try.underlying4 _), (trodAll_cons_mk (Below.trod laidOut (by kernel_rfl) (of_decide_eq_true (by kernel_rfl)) k0 bel lt0) (trodAll_cons_mk (shut_int Try.underlying3 w1) trodAll_mk0)), rfl, bel.frame _, fun h => by cases h⟩
end Go.Proofs.Ytobhjhjfannnnaa.bestCosts
namespace Go.Proofs.Ytobhjhjfannnnaa
theorem bestCosts_holds : Rows.BestCostsSaid :=
 OpenClaim.holds_of_wide 4 Try.f4 rfl rfl rfl rfl rfl rfl rfl ⟨rfl, rfl, rfl, rfl, rfl⟩ rfl rfl rfl rfl rfl (by kernel_rfl) Try.func4 (by kernel_rfl)
  (of_decide_eq_true (by kernel_rfl)) (by unfold Func.isWrapper; first | (rw [if_pos (by decide +kernel)]; kernel_rfl) | (rw [if_neg (by decide +kernel)]; exact ⟨rfl, rfl⟩))
  (fun os started H enc _ => bestCosts.lifted os started H enc)
#print axioms bestCosts_holds
end Go.Proofs.Ytobhjhjfannnnaa
