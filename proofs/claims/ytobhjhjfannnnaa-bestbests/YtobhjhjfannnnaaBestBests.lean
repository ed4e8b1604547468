/- The statement BestBests: whatever machine is given, the program's Best and the document's answer agree and the machine is not changed, for every input and without any condition. -/
import Derived.Test.YtobhjhjfannnnaaUaa
import Derived.Test.YtobhjhjfannnnaaUab
import Derived.Test.YtobhjhjfannnnaaUac
import Derived.Test.YtobhjhjfannnnaaUav
import Derived.Test.YtobhjhjfannnnaaUaz
import Derived.Lib.SmallJoins
import Derived.ChangeOld
import Derived.Below
namespace Go.Proofs.Ytobhjhjfannnnaa.bestBests
open Go.ChangeShapes Go.WideShapes Go.ChangeAt Go.RowKit
open Go.Proofs.Ytobhjhjfannnnaa.Pl Go.Proofs.Ytobhjhjfannnnaa.Wt
set_option linter.unusedVariables false
theorem bestAns_short {m : Mc} {wt : Int} {L : List Nat} {e : Int} (h : BestAns m wt L e) : L.length ≤ m.2.length + 1 := by
 obtain ⟨vs, ec, hd, ⟨_, _, rfl, _⟩ | ⟨_, _, _, rfl, _⟩ | ⟨rfl, hz, hne, _, _, k, hk, hB⟩⟩ := h
 ·simp
 ·simp
 ·have hf : faultM m = 0 := by
   rcases hd with ⟨h0, _, h1⟩ | ⟨h0, _⟩
   ·exact absurd h1.symm h0
   ·exact h0
  have hR := Bw.RgtM.of hf
  have hi := hR.hi
  have hF := frt_of hf hd
  obtain ⟨k2, hk2, hL2⟩ := len_exists hF hR.rgt.to (fun q hq a ha => (hR.rgt.arc q hq a ha).1) (fun q hq => (hR.rgt.fin q hq).1) (show m.1.toNat < m.2.length by omega) hne
  have := hk.one hL2
  rw [hB.len]
  omega
theorem own : ownKnob Try.prog.godebug = none := by kernel_rfl
theorem laidOut : laidOutB Try.prog = true := by kernel_rfl
theorem walk (v : Value) (m : Mc) (w : World) (h : Mach w v m ∧ okM m ∧ (Lit.int .i64 m.1).wf = true ∧ ∀ s ∈ m.2, (Lit.int .i64 s.1).wf = true ∧ ∀ a ∈ s.2, wfA a) :
  Calls Try.prog 3 #[v] w fun e w' => e = .returned (.bool true) ∧ Below w.heap.size w w' := by
 obtain ⟨h, hok, _⟩ := h
 have HI : Hid (Mach w v m) := h
 have HK : Hid (okM m) := hok
 have hn32 : m.2.length * 32 ≤ 140737488351232 := hok.1
 obtain ⟨vs, rfl, hS⟩ := h
 obtain ⟨a, cap, rfl⟩ := hS.sl
 clear hS hok
 have HB0 : Hid (Below w.heap.size w (w.alloc (.cells #[.int .i64 m.1, .slice a m.2.length cap] 24))) := (Below.refl _ _).alloc (Nat.le_refl _) _
 go_enter Try.func3, Try.ntmps3
 go_wp2_with (first
  | (go_at_call 9; (with_reducible refine (machine_any _ m _ (HI.out.later HB0.out (Nat.le_refl _)) HK.out).mono ?_); rintro e w1 ⟨v1, rfl, hi, hb⟩; have HI1 : Hid (Mach w1 v1 m) := hi; obtain ⟨vs1, rfl, hS1⟩ := hi; obtain ⟨a1, cap1, rfl⟩ := hS1.sl; clear hS1; obtain ⟨s1, b1, hb1⟩ := boxed hb (by simp); have c0 := b1.cell 0 (v := .int .i64 m.1) rfl; have c1 := b1.cell 1 (v := .slice a m.2.length cap) rfl; have HB1 : Hid (Below w.heap.size w w1) := hb1; clear b1 hb1 hb)
  | (go_at_call 10; (with_reducible refine (Bw.bestP_any _ m _ (HI1.out.later (B := w1.heap.size) (by go_grown) (Nat.le_refl _)) HK.out).mono ?_); rintro e w2 ⟨va2, L2, wt2, ec2, rfl, han2, hnu2, hb⟩; have HA2 : Hid (BestAns m wt2 L2 ec2) := han2; have HS2 : Hid (Nums w2 va2 (L2.map fun i : Nat => (i : Int))) := hnu2; obtain ⟨aa2, cap2, hva2⟩ := Row.sl hnu2; rw [List.length_map] at hva2; subst hva2; obtain ⟨s2, b2, hb2⟩ := boxed hb (by simp); have d0 := b2.cell 0 (v := .int .i64 m.1) rfl; have d1 := b2.cell 1 (v := .slice a1 m.2.length cap1) rfl; have d2 := low c0 hb2; have d3 := low c1 hb2; have HB2 : Hid (Below w1.heap.size w1 w2) := hb2; have HB2' : Hid (Below w.heap.size w w2) := HB1.out.trans (hb2.mono HB1.out.size); have z21 : w1.heap.size < w2.heap.size := (by omega); have z20 : w.heap.size < w2.heap.size := (by omega); clear b2 hb2 hb han2 hnu2)
  | (go_at_call 11; (with_reducible refine (bestR_any _ m _ (HI.out.later (HB2'.out.alloc HB2'.out.size _) (Nat.le_refl _)) HK.out).mono ?_); rintro e w3 ⟨va3, L3, wt3, ec3, rfl, han3, hnu3, hb⟩; have hE := han3.one HA2.out; have hwt : wt3 = wt2 := hE.1; have hLL : L3 = L2 := hE.2.1; have hec : ec3 = ec2 := hE.2.2; subst hwt; subst hLL; subst hec; have HS3 : Hid (Nums w3 va3 (L3.map fun i : Nat => (i : Int))) := hnu3; obtain ⟨aa3, cap3, hva3⟩ := Row.sl hnu3; rw [List.length_map] at hva3; subst hva3; have hbq := hb; obtain ⟨s3, b3, hb3⟩ := boxed hb (by simp); have HS2' : Hid (Nums w3 (.slice aa2 L3.length cap2) (L3.map fun i : Nat => (i : Int))) := HS2.out.later hb3 (Nat.le_refl _); have HLN : Hid ((L3.map fun i : Nat => (i : Int)).length ≤ 4398046511104) := (by have h9 := bestAns_short HA2.out; rw [List.length_map]; show _ ≤ _; omega); have g0 := b3.cell 0 (v := .int .i64 wt3) rfl; have g1 := b3.cell 1 (v := .slice aa2 L3.length cap2) rfl; have e0 := low d0 hb3; have e1 := low d1 hb3; have e2 := low d2 hb3; have e3 := low d3 hb3; have HB3 : Hid (Below w1.heap.size w1 w3) := HB2.out.trans (hb3.mono HB2.out.size); have HB3' : Hid (Below w.heap.size w w3) := HB2'.out.trans (hb3.mono HB2'.out.size); have z32 : w2.heap.size < w3.heap.size := (by omega); have z31 : w1.heap.size < w3.heap.size := (by omega); have z30 : w.heap.size < w3.heap.size := (by omega); clear hb b3 hb3 hbq han3 hnu3 hE)
  | (go_at_call 12; (with_reducible refine (sameNums_any _ _ (L3.map fun i : Nat => (i : Int)) _ (HS2'.out.later ((Below.refl _ _).alloc (Nat.le_refl _) _) (Nat.le_refl _)) (HS3.out.later ((Below.refl _ _).alloc (Nat.le_refl _) _) (Nat.le_refl _)) (Nat.le_trans HLN.out (by omega))).mono ?_); rintro e w4 ⟨rfl, hb4⟩; obtain ⟨s4, b4, hb4⟩ := boxed hb4 (by simp); have f0 := low e0 hb4; have f1 := low e1 hb4; have f2 := low e2 hb4; have f3 := low e3 hb4; have HB4 : Hid (Below w1.heap.size w1 w4) := HB3.out.trans (hb4.mono HB3.out.size); have HB4' : Hid (Below w.heap.size w w4) := HB3'.out.trans (hb4.mono HB3'.out.size); clear hb4 b4)
  | (go_at_call 13; (with_reducible refine (sameMachine_any _ _ m _ (HI1.out.later HB4.out (Nat.le_refl _)) (HI.out.later HB4'.out (Nat.le_refl _)) HK.out).mono ?_); rintro e w5 ⟨rfl, hb5⟩; have HB5 : Hid (Below w.heap.size w w5) := HB4'.out.trans (hb5.mono HB4'.out.size); clear hb5))
 go_ret
 exact ⟨rfl, HB5.out⟩
set_option maxRecDepth 100000 in
theorem lifted (os : Os) (started : os.Started) (H : Type) (enc : TypeId × Value → H) :
  ReturnsInHanded {} Try.checked os 3 .any (Rows.bestBestsSpec.pre6 enc Try.prog Try.f3 Rows.bestBestsRow.domain false) (Rows.bestBestsSpec.post enc Try.prog Try.f3 false true false false) := by
 refine returnsInHanded_of_change_sized (C := Try.checked) own started (by kernel_rfl) Try.func3
  (ChangeSpec.witness6 (enc := enc) (C := Try.checked) false ⟨#[], #[.agg #[.int .i64 0, .slice none 0 0]], []⟩ 8 (by kernel_rfl) (by kernel_rfl) (by kernel_rfl) (by kernel_rfl)) ?_
 intro W base args ds gs before hval0 hW hcnd hsz0 _
 have hsz : (DataW.weightsEach Try.prog (Try.f3.params.toList ++ Rows.bestBestsSpec.plain.varTypes Try.prog) (ds ++ gs)).all (· ≤ reachBytes) = true := hsz0
 have hval : ∀ (j : Nat) t v, Try.f3.params[j]? = some t → args[j]? = some v → Value.okWide Try.prog W .any base t v := hval0
 clear hval0 hsz0
 have hW' := hW
 obtain ⟨p, q, hA0, hV, rfl, hfz, hnd⟩ := hW
 have hA : DataW.TrodAll enc Try.prog W 0 (fun _ => true) true Try.f3.params.toList args.toList ds p := hA0
 rw [Try.params3] at hA hval hsz
 obtain ⟨v0, vs0, d0, ds0, p0, q0, hargs, rfl, rfl, h0, r0⟩ := trodAll_cons hA
 obtain ⟨rfl, rfl, rfl⟩ := trodAll_nil r0
 obtain rfl : args = #[v0] := by cases args; simp_all
 obtain ⟨rfl, rfl⟩ := trodVars_none hV
 have k0 := h0
 have lt0 : ∀ x ∈ p0, x.block < W.heap.size := by obtain ⟨m, hm⟩ := k0; exact DataW.trod_lt m _ _ _ hm
 obtain ⟨z0, w0⟩ : ∃ m : Mc, Mach W v0 m ∧ okM m ∧ (Lit.int .i64 m.1).wf = true ∧ ∀ s ∈ m.2, (Lit.int .i64 s.1).wf = true ∧ ∀ a ∈ s.2, wfA a := by
  obtain ⟨c0, c1, y0, y1, n, rfl, hd, hp, t0, t1⟩ := Go.Joins.open_agg2 Try.underlying24 (by kernel_rfl) (by kernel_rfl) (hval 0 24 v0 rfl rfl) h0
  subst hd
  exact open_machine t0 t1 ((Fits.arg hsz (j := 0) rfl rfl).field Try.underlying24 (f := 1) rfl rfl)
 refine (walk v0 z0 W w0).mono fun e W' ⟨he, bel⟩ => ?_
 subst he
 exact ⟨_, rfl, _, _, _, [], _, [], hW', trodAll_mk1 (shut_bool Try.underlying4 _), (trodAll_cons_mk (Below.trod laidOut (by kernel_rfl) (of_decide_eq_true (by kernel_rfl)) k0 bel lt0) trodAll_mk0), rfl, bel.frame _, fun h => by cases h⟩
end Go.Proofs.Ytobhjhjfannnnaa.bestBests
namespace Go.Proofs.Ytobhjhjfannnnaa
theorem bestBests_holds : Rows.BestBestsSaid :=
 OpenClaim.holds_of_wide 3 Try.f3 rfl rfl rfl rfl rfl rfl rfl ⟨rfl, rfl, rfl, rfl, rfl⟩ rfl rfl rfl rfl rfl (by kernel_rfl) Try.func3 (by kernel_rfl)
  (of_decide_eq_true (by kernel_rfl)) (by unfold Func.isWrapper; first | (rw [if_pos (by decide +kernel)]; kernel_rfl) | (rw [if_neg (by decide +kernel)]; exact ⟨rfl, rfl⟩))
  (fun os started H enc _ => bestBests.lifted os started H enc)
#print axioms bestBests_holds
end Go.Proofs.Ytobhjhjfannnnaa
