/- The statement ReversePaths: whatever numbers a machine is made of that leads forward, from behind there are as many paths, for every input and without any condition. -/
import Derived.Test.YtfffelgmgghldabKg
import Derived.Test.YtfffelgmgghldabOp
import Derived.Test.YtfffelgmgghldabTo
import Derived.Test.YtfffelgmgghldabLo
import Derived.Lib.SmallJoins
import Derived.ChangeOld
import Derived.Below
namespace Go.Proofs.Ytfffelgmgghldab.reversePaths
open Go.ChangeShapes Go.WideShapes Go.ChangeAt Go.RowKit
open Go.Proofs.Ytfffelgmgghldab.Pl Go.Proofs.Ytfffelgmgghldab.Wt
set_option linter.unusedVariables false
set_option linter.unusedSimpArgs false

theorem own : ownKnob Try.prog.godebug = none := by kernel_rfl
theorem laidOut : laidOutB Try.prog = true := by kernel_rfl
set_option maxRecDepth 100000 in
set_option maxHeartbeats 1600000 in
theorem walk (v : Value) (r : Rw) (w : World) (h : RawV w v r ∧ okR r ∧ wfR r) :
    Calls Try.prog 4 #[v] w fun e w' => e = .returned (.bool true) ∧ Below w.heap.size w w' := by
  obtain ⟨h, hok, hwf⟩ := h
  have HI : Hid (RawV w v r) := h
  obtain ⟨hf, hfw, hz, hl, h8, h4⟩ := slim8 r
  have HMD : Hid (∀ v W, RawV W v r → Calls Try.prog 10 #[v, .int .i64 8] W fun e w' => ∃ v', e = .returned v' ∧ Mach w' v' (fwdM (madeM r 8 false)) ∧ Below W.heap.size W w') := fun v W hW => forward_any v r 8 W hW hok hwf (by omega) (by omega)
  generalize fwdM (madeM r 8 false) = M at *
  obtain ⟨vs0, rfl, hN⟩ := h
  obtain ⟨a0, c0, rfl, hNx⟩ := hN.get
  clear hN hNx hok hwf
  obtain ⟨u1, u2, u3⟩ := rev_small hf h8 h4
  have HV0 : Hid (∀ v W, Mach W v M → Calls Try.prog 11 #[v] W fun e w' => RatRes (revM M) 0 W e w') := fun v W hW => by
    have := reverseP_any v M W hW (right_okM hf)
    rw [u1, u2] at this
    exact this
  have HPC : ∀ m : Mc, faultM m = 0 → ∀ v W, Mach W v m → Calls Try.prog 12 #[v] W fun e w' => ∃ (x ec : Int), e = .returned (.tuple #[.int .i64 x, .int .i64 ec]) ∧ PathAns m 0 x ec ∧ Below W.heap.size W w' := fun m hm v W h => paths_any v m W h (right_okM hm) 0 hm
  have HPm := hidP (HPC M hf)
  have HPv := hidP (HPC (revM M) u3)
  have HFC : Hid (∀ n f k g, PathAns M 0 n f → PathAns (revM M) 0 k g → f = 0 ∧ g = 0 ∧ n = k) := fun n f k g h1 h2 => rev_paths hfw hz hl h8 h4 h1 h2
  have hVl := revM_len M
  clear hf hfw hz hl h4 u1 u2 u3 HPC
  generalize revM M = V at *
  have t4 : IntKind.i64.wrap ((M.2.length : Int) + 1) = (M.2.length : Int) + 1 := wrapI (by omega) (by omega)
  have t6 : ((V.2.length : Int) == (M.2.length : Int) + 1) = true := by simp; omega
  have t7 : ∀ x : Int, (x == x) = true := fun x => by simp
  clear hVl h8
  have HB0 : Hid (∀ o, Below w.heap.size w (w.alloc o)) := fun o => (Below.refl _ _).alloc (Nat.le_refl _) _
  go_enter Try.func4, Try.ntmps4
  go_wp2_with (first
    | (go_at_call 10; (with_reducible refine (HMD.out _ _ (HI.out.later (HB0.out _) (Nat.le_refl _))).mono ?_); rintro e w1 ⟨v1, rfl, hm, hb⟩; have HMm : Hid (Mach w1 v1 (M)) := hm; obtain ⟨vsm, rfl, hSm⟩ := hm; obtain ⟨am, cm, rfl⟩ := hSm.sl; clear hSm; obtain ⟨s1, bb0, hb1⟩ := boxed hb (by simp); have KR1 := hidP bb0; clear bb0; have HB1 := hidP hb1; have qR0 := (KR1.out.alloc (.cells #[.int .i64 M.1, .slice am M.2.length cm] 27)).cell 0 (v := .int .i64 r.1) rfl; have qR1 := (KR1.out.alloc (.cells #[.int .i64 M.1, .slice am M.2.length cm] 27)).cell 1 (v := .slice a0 r.2.length c0) rfl; clear hb hb1)
    | (go_at_call 11; (with_reducible refine (HV0.out _ _ (HMm.out.later ((Below.refl _ _).alloc (Nat.le_refl _) _) (Nat.le_refl _))).mono ?_); rintro e w2 ⟨v2, rfl, hm, hb⟩; have HMv : Hid (Mach w2 v2 (V)) := hm; obtain ⟨vsv, rfl, hSv⟩ := hm; obtain ⟨av, cv, rfl⟩ := hSv.sl; clear hSv; obtain ⟨s2, bb0, hb2⟩ := boxed hb (by simp); have KVm2 := hidP bb0; clear bb0; have HB2 := hidP (HB1.out.trans (hb2.mono HB1.out.size)); have KR2 := hidP (KR1.out.below hb2 KR1.out.lt); have Hm2 := hidP hb2; have qR0 := (KR2.out.alloc (.cells #[.int .i64 V.1, .slice av V.2.length cv] 27)).cell 0 (v := .int .i64 r.1) rfl; have qR1 := (KR2.out.alloc (.cells #[.int .i64 V.1, .slice av V.2.length cv] 27)).cell 1 (v := .slice a0 r.2.length c0) rfl; have qVm0 := (KVm2.out.alloc (.cells #[.int .i64 V.1, .slice av V.2.length cv] 27)).cell 0 (v := .int .i64 M.1) rfl; have qVm1 := (KVm2.out.alloc (.cells #[.int .i64 V.1, .slice av V.2.length cv] 27)).cell 1 (v := .slice am M.2.length cm) rfl; clear hb hb2)
    | (go_at_call 12; (with_reducible refine (HPm.out _ _ (HMm.out.later (Hm2.out.alloc Hm2.out.size _) (Nat.le_refl _))).mono ?_); rintro e w3 ⟨n1, e1, rfl, hp, hb⟩; obtain ⟨s3, bb0, hb3⟩ := boxed hb (by simp); have KVv3 := hidP bb0; clear bb0; have HB3 := hidP (HB2.out.trans (hb3.mono HB2.out.size)); have KR3 := hidP (KR2.out.below hb3 KR2.out.lt); have KVm3 := hidP (KVm2.out.below hb3 KVm2.out.lt); have Hm3 := hidP (Hm2.out.trans (hb3.mono Hm2.out.size)); have Hv3 := hidP hb3; have qR0 := KR3.out.cell 0 (v := .int .i64 r.1) rfl; have qR1 := KR3.out.cell 1 (v := .slice a0 r.2.length c0) rfl; have qVm0 := KVm3.out.cell 0 (v := .int .i64 M.1) rfl; have qVm1 := KVm3.out.cell 1 (v := .slice am M.2.length cm) rfl; have qVv0 := KVv3.out.cell 0 (v := .int .i64 V.1) rfl; have qVv1 := KVv3.out.cell 1 (v := .slice av V.2.length cv) rfl; have HPA := hidP hp; clear hp; clear hb hb3)
    | (go_at_call 12; (with_reducible refine (HPv.out _ _ (HMv.out.later Hv3.out (Nat.le_refl _))).mono ?_); rintro e w4 ⟨n2, e2, rfl, hp, hb⟩; have hb4 := hb; have HB4 := hidP (HB3.out.trans (hb4.mono HB3.out.size)); have KR4 := hidP (KR3.out.below hb4 KR3.out.lt); have KVm4 := hidP (KVm3.out.below hb4 KVm3.out.lt); have KVv4 := hidP (KVv3.out.below hb4 KVv3.out.lt); have Hm4 := hidP (Hm3.out.trans (hb4.mono Hm3.out.size)); have Hv4 := hidP (Hv3.out.trans (hb4.mono Hv3.out.size)); have qR0 := KR4.out.cell 0 (v := .int .i64 r.1) rfl; have qR1 := KR4.out.cell 1 (v := .slice a0 r.2.length c0) rfl; have qVm0 := KVm4.out.cell 0 (v := .int .i64 M.1) rfl; have qVm1 := KVm4.out.cell 1 (v := .slice am M.2.length cm) rfl; have qVv0 := KVv4.out.cell 0 (v := .int .i64 V.1) rfl; have qVv1 := KVv4.out.cell 1 (v := .slice av V.2.length cv) rfl; obtain ⟨rfl, rfl, rfl⟩ := HFC.out _ _ _ _ HPA.out hp; clear hp; clear hb hb4))
  go_ret
  exact ⟨rfl, HB4.out⟩

set_option maxRecDepth 100000 in
theorem lifted (os : Os) (started : os.Started) (H : Type) (enc : TypeId × Value → H) :
    ReturnsInHanded {} Try.checked os 4 .any (Rows.reversePathsSpec.pre6 enc Try.prog Try.f4 Rows.reversePathsRow.domain false) (Rows.reversePathsSpec.post enc Try.prog Try.f4 false true false false) := by
  refine returnsInHanded_of_change_sized (C := Try.checked) own started (by kernel_rfl) Try.func4
    (ChangeSpec.witness6 (enc := enc) (C := Try.checked) false ⟨#[], #[.agg #[.int .i64 0, .slice none 0 0]], []⟩ 8 (by kernel_rfl) (by kernel_rfl) (by kernel_rfl) (by kernel_rfl)) ?_
  intro W base args ds gs before hval0 hW hcnd hsz0 _
  have hsz : (DataW.weightsEach Try.prog (Try.f4.params.toList ++ Rows.reversePathsSpec.plain.varTypes Try.prog) (ds ++ gs)).all (· ≤ reachBytes) = true := hsz0
  have hval : ∀ (j : Nat) t v, Try.f4.params[j]? = some t → args[j]? = some v → Value.okWide Try.prog W .any base t v := hval0
  clear hval0 hsz0
  have hW' := hW
  obtain ⟨p, q, hA0, hV, rfl, hfz, hnd⟩ := hW
  have hA : DataW.TrodAll enc Try.prog W 0 (fun _ => true) true Try.f4.params.toList args.toList ds p := hA0
  rw [Try.params4] at hA hval hsz
  obtain ⟨v0, vs0, d0, ds0, p0, q0, hargs, rfl, rfl, h0, r0⟩ := trodAll_cons hA
  obtain ⟨rfl, rfl, rfl⟩ := trodAll_nil r0
  obtain rfl : args = #[v0] := by cases args; simp_all
  obtain ⟨rfl, rfl⟩ := trodVars_none hV
  have k0 := h0
  have lt0 : ∀ x ∈ p0, x.block < W.heap.size := by obtain ⟨m, hm⟩ := k0; exact DataW.trod_lt m _ _ _ hm
  obtain ⟨z0, w0⟩ : ∃ m : Rw, RawV W v0 m ∧ okR m ∧ wfR m := by
    obtain ⟨c0, c1, y0, y1, n, rfl, hd, hp, t0, t1⟩ := Go.Joins.open_agg2 Try.underlying24 (by kernel_rfl) (by kernel_rfl) (hval 0 24 v0 rfl rfl) h0
    subst hd
    exact open_raw t0 t1 ((Fits.arg hsz (j := 0) rfl rfl).field Try.underlying24 (f := 1) rfl rfl)
  refine (walk v0 z0 W w0).mono fun e W' ⟨he, bel⟩ => ?_
  subst he
  exact ⟨_, rfl, _, _, _, [], _, [], hW', trodAll_mk1 (shut_bool Try.underlying4 _), (trodAll_cons_mk (Below.trod laidOut (by kernel_rfl) (of_decide_eq_true (by kernel_rfl)) k0 bel lt0) trodAll_mk0), rfl, bel.frame _, fun h => by cases h⟩
end Go.Proofs.Ytfffelgmgghldab.reversePaths
namespace Go.Proofs.Ytfffelgmgghldab
theorem reversePaths_holds : Rows.ReversePathsSaid :=
  OpenClaim.holds_of_wide 4 Try.f4 rfl rfl rfl rfl rfl rfl rfl ⟨rfl, rfl, rfl, rfl, rfl⟩ rfl rfl rfl rfl rfl (by kernel_rfl) Try.func4 (by kernel_rfl)
    (of_decide_eq_true (by kernel_rfl)) (by unfold Func.isWrapper; first | (rw [if_pos (by decide +kernel)]; kernel_rfl) | (rw [if_neg (by decide +kernel)]; exact ⟨rfl, rfl⟩))
    (fun os started H enc _ => reversePaths.lifted os started H enc)
#print axioms reversePaths_holds
end Go.Proofs.Ytfffelgmgghldab
