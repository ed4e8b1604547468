/- The statement PushPaths: pushed, a machine whose arcs lead forward has as many paths, and its cheapest ones cost the total less, for every input and without any condition. -/
import Derived.Test.YtfpibdaedfilaaaGaf
import Derived.Test.YtfpibdaedfilaaaGam
import Derived.Test.YtfpibdaedfilaaaGat
import Derived.Test.YtfpibdaedfilaaaGaz
import Derived.Test.YtfpibdaedfilaaaGaH
import Derived.Test.YtfpibdaedfilaaaGaI
import Derived.Test.YtfpibdaedfilaaaGak
import Derived.Lib.SmallJoins
import Derived.ChangeOld
import Derived.Below
import Derived.Deep.QuietTactic
import Derived.BigQuiet
namespace Go.Proofs.Ytfpibdaedfilaaa.pushPaths
open Go.ChangeShapes Go.WideShapes Go.ChangeAt Go.RowKit
open Go.Proofs.Ytfpibdaedfilaaa.Pl Go.Proofs.Ytfpibdaedfilaaa.Wt
set_option linter.unusedVariables false
set_option linter.unusedSimpArgs false
theorem own : ownKnob Try.prog.godebug = none := by kernel_rfl
theorem laidOut : laidOutB Try.prog = true := by kernel_rfl
theorem nine_fwd {m : Mc} (h : NineL m.2) : NineL (fwdM m).2 := fun s hs => by
 obtain ⟨j, hj, rfl⟩ := mem_el hs
 rw [fwdM_length] at hj
 rw [fwdM_el m hj]
 have h1 := h _ (el_mem hj)
 refine ⟨h1.1, fun a ha => ?_⟩
 obtain ⟨b, hb, rfl, _⟩ := fwdR_mem ha
 exact h1.2 b hb
theorem nums_at {w : World} {a : Option Addr} {n c : Nat} {L : List Int} (h : Nums w (.slice a n c) L) (hl : L.length = n) : ∀ j, j < n → ∃ b off, a = some ⟨b, off, none⟩ ∧ b < w.heap.size ∧ w.cell? ⟨b, off + j, none⟩ = some (.int .i64 (el L j)) := by
 obtain ⟨a', c', e, g⟩ := h.get
 simp only [Value.slice.injEq] at e
 obtain ⟨rfl, _, _⟩ := e
 rw [hl] at g
 exact g
theorem el_addP {B : List Int} {t : Int} {j : Nat} (h : j < B.length) : el (B.map fun x => x + t) j = el B j + t := by
 rw [el_get (by rw [List.length_map]; exact h), List.getElem_map, el_get h]
set_option maxRecDepth 100000 in
set_option maxHeartbeats 9600000 in
theorem core (v : Value) (r : Rw) (w : World) (hr : RawV w v r) (hok : okR r) (hwf : wfR r) :
  Calls Try.prog 3 #[v] w fun e w' => e = .returned (.bool true) ∧ Below w.heap.size w w' := by
 obtain ⟨hf, hsl⟩ := slim6 r
 have h9 := nine_fwd (made_nine r 6 false)
 have HFW : Hid (∀ W v, RawV W v r → Calls Try.prog 8 #[v, .int .i64 6] W fun e w' => ∃ v', e = .returned v' ∧ Mach w' v' (fwdM (madeM r 6 false)) ∧ Below W.heap.size W w') := fun W v h1 => forward_any v r 6 W h1 hok hwf (by omega) (by omega)
 have HI := hidP hr
 clear hr hok hwf
 generalize fwdM (madeM r 6 false) = m at *
 have HK : Hid (okM m) := right_okM hf
 have HXR : Hid (∀ x tot ec, PshAns m x tot ec → faultM x = 0) := fun x tot ec h => by
  obtain ⟨_, T, vs, hM⟩ := psh_made hf h9 (by have := hsl.six; omega) h
  exact hM.rightx
 have HLC : Hid (∀ W v, Mach W v m → Calls Try.prog 12 #[v] W fun e w' => ∃ n : Int, e = .returned (.tuple #[.int .i64 n, .int .i64 0]) ∧ CstIs (EndC m.2 m.1.toNat) n ∧ Below W.heap.size W w') := fun W v h1 => least_cst v m W h1 hf (LowL.cheap h9 (by omega)) (by have := hsl.start; omega)
 have HPP : Hid (∀ (x : Mc) (tot ec n g k h i j w : Int) (A B : List Int), PshAns m x tot ec → PathAns m (faultM m) n g → PathAns x (faultM x) k h → CostAns m 5 A i → CostAns x 5 B j → CstIs (EndC m.2 m.1.toNat) w → ec = 0 ∧ g = 0 ∧ h = 0 ∧ i = 0 ∧ j = 0 ∧ n = k ∧ A = B.map (fun x => x + tot) ∧ 0 ≤ tot ∧ tot ≤ 90 ∧ 0 ≤ n ∧ n ≤ 15625 ∧ (A.length : Int) = min n 5 ∧ ((w = 1000000001 ∧ n = 0) ∨ (w ≠ 1000000001 ∧ 0 < n)) ∧ ∀ b ∈ B, 0 ≤ b ∧ b ≤ 1000000000) := fun x tot ec n g k h i j w A B a1 a2 a3 a4 a5 a6 => push_paths hf hsl.fwd hsl.start hsl.pos hsl.six h9 hsl.cnt a1 a2 a3 a4 a5 a6
 clear hf hsl h9
 obtain ⟨vr0, rfl, hN⟩ := HI.out
 obtain ⟨ar, cr, rfl, hN2⟩ := hN.get
 clear hN hN2
 have HU : Hid (Below w.heap.size w (w.alloc (.cells #[.int .i64 r.1, .slice ar r.2.length cr] 24))) := (Below.refl _ _).alloc (Nat.le_refl _) _
 go_enter Try.func3, Try.ntmps3
 go_wp2_with (first
  | (go_at_call 8; (with_reducible refine (HFW.out _ _ (HI.out.later HU.out (Nat.le_refl _))).mono ?_); rintro e w1 ⟨v1, rfl, hm, hb⟩; have HMa := hidP hm; obtain ⟨vs1, rfl, hS1⟩ := hm; obtain ⟨am, cm, rfl⟩ := hS1.sl; clear hS1; have HB0 := hidP HU.out; have HUx : Hid (Below w1.heap.size w1 (w1.alloc (.cells #[.int .i64 m.1, .slice am m.2.length cm] 27))) := (Below.refl _ _).alloc (Nat.le_refl _) _; have hbx := hb.trans (HUx.out.mono hb.size); have HB1 : Hid (Below w.heap.size w _) := HB0.out.trans (hbx.mono HB0.out.size); have BMm1 : Hid (Blk (w1.alloc (.cells #[.int .i64 m.1, .slice am m.2.length cm] 27)) w1.heap.size #[.int .i64 m.1, .slice am m.2.length cm] 27) := Blk.made w1 _ _; have HMm1 : Hid (Mach (w1.alloc (.cells #[.int .i64 m.1, .slice am m.2.length cm] 27)) (.agg #[.int .i64 m.1, .slice am m.2.length cm]) m) := HMa.out.later HUx.out (Nat.le_refl _); clear HUx hbx; clear hb HMa)
  | (go_at_call 9; (with_reducible refine (pushP_any _ m _ HMm1.out HK.out).mono ?_); rintro e w2 ⟨v2, x, tot, ec, rfl, hq, hm, hb⟩; have HQ := hidP hq; have HKx := hidP (right_okM (HXR.out _ _ _ hq)); have HMa := hidP hm; obtain ⟨vs2, rfl, hS2⟩ := hm; obtain ⟨ax, cx, rfl⟩ := hS2.sl; clear hS2 hq; have HUx : Hid (Below w2.heap.size w2 (w2.alloc (.cells #[.int .i64 x.1, .slice ax x.2.length cx] 27))) := (Below.refl _ _).alloc (Nat.le_refl _) _; have hbx := hb.trans (HUx.out.mono hb.size); have BMm2 := hidP (BMm1.out.below hbx BMm1.out.lt); have HMm2 := hidP (HMm1.out.later hbx (Nat.le_refl _)); have HB2 : Hid (Below w.heap.size w _) := HB1.out.trans (hbx.mono HB1.out.size); have BMx2 : Hid (Blk (w2.alloc (.cells #[.int .i64 x.1, .slice ax x.2.length cx] 27)) w2.heap.size #[.int .i64 x.1, .slice ax x.2.length cx] 27) := Blk.made w2 _ _; have HMx2 : Hid (Mach (w2.alloc (.cells #[.int .i64 x.1, .slice ax x.2.length cx] 27)) (.agg #[.int .i64 x.1, .slice ax x.2.length cx]) x) := HMa.out.later HUx.out (Nat.le_refl _); clear HUx hbx; have m02 := BMm2.out.cell 0 (v := .int .i64 m.1) rfl; have m12 := BMm2.out.cell 1 (v := .slice am m.2.length cm) rfl; clear hb HMa)
  | (go_at_call 10; (with_reducible refine (paths_any _ m _ HMm2.out HK.out (faultM m) rfl).mono ?_); rintro e w3 ⟨n, g, rfl, hq, hb⟩; have HP1 := hidP hq; have BMm3 := hidP (BMm2.out.below hb BMm2.out.lt); have BMx3 := hidP (BMx2.out.below hb BMx2.out.lt); have HMm3 := hidP (HMm2.out.later hb (Nat.le_refl _)); have HMx3 := hidP (HMx2.out.later hb (Nat.le_refl _)); have HB3 : Hid (Below w.heap.size w _) := HB2.out.trans (hb.mono HB2.out.size); have x03 := BMx3.out.cell 0 (v := .int .i64 x.1) rfl; have x13 := BMx3.out.cell 1 (v := .slice ax x.2.length cx) rfl; clear hq hb m02 m12)
  | (go_at_call 10; (with_reducible refine (paths_any _ x _ HMx3.out HKx.out (faultM x) rfl).mono ?_); rintro e w4 ⟨k, h, rfl, hq, hb⟩; have HP2 := hidP hq; have BMm4 := hidP (BMm3.out.below hb BMm3.out.lt); have BMx4 := hidP (BMx3.out.below hb BMx3.out.lt); have HMm4 := hidP (HMm3.out.later hb (Nat.le_refl _)); have HMx4 := hidP (HMx3.out.later hb (Nat.le_refl _)); have HB4 : Hid (Below w.heap.size w _) := HB3.out.trans (hb.mono HB3.out.size); have m04 := BMm4.out.cell 0 (v := .int .i64 m.1) rfl; have m14 := BMm4.out.cell 1 (v := .slice am m.2.length cm) rfl; clear hq hb x03 x13)
  | (go_at_call 11; (with_reducible refine (Bw.costP_any _ m 5 _ HMm4.out HK.out).mono ?_); rintro e w5 ⟨v5, A, i, rfl, hq, hnn, hb⟩; have HP3 := hidP hq; have HNA5 := hidP hnn; obtain ⟨aA, cA, rfl⟩ := Row.sl hnn; have BMm5 := hidP (BMm4.out.below hb BMm4.out.lt); have BMx5 := hidP (BMx4.out.below hb BMx4.out.lt); have HMm5 := hidP (HMm4.out.later hb (Nat.le_refl _)); have HMx5 := hidP (HMx4.out.later hb (Nat.le_refl _)); have HB5 : Hid (Below w.heap.size w _) := HB4.out.trans (hb.mono HB4.out.size); have x05 := BMx5.out.cell 0 (v := .int .i64 x.1) rfl; have x15 := BMx5.out.cell 1 (v := .slice ax x.2.length cx) rfl; clear hq hnn hb m04 m14)
  | (go_at_call 11; (with_reducible refine (Bw.costP_any _ x 5 _ HMx5.out HKx.out).mono ?_); rintro e w6 ⟨v6, B, j, rfl, hq, hnn, hb⟩; have HP4 := hidP hq; have HNB6 := hidP hnn; obtain ⟨aB, cB, rfl⟩ := Row.sl hnn; have BMm6 := hidP (BMm5.out.below hb BMm5.out.lt); have BMx6 := hidP (BMx5.out.below hb BMx5.out.lt); have HMm6 := hidP (HMm5.out.later hb (Nat.le_refl _)); have HMx6 := hidP (HMx5.out.later hb (Nat.le_refl _)); have HNA6 := hidP (HNA5.out.later hb (Nat.le_refl _)); have HB6 : Hid (Below w.heap.size w _) := HB5.out.trans (hb.mono HB5.out.size); have m06 := BMm6.out.cell 0 (v := .int .i64 m.1) rfl; have m16 := BMm6.out.cell 1 (v := .slice am m.2.length cm) rfl; clear hq hnn hb x05 x15)
  | (go_at_call 12; (with_reducible refine (HLC.out _ _ HMm6.out).mono ?_); rintro e w7 ⟨wd, rfl, hq, hb⟩; have HNA7 := hidP (HNA6.out.later hb (Nat.le_refl _)); have HNB7 := hidP (HNB6.out.later hb (Nat.le_refl _)); have HB7 : Hid (Below w.heap.size w _) := HB6.out.trans (hb.mono HB6.out.size); obtain ⟨ez1, ez2, ez3, ez4, ez5, ez6, hAB, ht0, ht1, hn0, hn1, hAl, hwn, hBr⟩ := HPP.out x tot ec n g k h i j wd A B HQ.out HP1.out HP2.out HP3.out HP4.out hq; subst ez1 ez2 ez3 ez4 ez5 ez6; have HAB := hidP hAB; have HBR := hidP hBr; obtain ⟨la, hla⟩ : ∃ la, B.length = la := ⟨_, rfl⟩; have hla2 : A.length = la := (by rw [hAB, List.length_map]; exact hla); rw [hla2] at hAl; rw [hla2, hla]; have GA := hidP (by have h9 := HNA7.out; rw [hla2] at h9; exact nums_at h9 hla2); have GB := hidP (by have h9 := HNB7.out; rw [hla] at h9; exact nums_at h9 hla); have HLB := hidP hla; have HLA := hidP hla2; clear hq hb hAB hBr hla hla2 m06 m16; have hnn : (n != n) = false := (by simp); have hla5 : la ≤ 5 := (by omega); have hmin : ((la : Int) != if (5 : Int) < n then (5 : Int) else n) = false := (by simp only [bne_eq_false_iff_eq]; split <;> omega); clear hAl; rcases hwn with ⟨e1, e2⟩ | ⟨e1, e2⟩; (case' inl => (have hw1 : (wd != 1000000001) = false := (by simp [e1]); have hn2 : n ≤ 0 := (by omega); clear e1 e2)); (case' inr => (have hw1 : (wd != 1000000001) = true := (by simp [e1]); have hn2 : 0 < n := e2; clear e1 e2))))
 all_goals
  clear hmin hnn hw1 hn2
  go_loopw [17] (fun s wr => ∃ t q : Nat, t ≤ la ∧ s = .int .i64 (t : Int) ∧ wr = w7.drewN q) (fun s _ => la - (intOf s).toNat)
  case atStart => exact ⟨0, 0, Nat.zero_le _, rfl, (World.drewN_zero _).symm⟩
  case round =>
   obtain ⟨t, q, ht, rfl, rfl⟩ := hrel
   have kt : (0 : Int) ≤ (t : Int) := by omega
   by_cases hlt : t < la
   ·have kt1 : (t : Int) < (la : Int) := by omega
    obtain ⟨b1, o1, hg1, _, g1⟩ := GA.out t hlt
    obtain ⟨b2, o2, hg2, _, g2⟩ := GB.out t hlt
    subst hg1 hg2
    rw [HAB.out, el_addP (by rw [HLB.out]; exact hlt)] at g1
    have hbr := HBR.out (el B t) (el_mem (by rw [HLB.out]; exact hlt))
    generalize el B t = xb at *
    have hwr : IntKind.i64.wrap (xb + tot) = xb + tot := wrapI (by omega) (by omega)
    clear hbr
    go_wp2
    go_quiet (fail)
    go_wp2
    go_roundw
    case rel => exact ⟨t + 1, q + nq, by omega, by go_num, by first | rfl | rw [World.drewN_drewN]⟩
    case measure => simp [intOf]; omega
   ·have hnl : (la : Int) ≤ (t : Int) := by omega
    go_wp2
    go_ret
    exact ⟨rfl, below_drewN HB7.out q⟩
theorem walk (v : Value) (r : Rw) (w : World) (h : RawV w v r ∧ okR r ∧ wfR r) :
 Calls Try.prog 3 #[v] w fun e w' => e = .returned (.bool true) ∧ Below w.heap.size w w' := core v r w h.1 h.2.1 h.2.2
set_option maxRecDepth 100000 in
theorem lifted (os : Os) (started : os.Started) (H : Type) (enc : TypeId × Value → H) :
  ReturnsInHanded {} Try.checked os 3 .any (Rows.pushPathsSpec.pre6 enc Try.prog Try.f3 Rows.pushPathsRow.domain false) (Rows.pushPathsSpec.post enc Try.prog Try.f3 false true false false) := by
 refine returnsInHanded_of_change_sized (C := Try.checked) own started (by kernel_rfl) Try.func3
  (ChangeSpec.witness6 (enc := enc) (C := Try.checked) false ⟨#[], #[.agg #[.int .i64 0, .slice none 0 0]], []⟩ 8 (by kernel_rfl) (by kernel_rfl) (by kernel_rfl) (by kernel_rfl)) ?_
 intro W base args ds gs before hval0 hW hcnd hsz0 _
 have hsz : (DataW.weightsEach Try.prog (Try.f3.params.toList ++ Rows.pushPathsSpec.plain.varTypes Try.prog) (ds ++ gs)).all (· ≤ reachBytes) = true := hsz0
 have hval : ∀ (j : Nat) t v, Try.f3.params[j]? = some t → args[j]? = some v → Value.okWide Try.prog W .any base t v := hval0
 clear hval0 hsz0
 have hW' := hW
 obtain ⟨p, q, hA0, hV, rfl, hfz, hnd⟩ := hW
 have hA : DataW.TrodAll enc Try.prog W 0 (fun _ => true) true Try.f3.params.toList args.toList ds p := hA0
 rw [Try.params3] at hA hval hsz
 obtain ⟨v0, vs0, d0, ds0, p0, q0, hargs, rfl, rfl, h0, r0⟩ := trodAll_cons hA
 obtain ⟨rfl, rfl, rfl⟩ := trodAll_nil r0
 obtain rfl : args = #[v0] := by cases args; simp_all
 obtain ⟨rfl, rfl⟩ := trodVars_none hV
 have k0 := h0
 have lt0 : ∀ x ∈ p0, x.block < W.heap.size := by obtain ⟨m, hm⟩ := k0; exact DataW.trod_lt m _ _ _ hm
 obtain ⟨z0, w0⟩ : ∃ m : Rw, RawV W v0 m ∧ okR m ∧ wfR m := by
  obtain ⟨c0, c1, y0, y1, n, rfl, hd, hp, t0, t1⟩ := Go.Joins.open_agg2 Try.underlying24 (by kernel_rfl) (by kernel_rfl) (hval 0 24 v0 rfl rfl) h0
  subst hd
  exact open_raw t0 t1 ((Fits.arg hsz (j := 0) rfl rfl).field Try.underlying24 (f := 1) rfl rfl)
 refine (walk v0 z0 W w0).mono fun e W' ⟨he, bel⟩ => ?_
 subst he
 exact ⟨_, rfl, _, _, _, [], _, [], hW', trodAll_mk1 (shut_bool Try.underlying4 _), (trodAll_cons_mk (Below.trod laidOut (by kernel_rfl) (of_decide_eq_true (by kernel_rfl)) k0 bel lt0) trodAll_mk0), rfl, bel.frame _, fun h => by cases h⟩
end Go.Proofs.Ytfpibdaedfilaaa.pushPaths
namespace Go.Proofs.Ytfpibdaedfilaaa
theorem pushPaths_holds : Rows.PushPathsSaid :=
 OpenClaim.holds_of_wide 3 Try.f3 rfl rfl rfl rfl rfl rfl rfl ⟨rfl, rfl, rfl, rfl, rfl⟩ rfl rfl rfl rfl rfl (by kernel_rfl) Try.func3 (by kernel_rfl)
  (of_decide_eq_true (by kernel_rfl)) (by unfold Func.isWrapper; first | (rw [if_pos (by decide +kernel)]; kernel_rfl) | (rw [if_neg (by decide +kernel)]; exact ⟨rfl, rfl⟩))
  (fun os started H enc _ => pushPaths.lifted os started H enc)
#print axioms pushPaths_holds
end Go.Proofs.Ytfpibdaedfilaaa
