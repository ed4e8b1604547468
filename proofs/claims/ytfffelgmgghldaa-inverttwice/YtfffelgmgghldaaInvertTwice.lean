/- The statement InvertTwice: whatever numbers a machine is made of, inverted twice it is the same, and what it reads is what it writes inverted, for every input and without any condition. -/
import Derived.Test.YtfffelgmgghldaaMd
import Derived.Test.YtfffelgmgghldaaKd
import Derived.Test.YtfffelgmgghldaaTk
import Derived.Test.YtfffelgmgghldaaPlainTv
import Derived.Test.YtfffelgmgghldaaLo
import Derived.Lib.SmallJoins
import Derived.ChangeOld
import Derived.Below
namespace Go.Proofs.Ytfffelgmgghldaa.invertTwice
open Go.ChangeShapes Go.WideShapes Go.ChangeAt Go.RowKit
open Go.Proofs.Ytfffelgmgghldaa.Pl Go.Proofs.Ytfffelgmgghldaa.Wt
set_option linter.unusedVariables false
set_option linter.unusedSimpArgs false

theorem own : ownKnob Try.prog.godebug = none := by kernel_rfl
theorem laidOut : laidOutB Try.prog = true := by kernel_rfl
set_option maxRecDepth 100000 in
set_option maxHeartbeats 1600000 in
theorem walk (v : Value) (r : Rw) (w : World) (h : RawV w v r ∧ okR r ∧ wfR r) :
    Calls Try.prog 8 #[v] w fun e w' => e = .returned (.bool true) ∧ Below w.heap.size w w' := by
  obtain ⟨h, hok, hwf⟩ := h
  have HI : Hid (RawV w v r) := h
  have hf := madeM_right r 8 (by omega) (by omega) false
  have HMD : Hid (∀ v W, RawV W v r → Calls Try.prog 21 #[v, .int .i64 8, .bool false] W fun e w' => ∃ v', e = .returned v' ∧ Mach w' v' (madeM r 8 false) ∧ Below W.heap.size W w') := fun v W hW => made_any v r 8 false W hW hok hwf (by omega) (by omega)
  generalize madeM r 8 false = M at *
  obtain ⟨vs0, rfl, hN⟩ := h
  obtain ⟨a0, c0, rfl, hNx⟩ := hN.get
  clear hN hNx hok hwf
  have HKM := hidP (right_okM hf)
  have hfi : faultM (tuM 0 M) = 0 := tuM_right hf
  have HKA : Hid (okM (tuM 1 M)) := right_okM (tuM_right hf)
  have HI0 : Hid (∀ v W, Mach W v M → Calls Try.prog 10 #[v] W fun e w' => RatRes (tuM 0 M) 0 W e w') := fun v W hW => by
    have := invertP_any v M W hW (right_okM hf)
    rw [tur_right hf, hf] at this
    exact this
  have HI1 : Hid (∀ v W, Mach W v (tuM 0 M) → Calls Try.prog 10 #[v] W fun e w' => RatRes M 0 W e w') := fun v W hW => by
    have := invertP_any v (tuM 0 M) W hW (right_okM hfi)
    rw [tur_right hfi, hfi, over_over] at this
    exact this
  have HR0 : Hid (∀ v W, Mach W v M → Calls Try.prog 13 #[v] W fun e w' => RatRes (tuM 1 M) 0 W e w') := fun v W hW => by
    have := readsP_any v M W hW (right_okM hf)
    rw [tur_right hf, hf] at this
    exact this
  have HW0 : Hid (∀ v W, Mach W v (tuM 0 M) → Calls Try.prog 14 #[v] W fun e w' => RatRes (tuM 1 M) 0 W e w') := fun v W hW => by
    have := writesP_any v (tuM 0 M) W hW (right_okM hfi)
    rw [tur_right hfi, hfi, writes_over] at this
    exact this
  clear hf hfi
  generalize tuM 0 M = I at *
  generalize tuM 1 M = A at *
  have HB0 : Hid (∀ o, Below w.heap.size w (w.alloc o)) := fun o => (Below.refl _ _).alloc (Nat.le_refl _) _
  go_enter Try.func8, Try.ntmps8
  go_wp2_with (first
    | (go_at_call 21; (with_reducible refine (HMD.out _ _ (HI.out.later (HB0.out _) (Nat.le_refl _))).mono ?_); rintro e w1 ⟨v1, rfl, hm, hb⟩; have HMm : Hid (Mach w1 v1 (M)) := hm; obtain ⟨vsm, rfl, hSm⟩ := hm; obtain ⟨am, cm, rfl⟩ := hSm.sl; clear hSm; obtain ⟨s1, bb0, hb1⟩ := boxed hb (by simp); have KR1 := hidP bb0; clear bb0; have HB1 := hidP hb1; have qR0 := (KR1.out.alloc (.cells #[.int .i64 M.1, .slice am M.2.length cm] 24)).cell 0 (v := .int .i64 r.1) rfl; have qR1 := (KR1.out.alloc (.cells #[.int .i64 M.1, .slice am M.2.length cm] 24)).cell 1 (v := .slice a0 r.2.length c0) rfl; clear hb hb1)
    | (go_at_call 10; (with_reducible refine (HI0.out _ _ (HMm.out.later ((Below.refl _ _).alloc (Nat.le_refl _) _) (Nat.le_refl _))).mono ?_); rintro e w2 ⟨v2, rfl, hm, hb⟩; have HMi : Hid (Mach w2 v2 (I)) := hm; obtain ⟨vsi, rfl, hSi⟩ := hm; obtain ⟨ai, ci, rfl⟩ := hSi.sl; clear hSi; obtain ⟨s2, bb0, hb2⟩ := boxed hb (by simp); have KVm2 := hidP bb0; clear bb0; have HB2 := hidP (HB1.out.trans (hb2.mono HB1.out.size)); have KR2 := hidP (KR1.out.below hb2 KR1.out.lt); have Hm2 := hidP hb2; have qR0 := (KR2.out.alloc (.cells #[.int .i64 I.1, .slice ai I.2.length ci] 24)).cell 0 (v := .int .i64 r.1) rfl; have qR1 := (KR2.out.alloc (.cells #[.int .i64 I.1, .slice ai I.2.length ci] 24)).cell 1 (v := .slice a0 r.2.length c0) rfl; have qVm0 := (KVm2.out.alloc (.cells #[.int .i64 I.1, .slice ai I.2.length ci] 24)).cell 0 (v := .int .i64 M.1) rfl; have qVm1 := (KVm2.out.alloc (.cells #[.int .i64 I.1, .slice ai I.2.length ci] 24)).cell 1 (v := .slice am M.2.length cm) rfl; clear hb hb2)
    | (go_at_call 10; (with_reducible refine (HI1.out _ _ (HMi.out.later ((Below.refl _ _).alloc (Nat.le_refl _) _) (Nat.le_refl _))).mono ?_); rintro e w3 ⟨v3, rfl, hm, hb⟩; have HMj : Hid (Mach w3 v3 (M)) := hm; obtain ⟨vsj, rfl, hSj⟩ := hm; obtain ⟨aj, cj, rfl⟩ := hSj.sl; clear hSj; obtain ⟨s3, bb0, hb3⟩ := boxed hb (by simp); have KVi3 := hidP bb0; clear bb0; have HB3 := hidP (HB2.out.trans (hb3.mono HB2.out.size)); have KR3 := hidP (KR2.out.below hb3 KR2.out.lt); have KVm3 := hidP (KVm2.out.below hb3 KVm2.out.lt); have Hm3 := hidP (Hm2.out.trans (hb3.mono Hm2.out.size)); have Hi3 := hidP hb3; have qR0 := (KR3.out.alloc (.cells #[.int .i64 M.1, .slice aj M.2.length cj] 24)).cell 0 (v := .int .i64 r.1) rfl; have qR1 := (KR3.out.alloc (.cells #[.int .i64 M.1, .slice aj M.2.length cj] 24)).cell 1 (v := .slice a0 r.2.length c0) rfl; have qVm0 := (KVm3.out.alloc (.cells #[.int .i64 M.1, .slice aj M.2.length cj] 24)).cell 0 (v := .int .i64 M.1) rfl; have qVm1 := (KVm3.out.alloc (.cells #[.int .i64 M.1, .slice aj M.2.length cj] 24)).cell 1 (v := .slice am M.2.length cm) rfl; have qVi0 := (KVi3.out.alloc (.cells #[.int .i64 M.1, .slice aj M.2.length cj] 24)).cell 0 (v := .int .i64 I.1) rfl; have qVi1 := (KVi3.out.alloc (.cells #[.int .i64 M.1, .slice aj M.2.length cj] 24)).cell 1 (v := .slice ai I.2.length ci) rfl; clear hb hb3)
    | (go_at_call 13; (with_reducible refine (HR0.out _ _ (HMm.out.later (Hm3.out.alloc Hm3.out.size _) (Nat.le_refl _))).mono ?_); rintro e w4 ⟨v4, rfl, hm, hb⟩; have HMa : Hid (Mach w4 v4 (A)) := hm; obtain ⟨vsa, rfl, hSa⟩ := hm; obtain ⟨aa, ca, rfl⟩ := hSa.sl; clear hSa; obtain ⟨s4, bb0, hb4⟩ := boxed hb (by simp); have KVj4 := hidP bb0; clear bb0; have HB4 := hidP (HB3.out.trans (hb4.mono HB3.out.size)); have KR4 := hidP (KR3.out.below hb4 KR3.out.lt); have KVm4 := hidP (KVm3.out.below hb4 KVm3.out.lt); have KVi4 := hidP (KVi3.out.below hb4 KVi3.out.lt); have Hm4 := hidP (Hm3.out.trans (hb4.mono Hm3.out.size)); have Hi4 := hidP (Hi3.out.trans (hb4.mono Hi3.out.size)); have Hj4 := hidP hb4; have qR0 := (KR4.out.alloc (.cells #[.int .i64 A.1, .slice aa A.2.length ca] 24)).cell 0 (v := .int .i64 r.1) rfl; have qR1 := (KR4.out.alloc (.cells #[.int .i64 A.1, .slice aa A.2.length ca] 24)).cell 1 (v := .slice a0 r.2.length c0) rfl; have qVm0 := (KVm4.out.alloc (.cells #[.int .i64 A.1, .slice aa A.2.length ca] 24)).cell 0 (v := .int .i64 M.1) rfl; have qVm1 := (KVm4.out.alloc (.cells #[.int .i64 A.1, .slice aa A.2.length ca] 24)).cell 1 (v := .slice am M.2.length cm) rfl; have qVi0 := (KVi4.out.alloc (.cells #[.int .i64 A.1, .slice aa A.2.length ca] 24)).cell 0 (v := .int .i64 I.1) rfl; have qVi1 := (KVi4.out.alloc (.cells #[.int .i64 A.1, .slice aa A.2.length ca] 24)).cell 1 (v := .slice ai I.2.length ci) rfl; have qVj0 := (KVj4.out.alloc (.cells #[.int .i64 A.1, .slice aa A.2.length ca] 24)).cell 0 (v := .int .i64 M.1) rfl; have qVj1 := (KVj4.out.alloc (.cells #[.int .i64 A.1, .slice aa A.2.length ca] 24)).cell 1 (v := .slice aj M.2.length cj) rfl; clear hb hb4)
    | (go_at_call 14; (with_reducible refine (HW0.out _ _ (HMi.out.later (Hi4.out.alloc Hi4.out.size _) (Nat.le_refl _))).mono ?_); rintro e w5 ⟨v5, rfl, hm, hb⟩; have HMb : Hid (Mach w5 v5 (A)) := hm; obtain ⟨vsb, rfl, hSb⟩ := hm; obtain ⟨ab, cb, rfl⟩ := hSb.sl; clear hSb; obtain ⟨s5, bb0, hb5⟩ := boxed hb (by simp); have KVa5 := hidP bb0; clear bb0; have HB5 := hidP (HB4.out.trans (hb5.mono HB4.out.size)); have KR5 := hidP (KR4.out.below hb5 KR4.out.lt); have KVm5 := hidP (KVm4.out.below hb5 KVm4.out.lt); have KVi5 := hidP (KVi4.out.below hb5 KVi4.out.lt); have KVj5 := hidP (KVj4.out.below hb5 KVj4.out.lt); have Hm5 := hidP (Hm4.out.trans (hb5.mono Hm4.out.size)); have Hi5 := hidP (Hi4.out.trans (hb5.mono Hi4.out.size)); have Hj5 := hidP (Hj4.out.trans (hb5.mono Hj4.out.size)); have Ha5 := hidP hb5; have qR0 := (KR5.out.alloc (.cells #[.int .i64 A.1, .slice ab A.2.length cb] 24)).cell 0 (v := .int .i64 r.1) rfl; have qR1 := (KR5.out.alloc (.cells #[.int .i64 A.1, .slice ab A.2.length cb] 24)).cell 1 (v := .slice a0 r.2.length c0) rfl; have qVm0 := (KVm5.out.alloc (.cells #[.int .i64 A.1, .slice ab A.2.length cb] 24)).cell 0 (v := .int .i64 M.1) rfl; have qVm1 := (KVm5.out.alloc (.cells #[.int .i64 A.1, .slice ab A.2.length cb] 24)).cell 1 (v := .slice am M.2.length cm) rfl; have qVi0 := (KVi5.out.alloc (.cells #[.int .i64 A.1, .slice ab A.2.length cb] 24)).cell 0 (v := .int .i64 I.1) rfl; have qVi1 := (KVi5.out.alloc (.cells #[.int .i64 A.1, .slice ab A.2.length cb] 24)).cell 1 (v := .slice ai I.2.length ci) rfl; have qVj0 := (KVj5.out.alloc (.cells #[.int .i64 A.1, .slice ab A.2.length cb] 24)).cell 0 (v := .int .i64 M.1) rfl; have qVj1 := (KVj5.out.alloc (.cells #[.int .i64 A.1, .slice ab A.2.length cb] 24)).cell 1 (v := .slice aj M.2.length cj) rfl; have qVa0 := (KVa5.out.alloc (.cells #[.int .i64 A.1, .slice ab A.2.length cb] 24)).cell 0 (v := .int .i64 A.1) rfl; have qVa1 := (KVa5.out.alloc (.cells #[.int .i64 A.1, .slice ab A.2.length cb] 24)).cell 1 (v := .slice aa A.2.length ca) rfl; clear hb hb5)
    | (go_at_call 22; (with_reducible refine (keepAlike_any _ _ M _ (HMj.out.later (Hj5.out.alloc Hj5.out.size _) (Nat.le_refl _)) (HMm.out.later (Hm5.out.alloc Hm5.out.size _) (Nat.le_refl _)) HKM.out).mono ?_); rintro e w6 ⟨rfl, hb⟩; obtain ⟨s6, bb0, hb6⟩ := boxed hb (by simp); have KVb6 := hidP bb0; clear bb0; have HB6 := hidP (HB5.out.trans (hb6.mono HB5.out.size)); have KR6 := hidP (KR5.out.below hb6 KR5.out.lt); have KVm6 := hidP (KVm5.out.below hb6 KVm5.out.lt); have KVi6 := hidP (KVi5.out.below hb6 KVi5.out.lt); have KVj6 := hidP (KVj5.out.below hb6 KVj5.out.lt); have KVa6 := hidP (KVa5.out.below hb6 KVa5.out.lt); have Hm6 := hidP (Hm5.out.trans (hb6.mono Hm5.out.size)); have Hi6 := hidP (Hi5.out.trans (hb6.mono Hi5.out.size)); have Hj6 := hidP (Hj5.out.trans (hb6.mono Hj5.out.size)); have Ha6 := hidP (Ha5.out.trans (hb6.mono Ha5.out.size)); have Hb6 := hidP hb6; have qR0 := KR6.out.cell 0 (v := .int .i64 r.1) rfl; have qR1 := KR6.out.cell 1 (v := .slice a0 r.2.length c0) rfl; have qVm0 := KVm6.out.cell 0 (v := .int .i64 M.1) rfl; have qVm1 := KVm6.out.cell 1 (v := .slice am M.2.length cm) rfl; have qVi0 := KVi6.out.cell 0 (v := .int .i64 I.1) rfl; have qVi1 := KVi6.out.cell 1 (v := .slice ai I.2.length ci) rfl; have qVj0 := KVj6.out.cell 0 (v := .int .i64 M.1) rfl; have qVj1 := KVj6.out.cell 1 (v := .slice aj M.2.length cj) rfl; have qVa0 := KVa6.out.cell 0 (v := .int .i64 A.1) rfl; have qVa1 := KVa6.out.cell 1 (v := .slice aa A.2.length ca) rfl; have qVb0 := KVb6.out.cell 0 (v := .int .i64 A.1) rfl; have qVb1 := KVb6.out.cell 1 (v := .slice ab A.2.length cb) rfl; clear hb hb6)
    | (go_at_call 22; (with_reducible refine (keepAlike_any _ _ A _ (HMa.out.later Ha6.out (Nat.le_refl _)) (HMb.out.later Hb6.out (Nat.le_refl _)) HKA.out).mono ?_); rintro e w7 ⟨rfl, hb⟩; have hb7 := hb; have HB7 := hidP (HB6.out.trans (hb7.mono HB6.out.size)); have KR7 := hidP (KR6.out.below hb7 KR6.out.lt); have KVm7 := hidP (KVm6.out.below hb7 KVm6.out.lt); have KVi7 := hidP (KVi6.out.below hb7 KVi6.out.lt); have KVj7 := hidP (KVj6.out.below hb7 KVj6.out.lt); have KVa7 := hidP (KVa6.out.below hb7 KVa6.out.lt); have KVb7 := hidP (KVb6.out.below hb7 KVb6.out.lt); have Hm7 := hidP (Hm6.out.trans (hb7.mono Hm6.out.size)); have Hi7 := hidP (Hi6.out.trans (hb7.mono Hi6.out.size)); have Hj7 := hidP (Hj6.out.trans (hb7.mono Hj6.out.size)); have Ha7 := hidP (Ha6.out.trans (hb7.mono Ha6.out.size)); have Hb7 := hidP (Hb6.out.trans (hb7.mono Hb6.out.size)); have qR0 := KR7.out.cell 0 (v := .int .i64 r.1) rfl; have qR1 := KR7.out.cell 1 (v := .slice a0 r.2.length c0) rfl; have qVm0 := KVm7.out.cell 0 (v := .int .i64 M.1) rfl; have qVm1 := KVm7.out.cell 1 (v := .slice am M.2.length cm) rfl; have qVi0 := KVi7.out.cell 0 (v := .int .i64 I.1) rfl; have qVi1 := KVi7.out.cell 1 (v := .slice ai I.2.length ci) rfl; have qVj0 := KVj7.out.cell 0 (v := .int .i64 M.1) rfl; have qVj1 := KVj7.out.cell 1 (v := .slice aj M.2.length cj) rfl; have qVa0 := KVa7.out.cell 0 (v := .int .i64 A.1) rfl; have qVa1 := KVa7.out.cell 1 (v := .slice aa A.2.length ca) rfl; have qVb0 := KVb7.out.cell 0 (v := .int .i64 A.1) rfl; have qVb1 := KVb7.out.cell 1 (v := .slice ab A.2.length cb) rfl; clear hb hb7))
  go_ret
  exact ⟨rfl, HB7.out⟩

set_option maxRecDepth 100000 in
theorem lifted (os : Os) (started : os.Started) (H : Type) (enc : TypeId × Value → H) :
    ReturnsInHanded {} Try.checked os 8 .any (Rows.invertTwiceSpec.pre6 enc Try.prog Try.f8 Rows.invertTwiceRow.domain false) (Rows.invertTwiceSpec.post enc Try.prog Try.f8 false true false false) := by
  refine returnsInHanded_of_change_sized (C := Try.checked) own started (by kernel_rfl) Try.func8
    (ChangeSpec.witness6 (enc := enc) (C := Try.checked) false ⟨#[], #[.agg #[.int .i64 0, .slice none 0 0]], []⟩ 8 (by kernel_rfl) (by kernel_rfl) (by kernel_rfl) (by kernel_rfl)) ?_
  intro W base args ds gs before hval0 hW hcnd hsz0 _
  have hsz : (DataW.weightsEach Try.prog (Try.f8.params.toList ++ Rows.invertTwiceSpec.plain.varTypes Try.prog) (ds ++ gs)).all (· ≤ reachBytes) = true := hsz0
  have hval : ∀ (j : Nat) t v, Try.f8.params[j]? = some t → args[j]? = some v → Value.okWide Try.prog W .any base t v := hval0
  clear hval0 hsz0
  have hW' := hW
  obtain ⟨p, q, hA0, hV, rfl, hfz, hnd⟩ := hW
  have hA : DataW.TrodAll enc Try.prog W 0 (fun _ => true) true Try.f8.params.toList args.toList ds p := hA0
  rw [Try.params8] at hA hval hsz
  obtain ⟨v0, vs0, d0, ds0, p0, q0, hargs, rfl, rfl, h0, r0⟩ := trodAll_cons hA
  obtain ⟨rfl, rfl, rfl⟩ := trodAll_nil r0
  obtain rfl : args = #[v0] := by cases args; simp_all
  obtain ⟨rfl, rfl⟩ := trodVars_none hV
  have k0 := h0
  have lt0 : ∀ x ∈ p0, x.block < W.heap.size := by obtain ⟨m, hm⟩ := k0; exact DataW.trod_lt m _ _ _ hm
  obtain ⟨z0, w0⟩ : ∃ m : Rw, RawV W v0 m ∧ okR m ∧ wfR m := by
    obtain ⟨c0, c1, y0, y1, n, rfl, hd, hp, t0, t1⟩ := Go.Joins.open_agg2 Try.underlying39 (by kernel_rfl) (by kernel_rfl) (hval 0 39 v0 rfl rfl) h0
    subst hd
    exact open_raw t0 t1 ((Fits.arg hsz (j := 0) rfl rfl).field Try.underlying39 (f := 1) rfl rfl)
  refine (walk v0 z0 W w0).mono fun e W' ⟨he, bel⟩ => ?_
  subst he
  exact ⟨_, rfl, _, _, _, [], _, [], hW', trodAll_mk1 (shut_bool Try.underlying4 _), (trodAll_cons_mk (Below.trod laidOut (by kernel_rfl) (of_decide_eq_true (by kernel_rfl)) k0 bel lt0) trodAll_mk0), rfl, bel.frame _, fun h => by cases h⟩
end Go.Proofs.Ytfffelgmgghldaa.invertTwice
namespace Go.Proofs.Ytfffelgmgghldaa
theorem invertTwice_holds : Rows.InvertTwiceSaid :=
  OpenClaim.holds_of_wide 8 Try.f8 rfl rfl rfl rfl rfl rfl rfl ⟨rfl, rfl, rfl, rfl, rfl⟩ rfl rfl rfl rfl rfl (by kernel_rfl) Try.func8 (by kernel_rfl)
    (of_decide_eq_true (by kernel_rfl)) (by unfold Func.isWrapper; first | (rw [if_pos (by decide +kernel)]; kernel_rfl) | (rw [if_neg (by decide +kernel)]; exact ⟨rfl, rfl⟩))
    (fun os started H enc _ => invertTwice.lifted os started H enc)
#print axioms invertTwice_holds
end Go.Proofs.Ytfffelgmgghldaa
