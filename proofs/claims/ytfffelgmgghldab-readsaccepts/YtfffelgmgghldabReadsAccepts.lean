/- The statement ReadsAccepts: whatever numbers a machine is made of, what is read, as a machine, is an acceptor, and of an acceptor it is the same, for every input and without any condition. -/
import Derived.Test.YtfffelgmgghldabMd
import Derived.Test.YtfffelgmgghldabKd
import Derived.Test.YtfffelgmgghldabTk
import Derived.Test.YtfffelgmgghldabPlainTv
import Derived.Test.YtfffelgmgghldabMcX
import Derived.Test.YtfffelgmgghldabLo
import Derived.Lib.SmallJoins
import Derived.ChangeOld
import Derived.Below
namespace Go.Proofs.Ytfffelgmgghldab.readsAccepts
open Go.ChangeShapes Go.WideShapes Go.ChangeAt Go.RowKit
open Go.Proofs.Ytfffelgmgghldab.Pl Go.Proofs.Ytfffelgmgghldab.Wt
set_option linter.unusedVariables false
set_option linter.unusedSimpArgs false

theorem own : ownKnob Try.prog.godebug = none := by kernel_rfl
theorem laidOut : laidOutB Try.prog = true := by kernel_rfl
theorem acc_reads (m : Mc) : (tuM 1 m).2.all (fun s => s.2.all accA) = true := by
  simp [tuM, tuS, tuA, accA]
set_option maxRecDepth 100000 in
set_option maxHeartbeats 1600000 in
theorem walk (v : Value) (r : Rw) (w : World) (h : RawV w v r ∧ okR r ∧ wfR r) :
    Calls Try.prog 3 #[v] w fun e w' => e = .returned (.bool true) ∧ Below w.heap.size w w' := by
  obtain ⟨h, hok, hwf⟩ := h
  have HI : Hid (RawV w v r) := h
  have hf := madeM_right r 8 (by omega) (by omega) false
  have HMD : Hid (∀ v W, RawV W v r → Calls Try.prog 5 #[v, .int .i64 8, .bool false] W fun e w' => ∃ v', e = .returned v' ∧ Mach w' v' (madeM r 8 false) ∧ Below W.heap.size W w') := fun v W hW => made_any v r 8 false W hW hok hwf (by omega) (by omega)
  generalize madeM r 8 false = M at *
  obtain ⟨vs0, rfl, hN⟩ := h
  obtain ⟨a0, c0, rfl, hNx⟩ := hN.get
  clear hN hNx hok hwf
  have HKM := hidP (right_okM hf)
  have hfa : faultM (tuM 1 M) = 0 := tuM_right hf
  have HKA : Hid (okM (tuM 1 M)) := right_okM hfa
  have HR0 : Hid (∀ v W, Mach W v M → Calls Try.prog 6 #[v] W fun e w' => RatRes (tuM 1 M) 0 W e w') := fun v W hW => by
    have := readsP_any v M W hW (right_okM hf)
    rw [tur_right hf, hf] at this
    exact this
  have HR1 : Hid (∀ v W, Mach W v (tuM 1 M) → Calls Try.prog 6 #[v] W fun e w' => RatRes (tuM 1 M) 0 W e w') := fun v W hW => by
    have := readsP_any v (tuM 1 M) W hW (right_okM hfa)
    rw [tur_right hfa, hfa, reads_reads] at this
    exact this
  have HW1 : Hid (∀ v W, Mach W v (tuM 1 M) → Calls Try.prog 8 #[v] W fun e w' => RatRes (tuM 1 M) 0 W e w') := fun v W hW => by
    have := writesP_any v (tuM 1 M) W hW (right_okM hfa)
    rw [tur_right hfa, hfa, writes_reads] at this
    exact this
  obtain ⟨rF, rG, rS, rP, hBT⟩ : ∃ rF rG rS rP : Bool, ∀ a cap W, Mach W (.agg #[.int .i64 (tuM 1 M).1, .slice a (tuM 1 M).2.length cap]) (tuM 1 M) → Calls Try.prog 7 #[.agg #[.int .i64 (tuM 1 M).1, .slice a (tuM 1 M).2.length cap]] W fun e w' => e = .returned (.tuple #[.agg #[.bool true, .bool rF, .bool rG, .bool rS, .bool rP], .int .i64 0]) ∧ Below W.heap.size W w' :=
    ⟨_, _, _, _, fun a cap W hW => bits_ok (tuM 1 M).1 a cap (tuM 1 M).2 W hW (right_okM hfa) hfa true _ _ _ _ _ (acc_reads M) rfl rfl rfl rfl rfl⟩
  have HBT := hidP hBT
  have t6 : (((tuM 1 M).2.length : Int) == (M.2.length : Int)) = true := by rw [tuM_len]; simp
  clear hf hfa hBT
  generalize tuM 1 M = A at *
  have HB0 : Hid (∀ o, Below w.heap.size w (w.alloc o)) := fun o => (Below.refl _ _).alloc (Nat.le_refl _) _
  go_enter Try.func3, Try.ntmps3
  go_wp2_with (first
    | (go_at_call 5; (with_reducible refine (HMD.out _ _ (HI.out.later (HB0.out _) (Nat.le_refl _))).mono ?_); rintro e w1 ⟨v1, rfl, hm, hb⟩; have HMm : Hid (Mach w1 v1 (M)) := hm; obtain ⟨vsm, rfl, hSm⟩ := hm; obtain ⟨am, cm, rfl⟩ := hSm.sl; clear hSm; obtain ⟨s1, bb0, hb1⟩ := boxed hb (by simp); have KR1 := hidP bb0; clear bb0; have HB1 := hidP hb1; have qR0 := (KR1.out.alloc (.cells #[.int .i64 M.1, .slice am M.2.length cm] 27)).cell 0 (v := .int .i64 r.1) rfl; have qR1 := (KR1.out.alloc (.cells #[.int .i64 M.1, .slice am M.2.length cm] 27)).cell 1 (v := .slice a0 r.2.length c0) rfl; clear hb hb1)
    | (go_at_call 6; (with_reducible refine (HR0.out _ _ (HMm.out.later ((Below.refl _ _).alloc (Nat.le_refl _) _) (Nat.le_refl _))).mono ?_); rintro e w2 ⟨v2, rfl, hm, hb⟩; have HMa : Hid (Mach w2 v2 (A)) := hm; obtain ⟨vsa, rfl, hSa⟩ := hm; obtain ⟨aa, ca, rfl⟩ := hSa.sl; clear hSa; obtain ⟨s2, bb0, hb2⟩ := boxed hb (by simp); have KVm2 := hidP bb0; clear bb0; have HB2 := hidP (HB1.out.trans (hb2.mono HB1.out.size)); have KR2 := hidP (KR1.out.below hb2 KR1.out.lt); have Hm2 := hidP hb2; have qR0 := (KR2.out.alloc (.cells #[.int .i64 A.1, .slice aa A.2.length ca] 27)).cell 0 (v := .int .i64 r.1) rfl; have qR1 := (KR2.out.alloc (.cells #[.int .i64 A.1, .slice aa A.2.length ca] 27)).cell 1 (v := .slice a0 r.2.length c0) rfl; have qVm0 := (KVm2.out.alloc (.cells #[.int .i64 A.1, .slice aa A.2.length ca] 27)).cell 0 (v := .int .i64 M.1) rfl; have qVm1 := (KVm2.out.alloc (.cells #[.int .i64 A.1, .slice aa A.2.length ca] 27)).cell 1 (v := .slice am M.2.length cm) rfl; clear hb hb2)
    | (go_at_call 7; (with_reducible refine (HBT.out _ _ _ (HMa.out.later ((Below.refl _ _).alloc (Nat.le_refl _) _) (Nat.le_refl _))).mono ?_); rintro e w3 ⟨rfl, hb⟩; obtain ⟨s3, bb0, hb3⟩ := boxed hb (by simp); have KVa3 := hidP bb0; clear bb0; have HB3 := hidP (HB2.out.trans (hb3.mono HB2.out.size)); have KR3 := hidP (KR2.out.below hb3 KR2.out.lt); have KVm3 := hidP (KVm2.out.below hb3 KVm2.out.lt); have Hm3 := hidP (Hm2.out.trans (hb3.mono Hm2.out.size)); have Ha3 := hidP hb3; have qR0 := (KR3.out.alloc (.cells #[.bool true, .bool rF, .bool rG, .bool rS, .bool rP] 33)).cell 0 (v := .int .i64 r.1) rfl; have qR1 := (KR3.out.alloc (.cells #[.bool true, .bool rF, .bool rG, .bool rS, .bool rP] 33)).cell 1 (v := .slice a0 r.2.length c0) rfl; have qVm0 := (KVm3.out.alloc (.cells #[.bool true, .bool rF, .bool rG, .bool rS, .bool rP] 33)).cell 0 (v := .int .i64 M.1) rfl; have qVm1 := (KVm3.out.alloc (.cells #[.bool true, .bool rF, .bool rG, .bool rS, .bool rP] 33)).cell 1 (v := .slice am M.2.length cm) rfl; have qVa0 := (KVa3.out.alloc (.cells #[.bool true, .bool rF, .bool rG, .bool rS, .bool rP] 33)).cell 0 (v := .int .i64 A.1) rfl; have qVa1 := (KVa3.out.alloc (.cells #[.bool true, .bool rF, .bool rG, .bool rS, .bool rP] 33)).cell 1 (v := .slice aa A.2.length ca) rfl; clear hb hb3)
    | (go_at_call 6; (with_reducible refine (HR1.out _ _ (HMa.out.later (Ha3.out.alloc Ha3.out.size _) (Nat.le_refl _))).mono ?_); rintro e w4 ⟨v4, rfl, hm, hb⟩; have HMb : Hid (Mach w4 v4 (A)) := hm; obtain ⟨vsb, rfl, hSb⟩ := hm; obtain ⟨ab, cb, rfl⟩ := hSb.sl; clear hSb; obtain ⟨s4, bb0, hb4⟩ := boxed hb (by simp); have KVp4 := hidP bb0; clear bb0; have HB4 := hidP (HB3.out.trans (hb4.mono HB3.out.size)); have KR4 := hidP (KR3.out.below hb4 KR3.out.lt); have KVm4 := hidP (KVm3.out.below hb4 KVm3.out.lt); have KVa4 := hidP (KVa3.out.below hb4 KVa3.out.lt); have Hm4 := hidP (Hm3.out.trans (hb4.mono Hm3.out.size)); have Ha4 := hidP (Ha3.out.trans (hb4.mono Ha3.out.size)); have qR0 := (KR4.out.alloc (.cells #[.int .i64 A.1, .slice ab A.2.length cb] 27)).cell 0 (v := .int .i64 r.1) rfl; have qR1 := (KR4.out.alloc (.cells #[.int .i64 A.1, .slice ab A.2.length cb] 27)).cell 1 (v := .slice a0 r.2.length c0) rfl; have qVm0 := (KVm4.out.alloc (.cells #[.int .i64 A.1, .slice ab A.2.length cb] 27)).cell 0 (v := .int .i64 M.1) rfl; have qVm1 := (KVm4.out.alloc (.cells #[.int .i64 A.1, .slice ab A.2.length cb] 27)).cell 1 (v := .slice am M.2.length cm) rfl; have qVa0 := (KVa4.out.alloc (.cells #[.int .i64 A.1, .slice ab A.2.length cb] 27)).cell 0 (v := .int .i64 A.1) rfl; have qVa1 := (KVa4.out.alloc (.cells #[.int .i64 A.1, .slice ab A.2.length cb] 27)).cell 1 (v := .slice aa A.2.length ca) rfl; have qVp0 := (KVp4.out.alloc (.cells #[.int .i64 A.1, .slice ab A.2.length cb] 27)).cell 0 (v := .bool true) rfl; have qVp1 := (KVp4.out.alloc (.cells #[.int .i64 A.1, .slice ab A.2.length cb] 27)).cell 1 (v := .bool rF) rfl; have qVp2 := (KVp4.out.alloc (.cells #[.int .i64 A.1, .slice ab A.2.length cb] 27)).cell 2 (v := .bool rG) rfl; have qVp3 := (KVp4.out.alloc (.cells #[.int .i64 A.1, .slice ab A.2.length cb] 27)).cell 3 (v := .bool rS) rfl; have qVp4 := (KVp4.out.alloc (.cells #[.int .i64 A.1, .slice ab A.2.length cb] 27)).cell 4 (v := .bool rP) rfl; clear hb hb4)
    | (go_at_call 8; (with_reducible refine (HW1.out _ _ (HMa.out.later (Ha4.out.alloc Ha4.out.size _) (Nat.le_refl _))).mono ?_); rintro e w5 ⟨v5, rfl, hm, hb⟩; have HMc : Hid (Mach w5 v5 (A)) := hm; obtain ⟨vsc, rfl, hSc⟩ := hm; obtain ⟨ac, cc, rfl⟩ := hSc.sl; clear hSc; obtain ⟨s5, bb0, hb5⟩ := boxed hb (by simp); have KVb5 := hidP bb0; clear bb0; have HB5 := hidP (HB4.out.trans (hb5.mono HB4.out.size)); have KR5 := hidP (KR4.out.below hb5 KR4.out.lt); have KVm5 := hidP (KVm4.out.below hb5 KVm4.out.lt); have KVa5 := hidP (KVa4.out.below hb5 KVa4.out.lt); have KVp5 := hidP (KVp4.out.below hb5 KVp4.out.lt); have Hm5 := hidP (Hm4.out.trans (hb5.mono Hm4.out.size)); have Ha5 := hidP (Ha4.out.trans (hb5.mono Ha4.out.size)); have Hb5 := hidP hb5; have qR0 := (KR5.out.alloc (.cells #[.int .i64 A.1, .slice ac A.2.length cc] 27)).cell 0 (v := .int .i64 r.1) rfl; have qR1 := (KR5.out.alloc (.cells #[.int .i64 A.1, .slice ac A.2.length cc] 27)).cell 1 (v := .slice a0 r.2.length c0) rfl; have qVm0 := (KVm5.out.alloc (.cells #[.int .i64 A.1, .slice ac A.2.length cc] 27)).cell 0 (v := .int .i64 M.1) rfl; have qVm1 := (KVm5.out.alloc (.cells #[.int .i64 A.1, .slice ac A.2.length cc] 27)).cell 1 (v := .slice am M.2.length cm) rfl; have qVa0 := (KVa5.out.alloc (.cells #[.int .i64 A.1, .slice ac A.2.length cc] 27)).cell 0 (v := .int .i64 A.1) rfl; have qVa1 := (KVa5.out.alloc (.cells #[.int .i64 A.1, .slice ac A.2.length cc] 27)).cell 1 (v := .slice aa A.2.length ca) rfl; have qVp0 := (KVp5.out.alloc (.cells #[.int .i64 A.1, .slice ac A.2.length cc] 27)).cell 0 (v := .bool true) rfl; have qVp1 := (KVp5.out.alloc (.cells #[.int .i64 A.1, .slice ac A.2.length cc] 27)).cell 1 (v := .bool rF) rfl; have qVp2 := (KVp5.out.alloc (.cells #[.int .i64 A.1, .slice ac A.2.length cc] 27)).cell 2 (v := .bool rG) rfl; have qVp3 := (KVp5.out.alloc (.cells #[.int .i64 A.1, .slice ac A.2.length cc] 27)).cell 3 (v := .bool rS) rfl; have qVp4 := (KVp5.out.alloc (.cells #[.int .i64 A.1, .slice ac A.2.length cc] 27)).cell 4 (v := .bool rP) rfl; have qVb0 := (KVb5.out.alloc (.cells #[.int .i64 A.1, .slice ac A.2.length cc] 27)).cell 0 (v := .int .i64 A.1) rfl; have qVb1 := (KVb5.out.alloc (.cells #[.int .i64 A.1, .slice ac A.2.length cc] 27)).cell 1 (v := .slice ab A.2.length cb) rfl; clear hb hb5)
    | (go_at_call 9; (with_reducible refine (keepAlike_any _ _ A _ (HMa.out.later (Ha5.out.alloc Ha5.out.size _) (Nat.le_refl _)) (HMb.out.later (Hb5.out.alloc Hb5.out.size _) (Nat.le_refl _)) HKA.out).mono ?_); rintro e w6 ⟨rfl, hb⟩; obtain ⟨s6, bb0, hb6⟩ := boxed hb (by simp); have KVc6 := hidP bb0; clear bb0; have HB6 := hidP (HB5.out.trans (hb6.mono HB5.out.size)); have KR6 := hidP (KR5.out.below hb6 KR5.out.lt); have KVm6 := hidP (KVm5.out.below hb6 KVm5.out.lt); have KVa6 := hidP (KVa5.out.below hb6 KVa5.out.lt); have KVp6 := hidP (KVp5.out.below hb6 KVp5.out.lt); have KVb6 := hidP (KVb5.out.below hb6 KVb5.out.lt); have Hm6 := hidP (Hm5.out.trans (hb6.mono Hm5.out.size)); have Ha6 := hidP (Ha5.out.trans (hb6.mono Ha5.out.size)); have Hb6 := hidP (Hb5.out.trans (hb6.mono Hb5.out.size)); have Hc6 := hidP hb6; have qR0 := KR6.out.cell 0 (v := .int .i64 r.1) rfl; have qR1 := KR6.out.cell 1 (v := .slice a0 r.2.length c0) rfl; have qVm0 := KVm6.out.cell 0 (v := .int .i64 M.1) rfl; have qVm1 := KVm6.out.cell 1 (v := .slice am M.2.length cm) rfl; have qVa0 := KVa6.out.cell 0 (v := .int .i64 A.1) rfl; have qVa1 := KVa6.out.cell 1 (v := .slice aa A.2.length ca) rfl; have qVp0 := KVp6.out.cell 0 (v := .bool true) rfl; have qVp1 := KVp6.out.cell 1 (v := .bool rF) rfl; have qVp2 := KVp6.out.cell 2 (v := .bool rG) rfl; have qVp3 := KVp6.out.cell 3 (v := .bool rS) rfl; have qVp4 := KVp6.out.cell 4 (v := .bool rP) rfl; have qVb0 := KVb6.out.cell 0 (v := .int .i64 A.1) rfl; have qVb1 := KVb6.out.cell 1 (v := .slice ab A.2.length cb) rfl; have qVc0 := KVc6.out.cell 0 (v := .int .i64 A.1) rfl; have qVc1 := KVc6.out.cell 1 (v := .slice ac A.2.length cc) rfl; clear hb hb6)
    | (go_at_call 9; (with_reducible refine (keepAlike_any _ _ A _ (HMa.out.later Ha6.out (Nat.le_refl _)) (HMc.out.later Hc6.out (Nat.le_refl _)) HKA.out).mono ?_); rintro e w7 ⟨rfl, hb⟩; have hb7 := hb; have HB7 := hidP (HB6.out.trans (hb7.mono HB6.out.size)); have KR7 := hidP (KR6.out.below hb7 KR6.out.lt); have KVm7 := hidP (KVm6.out.below hb7 KVm6.out.lt); have KVa7 := hidP (KVa6.out.below hb7 KVa6.out.lt); have KVp7 := hidP (KVp6.out.below hb7 KVp6.out.lt); have KVb7 := hidP (KVb6.out.below hb7 KVb6.out.lt); have KVc7 := hidP (KVc6.out.below hb7 KVc6.out.lt); have Hm7 := hidP (Hm6.out.trans (hb7.mono Hm6.out.size)); have Ha7 := hidP (Ha6.out.trans (hb7.mono Ha6.out.size)); have Hb7 := hidP (Hb6.out.trans (hb7.mono Hb6.out.size)); have Hc7 := hidP (Hc6.out.trans (hb7.mono Hc6.out.size)); have qR0 := KR7.out.cell 0 (v := .int .i64 r.1) rfl; have qR1 := KR7.out.cell 1 (v := .slice a0 r.2.length c0) rfl; have qVm0 := KVm7.out.cell 0 (v := .int .i64 M.1) rfl; have qVm1 := KVm7.out.cell 1 (v := .slice am M.2.length cm) rfl; have qVa0 := KVa7.out.cell 0 (v := .int .i64 A.1) rfl; have qVa1 := KVa7.out.cell 1 (v := .slice aa A.2.length ca) rfl; have qVp0 := KVp7.out.cell 0 (v := .bool true) rfl; have qVp1 := KVp7.out.cell 1 (v := .bool rF) rfl; have qVp2 := KVp7.out.cell 2 (v := .bool rG) rfl; have qVp3 := KVp7.out.cell 3 (v := .bool rS) rfl; have qVp4 := KVp7.out.cell 4 (v := .bool rP) rfl; have qVb0 := KVb7.out.cell 0 (v := .int .i64 A.1) rfl; have qVb1 := KVb7.out.cell 1 (v := .slice ab A.2.length cb) rfl; have qVc0 := KVc7.out.cell 0 (v := .int .i64 A.1) rfl; have qVc1 := KVc7.out.cell 1 (v := .slice ac A.2.length cc) rfl; clear hb hb7))
  go_ret
  exact ⟨rfl, HB7.out⟩

set_option maxRecDepth 100000 in
theorem lifted (os : Os) (started : os.Started) (H : Type) (enc : TypeId × Value → H) :
    ReturnsInHanded {} Try.checked os 3 .any (Rows.readsAcceptsSpec.pre6 enc Try.prog Try.f3 Rows.readsAcceptsRow.domain false) (Rows.readsAcceptsSpec.post enc Try.prog Try.f3 false true false false) := by
  refine returnsInHanded_of_change_sized (C := Try.checked) own started (by kernel_rfl) Try.func3
    (ChangeSpec.witness6 (enc := enc) (C := Try.checked) false ⟨#[], #[.agg #[.int .i64 0, .slice none 0 0]], []⟩ 8 (by kernel_rfl) (by kernel_rfl) (by kernel_rfl) (by kernel_rfl)) ?_
  intro W base args ds gs before hval0 hW hcnd hsz0 _
  have hsz : (DataW.weightsEach Try.prog (Try.f3.params.toList ++ Rows.readsAcceptsSpec.plain.varTypes Try.prog) (ds ++ gs)).all (· ≤ reachBytes) = true := hsz0
  have hval : ∀ (j : Nat) t v, Try.f3.params[j]? = some t → args[j]? = some v → Value.okWide Try.prog W .any base t v := hval0
  clear hval0 hsz0
  have hW' := hW
  obtain ⟨p, q, hA0, hV, rfl, hfz, hnd⟩ := hW
  have hA : DataW.TrodAll enc Try.prog W 0 (fun _ => true) true Try.f3.params.toList args.toList ds p := hA0
  rw [Try.params3] at hA hval hsz
  obtain ⟨v0, vs0, d0, ds0, p0, q0, hargs, rfl, rfl, h0, r0⟩ := trodAll_cons hA
  obtain ⟨rfl, rfl, rfl⟩ := trodAll_nil r0
  obtain rfl : args = #[v0] := by cases args; simp_all
  obtain ⟨rfl, rfl⟩ := trodVars_none hV
  have k0 := h0
  have lt0 : ∀ x ∈ p0, x.block < W.heap.size := by obtain ⟨m, hm⟩ := k0; exact DataW.trod_lt m _ _ _ hm
  obtain ⟨z0, w0⟩ : ∃ m : Rw, RawV W v0 m ∧ okR m ∧ wfR m := by
    obtain ⟨c0, c1, y0, y1, n, rfl, hd, hp, t0, t1⟩ := Go.Joins.open_agg2 Try.underlying24 (by kernel_rfl) (by kernel_rfl) (hval 0 24 v0 rfl rfl) h0
    subst hd
    exact open_raw t0 t1 ((Fits.arg hsz (j := 0) rfl rfl).field Try.underlying24 (f := 1) rfl rfl)
  refine (walk v0 z0 W w0).mono fun e W' ⟨he, bel⟩ => ?_
  subst he
  exact ⟨_, rfl, _, _, _, [], _, [], hW', trodAll_mk1 (shut_bool Try.underlying4 _), (trodAll_cons_mk (Below.trod laidOut (by kernel_rfl) (of_decide_eq_true (by kernel_rfl)) k0 bel lt0) trodAll_mk0), rfl, bel.frame _, fun h => by cases h⟩
end Go.Proofs.Ytfffelgmgghldab.readsAccepts
namespace Go.Proofs.Ytfffelgmgghldab
theorem readsAccepts_holds : Rows.ReadsAcceptsSaid :=
  OpenClaim.holds_of_wide 3 Try.f3 rfl rfl rfl rfl rfl rfl rfl ⟨rfl, rfl, rfl, rfl, rfl⟩ rfl rfl rfl rfl rfl (by kernel_rfl) Try.func3 (by kernel_rfl)
    (of_decide_eq_true (by kernel_rfl)) (by unfold Func.isWrapper; first | (rw [if_pos (by decide +kernel)]; kernel_rfl) | (rw [if_neg (by decide +kernel)]; exact ⟨rfl, rfl⟩))
    (fun os started H enc _ => readsAccepts.lifted os started H enc)
#print axioms readsAccepts_holds
end Go.Proofs.Ytfffelgmgghldab
