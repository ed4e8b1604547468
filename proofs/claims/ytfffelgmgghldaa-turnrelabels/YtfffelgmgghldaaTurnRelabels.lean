/- The statement TurnRelabels: whatever machine and whatever changes are given, the program's answer and the document's agree and none of them is changed, for every input and without any condition. -/
import Derived.Test.YtfffelgmgghldaaMcO
import Derived.Test.YtfffelgmgghldaaMcC
import Derived.Test.YtfffelgmgghldaaMcS
import Derived.Test.YtfffelgmgghldaaTf
import Derived.Test.YtfffelgmgghldaaRr
import Derived.Test.YtfffelgmgghldaaLo
import Derived.Lib.SmallJoins
import Derived.ChangeOld
import Derived.Below
namespace Go.Proofs.Ytfffelgmgghldaa.turnRelabels
open Go.ChangeShapes Go.WideShapes Go.ChangeAt Go.RowKit
open Go.Proofs.Ytfffelgmgghldaa.Pl Go.Proofs.Ytfffelgmgghldaa.Wt
set_option linter.unusedVariables false
set_option linter.unusedSimpArgs false

theorem own : ownKnob Try.prog.godebug = none := by kernel_rfl
theorem laidOut : laidOutB Try.prog = true := by kernel_rfl
set_option maxRecDepth 100000 in
set_option maxHeartbeats 1600000 in
theorem walk (v : Value) (m : Mc) (vi : Value) (ins : List Ch) (vo : Value) (outs : List Ch) (w : World) (h : Mach w v m ∧ okM m ∧ (Lit.int .i64 m.1).wf = true ∧ ∀ s ∈ m.2, (Lit.int .i64 s.1).wf = true ∧ ∀ a ∈ s.2, wfA a) (hi : Chs w vi ins ∧ okC ins) (ho : Chs w vo outs ∧ okC outs) :
    Calls Try.prog 7 #[v, vi, vo] w fun e w' => e = .returned (.bool true) ∧ Below w.heap.size w w' := by
  obtain ⟨h, hok, _⟩ := h
  obtain ⟨hi, hoi⟩ := hi
  obtain ⟨ho, hoo⟩ := ho
  have HI : Hid (Mach w v m) := h
  have HK : Hid (okM m) := hok
  have HXI := hidP hi
  have HOI := hidP hoi
  have HXO := hidP ho
  have HOO := hidP hoo
  have HKR : Hid (okM (relR ins outs m)) := relR_ok ins outs m
  have HPC : Hid (∀ W v vi vo, Mach W v m → Chs W vi ins → Chs W vo outs → Calls Try.prog 18 #[v, vi, vo] W fun e w' => RatRes (relR ins outs m) (relE ins outs m) W e w') := fun W v vi vo h1 h2 h3 => relabelP_any v vi vo m ins outs W h1 hok h2 hoi h3 hoo
  have HRC : Hid (∀ W v vi vo, Mach W v m → Chs W vi ins → Chs W vo outs → Calls Try.prog 19 #[v, vi, vo] W fun e w' => RatRes (relR ins outs m) (relE ins outs m) W e w') := fun W v vi vo h1 h2 h3 => relabelled_any v vi vo m ins outs W h1 hok h2 hoi h3 hoo
  generalize relR ins outs m = R at *
  generalize relE ins outs m = r at *
  have e1 : (r == r) = true := by simp
  obtain ⟨vs, rfl, hS⟩ := h
  obtain ⟨a, cap, rfl⟩ := hS.sl
  clear hS hok hi ho hoi hoo
  have HB0 : Hid (∀ o, Below w.heap.size w (w.alloc o)) := fun o => (Below.refl _ _).alloc (Nat.le_refl _) _
  go_enter Try.func7, Try.ntmps7
  go_wp2_with (first
    | (go_at_call 9; (with_reducible refine (machine_any _ m _ (HI.out.later (HB0.out _) (Nat.le_refl _)) HK.out).mono ?_); rintro e w1 ⟨v1, rfl, hm, hb⟩; have HMc : Hid (Mach w1 v1 (m)) := hm; obtain ⟨vsc, rfl, hSc⟩ := hm; obtain ⟨ac, cc, rfl⟩ := hSc.sl; clear hSc; obtain ⟨s1, bb0, hb1⟩ := boxed hb (by simp); have KI1 := hidP bb0; clear bb0; have HB1 := hidP hb1; have qI0 := (KI1.out.alloc (.cells #[.int .i64 m.1, .slice ac m.2.length cc] 24)).cell 0 (v := .int .i64 m.1) rfl; have qI1 := (KI1.out.alloc (.cells #[.int .i64 m.1, .slice ac m.2.length cc] 24)).cell 1 (v := .slice a m.2.length cap) rfl; clear hb hb1)
    | (go_at_call 17; (with_reducible refine (changes_any _ ins _ (HXI.out.later (HB1.out.alloc HB1.out.size _) (Nat.le_refl _)) HOI.out).mono ?_); rintro e w2 ⟨vx, rfl, hx, hb⟩; obtain ⟨s2, bb0, hb2⟩ := boxed hb (by simp); have KVc2 := hidP bb0; clear bb0; have HB2 := hidP (HB1.out.trans (hb2.mono HB1.out.size)); have KI2 := hidP (KI1.out.below hb2 KI1.out.lt); have Hc2 := hidP hb2; have qI0 := KI2.out.cell 0 (v := .int .i64 m.1) rfl; have qI1 := KI2.out.cell 1 (v := .slice a m.2.length cap) rfl; have qVc0 := KVc2.out.cell 0 (v := .int .i64 m.1) rfl; have qVc1 := KVc2.out.cell 1 (v := .slice ac m.2.length cc) rfl; have HX := hidP hx; clear hx; clear hb hb2)
    | (go_at_call 17; (with_reducible refine (changes_any _ outs _ (HXO.out.later HB2.out (Nat.le_refl _)) HOO.out).mono ?_); rintro e w3 ⟨vy, rfl, hx, hb⟩; have hb3 := hb; have HB3 := hidP (HB2.out.trans (hb3.mono HB2.out.size)); have KI3 := hidP (KI2.out.below hb3 KI2.out.lt); have KVc3 := hidP (KVc2.out.below hb3 KVc2.out.lt); have Hc3 := hidP (Hc2.out.trans (hb3.mono Hc2.out.size)); have Hx3 := hidP hb3; have qI0 := KI3.out.cell 0 (v := .int .i64 m.1) rfl; have qI1 := KI3.out.cell 1 (v := .slice a m.2.length cap) rfl; have qVc0 := KVc3.out.cell 0 (v := .int .i64 m.1) rfl; have qVc1 := KVc3.out.cell 1 (v := .slice ac m.2.length cc) rfl; have HY := hidP hx; clear hx; clear hb hb3)
    | (go_at_call 18; (with_reducible refine (HPC.out _ _ _ _ (HMc.out.later Hc3.out (Nat.le_refl _)) (HX.out.later Hx3.out (Nat.le_refl _)) (HY.out.later (Below.refl _ _) (Nat.le_refl _))).mono ?_); rintro e w4 ⟨v4, rfl, hm, hb⟩; have HMp : Hid (Mach w4 v4 (R)) := hm; obtain ⟨vsp, rfl, hSp⟩ := hm; obtain ⟨ap, cp, rfl⟩ := hSp.sl; clear hSp; have hb4 := hb; have HB4 := hidP (HB3.out.trans (hb4.mono HB3.out.size)); have KI4 := hidP (KI3.out.below hb4 KI3.out.lt); have KVc4 := hidP (KVc3.out.below hb4 KVc3.out.lt); have Hc4 := hidP (Hc3.out.trans (hb4.mono Hc3.out.size)); have Hx4 := hidP (Hx3.out.trans (hb4.mono Hx3.out.size)); have Hy4 := hidP hb4; have qI0 := (KI4.out.alloc (.cells #[.int .i64 R.1, .slice ap R.2.length cp] 24)).cell 0 (v := .int .i64 m.1) rfl; have qI1 := (KI4.out.alloc (.cells #[.int .i64 R.1, .slice ap R.2.length cp] 24)).cell 1 (v := .slice a m.2.length cap) rfl; have qVc0 := (KVc4.out.alloc (.cells #[.int .i64 R.1, .slice ap R.2.length cp] 24)).cell 0 (v := .int .i64 m.1) rfl; have qVc1 := (KVc4.out.alloc (.cells #[.int .i64 R.1, .slice ap R.2.length cp] 24)).cell 1 (v := .slice ac m.2.length cc) rfl; clear hb hb4)
    | (go_at_call 19; (with_reducible refine (HRC.out _ _ _ _ (HI.out.later (HB4.out.alloc HB4.out.size _) (Nat.le_refl _)) (HXI.out.later (HB4.out.alloc HB4.out.size _) (Nat.le_refl _)) (HXO.out.later (HB4.out.alloc HB4.out.size _) (Nat.le_refl _))).mono ?_); rintro e w5 ⟨v5, rfl, hm, hb⟩; have HMq : Hid (Mach w5 v5 (R)) := hm; obtain ⟨vsq, rfl, hSq⟩ := hm; obtain ⟨aq, cq, rfl⟩ := hSq.sl; clear hSq; obtain ⟨s5, bb0, hb5⟩ := boxed hb (by simp); have KVp5 := hidP bb0; clear bb0; have HB5 := hidP (HB4.out.trans (hb5.mono HB4.out.size)); have KI5 := hidP (KI4.out.below hb5 KI4.out.lt); have KVc5 := hidP (KVc4.out.below hb5 KVc4.out.lt); have Hc5 := hidP (Hc4.out.trans (hb5.mono Hc4.out.size)); have Hx5 := hidP (Hx4.out.trans (hb5.mono Hx4.out.size)); have Hy5 := hidP (Hy4.out.trans (hb5.mono Hy4.out.size)); have Hp5 := hidP hb5; have qI0 := (KI5.out.alloc (.cells #[.int .i64 R.1, .slice aq R.2.length cq] 24)).cell 0 (v := .int .i64 m.1) rfl; have qI1 := (KI5.out.alloc (.cells #[.int .i64 R.1, .slice aq R.2.length cq] 24)).cell 1 (v := .slice a m.2.length cap) rfl; have qVc0 := (KVc5.out.alloc (.cells #[.int .i64 R.1, .slice aq R.2.length cq] 24)).cell 0 (v := .int .i64 m.1) rfl; have qVc1 := (KVc5.out.alloc (.cells #[.int .i64 R.1, .slice aq R.2.length cq] 24)).cell 1 (v := .slice ac m.2.length cc) rfl; have qVp0 := (KVp5.out.alloc (.cells #[.int .i64 R.1, .slice aq R.2.length cq] 24)).cell 0 (v := .int .i64 R.1) rfl; have qVp1 := (KVp5.out.alloc (.cells #[.int .i64 R.1, .slice aq R.2.length cq] 24)).cell 1 (v := .slice ap R.2.length cp) rfl; clear hb hb5)
    | (go_at_call 12; (with_reducible refine (sameMachine_any _ _ R _ (HMp.out.later (Hp5.out.alloc Hp5.out.size _) (Nat.le_refl _)) (HMq.out.later ((Below.refl _ _).alloc (Nat.le_refl _) _) (Nat.le_refl _)) HKR.out).mono ?_); rintro e w6 ⟨rfl, hb⟩; obtain ⟨s6, bb0, hb6⟩ := boxed hb (by simp); have KVq6 := hidP bb0; clear bb0; have HB6 := hidP (HB5.out.trans (hb6.mono HB5.out.size)); have KI6 := hidP (KI5.out.below hb6 KI5.out.lt); have KVc6 := hidP (KVc5.out.below hb6 KVc5.out.lt); have KVp6 := hidP (KVp5.out.below hb6 KVp5.out.lt); have Hc6 := hidP (Hc5.out.trans (hb6.mono Hc5.out.size)); have Hx6 := hidP (Hx5.out.trans (hb6.mono Hx5.out.size)); have Hy6 := hidP (Hy5.out.trans (hb6.mono Hy5.out.size)); have Hp6 := hidP (Hp5.out.trans (hb6.mono Hp5.out.size)); have Hq6 := hidP hb6; have qI0 := KI6.out.cell 0 (v := .int .i64 m.1) rfl; have qI1 := KI6.out.cell 1 (v := .slice a m.2.length cap) rfl; have qVc0 := KVc6.out.cell 0 (v := .int .i64 m.1) rfl; have qVc1 := KVc6.out.cell 1 (v := .slice ac m.2.length cc) rfl; have qVp0 := KVp6.out.cell 0 (v := .int .i64 R.1) rfl; have qVp1 := KVp6.out.cell 1 (v := .slice ap R.2.length cp) rfl; have qVq0 := KVq6.out.cell 0 (v := .int .i64 R.1) rfl; have qVq1 := KVq6.out.cell 1 (v := .slice aq R.2.length cq) rfl; clear hb hb6)
    | (go_at_call 12; (with_reducible refine (sameMachine_any _ _ m _ (HMc.out.later Hc6.out (Nat.le_refl _)) (HI.out.later HB6.out (Nat.le_refl _)) HK.out).mono ?_); rintro e w7 ⟨rfl, hb⟩; have hb7 := hb; have HB7 := hidP (HB6.out.trans (hb7.mono HB6.out.size)); have KI7 := hidP (KI6.out.below hb7 KI6.out.lt); have KVc7 := hidP (KVc6.out.below hb7 KVc6.out.lt); have KVp7 := hidP (KVp6.out.below hb7 KVp6.out.lt); have KVq7 := hidP (KVq6.out.below hb7 KVq6.out.lt); have Hc7 := hidP (Hc6.out.trans (hb7.mono Hc6.out.size)); have Hx7 := hidP (Hx6.out.trans (hb7.mono Hx6.out.size)); have Hy7 := hidP (Hy6.out.trans (hb7.mono Hy6.out.size)); have Hp7 := hidP (Hp6.out.trans (hb7.mono Hp6.out.size)); have Hq7 := hidP (Hq6.out.trans (hb7.mono Hq6.out.size)); have qI0 := KI7.out.cell 0 (v := .int .i64 m.1) rfl; have qI1 := KI7.out.cell 1 (v := .slice a m.2.length cap) rfl; have qVc0 := KVc7.out.cell 0 (v := .int .i64 m.1) rfl; have qVc1 := KVc7.out.cell 1 (v := .slice ac m.2.length cc) rfl; have qVp0 := KVp7.out.cell 0 (v := .int .i64 R.1) rfl; have qVp1 := KVp7.out.cell 1 (v := .slice ap R.2.length cp) rfl; have qVq0 := KVq7.out.cell 0 (v := .int .i64 R.1) rfl; have qVq1 := KVq7.out.cell 1 (v := .slice aq R.2.length cq) rfl; clear hb hb7)
    | (go_at_call 20; (with_reducible refine (sameChanges_any _ _ ins _ (HX.out.later Hx7.out (Nat.le_refl _)) (HXI.out.later HB7.out (Nat.le_refl _)) HOI.out).mono ?_); rintro e w8 ⟨rfl, hb⟩; have hb8 := hb; have HB8 := hidP (HB7.out.trans (hb8.mono HB7.out.size)); have KI8 := hidP (KI7.out.below hb8 KI7.out.lt); have KVc8 := hidP (KVc7.out.below hb8 KVc7.out.lt); have KVp8 := hidP (KVp7.out.below hb8 KVp7.out.lt); have KVq8 := hidP (KVq7.out.below hb8 KVq7.out.lt); have Hc8 := hidP (Hc7.out.trans (hb8.mono Hc7.out.size)); have Hx8 := hidP (Hx7.out.trans (hb8.mono Hx7.out.size)); have Hy8 := hidP (Hy7.out.trans (hb8.mono Hy7.out.size)); have Hp8 := hidP (Hp7.out.trans (hb8.mono Hp7.out.size)); have Hq8 := hidP (Hq7.out.trans (hb8.mono Hq7.out.size)); have qI0 := KI8.out.cell 0 (v := .int .i64 m.1) rfl; have qI1 := KI8.out.cell 1 (v := .slice a m.2.length cap) rfl; have qVc0 := KVc8.out.cell 0 (v := .int .i64 m.1) rfl; have qVc1 := KVc8.out.cell 1 (v := .slice ac m.2.length cc) rfl; have qVp0 := KVp8.out.cell 0 (v := .int .i64 R.1) rfl; have qVp1 := KVp8.out.cell 1 (v := .slice ap R.2.length cp) rfl; have qVq0 := KVq8.out.cell 0 (v := .int .i64 R.1) rfl; have qVq1 := KVq8.out.cell 1 (v := .slice aq R.2.length cq) rfl; clear hb hb8)
    | (go_at_call 20; (with_reducible refine (sameChanges_any _ _ outs _ (HY.out.later Hy8.out (Nat.le_refl _)) (HXO.out.later HB8.out (Nat.le_refl _)) HOO.out).mono ?_); rintro e w9 ⟨rfl, hb⟩; have hb9 := hb; have HB9 := hidP (HB8.out.trans (hb9.mono HB8.out.size)); have KI9 := hidP (KI8.out.below hb9 KI8.out.lt); have KVc9 := hidP (KVc8.out.below hb9 KVc8.out.lt); have KVp9 := hidP (KVp8.out.below hb9 KVp8.out.lt); have KVq9 := hidP (KVq8.out.below hb9 KVq8.out.lt); have Hc9 := hidP (Hc8.out.trans (hb9.mono Hc8.out.size)); have Hx9 := hidP (Hx8.out.trans (hb9.mono Hx8.out.size)); have Hy9 := hidP (Hy8.out.trans (hb9.mono Hy8.out.size)); have Hp9 := hidP (Hp8.out.trans (hb9.mono Hp8.out.size)); have Hq9 := hidP (Hq8.out.trans (hb9.mono Hq8.out.size)); have qI0 := KI9.out.cell 0 (v := .int .i64 m.1) rfl; have qI1 := KI9.out.cell 1 (v := .slice a m.2.length cap) rfl; have qVc0 := KVc9.out.cell 0 (v := .int .i64 m.1) rfl; have qVc1 := KVc9.out.cell 1 (v := .slice ac m.2.length cc) rfl; have qVp0 := KVp9.out.cell 0 (v := .int .i64 R.1) rfl; have qVp1 := KVp9.out.cell 1 (v := .slice ap R.2.length cp) rfl; have qVq0 := KVq9.out.cell 0 (v := .int .i64 R.1) rfl; have qVq1 := KVq9.out.cell 1 (v := .slice aq R.2.length cq) rfl; clear hb hb9))
  go_ret
  exact ⟨rfl, HB9.out⟩

set_option maxRecDepth 100000 in
theorem lifted (os : Os) (started : os.Started) (H : Type) (enc : TypeId × Value → H) :
    ReturnsInHanded {} Try.checked os 7 .any (Rows.turnRelabelsSpec.pre6 enc Try.prog Try.f7 Rows.turnRelabelsRow.domain false) (Rows.turnRelabelsSpec.post enc Try.prog Try.f7 false true false false) := by
  refine returnsInHanded_of_change_sized (C := Try.checked) own started (by kernel_rfl) Try.func7
    (ChangeSpec.witness6 (enc := enc) (C := Try.checked) false ⟨#[], #[.agg #[.int .i64 0, .slice none 0 0], .slice none 0 0, .slice none 0 0], []⟩ 8 (by kernel_rfl) (by kernel_rfl) (by kernel_rfl) (by kernel_rfl)) ?_
  intro W base args ds gs before hval0 hW hcnd hsz0 _
  have hsz : (DataW.weightsEach Try.prog (Try.f7.params.toList ++ Rows.turnRelabelsSpec.plain.varTypes Try.prog) (ds ++ gs)).all (· ≤ reachBytes) = true := hsz0
  have hval : ∀ (j : Nat) t v, Try.f7.params[j]? = some t → args[j]? = some v → Value.okWide Try.prog W .any base t v := hval0
  clear hval0 hsz0
  have hW' := hW
  obtain ⟨p, q, hA0, hV, rfl, hfz, hnd⟩ := hW
  have hA : DataW.TrodAll enc Try.prog W 0 (fun _ => true) true Try.f7.params.toList args.toList ds p := hA0
  rw [Try.params7] at hA hval hsz
  obtain ⟨v0, vs0, d0, ds0, p0, q0, hargs, rfl, rfl, h0, r0⟩ := trodAll_cons hA
  obtain ⟨v1, vs1, d1, ds1, p1, q1, rfl, rfl, rfl, h1, r1⟩ := trodAll_cons r0
  obtain ⟨v2, vs2, d2, ds2, p2, q2, rfl, rfl, rfl, h2, r2⟩ := trodAll_cons r1
  obtain ⟨rfl, rfl, rfl⟩ := trodAll_nil r2
  obtain rfl : args = #[v0, v1, v2] := by cases args; simp_all
  obtain ⟨rfl, rfl⟩ := trodVars_none hV
  have k0 := h0
  have lt0 : ∀ x ∈ p0, x.block < W.heap.size := by obtain ⟨m, hm⟩ := k0; exact DataW.trod_lt m _ _ _ hm
  obtain ⟨z0, w0⟩ : ∃ m : Mc, Mach W v0 m ∧ okM m ∧ (Lit.int .i64 m.1).wf = true ∧ ∀ s ∈ m.2, (Lit.int .i64 s.1).wf = true ∧ ∀ a ∈ s.2, wfA a := by
    obtain ⟨c0, c1, y0, y1, n, rfl, hd, hp, t0, t1⟩ := Go.Joins.open_agg2 Try.underlying24 (by kernel_rfl) (by kernel_rfl) (hval 0 24 v0 rfl rfl) h0
    subst hd
    exact open_machine t0 t1 ((Fits.arg hsz (j := 0) rfl rfl).field Try.underlying24 (f := 1) rfl rfl)
  have k1 := h1
  have lt1 : ∀ x ∈ p1, x.block < W.heap.size := by obtain ⟨m, hm⟩ := k1; exact DataW.trod_lt m _ _ _ hm
  obtain ⟨z1, w1⟩ : ∃ l : List Ch, Chs W v1 l ∧ okC l := by
    obtain ⟨al1, ll1, cl1, rfl⟩ := okWide_slice Try.underlying32 (hval 1 32 v1 rfl rfl)
    obtain ⟨fuel, hf⟩ := h1
    exact open_changes (v := .slice al1 ll1 cl1) hf (Fits.arg hsz (j := 1) rfl rfl)
  have k2 := h2
  have lt2 : ∀ x ∈ p2, x.block < W.heap.size := by obtain ⟨m, hm⟩ := k2; exact DataW.trod_lt m _ _ _ hm
  obtain ⟨z2, w2⟩ : ∃ l : List Ch, Chs W v2 l ∧ okC l := by
    obtain ⟨al2, ll2, cl2, rfl⟩ := okWide_slice Try.underlying32 (hval 2 32 v2 rfl rfl)
    obtain ⟨fuel, hf⟩ := h2
    exact open_changes (v := .slice al2 ll2 cl2) hf (Fits.arg hsz (j := 2) rfl rfl)
  refine (walk v0 z0 v1 z1 v2 z2 W w0 w1 w2).mono fun e W' ⟨he, bel⟩ => ?_
  subst he
  exact ⟨_, rfl, _, _, _, [], _, [], hW', trodAll_mk1 (shut_bool Try.underlying4 _), (trodAll_cons_mk (Below.trod laidOut (by kernel_rfl) (of_decide_eq_true (by kernel_rfl)) k0 bel lt0) (trodAll_cons_mk (Below.trod laidOut (by kernel_rfl) (of_decide_eq_true (by kernel_rfl)) k1 bel lt1) (trodAll_cons_mk (Below.trod laidOut (by kernel_rfl) (of_decide_eq_true (by kernel_rfl)) k2 bel lt2) trodAll_mk0))), rfl, bel.frame _, fun h => by cases h⟩
end Go.Proofs.Ytfffelgmgghldaa.turnRelabels
namespace Go.Proofs.Ytfffelgmgghldaa
theorem turnRelabels_holds : Rows.TurnRelabelsSaid :=
  OpenClaim.holds_of_wide 7 Try.f7 rfl rfl rfl rfl rfl rfl rfl ⟨rfl, rfl, rfl, rfl, rfl⟩ rfl rfl rfl rfl rfl (by kernel_rfl) Try.func7 (by kernel_rfl)
    (of_decide_eq_true (by kernel_rfl)) (by unfold Func.isWrapper; first | (rw [if_pos (by decide +kernel)]; kernel_rfl) | (rw [if_neg (by decide +kernel)]; exact ⟨rfl, rfl⟩))
    (fun os started H enc _ => turnRelabels.lifted os started H enc)
#print axioms turnRelabels_holds
end Go.Proofs.Ytfffelgmgghldaa
