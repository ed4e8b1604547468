/- The statement WeighCrosses: whatever words are given, the program's answer and the document's agree and none of them is changed, for every input and without any condition. -/
import Derived.Test.YtpfcljhbamnghaaMcO
import Derived.Test.YtpfcljhbamnghaaMcC
import Derived.Test.YtpfcljhbamnghaaMcS
import Derived.Test.YtpfcljhbamnghaaNi
import Derived.Test.YtpfcljhbamnghaaWc
import Derived.Test.YtpfcljhbamnghaaWy
import Derived.Test.YtpfcljhbamnghaaZn
import Derived.Test.YtpfcljhbamnghaaLo
import Derived.Lib.SmallJoins
import Derived.ChangeOld
import Derived.Below
namespace Go.Proofs.Ytpfcljhbamnghaa.weighCrosses
open Go.ChangeShapes Go.WideShapes Go.ChangeAt Go.RowKit
open Go.Proofs.Ytpfcljhbamnghaa.Pl Go.Proofs.Ytpfcljhbamnghaa.Wt
set_option linter.unusedVariables false
set_option linter.unusedSimpArgs false

theorem own : ownKnob Try.prog.godebug = none := by kernel_rfl
theorem laidOut : laidOutB Try.prog = true := by kernel_rfl
set_option maxRecDepth 100000 in
set_option maxHeartbeats 1600000 in
theorem core (vx : Value) (x : List Int) (vy : Value) (y : List Int) (w : World) (h1 : Nums w vx x) (l1 : x.length * 8 ≤ 140737488351232) (h2 : Nums w vy y) (l2 : y.length * 8 ≤ 140737488351232) :
    Calls Try.prog 4 #[vx, vy] w fun e w' => e = .returned (.bool true) ∧ Below w.heap.size w w' := by
  have HX := hidP h1
  have HLX := hidP l1
  have HMX : Hid (x.length ≤ 17592186044416) := by show _ ≤ _; omega
  have HY := hidP h2
  have HLY := hidP l2
  have HMY : Hid (y.length ≤ 17592186044416) := by show _ ≤ _; omega
  have HKR : Hid (okM (croR x y)) := croR_ok x y
  have HPC : Hid (∀ W v u, Nums W v x → Nums W u y → Calls Try.prog 14 #[v, u] W fun e w' => RatRes (croR x y) (croE x y) W e w') := fun W v u h1 h2 => crossP_any v u x y W h1 h2
  have HRC : Hid (∀ W v u, Nums W v x → Nums W u y → Calls Try.prog 11 #[v, u] W fun e w' => RatRes (croR x y) (croE x y) W e w') := fun W v u h1 h2 => crossed_any v u x y W h1 h2
  generalize croR x y = R at *
  generalize croE x y = r at *
  have e1 : (r == r) = true := by simp
  clear h1 l1 h2 l2
  have HB0 : Hid (Below w.heap.size w w) := Below.refl _ _
  go_enter Try.func4, Try.ntmps4
  go_wp2_with (first
    | (go_at_call 9; (with_reducible refine (ints_nums _ x _ (HX.out.later HB0.out (Nat.le_refl _)) HLX.out).mono ?_); rintro e w1 ⟨vc, rfl, hx, hb⟩; have hb1 := hb; have HB1 := hidP (HB0.out.trans (hb1.mono HB0.out.size)); have HC := hidP hx; clear hx; clear hb hb1)
    | (go_at_call 9; (with_reducible refine (ints_nums _ y _ (HY.out.later HB1.out (Nat.le_refl _)) HLY.out).mono ?_); rintro e w2 ⟨vd, rfl, hx, hb⟩; have hb2 := hb; have HB2 := hidP (HB1.out.trans (hb2.mono HB1.out.size)); have Hc2 := hidP hb2; have HD := hidP hx; clear hx; clear hb hb2)
    | (go_at_call 14; (with_reducible refine (HPC.out _ _ _ (HC.out.later Hc2.out (Nat.le_refl _)) (HD.out.later (Below.refl _ _) (Nat.le_refl _))).mono ?_); rintro e w3 ⟨v3, rfl, hm, hb⟩; have HMp : Hid (Mach w3 v3 (R)) := hm; obtain ⟨vsp, rfl, hSp⟩ := hm; obtain ⟨ap, cp, rfl⟩ := hSp.sl; clear hSp; have hb3 := hb; have HB3 := hidP (HB2.out.trans (hb3.mono HB2.out.size)); have Hc3 := hidP (Hc2.out.trans (hb3.mono Hc2.out.size)); have Hd3 := hidP hb3; clear hb hb3)
    | (go_at_call 11; (with_reducible refine (HRC.out _ _ _ (HX.out.later (HB3.out.alloc HB3.out.size _) (Nat.le_refl _)) (HY.out.later (HB3.out.alloc HB3.out.size _) (Nat.le_refl _))).mono ?_); rintro e w4 ⟨v4, rfl, hm, hb⟩; have HMq : Hid (Mach w4 v4 (R)) := hm; obtain ⟨vsq, rfl, hSq⟩ := hm; obtain ⟨aq, cq, rfl⟩ := hSq.sl; clear hSq; obtain ⟨s4, bb0, hb4⟩ := boxed hb (by simp); have KVp4 := hidP bb0; clear bb0; have HB4 := hidP (HB3.out.trans (hb4.mono HB3.out.size)); have Hc4 := hidP (Hc3.out.trans (hb4.mono Hc3.out.size)); have Hd4 := hidP (Hd3.out.trans (hb4.mono Hd3.out.size)); have Hp4 := hidP hb4; have qVp0 := (KVp4.out.alloc (.cells #[.int .i64 R.1, .slice aq R.2.length cq] 26)).cell 0 (v := .int .i64 R.1) rfl; have qVp1 := (KVp4.out.alloc (.cells #[.int .i64 R.1, .slice aq R.2.length cq] 26)).cell 1 (v := .slice ap R.2.length cp) rfl; clear hb hb4)
    | (go_at_call 12; (with_reducible refine (sameMachine_any _ _ R _ (HMp.out.later (Hp4.out.alloc Hp4.out.size _) (Nat.le_refl _)) (HMq.out.later ((Below.refl _ _).alloc (Nat.le_refl _) _) (Nat.le_refl _)) HKR.out).mono ?_); rintro e w5 ⟨rfl, hb⟩; obtain ⟨s5, bb0, hb5⟩ := boxed hb (by simp); have KVq5 := hidP bb0; clear bb0; have HB5 := hidP (HB4.out.trans (hb5.mono HB4.out.size)); have KVp5 := hidP (KVp4.out.below hb5 KVp4.out.lt); have Hc5 := hidP (Hc4.out.trans (hb5.mono Hc4.out.size)); have Hd5 := hidP (Hd4.out.trans (hb5.mono Hd4.out.size)); have Hp5 := hidP (Hp4.out.trans (hb5.mono Hp4.out.size)); have Hq5 := hidP hb5; have qVp0 := KVp5.out.cell 0 (v := .int .i64 R.1) rfl; have qVp1 := KVp5.out.cell 1 (v := .slice ap R.2.length cp) rfl; have qVq0 := KVq5.out.cell 0 (v := .int .i64 R.1) rfl; have qVq1 := KVq5.out.cell 1 (v := .slice aq R.2.length cq) rfl; clear hb hb5)
    | (go_at_call 13; (with_reducible refine (sameNums_any _ _ x _ (HC.out.later Hc5.out (Nat.le_refl _)) (HX.out.later HB5.out (Nat.le_refl _)) HMX.out).mono ?_); rintro e w6 ⟨rfl, hb⟩; have hb6 := hb; have HB6 := hidP (HB5.out.trans (hb6.mono HB5.out.size)); have KVp6 := hidP (KVp5.out.below hb6 KVp5.out.lt); have KVq6 := hidP (KVq5.out.below hb6 KVq5.out.lt); have Hc6 := hidP (Hc5.out.trans (hb6.mono Hc5.out.size)); have Hd6 := hidP (Hd5.out.trans (hb6.mono Hd5.out.size)); have Hp6 := hidP (Hp5.out.trans (hb6.mono Hp5.out.size)); have Hq6 := hidP (Hq5.out.trans (hb6.mono Hq5.out.size)); have qVp0 := KVp6.out.cell 0 (v := .int .i64 R.1) rfl; have qVp1 := KVp6.out.cell 1 (v := .slice ap R.2.length cp) rfl; have qVq0 := KVq6.out.cell 0 (v := .int .i64 R.1) rfl; have qVq1 := KVq6.out.cell 1 (v := .slice aq R.2.length cq) rfl; clear hb hb6)
    | (go_at_call 13; (with_reducible refine (sameNums_any _ _ y _ (HD.out.later Hd6.out (Nat.le_refl _)) (HY.out.later HB6.out (Nat.le_refl _)) HMY.out).mono ?_); rintro e w7 ⟨rfl, hb⟩; have hb7 := hb; have HB7 := hidP (HB6.out.trans (hb7.mono HB6.out.size)); have KVp7 := hidP (KVp6.out.below hb7 KVp6.out.lt); have KVq7 := hidP (KVq6.out.below hb7 KVq6.out.lt); have Hc7 := hidP (Hc6.out.trans (hb7.mono Hc6.out.size)); have Hd7 := hidP (Hd6.out.trans (hb7.mono Hd6.out.size)); have Hp7 := hidP (Hp6.out.trans (hb7.mono Hp6.out.size)); have Hq7 := hidP (Hq6.out.trans (hb7.mono Hq6.out.size)); have qVp0 := KVp7.out.cell 0 (v := .int .i64 R.1) rfl; have qVp1 := KVp7.out.cell 1 (v := .slice ap R.2.length cp) rfl; have qVq0 := KVq7.out.cell 0 (v := .int .i64 R.1) rfl; have qVq1 := KVq7.out.cell 1 (v := .slice aq R.2.length cq) rfl; clear hb hb7))
  go_ret
  exact ⟨rfl, HB7.out⟩
theorem walk (a0 : Option Addr) (len0 cap0 : Nat) (z0 : List Int) (a1 : Option Addr) (len1 cap1 : Nat) (z1 : List Int) (w : World) (w0 : IsRow .i64 w a0 len0 cap0 z0 ∧ cap0 * 8 ≤ 140737488351232) (w1 : IsRow .i64 w a1 len1 cap1 z1 ∧ cap1 * 8 ≤ 140737488351232) :
    Calls Try.prog 4 #[.slice a0 len0 cap0, .slice a1 len1 cap1] w fun e w' => e = .returned (.bool true) ∧ Below w.heap.size w w' := by
  obtain ⟨h1, h2, h3⟩ := row_nums w0.1
  obtain ⟨k1, k2, k3⟩ := row_nums w1.1
  exact core _ _ _ _ w h1 (by have := w0.2; omega) k1 (by have := w1.2; omega)

set_option maxRecDepth 100000 in
theorem lifted (os : Os) (started : os.Started) (H : Type) (enc : TypeId × Value → H) :
    ReturnsInHanded {} Try.checked os 4 .any (Rows.weighCrossesSpec.pre6 enc Try.prog Try.f4 Rows.weighCrossesRow.domain false) (Rows.weighCrossesSpec.post enc Try.prog Try.f4 false true false false) := by
  refine returnsInHanded_of_change_sized (C := Try.checked) own started (by kernel_rfl) Try.func4
    (ChangeSpec.witness6 (enc := enc) (C := Try.checked) false ⟨#[], #[.slice none 0 0, .slice none 0 0], []⟩ 8 (by kernel_rfl) (by kernel_rfl) (by kernel_rfl) (by kernel_rfl)) ?_
  intro W base args ds gs before hval0 hW hcnd hsz0 _
  have hsz : (DataW.weightsEach Try.prog (Try.f4.params.toList ++ Rows.weighCrossesSpec.plain.varTypes Try.prog) (ds ++ gs)).all (· ≤ reachBytes) = true := hsz0
  have hval : ∀ (j : Nat) t v, Try.f4.params[j]? = some t → args[j]? = some v → Value.okWide Try.prog W .any base t v := hval0
  clear hval0 hsz0
  have hW' := hW
  obtain ⟨p, q, hA0, hV, rfl, hfz, hnd⟩ := hW
  have hA : DataW.TrodAll enc Try.prog W 0 (fun _ => true) true Try.f4.params.toList args.toList ds p := hA0
  rw [Try.params4] at hA hval hsz
  obtain ⟨v0, vs0, d0, ds0, p0, q0, hargs, rfl, rfl, h0, r0⟩ := trodAll_cons hA
  obtain ⟨v1, vs1, d1, ds1, p1, q1, rfl, rfl, rfl, h1, r1⟩ := trodAll_cons r0
  obtain ⟨rfl, rfl, rfl⟩ := trodAll_nil r1
  obtain rfl : args = #[v0, v1] := by cases args; simp_all
  obtain ⟨rfl, rfl⟩ := trodVars_none hV
  obtain ⟨a0, len0, cap0, rfl⟩ := okWide_slice Try.underlying22 (hval 0 22 v0 rfl rfl)
  have k0 := h0
  have lt0 : ∀ x ∈ p0, x.block < W.heap.size := by obtain ⟨m, hm⟩ := k0; exact DataW.trod_lt m _ _ _ hm
  obtain ⟨z0, w0⟩ : ∃ zs, IsRow .i64 W a0 len0 cap0 zs ∧ cap0 * 8 ≤ 140737488351232 := by
    obtain ⟨fuel, hf⟩ := h0
    rcases open_ints Try.underlying22 Try.underlying3 (by kernel_rfl) hf with ⟨hcs, _⟩ | ⟨x, l, c, zs, hcs, _, hl, hm, hz, hx, hcell, hwz⟩
    · simp [Value.cells] at hcs
      obtain ⟨rfl, rfl, rfl⟩ := hcs
      exact ⟨[], .inl ⟨rfl, rfl, rfl, rfl⟩, by omega⟩
    · have hd := congrArg Prod.fst hx
      have hsw := sized_slice hsz (j := 0) (t := 22) (e := 3) rfl (congrArg some hd) Try.underlying22
      have hby : Try.prog.bytesOf 3 = 8 := by kernel_rfl
      rw [hby] at hsw
      simp [Value.cells] at hcs
      obtain ⟨rfl, rfl, rfl⟩ := hcs
      have hz' : zs.length = cap0 := by simpa using hz
      simp only [lits, List.length_map, List.length_take, List.length_drop, reachBytes] at hsw
      exact ⟨zs, .inr ⟨_, rfl, hl, hm, hz', hcell, hwz⟩, by omega⟩
  obtain ⟨a1, len1, cap1, rfl⟩ := okWide_slice Try.underlying22 (hval 1 22 v1 rfl rfl)
  have k1 := h1
  have lt1 : ∀ x ∈ p1, x.block < W.heap.size := by obtain ⟨m, hm⟩ := k1; exact DataW.trod_lt m _ _ _ hm
  obtain ⟨z1, w1⟩ : ∃ zs, IsRow .i64 W a1 len1 cap1 zs ∧ cap1 * 8 ≤ 140737488351232 := by
    obtain ⟨fuel, hf⟩ := h1
    rcases open_ints Try.underlying22 Try.underlying3 (by kernel_rfl) hf with ⟨hcs, _⟩ | ⟨x, l, c, zs, hcs, _, hl, hm, hz, hx, hcell, hwz⟩
    · simp [Value.cells] at hcs
      obtain ⟨rfl, rfl, rfl⟩ := hcs
      exact ⟨[], .inl ⟨rfl, rfl, rfl, rfl⟩, by omega⟩
    · have hd := congrArg Prod.fst hx
      have hsw := sized_slice hsz (j := 1) (t := 22) (e := 3) rfl (congrArg some hd) Try.underlying22
      have hby : Try.prog.bytesOf 3 = 8 := by kernel_rfl
      rw [hby] at hsw
      simp [Value.cells] at hcs
      obtain ⟨rfl, rfl, rfl⟩ := hcs
      have hz' : zs.length = cap1 := by simpa using hz
      simp only [lits, List.length_map, List.length_take, List.length_drop, reachBytes] at hsw
      exact ⟨zs, .inr ⟨_, rfl, hl, hm, hz', hcell, hwz⟩, by omega⟩
  refine (walk a0 len0 cap0 z0 a1 len1 cap1 z1 W w0 w1).mono fun e W' ⟨he, bel⟩ => ?_
  subst he
  exact ⟨_, rfl, _, _, _, [], _, [], hW', trodAll_mk1 (shut_bool Try.underlying4 _), (trodAll_cons_mk (Below.trod laidOut (by kernel_rfl) (of_decide_eq_true (by kernel_rfl)) k0 bel lt0) (trodAll_cons_mk (Below.trod laidOut (by kernel_rfl) (of_decide_eq_true (by kernel_rfl)) k1 bel lt1) trodAll_mk0)), rfl, bel.frame _, fun h => by cases h⟩
end Go.Proofs.Ytpfcljhbamnghaa.weighCrosses
namespace Go.Proofs.Ytpfcljhbamnghaa
theorem weighCrosses_holds : Rows.WeighCrossesSaid :=
  OpenClaim.holds_of_wide 4 Try.f4 rfl rfl rfl rfl rfl rfl rfl ⟨rfl, rfl, rfl, rfl, rfl⟩ rfl rfl rfl rfl rfl (by kernel_rfl) Try.func4 (by kernel_rfl)
    (of_decide_eq_true (by kernel_rfl)) (by unfold Func.isWrapper; first | (rw [if_pos (by decide +kernel)]; kernel_rfl) | (rw [if_neg (by decide +kernel)]; exact ⟨rfl, rfl⟩))
    (fun os started H enc _ => weighCrosses.lifted os started H enc)
#print axioms weighCrosses_holds
end Go.Proofs.Ytpfcljhbamnghaa
