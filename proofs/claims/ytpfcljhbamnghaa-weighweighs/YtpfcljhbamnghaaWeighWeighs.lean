/- The statement WeighWeighs: whatever machine and whatever words are given, the program's answer and the document's agree and the machine is not changed, for every input and without any condition. -/
import Derived.Test.YtpfcljhbamnghaaMcO
import Derived.Test.YtpfcljhbamnghaaMcC
import Derived.Test.YtpfcljhbamnghaaMcS
import Derived.Test.YtpfcljhbamnghaaPlainWn
import Derived.Test.YtpfcljhbamnghaaWy
import Derived.Test.YtpfcljhbamnghaaWz
import Derived.Test.YtpfcljhbamnghaaWv
import Derived.Test.YtpfcljhbamnghaaLo
import Derived.Lib.SmallJoins
import Derived.ChangeOld
import Derived.Below
namespace Go.Proofs.Ytpfcljhbamnghaa.weighWeighs
open Go.ChangeShapes Go.WideShapes Go.ChangeAt Go.RowKit
open Go.Proofs.Ytpfcljhbamnghaa.Pl Go.Proofs.Ytpfcljhbamnghaa.Wt
set_option linter.unusedVariables false
set_option linter.unusedSimpArgs false

theorem own : ownKnob Try.prog.godebug = none := by kernel_rfl
theorem laidOut : laidOutB Try.prog = true := by kernel_rfl
def Held2 (B : Nat) (z : Int) (v : Value) (w : World) : Prop := w.cell? ⟨B, 0, none⟩ = some (.int .i64 z) ∧ w.cell? ⟨B, 1, none⟩ = some v
set_option maxRecDepth 100000 in
set_option maxHeartbeats 1600000 in
theorem core (v : Value) (m : Mc) (vx : Value) (x : List Int) (vy : Value) (y : List Int) (w : World) (h : Mach w v m) (hok : okM m) (hx : Nums w vx x) (lx : x.length * 8 ≤ 140737488351232) (hy : Nums w vy y) (ly : y.length * 8 ≤ 140737488351232) :
    Calls Try.prog 5 #[v, vx, vy] w fun e w' => e = .returned (.bool true) ∧ Below w.heap.size w w' := by
  have HI := hidP h
  have HK := hidP hok
  have HPC : Hid (∀ W v vx vy, Mach W v m → Nums W vx x → Nums W vy y → Calls Try.prog 16 #[v, vx, vy] W fun e w' => ∃ n ec : Int, e = .returned (.tuple #[.int .i64 n, .int .i64 ec]) ∧ WgR (Costs m x y) (wghE2 m x y) n ec ∧ Below W.heap.size W w') := fun W v vx vy hm hx hy => weighP_any v vx vy m x y W hm hok hx hy
  have HRC : Hid (∀ W v vx vy, Mach W v m → Nums W vx x → Nums W vy y → Calls Try.prog 17 #[v, vx, vy] W fun e w' => ∃ n ec : Int, e = .returned (.tuple #[.int .i64 n, .int .i64 ec]) ∧ WgR (Costs m x y) (wghE2 m x y) n ec ∧ Below W.heap.size W w') := fun W v vx vy hm hx hy => weighed_any v vx vy m x y W hm hok hx hy
  have HON : Hid (∀ n e n' e', WgR (Costs m x y) (wghE2 m x y) n e → WgR (Costs m x y) (wghE2 m x y) n' e' → n = n' ∧ e = e') := fun _ _ _ _ h k => h.one k
  have HXx := hidP hx
  have HLx := hidP lx
  have HXy := hidP hy
  have HLy := hidP ly
  generalize hPP : (fun n ec => WgR (Costs m x y) (wghE2 m x y) n ec) = Q at *
  have HQ : ∀ n ec, WgR (Costs m x y) (wghE2 m x y) n ec = Q n ec := fun n ec => by rw [← hPP]
  simp only [HQ] at HPC HRC HON
  clear hPP HQ
  have e0 : ∀ r : Int, (r == r) = true := fun r => by simp
  obtain ⟨vs, rfl, hS⟩ := h
  obtain ⟨a, cap, rfl⟩ := hS.sl
  clear hS hok hx lx hy ly
  have HB0 : Hid (∀ o, Below w.heap.size w (w.alloc o)) := fun o => (Below.refl _ _).alloc (Nat.le_refl _) _
  go_enter Try.func5, Try.ntmps5
  go_wp2_with (first
    | (go_at_call 15; (with_reducible refine (machine_any _ m _ (HI.out.later (HB0.out _) (Nat.le_refl _)) HK.out).mono ?_); rintro e w1 ⟨v1, rfl, hm, hb⟩; have HM := hidP hm; obtain ⟨vs1, rfl, hS1⟩ := hm; obtain ⟨a1, c1, rfl⟩ := hS1.sl; clear hS1; obtain ⟨s1, bb, hb1⟩ := boxed hb (by simp); have KI := hidP bb; have HB1 := hidP hb1; clear bb hb hb1))
  have KC := hidP (Blk.made w1 #[.int .i64 m.1, .slice a1 m.2.length c1] 26).drew
  have HBc : Hid (Below w1.heap.size w1 (w1.alloc (.cells #[.int .i64 m.1, .slice a1 m.2.length c1] 26)).drew) := ((Below.refl _ _).alloc (Nat.le_refl _) _).drew
  have HSD : Held2 w1.heap.size m.1 (.slice a1 m.2.length c1) (w1.alloc (.cells #[.int .i64 m.1, .slice a1 m.2.length c1] 26)).drew := ⟨KC.out.cell 0 rfl, KC.out.cell 1 rfl⟩
  have hlt : w1.heap.size < (w1.alloc (.cells #[.int .i64 m.1, .slice a1 m.2.length c1] 26)).heap.size := by rw [World.size_alloc]; omega
  refine region_anyL (Held2 w1.heap.size m.1 (.slice a1 m.2.length c1)) 100 (by kernel_rfl) ?_
  refine anyL_take (i := 0) (v := ?v0_1) at0 (by kernel_rfl) (by kernel_rfl) (by kernel_rfl) (by kernel_rfl) (fun _ _ _ h => h) rfl ?y0_1 HSD ?r0_1
  case y0_1 => intro wx hx; obtain ⟨h0, h1⟩ := hx; go_simp; try (with_reducible rfl)
  simp only [Act.put, List.setIfInBounds_toArray, List.set_cons_zero, List.set_cons_succ]
  refine anyL_take (i := 1) (v := ?v1_2) (atS at0) (by kernel_rfl) (by kernel_rfl) (by kernel_rfl) (by kernel_rfl) (fun _ _ _ h => h) rfl ?y1_2 HSD ?r1_2
  case y1_2 => intro wx hx; obtain ⟨h0, h1⟩ := hx; go_simp; try (with_reducible rfl)
  simp only [Act.put, List.setIfInBounds_toArray, List.set_cons_zero, List.set_cons_succ]
  refine anyL_take (i := 3) (v := ?v3_3) (atS (atS (atS at0))) (by kernel_rfl) (by kernel_rfl) (by kernel_rfl) (by kernel_rfl) (fun _ _ _ h => h) rfl ?y3_3 HSD ?r3_3
  case y3_3 => intro wx hx; obtain ⟨h0, h1⟩ := hx; go_simp; try (with_reducible rfl)
  simp only [Act.put, List.setIfInBounds_toArray, List.set_cons_zero, List.set_cons_succ]
  refine anyL_one (i := 2) (atS (atS at0)) (by kernel_rfl) rfl (fun K hK => ?_)
  go_simp
  with_reducible refine (ints_nums _ x _ (HXx.out.later (HB1.out.trans (HBc.out.mono HB1.out.size)) (Nat.le_refl _)) HLx.out).mono ?_
  rintro e w2 ⟨ux, rfl, hu, hb⟩
  have HUx := hidP hu
  have HC2 : Hid (Below w1.heap.size w1 w2) := HBc.out.trans (hb.mono HBc.out.size)
  have KC2 := hidP (KC.out.below hb (hlt))
  have HS2 : Held2 w1.heap.size m.1 (.slice a1 m.2.length c1) w2 := ⟨KC2.out.cell 0 rfl, KC2.out.cell 1 rfl⟩
  clear hu hb
  refine hK _ _ (.inr HS2) ?_
  try simp only [Act.put, List.setIfInBounds_toArray, List.set_cons_zero, List.set_cons_succ]
  refine anyL_one (i := 4) (atS (atS (atS (atS at0)))) (by kernel_rfl) rfl (fun K hK => ?_)
  go_simp
  with_reducible refine (ints_nums _ y _ (HXy.out.later (HB1.out.trans (HC2.out.mono HB1.out.size)) (Nat.le_refl _)) HLy.out).mono ?_
  rintro e w3 ⟨uy, rfl, hu, hb⟩
  have HUy := hidP hu
  have HC3 : Hid (Below w1.heap.size w1 w3) := HC2.out.trans (hb.mono HC2.out.size)
  have KC3 := hidP (KC2.out.below hb (KC2.out.lt))
  have HS3 : Held2 w1.heap.size m.1 (.slice a1 m.2.length c1) w3 := ⟨KC3.out.cell 0 rfl, KC3.out.cell 1 rfl⟩
  have HUx2 := hidP (HUx.out.later hb (Nat.le_refl _))
  clear hu hb
  refine hK _ _ (.inr HS3) ?_
  try simp only [Act.put, List.setIfInBounds_toArray, List.set_cons_zero, List.set_cons_succ]
  refine anyL_one (i := 5) (atS (atS (atS (atS (atS at0))))) (by kernel_rfl) rfl (fun K hK => ?_)
  go_simp
  with_reducible refine (HPC.out _ _ _ _ (HM.out.later HC3.out (Nat.le_refl _)) HUx2.out HUy.out).mono ?_
  rintro e w4 ⟨n1, e1, rfl, hp, hb⟩
  have HP := hidP hp
  have HC4 : Hid (Below w1.heap.size w1 w4) := HC3.out.trans (hb.mono HC3.out.size)
  have KC4 := hidP (KC3.out.below hb KC3.out.lt)
  have HSF : Held2 w1.heap.size m.1 (.slice a1 m.2.length c1) w4 := ⟨KC4.out.cell 0 rfl, KC4.out.cell 1 rfl⟩
  clear hp hb
  refine hK _ _ (.inr HSF) ?_
  try simp only [Act.put, List.setIfInBounds_toArray, List.set_cons_zero, List.set_cons_succ]
  refine anyL_one (i := 6) (atS (atS (atS (atS (atS (atS at0)))))) (by kernel_rfl) rfl (fun K hK => ?_)
  go_simp
  refine hK _ _ (.inr HSF) ?_
  try simp only [Act.put, List.setIfInBounds_toArray, List.set_cons_zero, List.set_cons_succ]
  refine anyL_take (i := 7) (v := ?v7_4) (atS (atS (atS (atS (atS (atS (atS at0))))))) (by kernel_rfl) (by kernel_rfl) (by kernel_rfl) (by kernel_rfl) (fun _ _ _ h => h) rfl ?y7_4 HSF ?r7_4
  case y7_4 => intro wx hx; obtain ⟨h0, h1⟩ := hx; go_simp; try (with_reducible rfl)
  simp only [Act.put, List.setIfInBounds_toArray, List.set_cons_zero, List.set_cons_succ]
  refine anyL_take (i := 8) (v := ?v8_5) (atS (atS (atS (atS (atS (atS (atS (atS at0)))))))) (by kernel_rfl) (by kernel_rfl) (by kernel_rfl) (by kernel_rfl) (fun _ _ _ h => h) rfl ?y8_5 HSF ?r8_5
  case y8_5 => intro wx hx; obtain ⟨h0, h1⟩ := hx; go_simp; try (with_reducible rfl)
  simp only [Act.put, List.setIfInBounds_toArray, List.set_cons_zero, List.set_cons_succ]
  refine anyL_one (i := 9) (atS (atS (atS (atS (atS (atS (atS (atS (atS at0))))))))) (by kernel_rfl) rfl (fun K hK => ?_)
  go_simp
  refine hK _ _ (.inr HSF) ?_
  try simp only [Act.put, List.setIfInBounds_toArray, List.set_cons_zero, List.set_cons_succ]
  refine anyL_one (i := 10) (atS (atS (atS (atS (atS (atS (atS (atS (atS (atS at0)))))))))) (by kernel_rfl) rfl (fun K hK => ?_)
  go_simp
  refine hK _ _ (.inr HSF) (anyL_done (by kernel_rfl) (NoPanic.normal ?_))
  try simp only [Act.put, List.setIfInBounds_toArray, List.set_cons_zero, List.set_cons_succ]
  have HBn : Hid (Below w.heap.size w w4) := HB1.out.trans (HC4.out.mono HB1.out.size)
  have KIn := hidP (KI.out.below HC4.out KI.out.lt)
  have i0 := KIn.out.cell 0 (v := .int .i64 m.1) rfl
  have i1 := KIn.out.cell 1 (v := .slice a m.2.length cap) rfl
  clear HS2 HS3 HSF HSD
  go_wp2_with (first
    | (go_at_call 17; (with_reducible refine (HRC.out _ _ _ _ (HI.out.later HBn.out (Nat.le_refl _)) (HXx.out.later HBn.out (Nat.le_refl _)) (HXy.out.later HBn.out (Nat.le_refl _))).mono ?_); rintro e w9 ⟨n2, e2, rfl, hp, hb⟩; obtain ⟨rfl, rfl⟩ := HON.out _ _ _ _ HP.out hp; have HB9 := hidP (HBn.out.trans (hb.mono HBn.out.size)); have HC9 := hidP (HC4.out.trans (hb.mono HC4.out.size)); have KI9 := hidP (KIn.out.below hb KIn.out.lt); have KC9 := hidP (KC4.out.below hb KC4.out.lt); have j0 := KI9.out.cell 0 (v := .int .i64 m.1) rfl; have j1 := KI9.out.cell 1 (v := .slice a m.2.length cap) rfl; have j2 := KC9.out.cell 0 (v := .int .i64 m.1) rfl; have j3 := KC9.out.cell 1 (v := .slice a1 m.2.length c1) rfl; have t1 := e0 n1; have t2 := e0 e1; clear hp hb)
    | (go_at_call 12; (with_reducible refine (sameMachine_any _ _ m _ (HM.out.later HC9.out (Nat.le_refl _)) (HI.out.later HB9.out (Nat.le_refl _)) HK.out).mono ?_); rintro e w10 ⟨rfl, hb⟩; have HB10 := hidP (HB9.out.trans (hb.mono HB9.out.size)); clear hb))
  go_ret
  exact ⟨rfl, HB10.out⟩
theorem walk (v : Value) (m : Mc) (a1 : Option Addr) (len1 cap1 : Nat) (z1 : List Int) (a2 : Option Addr) (len2 cap2 : Nat) (z2 : List Int) (w : World) (h : Mach w v m ∧ okM m ∧ (Lit.int .i64 m.1).wf = true ∧ ∀ s ∈ m.2, (Lit.int .i64 s.1).wf = true ∧ ∀ a ∈ s.2, wfA a) (w1 : IsRow .i64 w a1 len1 cap1 z1 ∧ cap1 * 8 ≤ 140737488351232) (w2 : IsRow .i64 w a2 len2 cap2 z2 ∧ cap2 * 8 ≤ 140737488351232) :
    Calls Try.prog 5 #[v, .slice a1 len1 cap1, .slice a2 len2 cap2] w fun e w' => e = .returned (.bool true) ∧ Below w.heap.size w w' := by
  obtain ⟨p1, q1, r1⟩ := row_nums w1.1
  obtain ⟨p2, q2, r2⟩ := row_nums w2.1
  exact core v m _ _ _ _ w h.1 h.2.1 p1 (by have := w1.2; omega) p2 (by have := w2.2; omega)

set_option maxRecDepth 100000 in
theorem lifted (os : Os) (started : os.Started) (H : Type) (enc : TypeId × Value → H) :
    ReturnsInHanded {} Try.checked os 5 .any (Rows.weighWeighsSpec.pre6 enc Try.prog Try.f5 Rows.weighWeighsRow.domain false) (Rows.weighWeighsSpec.post enc Try.prog Try.f5 false true false false) := by
  refine returnsInHanded_of_change_sized (C := Try.checked) own started (by kernel_rfl) Try.func5
    (ChangeSpec.witness6 (enc := enc) (C := Try.checked) false ⟨#[], #[.agg #[.int .i64 0, .slice none 0 0], .slice none 0 0, .slice none 0 0], []⟩ 8 (by kernel_rfl) (by kernel_rfl) (by kernel_rfl) (by kernel_rfl)) ?_
  intro W base args ds gs before hval0 hW hcnd hsz0 _
  have hsz : (DataW.weightsEach Try.prog (Try.f5.params.toList ++ Rows.weighWeighsSpec.plain.varTypes Try.prog) (ds ++ gs)).all (· ≤ reachBytes) = true := hsz0
  have hval : ∀ (j : Nat) t v, Try.f5.params[j]? = some t → args[j]? = some v → Value.okWide Try.prog W .any base t v := hval0
  clear hval0 hsz0
  have hW' := hW
  obtain ⟨p, q, hA0, hV, rfl, hfz, hnd⟩ := hW
  have hA : DataW.TrodAll enc Try.prog W 0 (fun _ => true) true Try.f5.params.toList args.toList ds p := hA0
  rw [Try.params5] at hA hval hsz
  obtain ⟨v0, vs0, d0, ds0, p0, q0, hargs, rfl, rfl, h0, r0⟩ := trodAll_cons hA
  obtain ⟨v1, vs1, d1, ds1, p1, q1, rfl, rfl, rfl, h1, r1⟩ := trodAll_cons r0
  obtain ⟨v2, vs2, d2, ds2, p2, q2, rfl, rfl, rfl, h2, r2⟩ := trodAll_cons r1
  obtain ⟨rfl, rfl, rfl⟩ := trodAll_nil r2
  obtain rfl : args = #[v0, v1, v2] := by cases args; simp_all
  obtain ⟨rfl, rfl⟩ := trodVars_none hV
  have k0 := h0
  have lt0 : ∀ x ∈ p0, x.block < W.heap.size := by obtain ⟨m, hm⟩ := k0; exact DataW.trod_lt m _ _ _ hm
  obtain ⟨z0, w0⟩ : ∃ m : Mc, Mach W v0 m ∧ okM m ∧ (Lit.int .i64 m.1).wf = true ∧ ∀ s ∈ m.2, (Lit.int .i64 s.1).wf = true ∧ ∀ a ∈ s.2, wfA a := by
    obtain ⟨c0, c1, y0, y1, n, rfl, hd, hp, t0, t1⟩ := Go.Joins.open_agg2 Try.underlying26 (by kernel_rfl) (by kernel_rfl) (hval 0 26 v0 rfl rfl) h0
    subst hd
    exact open_machine t0 t1 ((Fits.arg hsz (j := 0) rfl rfl).field Try.underlying26 (f := 1) rfl rfl)
  obtain ⟨a1, len1, cap1, rfl⟩ := okWide_slice Try.underlying22 (hval 1 22 v1 rfl rfl)
  have k1 := h1
  have lt1 : ∀ x ∈ p1, x.block < W.heap.size := by obtain ⟨m, hm⟩ := k1; exact DataW.trod_lt m _ _ _ hm
  obtain ⟨z1, w1⟩ : ∃ zs, IsRow .i64 W a1 len1 cap1 zs ∧ cap1 * 8 ≤ 140737488351232 := by
    obtain ⟨fuel, hf⟩ := h1
    rcases open_ints Try.underlying22 Try.underlying3 (by kernel_rfl) hf with ⟨hcs, _⟩ | ⟨x, l, c, zs, hcs, _, hl, hm, hz, hx, hcell, hwz⟩
    · simp [Value.cells] at hcs
      obtain ⟨rfl, rfl, rfl⟩ := hcs
      exact ⟨[], .inl ⟨rfl, rfl, rfl, rfl⟩, by omega⟩
    · have hd := congrArg Prod.fst hx
      have hsw := sized_slice hsz (j := 1) (t := 22) (e := 3) rfl (congrArg some hd) Try.underlying22
      have hby : Try.prog.bytesOf 3 = 8 := by kernel_rfl
      rw [hby] at hsw
      simp [Value.cells] at hcs
      obtain ⟨rfl, rfl, rfl⟩ := hcs
      have hz' : zs.length = cap1 := by simpa using hz
      simp only [lits, List.length_map, List.length_take, List.length_drop, reachBytes] at hsw
      exact ⟨zs, .inr ⟨_, rfl, hl, hm, hz', hcell, hwz⟩, by omega⟩
  obtain ⟨a2, len2, cap2, rfl⟩ := okWide_slice Try.underlying22 (hval 2 22 v2 rfl rfl)
  have k2 := h2
  have lt2 : ∀ x ∈ p2, x.block < W.heap.size := by obtain ⟨m, hm⟩ := k2; exact DataW.trod_lt m _ _ _ hm
  obtain ⟨z2, w2⟩ : ∃ zs, IsRow .i64 W a2 len2 cap2 zs ∧ cap2 * 8 ≤ 140737488351232 := by
    obtain ⟨fuel, hf⟩ := h2
    rcases open_ints Try.underlying22 Try.underlying3 (by kernel_rfl) hf with ⟨hcs, _⟩ | ⟨x, l, c, zs, hcs, _, hl, hm, hz, hx, hcell, hwz⟩
    · simp [Value.cells] at hcs
      obtain ⟨rfl, rfl, rfl⟩ := hcs
      exact ⟨[], .inl ⟨rfl, rfl, rfl, rfl⟩, by omega⟩
    · have hd := congrArg Prod.fst hx
      have hsw := sized_slice hsz (j := 2) (t := 22) (e := 3) rfl (congrArg some hd) Try.underlying22
      have hby : Try.prog.bytesOf 3 = 8 := by kernel_rfl
      rw [hby] at hsw
      simp [Value.cells] at hcs
      obtain ⟨rfl, rfl, rfl⟩ := hcs
      have hz' : zs.length = cap2 := by simpa using hz
      simp only [lits, List.length_map, List.length_take, List.length_drop, reachBytes] at hsw
      exact ⟨zs, .inr ⟨_, rfl, hl, hm, hz', hcell, hwz⟩, by omega⟩
  refine (walk v0 z0 a1 len1 cap1 z1 a2 len2 cap2 z2 W w0 w1 w2).mono fun e W' ⟨he, bel⟩ => ?_
  subst he
  exact ⟨_, rfl, _, _, _, [], _, [], hW', trodAll_mk1 (shut_bool Try.underlying4 _), (trodAll_cons_mk (Below.trod laidOut (by kernel_rfl) (of_decide_eq_true (by kernel_rfl)) k0 bel lt0) (trodAll_cons_mk (Below.trod laidOut (by kernel_rfl) (of_decide_eq_true (by kernel_rfl)) k1 bel lt1) (trodAll_cons_mk (Below.trod laidOut (by kernel_rfl) (of_decide_eq_true (by kernel_rfl)) k2 bel lt2) trodAll_mk0))), rfl, bel.frame _, fun h => by cases h⟩
end Go.Proofs.Ytpfcljhbamnghaa.weighWeighs
namespace Go.Proofs.Ytpfcljhbamnghaa
theorem weighWeighs_holds : Rows.WeighWeighsSaid :=
  OpenClaim.holds_of_wide 5 Try.f5 rfl rfl rfl rfl rfl rfl rfl ⟨rfl, rfl, rfl, rfl, rfl⟩ rfl rfl rfl rfl rfl (by kernel_rfl) Try.func5 (by kernel_rfl)
    (of_decide_eq_true (by kernel_rfl)) (by unfold Func.isWrapper; first | (rw [if_pos (by decide +kernel)]; kernel_rfl) | (rw [if_neg (by decide +kernel)]; exact ⟨rfl, rfl⟩))
    (fun os started H enc _ => weighWeighs.lifted os started H enc)
#print axioms weighWeighs_holds
end Go.Proofs.Ytpfcljhbamnghaa
