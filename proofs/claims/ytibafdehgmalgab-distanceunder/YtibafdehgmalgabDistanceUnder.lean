/- The statement DistanceUnder: whatever numbers a machine and two words are made of, no pair of words costs less than the cheapest path, for every input and without any condition. -/
import Derived.Test.YtibafdehgmalgabMd
import Derived.Test.YtibafdehgmalgabKe
import Derived.Test.YtibafdehgmalgabKj
import Derived.Test.YtibafdehgmalgabWy
import Derived.Test.YtibafdehgmalgabKi
import Derived.Test.YtibafdehgmalgabPlainDe
import Derived.Test.YtibafdehgmalgabLo
import Derived.Lib.SmallJoins
import Derived.ChangeOld
import Derived.Below
namespace Go.Proofs.Ytibafdehgmalgab.distanceUnder
open Go.ChangeShapes Go.WideShapes Go.ChangeAt Go.RowKit
open Go.Proofs.Ytibafdehgmalgab.Pl Go.Proofs.Ytibafdehgmalgab.Wt
set_option linter.unusedVariables false
set_option linter.unusedSimpArgs false

theorem own : ownKnob Try.prog.godebug = none := by kernel_rfl
theorem laidOut : laidOutB Try.prog = true := by kernel_rfl
def Held2 (bx : Nat) (z : Int) (vx : Value) (w : World) : Prop := w.cell? ⟨bx, 0, none⟩ = some (.int .i64 z) ∧ w.cell? ⟨bx, 1, none⟩ = some vx
set_option maxRecDepth 100000 in
set_option maxHeartbeats 1600000 in
theorem core (vx : Value) (rx : Rw) (vv : Value) (zv : List Int) (vt : Value) (zt : List Int) (w : World) (hx : RawV w vx rx ∧ okR rx ∧ wfR rx) (hzv : Nums w vv zv) (hwv : ∀ n ∈ zv, (Lit.int .i64 n).wf = true) (hzt : Nums w vt zt) (hwt : ∀ n ∈ zt, (Lit.int .i64 n).wf = true) :
    Calls Try.prog 3 #[vx, vv, vt] w fun e w' => e = .returned (.bool true) ∧ Below w.heap.size w w' := by
  obtain ⟨hx, hokx, hwfx⟩ := hx
  have HIx : Hid (RawV w vx rx) := hx
  have HOKx : Hid (okR rx) := hokx
  have HWFx : Hid (wfR rx) := hwfx
  obtain ⟨hfx, hcx, hlx, hax, hpx⟩ := made_facts rx 6 (by omega) (by omega)
  have HEx : Hid (∀ v W, RawV W v rx → okR rx → wfR rx → Calls Try.prog 4 #[v, .int .i64 6, .bool false] W fun e w' => ∃ v', e = .returned v' ∧ Mach w' v' (madeM rx 6 false) ∧ Below W.heap.size W w') := fun v W h1 h2 h3 => made_any v rx 6 false W h1 h2 h3 (by omega) (by omega)
  obtain ⟨vs0x, rfl, hNx⟩ := hx
  obtain ⟨a0x, c0x, rfl, hNxx⟩ := hNx.get
  clear hNx hNxx hokx hwfx
  have HZv := hidP hzv
  have HWDv : Hid (∀ v W, Nums W v zv → Calls Try.prog 8 #[v, .int .i64 5] W fun e w' => ∃ v', e = .returned v' ∧ Nums w' v' (wdL zv 5) ∧ Below W.heap.size W w') := fun v W h1 => word_any v zv 5 W h1 hwv (by omega)
  have ewv : wrdE (wdL zv 5) = 0 := wdL_wrd (by omega)
  have lwv := wdL_len zv 5
  clear hzv hwv
  have HZt := hidP hzt
  have HWDt : Hid (∀ v W, Nums W v zt → Calls Try.prog 8 #[v, .int .i64 5] W fun e w' => ∃ v', e = .returned v' ∧ Nums w' v' (wdL zt 5) ∧ Below W.heap.size W w') := fun v W h1 => word_any v zt 5 W h1 hwt (by omega)
  have ewt : wrdE (wdL zt 5) = 0 := wdL_wrd (by omega)
  have lwt := wdL_len zt 5
  clear hzt hwt
  have hz := made_start rx 6 false (by omega)
  have HCn : Hid (∀ W v, Mach W v (madeM rx 6 false) → Calls Try.prog 5 #[v] W fun e w' => ∃ x : Int, e = .returned (.tuple #[.int .i64 x, .int .i64 0]) ∧ CstIs (EndC (madeM rx 6 false).2 (madeM rx 6 false).1.toNat) x ∧ Below W.heap.size W w') := fun W v h1 => least_cst v _ W h1 hfx hcx hz
  have HCf : Hid (∀ W v, Mach W v (madeM rx 6 false) → Calls Try.prog 6 #[v] W fun e w' => DstRes (madeM rx 6 false) (FarC (madeM rx 6 false).1 (madeM rx 6 false).2) W e w') := fun W v h1 => from_cst v _ W h1 hfx hcx
  have HCx : Hid (∀ W v s t, Mach W v (madeM rx 6 false) → Nums W s (wdL zv 5) → Nums W t (wdL zt 5) → Calls Try.prog 7 #[v, s, t] W fun e w' => ∃ n : Int, e = .returned (.int .i64 n) ∧ CstIs (Costs (madeM rx 6 false) (wdL zv 5) (wdL zt 5)) n ∧ Below W.heap.size W w') := fun W v s t h1 h2 h3 => cost_any v s t _ _ _ W h1 (right_ok hfx) hfx hcx h2 h3 ewv ewt
  have HFC : Hid (∀ a u, CstIs (Costs (madeM rx 6 false) (wdL zv 5) (wdL zt 5)) a → CstIs (EndC (madeM rx 6 false).2 (madeM rx 6 false).1.toNat) u → u ≤ a) := fun a u h1 h3 => h1.le h3 (fun c h => costs_end h)
  clear hfx hcx ewv ewt lwv lwt hlx hax hpx hz
  generalize madeM rx 6 false = Mx at *
  generalize wdL zv 5 = Xv at *
  generalize wdL zt 5 = Xt at *
  obtain ⟨avz, cvz, rfl, _⟩ := HZv.out.get
  obtain ⟨atz, ctz, rfl, _⟩ := HZt.out.get
  have HB0 : Hid (∀ o1, Below w.heap.size w (w.alloc o1)) := fun o1 => (Below.refl _ _).alloc (Nat.le_refl _) _
  go_enter Try.func3, Try.ntmps3
  go_wp2_with (first
    | (go_at_call 4; (with_reducible refine (HEx.out _ _ (HIx.out.later (HB0.out _) (Nat.le_refl _)) HOKx.out HWFx.out).mono ?_); rintro e w1 ⟨v1, rfl, hm, hb⟩; have HMx : Hid (Mach w1 v1 (Mx)) := hm; obtain ⟨vsx, rfl, hSx⟩ := hm; obtain ⟨ax, cx, rfl⟩ := hSx.sl; clear hSx; obtain ⟨s1, bb0, hb1⟩ := boxed hb (by simp); have KX1 := hidP bb0; clear bb0; have HB1 := hidP hb1; have qX0 := (KX1.out.alloc (.cells #[.int .i64 Mx.1, .slice ax Mx.2.length cx] 28)).cell 0 (v := .int .i64 rx.1) rfl; have qX1 := (KX1.out.alloc (.cells #[.int .i64 Mx.1, .slice ax Mx.2.length cx] 28)).cell 1 (v := .slice a0x rx.2.length c0x) rfl; clear hb hb1)
    | (go_at_call 5; (with_reducible refine (HCn.out _ _ (HMx.out.later ((Below.refl _ _).alloc (Nat.le_refl _) _) (Nat.le_refl _))).mono ?_); rintro e w2 ⟨nn, rfl, hq, hb⟩; obtain ⟨s2, bb0, hb2⟩ := boxed hb (by simp); have KVx2 := hidP bb0; clear bb0; have HB2 := hidP (HB1.out.trans (hb2.mono HB1.out.size)); have KX2 := hidP (KX1.out.below hb2 KX1.out.lt); have Hx2 := hidP hb2; have qX0 := KX2.out.cell 0 (v := .int .i64 rx.1) rfl; have qX1 := KX2.out.cell 1 (v := .slice a0x rx.2.length c0x) rfl; have qVx0 := KVx2.out.cell 0 (v := .int .i64 Mx.1) rfl; have qVx1 := KVx2.out.cell 1 (v := .slice ax Mx.2.length cx) rfl; have HQn := hidP hq; clear hq; clear hb hb2)
    | (go_at_call 6; (with_reducible refine (HCf.out _ _ (HMx.out.later Hx2.out (Nat.le_refl _))).mono ?_); rintro e w3 ⟨v3, Ll, rfl, hq, hn, hb⟩; have HQl := hidP hq; have HNl : Hid (Nums w3 v3 Ll) := hn; obtain ⟨awl, cwl, hv, _⟩ := hn.get; rw [hq.1] at hv; subst hv; clear hq hn; have hb3 := hb; have HB3 := hidP (HB2.out.trans (hb3.mono HB2.out.size)); have KX3 := hidP (KX2.out.below hb3 KX2.out.lt); have KVx3 := hidP (KVx2.out.below hb3 KVx2.out.lt); have Hx3 := hidP (Hx2.out.trans (hb3.mono Hx2.out.size)); have qX0 := KX3.out.cell 0 (v := .int .i64 rx.1) rfl; have qX1 := KX3.out.cell 1 (v := .slice a0x rx.2.length c0x) rfl; have qVx0 := KVx3.out.cell 0 (v := .int .i64 Mx.1) rfl; have qVx1 := KVx3.out.cell 1 (v := .slice ax Mx.2.length cx) rfl; clear hb hb3))
  have HS : Held2 w1.heap.size Mx.1 (.slice ax Mx.2.length cx) w3.drew := ⟨KVx3.out.drew.cell 0 rfl, KVx3.out.drew.cell 1 rfl⟩
  refine region_anyL (Held2 w1.heap.size Mx.1 (.slice ax Mx.2.length cx)) 100 (by kernel_rfl) ?_
  refine anyL_take (i := 0) (v := ?v0_1) at0 (by kernel_rfl) (by kernel_rfl) (by kernel_rfl) (by kernel_rfl) (fun _ _ _ h => h) rfl ?y0_1 HS ?r0_1
  case y0_1 => intro wx hx; obtain ⟨h0, h1⟩ := hx; go_simp; try (with_reducible rfl)
  simp only [Act.put, List.setIfInBounds_toArray, List.set_cons_zero, List.set_cons_succ]
  refine anyL_take (i := 1) (v := ?v1_2) (atS at0) (by kernel_rfl) (by kernel_rfl) (by kernel_rfl) (by kernel_rfl) (fun _ _ _ h => h) rfl ?y1_2 HS ?r1_2
  case y1_2 => intro wx hx; obtain ⟨h0, h1⟩ := hx; go_simp; try (with_reducible rfl)
  simp only [Act.put, List.setIfInBounds_toArray, List.set_cons_zero, List.set_cons_succ]
  refine anyL_take (i := 3) (v := ?v3_3) (atS (atS (atS at0))) (by kernel_rfl) (by kernel_rfl) (by kernel_rfl) (by kernel_rfl) (fun _ _ _ h => h) rfl ?y3_3 HS ?r3_3
  case y3_3 => intro wx hx; obtain ⟨h0, h1⟩ := hx; go_simp; try (with_reducible rfl)
  simp only [Act.put, List.setIfInBounds_toArray, List.set_cons_zero, List.set_cons_succ]
  refine anyL_one (i := 2) (atS (atS at0)) (by kernel_rfl) rfl (fun K hK => ?_)
  go_simp
  with_reducible refine (HWDv.out _ _ (HZv.out.later HB3.out.drew (Nat.le_refl _))).mono ?_
  rintro e w6 ⟨v6, rfl, hn6, hb6⟩
  have HN6 := hidP hn6
  have HB6 : Hid (Below w3.heap.size w3 w6) := (Below.refl _ _).drew.trans hb6
  have KX6 := hidP (KVx3.out.below HB6.out KVx3.out.lt)
  have HS6 : Held2 w1.heap.size Mx.1 (.slice ax Mx.2.length cx) w6 := ⟨KX6.out.cell 0 rfl, KX6.out.cell 1 rfl⟩
  clear hn6 hb6
  refine hK _ _ (.inr HS6) ?_
  try simp only [Act.put, List.setIfInBounds_toArray, List.set_cons_zero, List.set_cons_succ]
  refine anyL_one (i := 4) (atS (atS (atS (atS at0)))) (by kernel_rfl) rfl (fun K hK => ?_)
  go_simp
  with_reducible refine (HWDt.out _ _ (HZt.out.later (HB3.out.trans (HB6.out.mono HB3.out.size)) (Nat.le_refl _))).mono ?_
  rintro e w7 ⟨v7, rfl, hn7, hb7⟩
  have HN7 := hidP hn7
  have HB7 : Hid (Below w3.heap.size w3 w7) := HB6.out.trans (hb7.mono HB6.out.size)
  have HN67 := hidP (HN6.out.later hb7 (Nat.le_refl _))
  have KX7 := hidP (KVx3.out.below HB7.out KVx3.out.lt)
  have HS7 : Held2 w1.heap.size Mx.1 (.slice ax Mx.2.length cx) w7 := ⟨KX7.out.cell 0 rfl, KX7.out.cell 1 rfl⟩
  clear hn7 hb7
  refine hK _ _ (.inr HS7) ?_
  try simp only [Act.put, List.setIfInBounds_toArray, List.set_cons_zero, List.set_cons_succ]
  refine anyL_one (i := 5) (atS (atS (atS (atS (atS at0))))) (by kernel_rfl) rfl (fun K hK => ?_)
  go_simp
  with_reducible refine (HCx.out _ _ _ _ (HMx.out.later (Hx3.out.trans (HB7.out.mono Hx3.out.size)) (Nat.le_refl _)) HN67.out HN7.out).mono ?_
  rintro e w8 ⟨nu, rfl, hq, hb8⟩
  have hle : nn ≤ nu := HFC.out _ _ hq HQn.out
  obtain ⟨_, _, t9⟩ := cst_most HQn.out
  have t6 : ((Mx.2.length : Int) == (Mx.2.length : Int)) = true := by simp
  have HB8 : Hid (Below w3.heap.size w3 w8) := HB7.out.trans (hb8.mono HB7.out.size)
  have KX8 := hidP (KVx3.out.below HB8.out KVx3.out.lt)
  have HS8 : Held2 w1.heap.size Mx.1 (.slice ax Mx.2.length cx) w8 := ⟨KX8.out.cell 0 rfl, KX8.out.cell 1 rfl⟩
  have x1 := KX8.out.cell 1 (v := .slice ax Mx.2.length cx) rfl
  clear hq hb8
  refine hK _ _ (.inr HS8) ?_
  try simp only [Act.put, List.setIfInBounds_toArray, List.set_cons_zero, List.set_cons_succ]
  refine anyL_one (i := 6) (atS (atS (atS (atS (atS (atS at0)))))) (by kernel_rfl) rfl (fun K hK => ?_)
  go_simp
  refine hK _ _ (.inr HS8) (anyL_done (by kernel_rfl) (NoPanic.normal ?_))
  try simp only [Act.put, List.setIfInBounds_toArray, List.set_cons_zero, List.set_cons_succ]
  clear HS HS6 HS7 HS8
  go_wp2
  go_ret
  exact ⟨rfl, HB3.out.trans (HB8.out.mono HB3.out.size)⟩
theorem walk (vx : Value) (rx : Rw) (a1 : Option Addr) (len1 cap1 : Nat) (z1 : List Int) (a2 : Option Addr) (len2 cap2 : Nat) (z2 : List Int) (w : World) (hx : RawV w vx rx ∧ okR rx ∧ wfR rx) (w1 : IsRow .i64 w a1 len1 cap1 z1 ∧ cap1 * 8 ≤ 140737488351232) (w2 : IsRow .i64 w a2 len2 cap2 z2 ∧ cap2 * 8 ≤ 140737488351232) :
    Calls Try.prog 3 #[vx, .slice a1 len1 cap1, .slice a2 len2 cap2] w fun e w' => e = .returned (.bool true) ∧ Below w.heap.size w w' := by
  obtain ⟨p1, _, _⟩ := row_nums w1.1
  obtain ⟨p2, _, _⟩ := row_nums w2.1
  exact core vx rx _ _ _ _ w hx p1 (row_wf w1.1) p2 (row_wf w2.1)

set_option maxRecDepth 100000 in
theorem lifted (os : Os) (started : os.Started) (H : Type) (enc : TypeId × Value → H) :
    ReturnsInHanded {} Try.checked os 3 .any (Rows.distanceUnderSpec.pre6 enc Try.prog Try.f3 Rows.distanceUnderRow.domain false) (Rows.distanceUnderSpec.post enc Try.prog Try.f3 false true false false) := by
  refine returnsInHanded_of_change_sized (C := Try.checked) own started (by kernel_rfl) Try.func3
    (ChangeSpec.witness6 (enc := enc) (C := Try.checked) false ⟨#[], #[.agg #[.int .i64 0, .slice none 0 0], .slice none 0 0, .slice none 0 0], []⟩ 8 (by kernel_rfl) (by kernel_rfl) (by kernel_rfl) (by kernel_rfl)) ?_
  intro W base args ds gs before hval0 hW hcnd hsz0 _
  have hsz : (DataW.weightsEach Try.prog (Try.f3.params.toList ++ Rows.distanceUnderSpec.plain.varTypes Try.prog) (ds ++ gs)).all (· ≤ reachBytes) = true := hsz0
  have hval : ∀ (j : Nat) t v, Try.f3.params[j]? = some t → args[j]? = some v → Value.okWide Try.prog W .any base t v := hval0
  clear hval0 hsz0
  have hW' := hW
  obtain ⟨p, q, hA0, hV, rfl, hfz, hnd⟩ := hW
  have hA : DataW.TrodAll enc Try.prog W 0 (fun _ => true) true Try.f3.params.toList args.toList ds p := hA0
  rw [Try.params3] at hA hval hsz
  obtain ⟨v0, vs0, d0, ds0, p0, q0, hargs, rfl, rfl, h0, r0⟩ := trodAll_cons hA
  obtain ⟨v1, vs1, d1, ds1, p1, q1, rfl, rfl, rfl, h1, r1⟩ := trodAll_cons r0
  obtain ⟨v2, vs2, d2, ds2, p2, q2, rfl, rfl, rfl, h2, r2⟩ := trodAll_cons r1
  obtain ⟨rfl, rfl, rfl⟩ := trodAll_nil r2
  obtain rfl : args = #[v0, v1, v2] := by cases args; simp_all
  obtain ⟨rfl, rfl⟩ := trodVars_none hV
  have k0 := h0
  have lt0 : ∀ x ∈ p0, x.block < W.heap.size := by obtain ⟨m, hm⟩ := k0; exact DataW.trod_lt m _ _ _ hm
  obtain ⟨z0, w0⟩ : ∃ m : Rw, RawV W v0 m ∧ okR m ∧ wfR m := by
    obtain ⟨c0, c1, y0, y1, n, rfl, hd, hp, t0, t1⟩ := Go.Joins.open_agg2 Try.underlying24 (by kernel_rfl) (by kernel_rfl) (hval 0 24 v0 rfl rfl) h0
    subst hd
    exact open_raw t0 t1 ((Fits.arg hsz (j := 0) rfl rfl).field Try.underlying24 (f := 1) rfl rfl)
  obtain ⟨a1, len1, cap1, rfl⟩ := okWide_slice Try.underlying25 (hval 1 25 v1 rfl rfl)
  have k1 := h1
  have lt1 : ∀ x ∈ p1, x.block < W.heap.size := by obtain ⟨m, hm⟩ := k1; exact DataW.trod_lt m _ _ _ hm
  obtain ⟨z1, w1⟩ : ∃ zs, IsRow .i64 W a1 len1 cap1 zs ∧ cap1 * 8 ≤ 140737488351232 := by
    obtain ⟨fuel, hf⟩ := h1
    rcases open_ints Try.underlying25 Try.underlying3 (by kernel_rfl) hf with ⟨hcs, _⟩ | ⟨x, l, c, zs, hcs, _, hl, hm, hz, hx, hcell, hwz⟩
    · simp [Value.cells] at hcs
      obtain ⟨rfl, rfl, rfl⟩ := hcs
      exact ⟨[], .inl ⟨rfl, rfl, rfl, rfl⟩, by omega⟩
    · have hd := congrArg Prod.fst hx
      have hsw := sized_slice hsz (j := 1) (t := 25) (e := 3) rfl (congrArg some hd) Try.underlying25
      have hby : Try.prog.bytesOf 3 = 8 := by kernel_rfl
      rw [hby] at hsw
      simp [Value.cells] at hcs
      obtain ⟨rfl, rfl, rfl⟩ := hcs
      have hz' : zs.length = cap1 := by simpa using hz
      simp only [lits, List.length_map, List.length_take, List.length_drop, reachBytes] at hsw
      exact ⟨zs, .inr ⟨_, rfl, hl, hm, hz', hcell, hwz⟩, by omega⟩
  obtain ⟨a2, len2, cap2, rfl⟩ := okWide_slice Try.underlying25 (hval 2 25 v2 rfl rfl)
  have k2 := h2
  have lt2 : ∀ x ∈ p2, x.block < W.heap.size := by obtain ⟨m, hm⟩ := k2; exact DataW.trod_lt m _ _ _ hm
  obtain ⟨z2, w2⟩ : ∃ zs, IsRow .i64 W a2 len2 cap2 zs ∧ cap2 * 8 ≤ 140737488351232 := by
    obtain ⟨fuel, hf⟩ := h2
    rcases open_ints Try.underlying25 Try.underlying3 (by kernel_rfl) hf with ⟨hcs, _⟩ | ⟨x, l, c, zs, hcs, _, hl, hm, hz, hx, hcell, hwz⟩
    · simp [Value.cells] at hcs
      obtain ⟨rfl, rfl, rfl⟩ := hcs
      exact ⟨[], .inl ⟨rfl, rfl, rfl, rfl⟩, by omega⟩
    · have hd := congrArg Prod.fst hx
      have hsw := sized_slice hsz (j := 2) (t := 25) (e := 3) rfl (congrArg some hd) Try.underlying25
      have hby : Try.prog.bytesOf 3 = 8 := by kernel_rfl
      rw [hby] at hsw
      simp [Value.cells] at hcs
      obtain ⟨rfl, rfl, rfl⟩ := hcs
      have hz' : zs.length = cap2 := by simpa using hz
      simp only [lits, List.length_map, List.length_take, List.length_drop, reachBytes] at hsw
      exact ⟨zs, .inr ⟨_, rfl, hl, hm, hz', hcell, hwz⟩, by omega⟩
  refine (walk v0 z0 a1 len1 cap1 z1 a2 len2 cap2 z2 W w0 w1 w2).mono fun e W' ⟨he, bel⟩ => ?_
  subst he
  exact ⟨_, rfl, _, _, _, [], _, [], hW', trodAll_mk1 (shut_bool Try.underlying4 _), (trodAll_cons_mk (Below.trod laidOut (by kernel_rfl) (of_decide_eq_true (by kernel_rfl)) k0 bel lt0) (trodAll_cons_mk (Below.trod laidOut (by kernel_rfl) (of_decide_eq_true (by kernel_rfl)) k1 bel lt1) (trodAll_cons_mk (Below.trod laidOut (by kernel_rfl) (of_decide_eq_true (by kernel_rfl)) k2 bel lt2) trodAll_mk0))), rfl, bel.frame _, fun h => by cases h⟩
end Go.Proofs.Ytibafdehgmalgab.distanceUnder
namespace Go.Proofs.Ytibafdehgmalgab
theorem distanceUnder_holds : Rows.DistanceUnderSaid :=
  OpenClaim.holds_of_wide 3 Try.f3 rfl rfl rfl rfl rfl rfl rfl ⟨rfl, rfl, rfl, rfl, rfl⟩ rfl rfl rfl rfl rfl (by kernel_rfl) Try.func3 (by kernel_rfl)
    (of_decide_eq_true (by kernel_rfl)) (by unfold Func.isWrapper; first | (rw [if_pos (by decide +kernel)]; kernel_rfl) | (rw [if_neg (by decide +kernel)]; exact ⟨rfl, rfl⟩))
    (fun os started H enc _ => distanceUnder.lifted os started H enc)
#print axioms distanceUnder_holds
end Go.Proofs.Ytibafdehgmalgab
