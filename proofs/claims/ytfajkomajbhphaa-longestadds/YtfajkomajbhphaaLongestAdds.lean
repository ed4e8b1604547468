/- The statement LongestAdds: whatever numbers two machines are made of, one behind the other they have a longest path just where both have one, with the arcs of both and one, for every input and without any condition. -/
import Derived.Test.YtfajkomajbhphaaKf
import Derived.Test.YtfajkomajbhphaaRx
import Derived.Test.YtfajkomajbhphaaOp
import Derived.Test.YtfajkomajbhphaaLo
import Derived.Lib.SmallJoins
import Derived.ChangeOld
import Derived.Below
namespace Go.Proofs.Ytfajkomajbhphaa.longestAdds
open Go.ChangeShapes Go.WideShapes Go.ChangeAt Go.RowKit
open Go.Proofs.Ytfajkomajbhphaa.Pl Go.Proofs.Ytfajkomajbhphaa.Wt
set_option linter.unusedVariables false
set_option linter.unusedSimpArgs false

theorem own : ownKnob Try.prog.godebug = none := by kernel_rfl
theorem laidOut : laidOutB Try.prog = true := by kernel_rfl
set_option maxRecDepth 100000 in
set_option maxHeartbeats 1600000 in
theorem walk (vx : Value) (rx : Rw) (vy : Value) (ry : Rw) (w : World) (hx : RawV w vx rx ∧ okR rx ∧ wfR rx) (hy : RawV w vy ry ∧ okR ry ∧ wfR ry) :
    Calls Try.prog 7 #[vx, vy] w fun e w' => e = .returned (.bool true) ∧ Below w.heap.size w w' := by
  obtain ⟨hx, hokx, hwfx⟩ := hx
  have HIx : Hid (RawV w vx rx) := hx
  have HOKx : Hid (okR rx) := hokx
  have HWFx : Hid (wfR rx) := hwfx
  obtain ⟨hfx, hslx⟩ := slim6 rx
  have HFx := hidP hfx
  have HSLx := hidP hslx
  have HKMx := hidP (okR0 hfx)
  obtain ⟨vs0x, rfl, hNx⟩ := hx
  obtain ⟨a0x, c0x, rfl, hNxx⟩ := hNx.get
  clear hNx hNxx hokx hwfx
  obtain ⟨hy, hoky, hwfy⟩ := hy
  have HIy : Hid (RawV w vy ry) := hy
  have HOKy : Hid (okR ry) := hoky
  have HWFy : Hid (wfR ry) := hwfy
  obtain ⟨hfy, hsly⟩ := slim6 ry
  have HFy := hidP hfy
  have HSLy := hidP hsly
  have HKMy := hidP (okR0 hfy)
  obtain ⟨vs0y, rfl, hNy⟩ := hy
  obtain ⟨a0y, c0y, rfl, hNxy⟩ := hNy.get
  clear hNy hNxy hoky hwfy
  obtain ⟨Mx, hMx⟩ : ∃ Mx, fwdM (madeM rx 6 false) = Mx := ⟨_, rfl⟩
  have HEx : Hid (∀ v w, RawV w v rx → okR rx → wfR rx → Calls Try.prog 17 #[v, .int .i64 6] w fun e w' => ∃ v', e = .returned v' ∧ Mach w' v' Mx ∧ Below w.heap.size w w') := fun v w h1 h2 h3 => by rw [← hMx]; exact fwd6 v rx w h1 h2 h3
  rw [hMx] at hfx hslx
  obtain ⟨My, hMy⟩ : ∃ My, fwdM (madeM ry 6 false) = My := ⟨_, rfl⟩
  have HEy : Hid (∀ v w, RawV w v ry → okR ry → wfR ry → Calls Try.prog 17 #[v, .int .i64 6] w fun e w' => ∃ v', e = .returned v' ∧ Mach w' v' My ∧ Below w.heap.size w w') := fun v w h1 h2 h3 => by rw [← hMy]; exact fwd6 v ry w h1 h2 h3
  rw [hMy] at hfy hsly
  clear hMx hMy HFx HFy HSLx HSLy HKMx HKMy
  obtain ⟨c1, c2, c3⟩ := slim_cat hslx hsly hfx hfy
  have hCl := catM_len Mx My
  have HFC : Hid (∀ n f k g p h, FarAns Mx 0 n f → FarAns My 0 k g → FarAns (catM Mx My) 0 p h → (f = 0 ∧ g = 0 ∧ h = 0 ∧ p = n + k + 1 ∧ (0 ≤ n ∧ n ≤ 5) ∧ (0 ≤ k ∧ k ≤ 5)) ∨ ((f = 0 ∨ f = 12) ∧ (g = 0 ∨ g = 12) ∧ (f = 12 ∨ g = 12) ∧ h = 12)) := fun _ _ _ _ _ _ h1 h2 h3 => far_facts hslx hsly h1 h2 h3
  have HCC : Hid (∀ W v u, Mach W v Mx → Mach W u My → Calls Try.prog 13 #[v, u] W fun e w' => RatRes (catM Mx My) 0 W e w') := fun W v u h1 h2 => by
    have := concatP_any v u _ _ W h1 (okR0 hfx) h2 (okR0 hfy)
    rw [c1, c2] at this
    exact this
  have HPC : ∀ m : Mc, faultM m = 0 → ∀ W v, Mach W v m → Calls Try.prog 19 #[v] W fun e w' => ∃ (x ec : Int), e = .returned (.tuple #[.int .i64 x, .int .i64 ec]) ∧ FarAns m 0 x ec ∧ Below W.heap.size W w' := fun m hm W v h => longest_any v m W h (okR0 hm) 0 hm
  have HPx := hidP (HPC _ hfx)
  have HPy := hidP (HPC _ hfy)
  have HPc := hidP (HPC _ c3)
  have h6x := hslx.six
  have h6y := hsly.six
  clear hfx hfy hslx hsly c1 c2 c3 HPC
  generalize catM Mx My = C at *
  have HB0 : Hid (∀ o1 o2, Below w.heap.size w ((w.alloc o1).alloc o2)) := fun o1 o2 => ((Below.refl _ _).alloc (Nat.le_refl _) _).alloc (by simp) _
  have t4 : IntKind.i64.wrap ((Mx.2.length : Int) + (My.2.length : Int)) = (Mx.2.length : Int) + (My.2.length : Int) := wrapI (by omega) (by omega)
  have t6 : ((C.2.length : Int) != (Mx.2.length : Int) + (My.2.length : Int)) = false := by simp; omega
  clear hCl
  go_enter Try.func7, Try.ntmps7
  go_wp2_with (first
    | (go_at_call 17; (with_reducible refine (HEx.out _ _ (HIx.out.later (HB0.out _ _) (Nat.le_refl _)) HOKx.out HWFx.out).mono ?_); rintro e w1 ⟨v1, rfl, hm, hb⟩; have HMx : Hid (Mach w1 v1 (Mx)) := hm; obtain ⟨vsx, rfl, hSx⟩ := hm; obtain ⟨ax, cx, rfl⟩ := hSx.sl; clear hSx; obtain ⟨s1, bb0, bb1, hb1⟩ := boxedTwo hb (by simp); have KX1 := hidP bb0; have KY1 := hidP bb1; clear bb0 bb1; have HB1 := hidP hb1; have qX0 := (KX1.out.alloc (.cells #[.int .i64 Mx.1, .slice ax Mx.2.length cx] 24)).cell 0 (v := .int .i64 rx.1) rfl; have qX1 := (KX1.out.alloc (.cells #[.int .i64 Mx.1, .slice ax Mx.2.length cx] 24)).cell 1 (v := .slice a0x rx.2.length c0x) rfl; have qY0 := (KY1.out.alloc (.cells #[.int .i64 Mx.1, .slice ax Mx.2.length cx] 24)).cell 0 (v := .int .i64 ry.1) rfl; have qY1 := (KY1.out.alloc (.cells #[.int .i64 Mx.1, .slice ax Mx.2.length cx] 24)).cell 1 (v := .slice a0y ry.2.length c0y) rfl; clear hb hb1)
    | (go_at_call 17; (with_reducible refine (HEy.out _ _ (HIy.out.later (HB1.out.alloc HB1.out.size _) (Nat.le_refl _)) HOKy.out HWFy.out).mono ?_); rintro e w2 ⟨v2, rfl, hm, hb⟩; have HMy : Hid (Mach w2 v2 (My)) := hm; obtain ⟨vsy, rfl, hSy⟩ := hm; obtain ⟨ay, cy, rfl⟩ := hSy.sl; clear hSy; obtain ⟨s2, bb0, hb2⟩ := boxed hb (by simp); have KVx2 := hidP bb0; clear bb0; have HB2 := hidP (HB1.out.trans (hb2.mono HB1.out.size)); have KX2 := hidP (KX1.out.below hb2 KX1.out.lt); have KY2 := hidP (KY1.out.below hb2 KY1.out.lt); have Hx2 := hidP hb2; have qX0 := (KX2.out.alloc (.cells #[.int .i64 My.1, .slice ay My.2.length cy] 24)).cell 0 (v := .int .i64 rx.1) rfl; have qX1 := (KX2.out.alloc (.cells #[.int .i64 My.1, .slice ay My.2.length cy] 24)).cell 1 (v := .slice a0x rx.2.length c0x) rfl; have qY0 := (KY2.out.alloc (.cells #[.int .i64 My.1, .slice ay My.2.length cy] 24)).cell 0 (v := .int .i64 ry.1) rfl; have qY1 := (KY2.out.alloc (.cells #[.int .i64 My.1, .slice ay My.2.length cy] 24)).cell 1 (v := .slice a0y ry.2.length c0y) rfl; have qVx0 := (KVx2.out.alloc (.cells #[.int .i64 My.1, .slice ay My.2.length cy] 24)).cell 0 (v := .int .i64 Mx.1) rfl; have qVx1 := (KVx2.out.alloc (.cells #[.int .i64 My.1, .slice ay My.2.length cy] 24)).cell 1 (v := .slice ax Mx.2.length cx) rfl; clear hb hb2)
    | (go_at_call 13; (with_reducible refine (HCC.out _ _ _ (HMx.out.later (Hx2.out.alloc Hx2.out.size _) (Nat.le_refl _)) (HMy.out.later ((Below.refl _ _).alloc (Nat.le_refl _) _) (Nat.le_refl _))).mono ?_); rintro e w3 ⟨v3, rfl, hm, hb⟩; have HMc : Hid (Mach w3 v3 (C)) := hm; obtain ⟨vsc, rfl, hSc⟩ := hm; obtain ⟨ac, cc, rfl⟩ := hSc.sl; clear hSc; obtain ⟨s3, bb0, hb3⟩ := boxed hb (by simp); have KVy3 := hidP bb0; clear bb0; have HB3 := hidP (HB2.out.trans (hb3.mono HB2.out.size)); have KX3 := hidP (KX2.out.below hb3 KX2.out.lt); have KY3 := hidP (KY2.out.below hb3 KY2.out.lt); have KVx3 := hidP (KVx2.out.below hb3 KVx2.out.lt); have Hx3 := hidP (Hx2.out.trans (hb3.mono Hx2.out.size)); have Hy3 := hidP hb3; have qX0 := (KX3.out.alloc (.cells #[.int .i64 C.1, .slice ac C.2.length cc] 24)).cell 0 (v := .int .i64 rx.1) rfl; have qX1 := (KX3.out.alloc (.cells #[.int .i64 C.1, .slice ac C.2.length cc] 24)).cell 1 (v := .slice a0x rx.2.length c0x) rfl; have qY0 := (KY3.out.alloc (.cells #[.int .i64 C.1, .slice ac C.2.length cc] 24)).cell 0 (v := .int .i64 ry.1) rfl; have qY1 := (KY3.out.alloc (.cells #[.int .i64 C.1, .slice ac C.2.length cc] 24)).cell 1 (v := .slice a0y ry.2.length c0y) rfl; have qVx0 := (KVx3.out.alloc (.cells #[.int .i64 C.1, .slice ac C.2.length cc] 24)).cell 0 (v := .int .i64 Mx.1) rfl; have qVx1 := (KVx3.out.alloc (.cells #[.int .i64 C.1, .slice ac C.2.length cc] 24)).cell 1 (v := .slice ax Mx.2.length cx) rfl; have qVy0 := (KVy3.out.alloc (.cells #[.int .i64 C.1, .slice ac C.2.length cc] 24)).cell 0 (v := .int .i64 My.1) rfl; have qVy1 := (KVy3.out.alloc (.cells #[.int .i64 C.1, .slice ac C.2.length cc] 24)).cell 1 (v := .slice ay My.2.length cy) rfl; clear hb hb3)
    | (go_at_call 19; (with_reducible refine (HPx.out _ _ (HMx.out.later (Hx3.out.alloc Hx3.out.size _) (Nat.le_refl _))).mono ?_); rintro e w4 ⟨nx, ex, rfl, hp, hb⟩; obtain ⟨s4, bb0, hb4⟩ := boxed hb (by simp); have KVc4 := hidP bb0; clear bb0; have HB4 := hidP (HB3.out.trans (hb4.mono HB3.out.size)); have KX4 := hidP (KX3.out.below hb4 KX3.out.lt); have KY4 := hidP (KY3.out.below hb4 KY3.out.lt); have KVx4 := hidP (KVx3.out.below hb4 KVx3.out.lt); have KVy4 := hidP (KVy3.out.below hb4 KVy3.out.lt); have Hx4 := hidP (Hx3.out.trans (hb4.mono Hx3.out.size)); have Hy4 := hidP (Hy3.out.trans (hb4.mono Hy3.out.size)); have Hc4 := hidP hb4; have qX0 := KX4.out.cell 0 (v := .int .i64 rx.1) rfl; have qX1 := KX4.out.cell 1 (v := .slice a0x rx.2.length c0x) rfl; have qY0 := KY4.out.cell 0 (v := .int .i64 ry.1) rfl; have qY1 := KY4.out.cell 1 (v := .slice a0y ry.2.length c0y) rfl; have qVx0 := KVx4.out.cell 0 (v := .int .i64 Mx.1) rfl; have qVx1 := KVx4.out.cell 1 (v := .slice ax Mx.2.length cx) rfl; have qVy0 := KVy4.out.cell 0 (v := .int .i64 My.1) rfl; have qVy1 := KVy4.out.cell 1 (v := .slice ay My.2.length cy) rfl; have qVc0 := KVc4.out.cell 0 (v := .int .i64 C.1) rfl; have qVc1 := KVc4.out.cell 1 (v := .slice ac C.2.length cc) rfl; have HPAx := hidP hp; clear hp; clear hb hb4)
    | (go_at_call 19; (with_reducible refine (HPy.out _ _ (HMy.out.later Hy4.out (Nat.le_refl _))).mono ?_); rintro e w5 ⟨ny, ey, rfl, hp, hb⟩; have hb5 := hb; have HB5 := hidP (HB4.out.trans (hb5.mono HB4.out.size)); have KX5 := hidP (KX4.out.below hb5 KX4.out.lt); have KY5 := hidP (KY4.out.below hb5 KY4.out.lt); have KVx5 := hidP (KVx4.out.below hb5 KVx4.out.lt); have KVy5 := hidP (KVy4.out.below hb5 KVy4.out.lt); have KVc5 := hidP (KVc4.out.below hb5 KVc4.out.lt); have Hx5 := hidP (Hx4.out.trans (hb5.mono Hx4.out.size)); have Hy5 := hidP (Hy4.out.trans (hb5.mono Hy4.out.size)); have Hc5 := hidP (Hc4.out.trans (hb5.mono Hc4.out.size)); have qX0 := KX5.out.cell 0 (v := .int .i64 rx.1) rfl; have qX1 := KX5.out.cell 1 (v := .slice a0x rx.2.length c0x) rfl; have qY0 := KY5.out.cell 0 (v := .int .i64 ry.1) rfl; have qY1 := KY5.out.cell 1 (v := .slice a0y ry.2.length c0y) rfl; have qVx0 := KVx5.out.cell 0 (v := .int .i64 Mx.1) rfl; have qVx1 := KVx5.out.cell 1 (v := .slice ax Mx.2.length cx) rfl; have qVy0 := KVy5.out.cell 0 (v := .int .i64 My.1) rfl; have qVy1 := KVy5.out.cell 1 (v := .slice ay My.2.length cy) rfl; have qVc0 := KVc5.out.cell 0 (v := .int .i64 C.1) rfl; have qVc1 := KVc5.out.cell 1 (v := .slice ac C.2.length cc) rfl; have HPAy := hidP hp; clear hp; clear hb hb5)
    | (go_at_call 19; (with_reducible refine (HPc.out _ _ (HMc.out.later Hc5.out (Nat.le_refl _))).mono ?_); rintro e w6 ⟨nc, ec, rfl, hp, hb⟩; have hb6 := hb; have HB6 := hidP (HB5.out.trans (hb6.mono HB5.out.size)); have KX6 := hidP (KX5.out.below hb6 KX5.out.lt); have KY6 := hidP (KY5.out.below hb6 KY5.out.lt); have KVx6 := hidP (KVx5.out.below hb6 KVx5.out.lt); have KVy6 := hidP (KVy5.out.below hb6 KVy5.out.lt); have KVc6 := hidP (KVc5.out.below hb6 KVc5.out.lt); have Hx6 := hidP (Hx5.out.trans (hb6.mono Hx5.out.size)); have Hy6 := hidP (Hy5.out.trans (hb6.mono Hy5.out.size)); have Hc6 := hidP (Hc5.out.trans (hb6.mono Hc5.out.size)); have qX0 := KX6.out.cell 0 (v := .int .i64 rx.1) rfl; have qX1 := KX6.out.cell 1 (v := .slice a0x rx.2.length c0x) rfl; have qY0 := KY6.out.cell 0 (v := .int .i64 ry.1) rfl; have qY1 := KY6.out.cell 1 (v := .slice a0y ry.2.length c0y) rfl; have qVx0 := KVx6.out.cell 0 (v := .int .i64 Mx.1) rfl; have qVx1 := KVx6.out.cell 1 (v := .slice ax Mx.2.length cx) rfl; have qVy0 := KVy6.out.cell 0 (v := .int .i64 My.1) rfl; have qVy1 := KVy6.out.cell 1 (v := .slice ay My.2.length cy) rfl; have qVc0 := KVc6.out.cell 0 (v := .int .i64 C.1) rfl; have qVc1 := KVc6.out.cell 1 (v := .slice ac C.2.length cc) rfl; have hfar := HFC.out _ _ _ _ _ _ HPAx.out HPAy.out hp; clear hp; rcases hfar with ⟨rfl, rfl, rfl, rfl, hnb, hkb⟩ | ⟨rfl | rfl, rfl | rfl, hfg, rfl⟩; have t1 : IntKind.i64.wrap (nx + ny) = nx + ny := wrapI (by omega) (by omega); have t2 : IntKind.i64.wrap (nx + ny + 1) = nx + ny + 1 := wrapI (by omega) (by omega); have t3 : ((nx + ny + 1) == (nx + ny + 1)) = true := (by simp); clear hb hb6))
  all_goals first
    | (go_ret; exact ⟨rfl, HB6.out⟩)
    | (exfalso; omega)

set_option maxRecDepth 100000 in
theorem lifted (os : Os) (started : os.Started) (H : Type) (enc : TypeId × Value → H) :
    ReturnsInHanded {} Try.checked os 7 .any (Rows.longestAddsSpec.pre6 enc Try.prog Try.f7 Rows.longestAddsRow.domain false) (Rows.longestAddsSpec.post enc Try.prog Try.f7 false true false false) := by
  refine returnsInHanded_of_change_sized (C := Try.checked) own started (by kernel_rfl) Try.func7
    (ChangeSpec.witness6 (enc := enc) (C := Try.checked) false ⟨#[], #[.agg #[.int .i64 0, .slice none 0 0], .agg #[.int .i64 0, .slice none 0 0]], []⟩ 8 (by kernel_rfl) (by kernel_rfl) (by kernel_rfl) (by kernel_rfl)) ?_
  intro W base args ds gs before hval0 hW hcnd hsz0 _
  have hsz : (DataW.weightsEach Try.prog (Try.f7.params.toList ++ Rows.longestAddsSpec.plain.varTypes Try.prog) (ds ++ gs)).all (· ≤ reachBytes) = true := hsz0
  have hval : ∀ (j : Nat) t v, Try.f7.params[j]? = some t → args[j]? = some v → Value.okWide Try.prog W .any base t v := hval0
  clear hval0 hsz0
  have hW' := hW
  obtain ⟨p, q, hA0, hV, rfl, hfz, hnd⟩ := hW
  have hA : DataW.TrodAll enc Try.prog W 0 (fun _ => true) true Try.f7.params.toList args.toList ds p := hA0
  rw [Try.params7] at hA hval hsz
  obtain ⟨v0, vs0, d0, ds0, p0, q0, hargs, rfl, rfl, h0, r0⟩ := trodAll_cons hA
  obtain ⟨v1, vs1, d1, ds1, p1, q1, rfl, rfl, rfl, h1, r1⟩ := trodAll_cons r0
  obtain ⟨rfl, rfl, rfl⟩ := trodAll_nil r1
  obtain rfl : args = #[v0, v1] := by cases args; simp_all
  obtain ⟨rfl, rfl⟩ := trodVars_none hV
  have k0 := h0
  have lt0 : ∀ x ∈ p0, x.block < W.heap.size := by obtain ⟨m, hm⟩ := k0; exact DataW.trod_lt m _ _ _ hm
  obtain ⟨z0, w0⟩ : ∃ m : Rw, RawV W v0 m ∧ okR m ∧ wfR m := by
    obtain ⟨c0, c1, y0, y1, n, rfl, hd, hp, t0, t1⟩ := Go.Joins.open_agg2 Try.underlying34 (by kernel_rfl) (by kernel_rfl) (hval 0 34 v0 rfl rfl) h0
    subst hd
    exact open_raw t0 t1 ((Fits.arg hsz (j := 0) rfl rfl).field Try.underlying34 (f := 1) rfl rfl)
  have k1 := h1
  have lt1 : ∀ x ∈ p1, x.block < W.heap.size := by obtain ⟨m, hm⟩ := k1; exact DataW.trod_lt m _ _ _ hm
  obtain ⟨z1, w1⟩ : ∃ m : Rw, RawV W v1 m ∧ okR m ∧ wfR m := by
    obtain ⟨c0, c1, y0, y1, n, rfl, hd, hp, t0, t1⟩ := Go.Joins.open_agg2 Try.underlying34 (by kernel_rfl) (by kernel_rfl) (hval 1 34 v1 rfl rfl) h1
    subst hd
    exact open_raw t0 t1 ((Fits.arg hsz (j := 1) rfl rfl).field Try.underlying34 (f := 1) rfl rfl)
  refine (walk v0 z0 v1 z1 W w0 w1).mono fun e W' ⟨he, bel⟩ => ?_
  subst he
  exact ⟨_, rfl, _, _, _, [], _, [], hW', trodAll_mk1 (shut_bool Try.underlying4 _), (trodAll_cons_mk (Below.trod laidOut (by kernel_rfl) (of_decide_eq_true (by kernel_rfl)) k0 bel lt0) (trodAll_cons_mk (Below.trod laidOut (by kernel_rfl) (of_decide_eq_true (by kernel_rfl)) k1 bel lt1) trodAll_mk0)), rfl, bel.frame _, fun h => by cases h⟩
end Go.Proofs.Ytfajkomajbhphaa.longestAdds
namespace Go.Proofs.Ytfajkomajbhphaa
theorem longestAdds_holds : Rows.LongestAddsSaid :=
  OpenClaim.holds_of_wide 7 Try.f7 rfl rfl rfl rfl rfl rfl rfl ⟨rfl, rfl, rfl, rfl, rfl⟩ rfl rfl rfl rfl rfl (by kernel_rfl) Try.func7 (by kernel_rfl)
    (of_decide_eq_true (by kernel_rfl)) (by unfold Func.isWrapper; first | (rw [if_pos (by decide +kernel)]; kernel_rfl) | (rw [if_neg (by decide +kernel)]; exact ⟨rfl, rfl⟩))
    (fun os started H enc _ => longestAdds.lifted os started H enc)
#print axioms longestAdds_holds
end Go.Proofs.Ytfajkomajbhphaa
