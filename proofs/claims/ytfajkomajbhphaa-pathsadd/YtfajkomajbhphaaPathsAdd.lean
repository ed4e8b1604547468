/- The statement PathsAdd: whatever numbers two machines are made of, one or the other has as many paths as both together, one behind the other as many as both times each other, for every input and without any condition. -/
import Derived.Test.YtfajkomajbhphaaKf
import Derived.Test.YtfajkomajbhphaaRx
import Derived.Test.YtfajkomajbhphaaOp
import Derived.Test.YtfajkomajbhphaaLo
import Derived.Lib.SmallJoins
import Derived.ChangeOld
import Derived.Below
namespace Go.Proofs.Ytfajkomajbhphaa.pathsAdd
open Go.ChangeShapes Go.WideShapes Go.ChangeAt Go.RowKit
open Go.Proofs.Ytfajkomajbhphaa.Pl Go.Proofs.Ytfajkomajbhphaa.Wt
set_option linter.unusedVariables false
set_option linter.unusedSimpArgs false

theorem own : ownKnob Try.prog.godebug = none := by kernel_rfl
theorem laidOut : laidOutB Try.prog = true := by kernel_rfl
set_option maxRecDepth 100000 in
set_option maxHeartbeats 1600000 in
theorem walk (vx : Value) (rx : Rw) (vy : Value) (ry : Rw) (w : World) (hx : RawV w vx rx ∧ okR rx ∧ wfR rx) (hy : RawV w vy ry ∧ okR ry ∧ wfR ry) :
    Calls Try.prog 6 #[vx, vy] w fun e w' => e = .returned (.bool true) ∧ Below w.heap.size w w' := by
  obtain ⟨hx, hokx, hwfx⟩ := hx
  have HIx : Hid (RawV w vx rx) := hx
  have HOKx : Hid (okR rx) := hokx
  have HWFx : Hid (wfR rx) := hwfx
  obtain ⟨hfx, hslx⟩ := slim6 rx
  have HFx := hidP hfx
  have HSLx := hidP hslx
  have HKMx := hidP (okR0 hfx)
  obtain ⟨vs0x, rfl, hNx⟩ := hx
  obtain ⟨a0x, c0x, rfl, hNxx⟩ := hNx.get
  clear hNx hNxx hokx hwfx
  obtain ⟨hy, hoky, hwfy⟩ := hy
  have HIy : Hid (RawV w vy ry) := hy
  have HOKy : Hid (okR ry) := hoky
  have HWFy : Hid (wfR ry) := hwfy
  obtain ⟨hfy, hsly⟩ := slim6 ry
  have HFy := hidP hfy
  have HSLy := hidP hsly
  have HKMy := hidP (okR0 hfy)
  obtain ⟨vs0y, rfl, hNy⟩ := hy
  obtain ⟨a0y, c0y, rfl, hNxy⟩ := hNy.get
  clear hNy hNxy hoky hwfy
  obtain ⟨u1, u2, u3⟩ := slim_uni hslx hsly hfx hfy
  obtain ⟨c1, c2, c3⟩ := slim_cat hslx hsly hfx hfy
  have hUl := uniM_len (fwdM (madeM rx 6 false)) (fwdM (madeM ry 6 false))
  have HFC : Hid (∀ n g k h s i p j, PathAns (fwdM (madeM rx 6 false)) 0 n g → PathAns (fwdM (madeM ry 6 false)) 0 k h → PathAns (uniM (fwdM (madeM rx 6 false)) (fwdM (madeM ry 6 false))) 0 s i → PathAns (catM (fwdM (madeM rx 6 false)) (fwdM (madeM ry 6 false))) 0 p j → g = 0 ∧ h = 0 ∧ i = 0 ∧ j = 0 ∧ s = n + k ∧ p = n * k ∧ (0 ≤ n ∧ n ≤ 15625) ∧ (0 ≤ k ∧ k ≤ 15625)) := fun _ _ _ _ _ _ _ _ h1 h2 h3 h4 => paths_facts hslx hsly h1 h2 h3 h4
  have HUC : Hid (∀ W v u, Mach W v (fwdM (madeM rx 6 false)) → Mach W u (fwdM (madeM ry 6 false)) → Calls Try.prog 10 #[v, u] W fun e w' => RatRes (uniM (fwdM (madeM rx 6 false)) (fwdM (madeM ry 6 false))) 0 W e w') := fun W v u h1 h2 => by
    have := unionP_any v u _ _ W h1 (okR0 hfx) h2 (okR0 hfy)
    rw [u1, u2] at this
    exact this
  have HCC : Hid (∀ W v u, Mach W v (fwdM (madeM rx 6 false)) → Mach W u (fwdM (madeM ry 6 false)) → Calls Try.prog 13 #[v, u] W fun e w' => RatRes (catM (fwdM (madeM rx 6 false)) (fwdM (madeM ry 6 false))) 0 W e w') := fun W v u h1 h2 => by
    have := concatP_any v u _ _ W h1 (okR0 hfx) h2 (okR0 hfy)
    rw [c1, c2] at this
    exact this
  have HPC : ∀ m : Mc, faultM m = 0 → ∀ W v, Mach W v m → Calls Try.prog 18 #[v] W fun e w' => ∃ (x ec : Int), e = .returned (.tuple #[.int .i64 x, .int .i64 ec]) ∧ PathAns m 0 x ec ∧ Below W.heap.size W w' := fun m hm W v h => paths_any v m W h (okR0 hm) 0 hm
  have HPx := hidP (HPC _ hfx)
  have HPy := hidP (HPC _ hfy)
  have HPu := hidP (HPC _ u3)
  have HPc := hidP (HPC _ c3)
  have h6x := hslx.six
  have h6y := hsly.six
  clear hfx hfy hslx hsly u1 u2 u3 c1 c2 c3 HPC HSLx HSLy HFx HFy HKMx HKMy
  generalize uniM (fwdM (madeM rx 6 false)) (fwdM (madeM ry 6 false)) = U at *
  generalize catM (fwdM (madeM rx 6 false)) (fwdM (madeM ry 6 false)) = C at *
  have HB0 : Hid (∀ o1 o2, Below w.heap.size w ((w.alloc o1).alloc o2)) := fun o1 o2 => ((Below.refl _ _).alloc (Nat.le_refl _) _).alloc (by simp) _
  obtain ⟨Mx, hMx⟩ : ∃ Mx, fwdM (madeM rx 6 false) = Mx := ⟨_, rfl⟩
  obtain ⟨My, hMy⟩ : ∃ My, fwdM (madeM ry 6 false) = My := ⟨_, rfl⟩
  have HEx : Hid (∀ v w, RawV w v rx → okR rx → wfR rx → Calls Try.prog 17 #[v, .int .i64 6] w fun e w' => ∃ v', e = .returned v' ∧ Mach w' v' Mx ∧ Below w.heap.size w w') := fun v w h1 h2 h3 => by rw [← hMx]; exact fwd6 v rx w h1 h2 h3
  have HEy : Hid (∀ v w, RawV w v ry → okR ry → wfR ry → Calls Try.prog 17 #[v, .int .i64 6] w fun e w' => ∃ v', e = .returned v' ∧ Mach w' v' My ∧ Below w.heap.size w w') := fun v w h1 h2 h3 => by rw [← hMy]; exact fwd6 v ry w h1 h2 h3
  rw [hMx, hMy] at HFC HUC HCC hUl
  rw [hMx] at HPx h6x
  rw [hMy] at HPy h6y
  clear hMx hMy
  have t4 : IntKind.i64.wrap ((Mx.2.length : Int) + (My.2.length : Int)) = (Mx.2.length : Int) + (My.2.length : Int) := wrapI (by omega) (by omega)
  have t5 : IntKind.i64.wrap ((Mx.2.length : Int) + (My.2.length : Int) + 1) = (Mx.2.length : Int) + (My.2.length : Int) + 1 := wrapI (by omega) (by omega)
  have t6 : ((U.2.length : Int) == (Mx.2.length : Int) + (My.2.length : Int) + 1) = true := by simp; omega
  clear hUl
  go_enter Try.func6, Try.ntmps6
  go_wp2_with (first
    | (go_at_call 17; (with_reducible refine (HEx.out _ _ (HIx.out.later (HB0.out _ _) (Nat.le_refl _)) HOKx.out HWFx.out).mono ?_); rintro e w1 ⟨v1, rfl, hm, hb⟩; have HMx : Hid (Mach w1 v1 (Mx)) := hm; obtain ⟨vsx, rfl, hSx⟩ := hm; obtain ⟨ax, cx, rfl⟩ := hSx.sl; clear hSx; obtain ⟨s1, bb0, bb1, hb1⟩ := boxedTwo hb (by simp); have KX1 := hidP bb0; have KY1 := hidP bb1; clear bb0 bb1; have HB1 := hidP hb1; have qX0 := (KX1.out.alloc (.cells #[.int .i64 Mx.1, .slice ax Mx.2.length cx] 24)).cell 0 (v := .int .i64 rx.1) rfl; have qX1 := (KX1.out.alloc (.cells #[.int .i64 Mx.1, .slice ax Mx.2.length cx] 24)).cell 1 (v := .slice a0x rx.2.length c0x) rfl; have qY0 := (KY1.out.alloc (.cells #[.int .i64 Mx.1, .slice ax Mx.2.length cx] 24)).cell 0 (v := .int .i64 ry.1) rfl; have qY1 := (KY1.out.alloc (.cells #[.int .i64 Mx.1, .slice ax Mx.2.length cx] 24)).cell 1 (v := .slice a0y ry.2.length c0y) rfl; clear hb hb1)
    | (go_at_call 17; (with_reducible refine (HEy.out _ _ (HIy.out.later (HB1.out.alloc HB1.out.size _) (Nat.le_refl _)) HOKy.out HWFy.out).mono ?_); rintro e w2 ⟨v2, rfl, hm, hb⟩; have HMy : Hid (Mach w2 v2 (My)) := hm; obtain ⟨vsy, rfl, hSy⟩ := hm; obtain ⟨ay, cy, rfl⟩ := hSy.sl; clear hSy; obtain ⟨s2, bb0, hb2⟩ := boxed hb (by simp); have KVx2 := hidP bb0; clear bb0; have HB2 := hidP (HB1.out.trans (hb2.mono HB1.out.size)); have KX2 := hidP (KX1.out.below hb2 KX1.out.lt); have KY2 := hidP (KY1.out.below hb2 KY1.out.lt); have Hx2 := hidP hb2; have qX0 := (KX2.out.alloc (.cells #[.int .i64 My.1, .slice ay My.2.length cy] 24)).cell 0 (v := .int .i64 rx.1) rfl; have qX1 := (KX2.out.alloc (.cells #[.int .i64 My.1, .slice ay My.2.length cy] 24)).cell 1 (v := .slice a0x rx.2.length c0x) rfl; have qY0 := (KY2.out.alloc (.cells #[.int .i64 My.1, .slice ay My.2.length cy] 24)).cell 0 (v := .int .i64 ry.1) rfl; have qY1 := (KY2.out.alloc (.cells #[.int .i64 My.1, .slice ay My.2.length cy] 24)).cell 1 (v := .slice a0y ry.2.length c0y) rfl; have qVx0 := (KVx2.out.alloc (.cells #[.int .i64 My.1, .slice ay My.2.length cy] 24)).cell 0 (v := .int .i64 Mx.1) rfl; have qVx1 := (KVx2.out.alloc (.cells #[.int .i64 My.1, .slice ay My.2.length cy] 24)).cell 1 (v := .slice ax Mx.2.length cx) rfl; clear hb hb2)
    | (go_at_call 10; (with_reducible refine (HUC.out _ _ _ (HMx.out.later (Hx2.out.alloc Hx2.out.size _) (Nat.le_refl _)) (HMy.out.later ((Below.refl _ _).alloc (Nat.le_refl _) _) (Nat.le_refl _))).mono ?_); rintro e w3 ⟨v3, rfl, hm, hb⟩; have HMu : Hid (Mach w3 v3 (U)) := hm; obtain ⟨vsu, rfl, hSu⟩ := hm; obtain ⟨au, cu, rfl⟩ := hSu.sl; clear hSu; obtain ⟨s3, bb0, hb3⟩ := boxed hb (by simp); have KVy3 := hidP bb0; clear bb0; have HB3 := hidP (HB2.out.trans (hb3.mono HB2.out.size)); have KX3 := hidP (KX2.out.below hb3 KX2.out.lt); have KY3 := hidP (KY2.out.below hb3 KY2.out.lt); have KVx3 := hidP (KVx2.out.below hb3 KVx2.out.lt); have Hx3 := hidP (Hx2.out.trans (hb3.mono Hx2.out.size)); have Hy3 := hidP hb3; have qX0 := (KX3.out.alloc (.cells #[.int .i64 U.1, .slice au U.2.length cu] 24)).cell 0 (v := .int .i64 rx.1) rfl; have qX1 := (KX3.out.alloc (.cells #[.int .i64 U.1, .slice au U.2.length cu] 24)).cell 1 (v := .slice a0x rx.2.length c0x) rfl; have qY0 := (KY3.out.alloc (.cells #[.int .i64 U.1, .slice au U.2.length cu] 24)).cell 0 (v := .int .i64 ry.1) rfl; have qY1 := (KY3.out.alloc (.cells #[.int .i64 U.1, .slice au U.2.length cu] 24)).cell 1 (v := .slice a0y ry.2.length c0y) rfl; have qVx0 := (KVx3.out.alloc (.cells #[.int .i64 U.1, .slice au U.2.length cu] 24)).cell 0 (v := .int .i64 Mx.1) rfl; have qVx1 := (KVx3.out.alloc (.cells #[.int .i64 U.1, .slice au U.2.length cu] 24)).cell 1 (v := .slice ax Mx.2.length cx) rfl; have qVy0 := (KVy3.out.alloc (.cells #[.int .i64 U.1, .slice au U.2.length cu] 24)).cell 0 (v := .int .i64 My.1) rfl; have qVy1 := (KVy3.out.alloc (.cells #[.int .i64 U.1, .slice au U.2.length cu] 24)).cell 1 (v := .slice ay My.2.length cy) rfl; clear hb hb3)
    | (go_at_call 13; (with_reducible refine (HCC.out _ _ _ (HMx.out.later (Hx3.out.alloc Hx3.out.size _) (Nat.le_refl _)) (HMy.out.later (Hy3.out.alloc Hy3.out.size _) (Nat.le_refl _))).mono ?_); rintro e w4 ⟨v4, rfl, hm, hb⟩; have HMc : Hid (Mach w4 v4 (C)) := hm; obtain ⟨vsc, rfl, hSc⟩ := hm; obtain ⟨ac, cc, rfl⟩ := hSc.sl; clear hSc; obtain ⟨s4, bb0, hb4⟩ := boxed hb (by simp); have KVu4 := hidP bb0; clear bb0; have HB4 := hidP (HB3.out.trans (hb4.mono HB3.out.size)); have KX4 := hidP (KX3.out.below hb4 KX3.out.lt); have KY4 := hidP (KY3.out.below hb4 KY3.out.lt); have KVx4 := hidP (KVx3.out.below hb4 KVx3.out.lt); have KVy4 := hidP (KVy3.out.below hb4 KVy3.out.lt); have Hx4 := hidP (Hx3.out.trans (hb4.mono Hx3.out.size)); have Hy4 := hidP (Hy3.out.trans (hb4.mono Hy3.out.size)); have Hu4 := hidP hb4; have qX0 := (KX4.out.alloc (.cells #[.int .i64 C.1, .slice ac C.2.length cc] 24)).cell 0 (v := .int .i64 rx.1) rfl; have qX1 := (KX4.out.alloc (.cells #[.int .i64 C.1, .slice ac C.2.length cc] 24)).cell 1 (v := .slice a0x rx.2.length c0x) rfl; have qY0 := (KY4.out.alloc (.cells #[.int .i64 C.1, .slice ac C.2.length cc] 24)).cell 0 (v := .int .i64 ry.1) rfl; have qY1 := (KY4.out.alloc (.cells #[.int .i64 C.1, .slice ac C.2.length cc] 24)).cell 1 (v := .slice a0y ry.2.length c0y) rfl; have qVx0 := (KVx4.out.alloc (.cells #[.int .i64 C.1, .slice ac C.2.length cc] 24)).cell 0 (v := .int .i64 Mx.1) rfl; have qVx1 := (KVx4.out.alloc (.cells #[.int .i64 C.1, .slice ac C.2.length cc] 24)).cell 1 (v := .slice ax Mx.2.length cx) rfl; have qVy0 := (KVy4.out.alloc (.cells #[.int .i64 C.1, .slice ac C.2.length cc] 24)).cell 0 (v := .int .i64 My.1) rfl; have qVy1 := (KVy4.out.alloc (.cells #[.int .i64 C.1, .slice ac C.2.length cc] 24)).cell 1 (v := .slice ay My.2.length cy) rfl; have qVu0 := (KVu4.out.alloc (.cells #[.int .i64 C.1, .slice ac C.2.length cc] 24)).cell 0 (v := .int .i64 U.1) rfl; have qVu1 := (KVu4.out.alloc (.cells #[.int .i64 C.1, .slice ac C.2.length cc] 24)).cell 1 (v := .slice au U.2.length cu) rfl; clear hb hb4)
    | (go_at_call 18; (with_reducible refine (HPx.out _ _ (HMx.out.later (Hx4.out.alloc Hx4.out.size _) (Nat.le_refl _))).mono ?_); rintro e w5 ⟨nx, ex, rfl, hp, hb⟩; obtain ⟨s5, bb0, hb5⟩ := boxed hb (by simp); have KVc5 := hidP bb0; clear bb0; have HB5 := hidP (HB4.out.trans (hb5.mono HB4.out.size)); have KX5 := hidP (KX4.out.below hb5 KX4.out.lt); have KY5 := hidP (KY4.out.below hb5 KY4.out.lt); have KVx5 := hidP (KVx4.out.below hb5 KVx4.out.lt); have KVy5 := hidP (KVy4.out.below hb5 KVy4.out.lt); have KVu5 := hidP (KVu4.out.below hb5 KVu4.out.lt); have Hx5 := hidP (Hx4.out.trans (hb5.mono Hx4.out.size)); have Hy5 := hidP (Hy4.out.trans (hb5.mono Hy4.out.size)); have Hu5 := hidP (Hu4.out.trans (hb5.mono Hu4.out.size)); have Hc5 := hidP hb5; have qX0 := KX5.out.cell 0 (v := .int .i64 rx.1) rfl; have qX1 := KX5.out.cell 1 (v := .slice a0x rx.2.length c0x) rfl; have qY0 := KY5.out.cell 0 (v := .int .i64 ry.1) rfl; have qY1 := KY5.out.cell 1 (v := .slice a0y ry.2.length c0y) rfl; have qVx0 := KVx5.out.cell 0 (v := .int .i64 Mx.1) rfl; have qVx1 := KVx5.out.cell 1 (v := .slice ax Mx.2.length cx) rfl; have qVy0 := KVy5.out.cell 0 (v := .int .i64 My.1) rfl; have qVy1 := KVy5.out.cell 1 (v := .slice ay My.2.length cy) rfl; have qVu0 := KVu5.out.cell 0 (v := .int .i64 U.1) rfl; have qVu1 := KVu5.out.cell 1 (v := .slice au U.2.length cu) rfl; have qVc0 := KVc5.out.cell 0 (v := .int .i64 C.1) rfl; have qVc1 := KVc5.out.cell 1 (v := .slice ac C.2.length cc) rfl; have HPAx := hidP hp; clear hp; clear hb hb5)
    | (go_at_call 18; (with_reducible refine (HPy.out _ _ (HMy.out.later Hy5.out (Nat.le_refl _))).mono ?_); rintro e w6 ⟨ny, ey, rfl, hp, hb⟩; have hb6 := hb; have HB6 := hidP (HB5.out.trans (hb6.mono HB5.out.size)); have KX6 := hidP (KX5.out.below hb6 KX5.out.lt); have KY6 := hidP (KY5.out.below hb6 KY5.out.lt); have KVx6 := hidP (KVx5.out.below hb6 KVx5.out.lt); have KVy6 := hidP (KVy5.out.below hb6 KVy5.out.lt); have KVu6 := hidP (KVu5.out.below hb6 KVu5.out.lt); have KVc6 := hidP (KVc5.out.below hb6 KVc5.out.lt); have Hx6 := hidP (Hx5.out.trans (hb6.mono Hx5.out.size)); have Hy6 := hidP (Hy5.out.trans (hb6.mono Hy5.out.size)); have Hu6 := hidP (Hu5.out.trans (hb6.mono Hu5.out.size)); have Hc6 := hidP (Hc5.out.trans (hb6.mono Hc5.out.size)); have qX0 := KX6.out.cell 0 (v := .int .i64 rx.1) rfl; have qX1 := KX6.out.cell 1 (v := .slice a0x rx.2.length c0x) rfl; have qY0 := KY6.out.cell 0 (v := .int .i64 ry.1) rfl; have qY1 := KY6.out.cell 1 (v := .slice a0y ry.2.length c0y) rfl; have qVx0 := KVx6.out.cell 0 (v := .int .i64 Mx.1) rfl; have qVx1 := KVx6.out.cell 1 (v := .slice ax Mx.2.length cx) rfl; have qVy0 := KVy6.out.cell 0 (v := .int .i64 My.1) rfl; have qVy1 := KVy6.out.cell 1 (v := .slice ay My.2.length cy) rfl; have qVu0 := KVu6.out.cell 0 (v := .int .i64 U.1) rfl; have qVu1 := KVu6.out.cell 1 (v := .slice au U.2.length cu) rfl; have qVc0 := KVc6.out.cell 0 (v := .int .i64 C.1) rfl; have qVc1 := KVc6.out.cell 1 (v := .slice ac C.2.length cc) rfl; have HPAy := hidP hp; clear hp; clear hb hb6)
    | (go_at_call 18; (with_reducible refine (HPu.out _ _ (HMu.out.later Hu6.out (Nat.le_refl _))).mono ?_); rintro e w7 ⟨nu, eu, rfl, hp, hb⟩; have hb7 := hb; have HB7 := hidP (HB6.out.trans (hb7.mono HB6.out.size)); have KX7 := hidP (KX6.out.below hb7 KX6.out.lt); have KY7 := hidP (KY6.out.below hb7 KY6.out.lt); have KVx7 := hidP (KVx6.out.below hb7 KVx6.out.lt); have KVy7 := hidP (KVy6.out.below hb7 KVy6.out.lt); have KVu7 := hidP (KVu6.out.below hb7 KVu6.out.lt); have KVc7 := hidP (KVc6.out.below hb7 KVc6.out.lt); have Hx7 := hidP (Hx6.out.trans (hb7.mono Hx6.out.size)); have Hy7 := hidP (Hy6.out.trans (hb7.mono Hy6.out.size)); have Hu7 := hidP (Hu6.out.trans (hb7.mono Hu6.out.size)); have Hc7 := hidP (Hc6.out.trans (hb7.mono Hc6.out.size)); have qX0 := KX7.out.cell 0 (v := .int .i64 rx.1) rfl; have qX1 := KX7.out.cell 1 (v := .slice a0x rx.2.length c0x) rfl; have qY0 := KY7.out.cell 0 (v := .int .i64 ry.1) rfl; have qY1 := KY7.out.cell 1 (v := .slice a0y ry.2.length c0y) rfl; have qVx0 := KVx7.out.cell 0 (v := .int .i64 Mx.1) rfl; have qVx1 := KVx7.out.cell 1 (v := .slice ax Mx.2.length cx) rfl; have qVy0 := KVy7.out.cell 0 (v := .int .i64 My.1) rfl; have qVy1 := KVy7.out.cell 1 (v := .slice ay My.2.length cy) rfl; have qVu0 := KVu7.out.cell 0 (v := .int .i64 U.1) rfl; have qVu1 := KVu7.out.cell 1 (v := .slice au U.2.length cu) rfl; have qVc0 := KVc7.out.cell 0 (v := .int .i64 C.1) rfl; have qVc1 := KVc7.out.cell 1 (v := .slice ac C.2.length cc) rfl; have HPAu := hidP hp; clear hp; clear hb hb7)
    | (go_at_call 18; (with_reducible refine (HPc.out _ _ (HMc.out.later Hc7.out (Nat.le_refl _))).mono ?_); rintro e w8 ⟨nc, ec, rfl, hp, hb⟩; have hb8 := hb; have HB8 := hidP (HB7.out.trans (hb8.mono HB7.out.size)); have KX8 := hidP (KX7.out.below hb8 KX7.out.lt); have KY8 := hidP (KY7.out.below hb8 KY7.out.lt); have KVx8 := hidP (KVx7.out.below hb8 KVx7.out.lt); have KVy8 := hidP (KVy7.out.below hb8 KVy7.out.lt); have KVu8 := hidP (KVu7.out.below hb8 KVu7.out.lt); have KVc8 := hidP (KVc7.out.below hb8 KVc7.out.lt); have Hx8 := hidP (Hx7.out.trans (hb8.mono Hx7.out.size)); have Hy8 := hidP (Hy7.out.trans (hb8.mono Hy7.out.size)); have Hu8 := hidP (Hu7.out.trans (hb8.mono Hu7.out.size)); have Hc8 := hidP (Hc7.out.trans (hb8.mono Hc7.out.size)); have qX0 := KX8.out.cell 0 (v := .int .i64 rx.1) rfl; have qX1 := KX8.out.cell 1 (v := .slice a0x rx.2.length c0x) rfl; have qY0 := KY8.out.cell 0 (v := .int .i64 ry.1) rfl; have qY1 := KY8.out.cell 1 (v := .slice a0y ry.2.length c0y) rfl; have qVx0 := KVx8.out.cell 0 (v := .int .i64 Mx.1) rfl; have qVx1 := KVx8.out.cell 1 (v := .slice ax Mx.2.length cx) rfl; have qVy0 := KVy8.out.cell 0 (v := .int .i64 My.1) rfl; have qVy1 := KVy8.out.cell 1 (v := .slice ay My.2.length cy) rfl; have qVu0 := KVu8.out.cell 0 (v := .int .i64 U.1) rfl; have qVu1 := KVu8.out.cell 1 (v := .slice au U.2.length cu) rfl; have qVc0 := KVc8.out.cell 0 (v := .int .i64 C.1) rfl; have qVc1 := KVc8.out.cell 1 (v := .slice ac C.2.length cc) rfl; obtain ⟨rfl, rfl, rfl, rfl, hsum, hall, hnb, hkb⟩ := HFC.out _ _ _ _ _ _ _ _ HPAx.out HPAy.out HPAu.out hp; clear hp; subst hsum hall; have t1 : IntKind.i64.wrap (nx + ny) = nx + ny := wrapI (by omega) (by omega); have hmul : 0 ≤ nx * ny ∧ nx * ny ≤ 15625 * 15625 := ⟨Int.mul_nonneg hnb.1 hkb.1, Int.mul_le_mul hnb.2 hkb.2 hkb.1 (by omega)⟩; have t2 : IntKind.i64.wrap (nx * ny) = nx * ny := wrapI (by omega) (by omega); have t3 : ((nx + ny) == (nx + ny)) = true := (by simp); clear hb hb8))
  go_ret
  exact ⟨rfl, HB8.out⟩

set_option maxRecDepth 100000 in
theorem lifted (os : Os) (started : os.Started) (H : Type) (enc : TypeId × Value → H) :
    ReturnsInHanded {} Try.checked os 6 .any (Rows.pathsAddSpec.pre6 enc Try.prog Try.f6 Rows.pathsAddRow.domain false) (Rows.pathsAddSpec.post enc Try.prog Try.f6 false true false false) := by
  refine returnsInHanded_of_change_sized (C := Try.checked) own started (by kernel_rfl) Try.func6
    (ChangeSpec.witness6 (enc := enc) (C := Try.checked) false ⟨#[], #[.agg #[.int .i64 0, .slice none 0 0], .agg #[.int .i64 0, .slice none 0 0]], []⟩ 8 (by kernel_rfl) (by kernel_rfl) (by kernel_rfl) (by kernel_rfl)) ?_
  intro W base args ds gs before hval0 hW hcnd hsz0 _
  have hsz : (DataW.weightsEach Try.prog (Try.f6.params.toList ++ Rows.pathsAddSpec.plain.varTypes Try.prog) (ds ++ gs)).all (· ≤ reachBytes) = true := hsz0
  have hval : ∀ (j : Nat) t v, Try.f6.params[j]? = some t → args[j]? = some v → Value.okWide Try.prog W .any base t v := hval0
  clear hval0 hsz0
  have hW' := hW
  obtain ⟨p, q, hA0, hV, rfl, hfz, hnd⟩ := hW
  have hA : DataW.TrodAll enc Try.prog W 0 (fun _ => true) true Try.f6.params.toList args.toList ds p := hA0
  rw [Try.params6] at hA hval hsz
  obtain ⟨v0, vs0, d0, ds0, p0, q0, hargs, rfl, rfl, h0, r0⟩ := trodAll_cons hA
  obtain ⟨v1, vs1, d1, ds1, p1, q1, rfl, rfl, rfl, h1, r1⟩ := trodAll_cons r0
  obtain ⟨rfl, rfl, rfl⟩ := trodAll_nil r1
  obtain rfl : args = #[v0, v1] := by cases args; simp_all
  obtain ⟨rfl, rfl⟩ := trodVars_none hV
  have k0 := h0
  have lt0 : ∀ x ∈ p0, x.block < W.heap.size := by obtain ⟨m, hm⟩ := k0; exact DataW.trod_lt m _ _ _ hm
  obtain ⟨z0, w0⟩ : ∃ m : Rw, RawV W v0 m ∧ okR m ∧ wfR m := by
    obtain ⟨c0, c1, y0, y1, n, rfl, hd, hp, t0, t1⟩ := Go.Joins.open_agg2 Try.underlying34 (by kernel_rfl) (by kernel_rfl) (hval 0 34 v0 rfl rfl) h0
    subst hd
    exact open_raw t0 t1 ((Fits.arg hsz (j := 0) rfl rfl).field Try.underlying34 (f := 1) rfl rfl)
  have k1 := h1
  have lt1 : ∀ x ∈ p1, x.block < W.heap.size := by obtain ⟨m, hm⟩ := k1; exact DataW.trod_lt m _ _ _ hm
  obtain ⟨z1, w1⟩ : ∃ m : Rw, RawV W v1 m ∧ okR m ∧ wfR m := by
    obtain ⟨c0, c1, y0, y1, n, rfl, hd, hp, t0, t1⟩ := Go.Joins.open_agg2 Try.underlying34 (by kernel_rfl) (by kernel_rfl) (hval 1 34 v1 rfl rfl) h1
    subst hd
    exact open_raw t0 t1 ((Fits.arg hsz (j := 1) rfl rfl).field Try.underlying34 (f := 1) rfl rfl)
  refine (walk v0 z0 v1 z1 W w0 w1).mono fun e W' ⟨he, bel⟩ => ?_
  subst he
  exact ⟨_, rfl, _, _, _, [], _, [], hW', trodAll_mk1 (shut_bool Try.underlying4 _), (trodAll_cons_mk (Below.trod laidOut (by kernel_rfl) (of_decide_eq_true (by kernel_rfl)) k0 bel lt0) (trodAll_cons_mk (Below.trod laidOut (by kernel_rfl) (of_decide_eq_true (by kernel_rfl)) k1 bel lt1) trodAll_mk0)), rfl, bel.frame _, fun h => by cases h⟩
end Go.Proofs.Ytfajkomajbhphaa.pathsAdd
namespace Go.Proofs.Ytfajkomajbhphaa
theorem pathsAdd_holds : Rows.PathsAddSaid :=
  OpenClaim.holds_of_wide 6 Try.f6 rfl rfl rfl rfl rfl rfl rfl ⟨rfl, rfl, rfl, rfl, rfl⟩ rfl rfl rfl rfl rfl (by kernel_rfl) Try.func6 (by kernel_rfl)
    (of_decide_eq_true (by kernel_rfl)) (by unfold Func.isWrapper; first | (rw [if_pos (by decide +kernel)]; kernel_rfl) | (rw [if_neg (by decide +kernel)]; exact ⟨rfl, rfl⟩))
    (fun os started H enc _ => pathsAdd.lifted os started H enc)
#print axioms pathsAdd_holds
end Go.Proofs.Ytfajkomajbhphaa
