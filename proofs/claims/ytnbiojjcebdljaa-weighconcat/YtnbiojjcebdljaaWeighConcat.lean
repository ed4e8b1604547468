/- The statement WeighConcat: whatever numbers two machines and two words are made of, one behind the other costs what the best cut of both words costs, for every input and without any condition. -/
import Derived.Test.YtnbiojjcebdljaaMd
import Derived.Test.YtnbiojjcebdljaaKi
import Derived.Test.YtnbiojjcebdljaaKj
import Derived.Test.YtnbiojjcebdljaaWy
import Derived.Test.YtnbiojjcebdljaaJ12g
import Derived.Test.YtnbiojjcebdljaaKl
import Derived.Test.YtnbiojjcebdljaaLo
import Derived.Lib.SmallJoins
import Derived.ChangeOld
import Derived.Below
namespace Go.Proofs.Ytnbiojjcebdljaa.weighConcat
open Go.ChangeShapes Go.WideShapes Go.ChangeAt Go.RowKit
open Go.Proofs.Ytnbiojjcebdljaa.Pl Go.Proofs.Ytnbiojjcebdljaa.Wt
set_option linter.unusedVariables false
set_option linter.unusedSimpArgs false

theorem own : ownKnob Try.prog.godebug = none := by kernel_rfl
theorem laidOut : laidOutB Try.prog = true := by kernel_rfl
set_option maxRecDepth 100000 in
set_option maxHeartbeats 1600000 in
theorem core (vx : Value) (rx : Rw) (vy : Value) (ry : Rw) (vv : Value) (zv : List Int) (vt : Value) (zt : List Int) (w : World) (hx : RawV w vx rx ∧ okR rx ∧ wfR rx) (hy : RawV w vy ry ∧ okR ry ∧ wfR ry) (hzv : Nums w vv zv) (hwv : ∀ n ∈ zv, (Lit.int .i64 n).wf = true) (hzt : Nums w vt zt) (hwt : ∀ n ∈ zt, (Lit.int .i64 n).wf = true) :
    Calls Try.prog 3 #[vx, vy, vv, vt] w fun e w' => e = .returned (.bool true) ∧ Below w.heap.size w w' := by
  obtain ⟨hx, hokx, hwfx⟩ := hx
  have HIx : Hid (RawV w vx rx) := hx
  have HOKx : Hid (okR rx) := hokx
  have HWFx : Hid (wfR rx) := hwfx
  obtain ⟨hfx, hcx, hlx, hax, hpx⟩ := made_facts rx 4 (by omega) (by omega)
  have HEx : Hid (∀ v W, RawV W v rx → okR rx → wfR rx → Calls Try.prog 4 #[v, .int .i64 4, .bool false] W fun e w' => ∃ v', e = .returned v' ∧ Mach w' v' (madeM rx 4 false) ∧ Below W.heap.size W w') := fun v W h1 h2 h3 => made_any v rx 4 false W h1 h2 h3 (by omega) (by omega)
  obtain ⟨vs0x, rfl, hNx⟩ := hx
  obtain ⟨a0x, c0x, rfl, hNxx⟩ := hNx.get
  clear hNx hNxx hokx hwfx
  obtain ⟨hy, hoky, hwfy⟩ := hy
  have HIy : Hid (RawV w vy ry) := hy
  have HOKy : Hid (okR ry) := hoky
  have HWFy : Hid (wfR ry) := hwfy
  obtain ⟨hfy, hcy, hly, hay, hpy⟩ := made_facts ry 4 (by omega) (by omega)
  have HEy : Hid (∀ v W, RawV W v ry → okR ry → wfR ry → Calls Try.prog 4 #[v, .int .i64 4, .bool false] W fun e w' => ∃ v', e = .returned v' ∧ Mach w' v' (madeM ry 4 false) ∧ Below W.heap.size W w') := fun v W h1 h2 h3 => made_any v ry 4 false W h1 h2 h3 (by omega) (by omega)
  obtain ⟨vs0y, rfl, hNy⟩ := hy
  obtain ⟨a0y, c0y, rfl, hNxy⟩ := hNy.get
  clear hNy hNxy hoky hwfy
  have HZv := hidP hzv
  have HWDv : Hid (∀ v W, Nums W v zv → Calls Try.prog 6 #[v, .int .i64 3] W fun e w' => ∃ v', e = .returned v' ∧ (Nums w' v' (wdL zv 3) ∧ ∃ n, w'.ownsRow W.heap.size 3 1 v' n ((wdL zv 3).flatMap encI1)) ∧ Below W.heap.size W w') := fun v W h1 => word_own v zv 3 W h1 hwv (by omega)
  have ewv : wrdE (wdL zv 3) = 0 := wdL_wrd (by omega)
  have lwv := wdL_len zv 3
  clear hzv hwv
  have HZt := hidP hzt
  have HWDt : Hid (∀ v W, Nums W v zt → Calls Try.prog 6 #[v, .int .i64 3] W fun e w' => ∃ v', e = .returned v' ∧ (Nums w' v' (wdL zt 3) ∧ ∃ n, w'.ownsRow W.heap.size 3 1 v' n ((wdL zt 3).flatMap encI1)) ∧ Below W.heap.size W w') := fun v W h1 => word_own v zt 3 W h1 hwt (by omega)
  have ewt : wrdE (wdL zt 3) = 0 := wdL_wrd (by omega)
  have lwt := wdL_len zt 3
  clear hzt hwt
  obtain ⟨u1, u2, u3⟩ := two_cat hfx hfy (by omega) (by omega)
  have hUl := catM_len (madeM rx 4 false) (madeM ry 4 false)
  have HUC : Hid (∀ W v u, Mach W v (madeM rx 4 false) → Mach W u (madeM ry 4 false) → Calls Try.prog 5 #[v, u] W fun e w' => RatRes (catM (madeM rx 4 false) (madeM ry 4 false)) 0 W e w') := fun W v u h1 h2 => by
    have := concatP_any v u _ _ W h1 (right_ok hfx) h2 (right_ok hfy)
    rw [u1, u2] at this
    exact this
  have HSP : Hid (∀ W v u ax cx ay cy, Mach W v (madeM rx 4 false) → Mach W u (madeM ry 4 false) → Nums W (.slice ax (wdL zv 3).length cx) (wdL zv 3) → (wdL zv 3).length ≤ cx → Nums W (.slice ay (wdL zt 3).length cy) (wdL zt 3) → (wdL zt 3).length ≤ cy → Calls Try.prog 7 #[v, u, .slice ax (wdL zv 3).length cx, .slice ay (wdL zt 3).length cy] W fun e w' => ∃ n : Int, e = .returned (.int .i64 n) ∧ (0 ≤ n ∧ ∀ k, CstIs (Costs (catM (madeM rx 4 false) (madeM ry 4 false)) (wdL zv 3) (wdL zt 3)) k → k = n) ∧ Below W.heap.size W w') := fun W v u ax cx ay cy h1 h2 h3 h4 h5 h6 => splits_any v u (madeM rx 4 false) (madeM ry 4 false) ax ay cx cy _ _ W h1 h2 hfx hfy hcx hcy h3 h4 h5 h6 ewv ewt
  have HCu : Hid (∀ W v s t, Mach W v (catM (madeM rx 4 false) (madeM ry 4 false)) → Nums W s (wdL zv 3) → Nums W t (wdL zt 3) → Calls Try.prog 8 #[v, s, t] W fun e w' => ∃ n : Int, e = .returned (.int .i64 n) ∧ CstIs (Costs (catM (madeM rx 4 false) (madeM ry 4 false)) (wdL zv 3) (wdL zt 3)) n ∧ Below W.heap.size W w') := fun W v s t h1 h2 h3 => cost_any v s t _ _ _ W h1 (right_ok u3) u3 (cat_cheap hcx hcy) h2 h3 ewv ewt
  clear hfx hfy hcx hcy u1 u2 u3 ewv ewt lwv lwt hlx hly hax hay
  generalize catM (madeM rx 4 false) (madeM ry 4 false) = U at *
  generalize (madeM rx 4 false) = Mx at *
  generalize (madeM ry 4 false) = My at *
  generalize wdL zv 3 = Xv at *
  generalize wdL zt 3 = Xt at *
  obtain ⟨avz, cvz, rfl, _⟩ := HZv.out.get
  obtain ⟨atz, ctz, rfl, _⟩ := HZt.out.get
  have t4 : (1 : Int) < (U.2.length : Int) := by omega
  have HB0 : Hid (∀ o1 o2, Below w.heap.size w ((w.alloc o1).alloc o2)) := fun o1 o2 => ((Below.refl _ _).alloc (Nat.le_refl _) _).alloc (by simp) _
  clear hUl hpx hpy
  go_enter Try.func3, Try.ntmps3
  go_wp2_with (first
    | (go_at_call 4; (with_reducible refine (HEx.out _ _ (HIx.out.later (HB0.out _ _) (Nat.le_refl _)) HOKx.out HWFx.out).mono ?_); rintro e w1 ⟨v1, rfl, hm, hb⟩; have HMx : Hid (Mach w1 v1 (Mx)) := hm; obtain ⟨vsx, rfl, hSx⟩ := hm; obtain ⟨ax, cx, rfl⟩ := hSx.sl; clear hSx; obtain ⟨s1, bb0, bb1, hb1⟩ := boxedTwo hb (by simp); have KX1 := hidP bb0; have KY1 := hidP bb1; clear bb0 bb1; have HB1 := hidP hb1; have qX0 := (KX1.out.alloc (.cells #[.int .i64 Mx.1, .slice ax Mx.2.length cx] 28)).cell 0 (v := .int .i64 rx.1) rfl; have qX1 := (KX1.out.alloc (.cells #[.int .i64 Mx.1, .slice ax Mx.2.length cx] 28)).cell 1 (v := .slice a0x rx.2.length c0x) rfl; have qY0 := (KY1.out.alloc (.cells #[.int .i64 Mx.1, .slice ax Mx.2.length cx] 28)).cell 0 (v := .int .i64 ry.1) rfl; have qY1 := (KY1.out.alloc (.cells #[.int .i64 Mx.1, .slice ax Mx.2.length cx] 28)).cell 1 (v := .slice a0y ry.2.length c0y) rfl; clear hb hb1)
    | (go_at_call 4; (with_reducible refine (HEy.out _ _ (HIy.out.later (HB1.out.alloc HB1.out.size _) (Nat.le_refl _)) HOKy.out HWFy.out).mono ?_); rintro e w2 ⟨v2, rfl, hm, hb⟩; have HMy : Hid (Mach w2 v2 (My)) := hm; obtain ⟨vsy, rfl, hSy⟩ := hm; obtain ⟨ay, cy, rfl⟩ := hSy.sl; clear hSy; obtain ⟨s2, bb0, hb2⟩ := boxed hb (by simp); have KVx2 := hidP bb0; clear bb0; have HB2 := hidP (HB1.out.trans (hb2.mono HB1.out.size)); have KX2 := hidP (KX1.out.below hb2 KX1.out.lt); have KY2 := hidP (KY1.out.below hb2 KY1.out.lt); have Hx2 := hidP hb2; have qX0 := (KX2.out.alloc (.cells #[.int .i64 My.1, .slice ay My.2.length cy] 28)).cell 0 (v := .int .i64 rx.1) rfl; have qX1 := (KX2.out.alloc (.cells #[.int .i64 My.1, .slice ay My.2.length cy] 28)).cell 1 (v := .slice a0x rx.2.length c0x) rfl; have qY0 := (KY2.out.alloc (.cells #[.int .i64 My.1, .slice ay My.2.length cy] 28)).cell 0 (v := .int .i64 ry.1) rfl; have qY1 := (KY2.out.alloc (.cells #[.int .i64 My.1, .slice ay My.2.length cy] 28)).cell 1 (v := .slice a0y ry.2.length c0y) rfl; have qVx0 := (KVx2.out.alloc (.cells #[.int .i64 My.1, .slice ay My.2.length cy] 28)).cell 0 (v := .int .i64 Mx.1) rfl; have qVx1 := (KVx2.out.alloc (.cells #[.int .i64 My.1, .slice ay My.2.length cy] 28)).cell 1 (v := .slice ax Mx.2.length cx) rfl; clear hb hb2)
    | (go_at_call 5; (with_reducible refine (HUC.out _ _ _ (HMx.out.later (Hx2.out.alloc Hx2.out.size _) (Nat.le_refl _)) (HMy.out.later ((Below.refl _ _).alloc (Nat.le_refl _) _) (Nat.le_refl _))).mono ?_); rintro e w3 ⟨v3, rfl, hm, hb⟩; have HMu : Hid (Mach w3 v3 (U)) := hm; obtain ⟨vsu, rfl, hSu⟩ := hm; obtain ⟨au, cu, rfl⟩ := hSu.sl; clear hSu; obtain ⟨s3, bb0, hb3⟩ := boxed hb (by simp); have KVy3 := hidP bb0; clear bb0; have HB3 := hidP (HB2.out.trans (hb3.mono HB2.out.size)); have KX3 := hidP (KX2.out.below hb3 KX2.out.lt); have KY3 := hidP (KY2.out.below hb3 KY2.out.lt); have KVx3 := hidP (KVx2.out.below hb3 KVx2.out.lt); have Hx3 := hidP (Hx2.out.trans (hb3.mono Hx2.out.size)); have Hy3 := hidP hb3; have qX0 := (KX3.out.alloc (.cells #[.int .i64 U.1, .slice au U.2.length cu] 28)).cell 0 (v := .int .i64 rx.1) rfl; have qX1 := (KX3.out.alloc (.cells #[.int .i64 U.1, .slice au U.2.length cu] 28)).cell 1 (v := .slice a0x rx.2.length c0x) rfl; have qY0 := (KY3.out.alloc (.cells #[.int .i64 U.1, .slice au U.2.length cu] 28)).cell 0 (v := .int .i64 ry.1) rfl; have qY1 := (KY3.out.alloc (.cells #[.int .i64 U.1, .slice au U.2.length cu] 28)).cell 1 (v := .slice a0y ry.2.length c0y) rfl; have qVx0 := (KVx3.out.alloc (.cells #[.int .i64 U.1, .slice au U.2.length cu] 28)).cell 0 (v := .int .i64 Mx.1) rfl; have qVx1 := (KVx3.out.alloc (.cells #[.int .i64 U.1, .slice au U.2.length cu] 28)).cell 1 (v := .slice ax Mx.2.length cx) rfl; have qVy0 := (KVy3.out.alloc (.cells #[.int .i64 U.1, .slice au U.2.length cu] 28)).cell 0 (v := .int .i64 My.1) rfl; have qVy1 := (KVy3.out.alloc (.cells #[.int .i64 U.1, .slice au U.2.length cu] 28)).cell 1 (v := .slice ay My.2.length cy) rfl; clear hb hb3)
    | (go_at_call 6; (with_reducible refine (HWDv.out _ _ (HZv.out.later (HB3.out.alloc HB3.out.size _) (Nat.le_refl _))).mono ?_); rintro e w4 ⟨v4, rfl, hno, hb⟩; obtain ⟨hn, nnv, ho⟩ := hno; have HNv : Hid (Nums w4 v4 (Xv)) := hn; obtain ⟨awv, cwv, rfl, _⟩ := hn.get; have hcapv := own_cap ho; clear ho; obtain ⟨s4, bb0, hb4⟩ := boxed hb (by simp); have KVu4 := hidP bb0; clear bb0; have HB4 := hidP (HB3.out.trans (hb4.mono HB3.out.size)); have KX4 := hidP (KX3.out.below hb4 KX3.out.lt); have KY4 := hidP (KY3.out.below hb4 KY3.out.lt); have KVx4 := hidP (KVx3.out.below hb4 KVx3.out.lt); have KVy4 := hidP (KVy3.out.below hb4 KVy3.out.lt); have Hx4 := hidP (Hx3.out.trans (hb4.mono Hx3.out.size)); have Hy4 := hidP (Hy3.out.trans (hb4.mono Hy3.out.size)); have Hu4 := hidP hb4; have qX0 := KX4.out.cell 0 (v := .int .i64 rx.1) rfl; have qX1 := KX4.out.cell 1 (v := .slice a0x rx.2.length c0x) rfl; have qY0 := KY4.out.cell 0 (v := .int .i64 ry.1) rfl; have qY1 := KY4.out.cell 1 (v := .slice a0y ry.2.length c0y) rfl; have qVx0 := KVx4.out.cell 0 (v := .int .i64 Mx.1) rfl; have qVx1 := KVx4.out.cell 1 (v := .slice ax Mx.2.length cx) rfl; have qVy0 := KVy4.out.cell 0 (v := .int .i64 My.1) rfl; have qVy1 := KVy4.out.cell 1 (v := .slice ay My.2.length cy) rfl; have qVu0 := KVu4.out.cell 0 (v := .int .i64 U.1) rfl; have qVu1 := KVu4.out.cell 1 (v := .slice au U.2.length cu) rfl; clear hb hb4)
    | (go_at_call 6; (with_reducible refine (HWDt.out _ _ (HZt.out.later HB4.out (Nat.le_refl _))).mono ?_); rintro e w5 ⟨v5, rfl, hno, hb⟩; obtain ⟨hn, nnt, ho⟩ := hno; have HNt : Hid (Nums w5 v5 (Xt)) := hn; obtain ⟨awt, cwt, rfl, _⟩ := hn.get; have hcapt := own_cap ho; clear ho; have hb5 := hb; have HB5 := hidP (HB4.out.trans (hb5.mono HB4.out.size)); have KX5 := hidP (KX4.out.below hb5 KX4.out.lt); have KY5 := hidP (KY4.out.below hb5 KY4.out.lt); have KVx5 := hidP (KVx4.out.below hb5 KVx4.out.lt); have KVy5 := hidP (KVy4.out.below hb5 KVy4.out.lt); have KVu5 := hidP (KVu4.out.below hb5 KVu4.out.lt); have Hx5 := hidP (Hx4.out.trans (hb5.mono Hx4.out.size)); have Hy5 := hidP (Hy4.out.trans (hb5.mono Hy4.out.size)); have Hu5 := hidP (Hu4.out.trans (hb5.mono Hu4.out.size)); have Hv5 := hidP hb5; have qX0 := KX5.out.cell 0 (v := .int .i64 rx.1) rfl; have qX1 := KX5.out.cell 1 (v := .slice a0x rx.2.length c0x) rfl; have qY0 := KY5.out.cell 0 (v := .int .i64 ry.1) rfl; have qY1 := KY5.out.cell 1 (v := .slice a0y ry.2.length c0y) rfl; have qVx0 := KVx5.out.cell 0 (v := .int .i64 Mx.1) rfl; have qVx1 := KVx5.out.cell 1 (v := .slice ax Mx.2.length cx) rfl; have qVy0 := KVy5.out.cell 0 (v := .int .i64 My.1) rfl; have qVy1 := KVy5.out.cell 1 (v := .slice ay My.2.length cy) rfl; have qVu0 := KVu5.out.cell 0 (v := .int .i64 U.1) rfl; have qVu1 := KVu5.out.cell 1 (v := .slice au U.2.length cu) rfl; clear hb hb5)
    | (go_at_call 7; (with_reducible refine (HSP.out _ _ _ _ _ _ _ (HMx.out.later Hx5.out (Nat.le_refl _)) (HMy.out.later Hy5.out (Nat.le_refl _)) (HNv.out.later Hv5.out (Nat.le_refl _)) hcapv (HNt.out.later (Below.refl _ _) (Nat.le_refl _)) hcapt).mono ?_); rintro e w6 ⟨nx, rfl, hq, hb⟩; have hb6 := hb; have HB6 := hidP (HB5.out.trans (hb6.mono HB5.out.size)); have KX6 := hidP (KX5.out.below hb6 KX5.out.lt); have KY6 := hidP (KY5.out.below hb6 KY5.out.lt); have KVx6 := hidP (KVx5.out.below hb6 KVx5.out.lt); have KVy6 := hidP (KVy5.out.below hb6 KVy5.out.lt); have KVu6 := hidP (KVu5.out.below hb6 KVu5.out.lt); have Hx6 := hidP (Hx5.out.trans (hb6.mono Hx5.out.size)); have Hy6 := hidP (Hy5.out.trans (hb6.mono Hy5.out.size)); have Hu6 := hidP (Hu5.out.trans (hb6.mono Hu5.out.size)); have Hv6 := hidP (Hv5.out.trans (hb6.mono Hv5.out.size)); have Ht6 := hidP hb6; have qX0 := KX6.out.cell 0 (v := .int .i64 rx.1) rfl; have qX1 := KX6.out.cell 1 (v := .slice a0x rx.2.length c0x) rfl; have qY0 := KY6.out.cell 0 (v := .int .i64 ry.1) rfl; have qY1 := KY6.out.cell 1 (v := .slice a0y ry.2.length c0y) rfl; have qVx0 := KVx6.out.cell 0 (v := .int .i64 Mx.1) rfl; have qVx1 := KVx6.out.cell 1 (v := .slice ax Mx.2.length cx) rfl; have qVy0 := KVy6.out.cell 0 (v := .int .i64 My.1) rfl; have qVy1 := KVy6.out.cell 1 (v := .slice ay My.2.length cy) rfl; have qVu0 := KVu6.out.cell 0 (v := .int .i64 U.1) rfl; have qVu1 := KVu6.out.cell 1 (v := .slice au U.2.length cu) rfl; have HQx := hidP hq.2; have nnx := hq.1; clear hq; clear hb hb6)
    | (go_at_call 8; (with_reducible refine (HCu.out _ _ _ _ (HMu.out.later Hu6.out (Nat.le_refl _)) (HNv.out.later Hv6.out (Nat.le_refl _)) (HNt.out.later Ht6.out (Nat.le_refl _))).mono ?_); rintro e w7 ⟨nu, rfl, hq, hb⟩; have hb7 := hb; have HB7 := hidP (HB6.out.trans (hb7.mono HB6.out.size)); have KX7 := hidP (KX6.out.below hb7 KX6.out.lt); have KY7 := hidP (KY6.out.below hb7 KY6.out.lt); have KVx7 := hidP (KVx6.out.below hb7 KVx6.out.lt); have KVy7 := hidP (KVy6.out.below hb7 KVy6.out.lt); have KVu7 := hidP (KVu6.out.below hb7 KVu6.out.lt); have Hx7 := hidP (Hx6.out.trans (hb7.mono Hx6.out.size)); have Hy7 := hidP (Hy6.out.trans (hb7.mono Hy6.out.size)); have Hu7 := hidP (Hu6.out.trans (hb7.mono Hu6.out.size)); have Hv7 := hidP (Hv6.out.trans (hb7.mono Hv6.out.size)); have Ht7 := hidP (Ht6.out.trans (hb7.mono Ht6.out.size)); have qX0 := KX7.out.cell 0 (v := .int .i64 rx.1) rfl; have qX1 := KX7.out.cell 1 (v := .slice a0x rx.2.length c0x) rfl; have qY0 := KY7.out.cell 0 (v := .int .i64 ry.1) rfl; have qY1 := KY7.out.cell 1 (v := .slice a0y ry.2.length c0y) rfl; have qVx0 := KVx7.out.cell 0 (v := .int .i64 Mx.1) rfl; have qVx1 := KVx7.out.cell 1 (v := .slice ax Mx.2.length cx) rfl; have qVy0 := KVy7.out.cell 0 (v := .int .i64 My.1) rfl; have qVy1 := KVy7.out.cell 1 (v := .slice ay My.2.length cy) rfl; have qVu0 := KVu7.out.cell 0 (v := .int .i64 U.1) rfl; have qVu1 := KVu7.out.cell 1 (v := .slice au U.2.length cu) rfl; have HQu := hidP hq; have nnu := hq.nonneg; clear hq; have t3 : (nu == nx) = true := (by simpa using HQx.out _ HQu.out); clear hb hb7))
  go_ret
  exact ⟨rfl, HB7.out⟩
theorem walk (vx : Value) (rx : Rw) (vy : Value) (ry : Rw) (a2 : Option Addr) (len2 cap2 : Nat) (z2 : List Int) (a3 : Option Addr) (len3 cap3 : Nat) (z3 : List Int) (w : World) (hx : RawV w vx rx ∧ okR rx ∧ wfR rx) (hy : RawV w vy ry ∧ okR ry ∧ wfR ry) (w2 : IsRow .i64 w a2 len2 cap2 z2 ∧ cap2 * 8 ≤ 140737488351232) (w3 : IsRow .i64 w a3 len3 cap3 z3 ∧ cap3 * 8 ≤ 140737488351232) :
    Calls Try.prog 3 #[vx, vy, .slice a2 len2 cap2, .slice a3 len3 cap3] w fun e w' => e = .returned (.bool true) ∧ Below w.heap.size w w' := by
  obtain ⟨p1, _, _⟩ := row_nums w2.1
  obtain ⟨p2, _, _⟩ := row_nums w3.1
  exact core vx rx vy ry _ _ _ _ w hx hy p1 (row_wf w2.1) p2 (row_wf w3.1)

set_option maxRecDepth 100000 in
theorem lifted (os : Os) (started : os.Started) (H : Type) (enc : TypeId × Value → H) :
    ReturnsInHanded {} Try.checked os 3 .any (Rows.weighConcatSpec.pre6 enc Try.prog Try.f3 Rows.weighConcatRow.domain false) (Rows.weighConcatSpec.post enc Try.prog Try.f3 false true false false) := by
  refine returnsInHanded_of_change_sized (C := Try.checked) own started (by kernel_rfl) Try.func3
    (ChangeSpec.witness6 (enc := enc) (C := Try.checked) false ⟨#[], #[.agg #[.int .i64 0, .slice none 0 0], .agg #[.int .i64 0, .slice none 0 0], .slice none 0 0, .slice none 0 0], []⟩ 8 (by kernel_rfl) (by kernel_rfl) (by kernel_rfl) (by kernel_rfl)) ?_
  intro W base args ds gs before hval0 hW hcnd hsz0 _
  have hsz : (DataW.weightsEach Try.prog (Try.f3.params.toList ++ Rows.weighConcatSpec.plain.varTypes Try.prog) (ds ++ gs)).all (· ≤ reachBytes) = true := hsz0
  have hval : ∀ (j : Nat) t v, Try.f3.params[j]? = some t → args[j]? = some v → Value.okWide Try.prog W .any base t v := hval0
  clear hval0 hsz0
  have hW' := hW
  obtain ⟨p, q, hA0, hV, rfl, hfz, hnd⟩ := hW
  have hA : DataW.TrodAll enc Try.prog W 0 (fun _ => true) true Try.f3.params.toList args.toList ds p := hA0
  rw [Try.params3] at hA hval hsz
  obtain ⟨v0, vs0, d0, ds0, p0, q0, hargs, rfl, rfl, h0, r0⟩ := trodAll_cons hA
  obtain ⟨v1, vs1, d1, ds1, p1, q1, rfl, rfl, rfl, h1, r1⟩ := trodAll_cons r0
  obtain ⟨v2, vs2, d2, ds2, p2, q2, rfl, rfl, rfl, h2, r2⟩ := trodAll_cons r1
  obtain ⟨v3, vs3, d3, ds3, p3, q3, rfl, rfl, rfl, h3, r3⟩ := trodAll_cons r2
  obtain ⟨rfl, rfl, rfl⟩ := trodAll_nil r3
  obtain rfl : args = #[v0, v1, v2, v3] := by cases args; simp_all
  obtain ⟨rfl, rfl⟩ := trodVars_none hV
  have k0 := h0
  have lt0 : ∀ x ∈ p0, x.block < W.heap.size := by obtain ⟨m, hm⟩ := k0; exact DataW.trod_lt m _ _ _ hm
  obtain ⟨z0, w0⟩ : ∃ m : Rw, RawV W v0 m ∧ okR m ∧ wfR m := by
    obtain ⟨c0, c1, y0, y1, n, rfl, hd, hp, t0, t1⟩ := Go.Joins.open_agg2 Try.underlying24 (by kernel_rfl) (by kernel_rfl) (hval 0 24 v0 rfl rfl) h0
    subst hd
    exact open_raw t0 t1 ((Fits.arg hsz (j := 0) rfl rfl).field Try.underlying24 (f := 1) rfl rfl)
  have k1 := h1
  have lt1 : ∀ x ∈ p1, x.block < W.heap.size := by obtain ⟨m, hm⟩ := k1; exact DataW.trod_lt m _ _ _ hm
  obtain ⟨z1, w1⟩ : ∃ m : Rw, RawV W v1 m ∧ okR m ∧ wfR m := by
    obtain ⟨c0, c1, y0, y1, n, rfl, hd, hp, t0, t1⟩ := Go.Joins.open_agg2 Try.underlying24 (by kernel_rfl) (by kernel_rfl) (hval 1 24 v1 rfl rfl) h1
    subst hd
    exact open_raw t0 t1 ((Fits.arg hsz (j := 1) rfl rfl).field Try.underlying24 (f := 1) rfl rfl)
  obtain ⟨a2, len2, cap2, rfl⟩ := okWide_slice Try.underlying25 (hval 2 25 v2 rfl rfl)
  have k2 := h2
  have lt2 : ∀ x ∈ p2, x.block < W.heap.size := by obtain ⟨m, hm⟩ := k2; exact DataW.trod_lt m _ _ _ hm
  obtain ⟨z2, w2⟩ : ∃ zs, IsRow .i64 W a2 len2 cap2 zs ∧ cap2 * 8 ≤ 140737488351232 := by
    obtain ⟨fuel, hf⟩ := h2
    rcases open_ints Try.underlying25 Try.underlying3 (by kernel_rfl) hf with ⟨hcs, _⟩ | ⟨x, l, c, zs, hcs, _, hl, hm, hz, hx, hcell, hwz⟩
    · simp [Value.cells] at hcs
      obtain ⟨rfl, rfl, rfl⟩ := hcs
      exact ⟨[], .inl ⟨rfl, rfl, rfl, rfl⟩, by omega⟩
    · have hd := congrArg Prod.fst hx
      have hsw := sized_slice hsz (j := 2) (t := 25) (e := 3) rfl (congrArg some hd) Try.underlying25
      have hby : Try.prog.bytesOf 3 = 8 := by kernel_rfl
      rw [hby] at hsw
      simp [Value.cells] at hcs
      obtain ⟨rfl, rfl, rfl⟩ := hcs
      have hz' : zs.length = cap2 := by simpa using hz
      simp only [lits, List.length_map, List.length_take, List.length_drop, reachBytes] at hsw
      exact ⟨zs, .inr ⟨_, rfl, hl, hm, hz', hcell, hwz⟩, by omega⟩
  obtain ⟨a3, len3, cap3, rfl⟩ := okWide_slice Try.underlying25 (hval 3 25 v3 rfl rfl)
  have k3 := h3
  have lt3 : ∀ x ∈ p3, x.block < W.heap.size := by obtain ⟨m, hm⟩ := k3; exact DataW.trod_lt m _ _ _ hm
  obtain ⟨z3, w3⟩ : ∃ zs, IsRow .i64 W a3 len3 cap3 zs ∧ cap3 * 8 ≤ 140737488351232 := by
    obtain ⟨fuel, hf⟩ := h3
    rcases open_ints Try.underlying25 Try.underlying3 (by kernel_rfl) hf with ⟨hcs, _⟩ | ⟨x, l, c, zs, hcs, _, hl, hm, hz, hx, hcell, hwz⟩
    · simp [Value.cells] at hcs
      obtain ⟨rfl, rfl, rfl⟩ := hcs
      exact ⟨[], .inl ⟨rfl, rfl, rfl, rfl⟩, by omega⟩
    · have hd := congrArg Prod.fst hx
      have hsw := sized_slice hsz (j := 3) (t := 25) (e := 3) rfl (congrArg some hd) Try.underlying25
      have hby : Try.prog.bytesOf 3 = 8 := by kernel_rfl
      rw [hby] at hsw
      simp [Value.cells] at hcs
      obtain ⟨rfl, rfl, rfl⟩ := hcs
      have hz' : zs.length = cap3 := by simpa using hz
      simp only [lits, List.length_map, List.length_take, List.length_drop, reachBytes] at hsw
      exact ⟨zs, .inr ⟨_, rfl, hl, hm, hz', hcell, hwz⟩, by omega⟩
  refine (walk v0 z0 v1 z1 a2 len2 cap2 z2 a3 len3 cap3 z3 W w0 w1 w2 w3).mono fun e W' ⟨he, bel⟩ => ?_
  subst he
  exact ⟨_, rfl, _, _, _, [], _, [], hW', trodAll_mk1 (shut_bool Try.underlying4 _), (trodAll_cons_mk (Below.trod laidOut (by kernel_rfl) (of_decide_eq_true (by kernel_rfl)) k0 bel lt0) (trodAll_cons_mk (Below.trod laidOut (by kernel_rfl) (of_decide_eq_true (by kernel_rfl)) k1 bel lt1) (trodAll_cons_mk (Below.trod laidOut (by kernel_rfl) (of_decide_eq_true (by kernel_rfl)) k2 bel lt2) (trodAll_cons_mk (Below.trod laidOut (by kernel_rfl) (of_decide_eq_true (by kernel_rfl)) k3 bel lt3) trodAll_mk0)))), rfl, bel.frame _, fun h => by cases h⟩
end Go.Proofs.Ytnbiojjcebdljaa.weighConcat
namespace Go.Proofs.Ytnbiojjcebdljaa
theorem weighConcat_holds : Rows.WeighConcatSaid :=
  OpenClaim.holds_of_wide 3 Try.f3 rfl rfl rfl rfl rfl rfl rfl ⟨rfl, rfl, rfl, rfl, rfl⟩ rfl rfl rfl rfl rfl (by kernel_rfl) Try.func3 (by kernel_rfl)
    (of_decide_eq_true (by kernel_rfl)) (by unfold Func.isWrapper; first | (rw [if_pos (by decide +kernel)]; kernel_rfl) | (rw [if_neg (by decide +kernel)]; exact ⟨rfl, rfl⟩))
    (fun os started H enc _ => weighConcat.lifted os started H enc)
#print axioms weighConcat_holds
end Go.Proofs.Ytnbiojjcebdljaa
