/- The statement ComposeBetween: whatever numbers two machines and three words are made of, no word between them costs less than composed, or composed they are too large, for every input and without any condition. -/
import Derived.Test.YthcfkiinjcbajaaMd
import Derived.Test.YthcfkiinjcbajaaJ16p
import Derived.Test.YthcfkiinjcbajaaKj
import Derived.Test.YthcfkiinjcbajaaJ16q
import Derived.Test.YthcfkiinjcbajaaCx
import Derived.Test.YthcfkiinjcbajaaJ16n
import Derived.Test.YthcfkiinjcbajaaJ16e
import Derived.Test.YthcfkiinjcbajaaLo
import Derived.Lib.SmallJoins
import Derived.ChangeOld
import Derived.Below
namespace Go.Proofs.Ythcfkiinjcbajaa.composeBetween
open Go.ChangeShapes Go.WideShapes Go.ChangeAt Go.RowKit
open Go.Proofs.Ythcfkiinjcbajaa.Pl Go.Proofs.Ythcfkiinjcbajaa.Wt
set_option linter.unusedVariables false
set_option linter.unusedSimpArgs false

theorem own : ownKnob Try.prog.godebug = none := by kernel_rfl
theorem laidOut : laidOutB Try.prog = true := by kernel_rfl
theorem cst_most {P : Nat → Prop} {n : Int} (h : CstIs P n) : n ≤ 1000000001 := by
  rcases h with ⟨rfl, _⟩ | ⟨c, _, hc, rfl⟩
  · simp
  · omega
set_option maxRecDepth 100000 in
set_option maxHeartbeats 3200000 in
theorem core (vx : Value) (rx : Rw) (vy : Value) (ry : Rw) (vv : Value) (zv : List Int) (vt : Value) (zt : List Int) (vb : Value) (zb : List Int) (w : World) (hx : RawV w vx rx ∧ okR rx ∧ wfR rx) (hy : RawV w vy ry ∧ okR ry ∧ wfR ry) (hzv : Nums w vv zv) (hwv : ∀ n ∈ zv, (Lit.int .i64 n).wf = true) (hzt : Nums w vt zt) (hwt : ∀ n ∈ zt, (Lit.int .i64 n).wf = true) (hzb : Nums w vb zb) (hwb : ∀ n ∈ zb, (Lit.int .i64 n).wf = true) :
    Calls Try.prog 6 #[vx, vy, vv, vt, vb] w fun e w' => e = .returned (.bool true) ∧ Below w.heap.size w w' := by
  obtain ⟨hx, hokx, hwfx⟩ := hx
  have HIx : Hid (RawV w vx rx) := hx
  have HOKx : Hid (okR rx) := hokx
  have HWFx : Hid (wfR rx) := hwfx
  obtain ⟨hfx, hcx, hlx, hax, hpx⟩ := made_facts rx 4 (by omega) (by omega)
  have HEx : Hid (∀ v W, RawV W v rx → okR rx → wfR rx → Calls Try.prog 16 #[v, .int .i64 4, .bool false] W fun e w' => ∃ v', e = .returned v' ∧ Mach w' v' (madeM rx 4 false) ∧ Below W.heap.size W w') := fun v W h1 h2 h3 => made_any v rx 4 false W h1 h2 h3 (by omega) (by omega)
  obtain ⟨vs0x, rfl, hNx⟩ := hx
  obtain ⟨a0x, c0x, rfl, hNxx⟩ := hNx.get
  clear hNx hNxx hokx hwfx
  obtain ⟨hy, hoky, hwfy⟩ := hy
  have HIy : Hid (RawV w vy ry) := hy
  have HOKy : Hid (okR ry) := hoky
  have HWFy : Hid (wfR ry) := hwfy
  obtain ⟨hfy, hcy, hly, hay, hpy⟩ := made_facts ry 4 (by omega) (by omega)
  have HEy : Hid (∀ v W, RawV W v ry → okR ry → wfR ry → Calls Try.prog 16 #[v, .int .i64 4, .bool false] W fun e w' => ∃ v', e = .returned v' ∧ Mach w' v' (madeM ry 4 false) ∧ Below W.heap.size W w') := fun v W h1 h2 h3 => made_any v ry 4 false W h1 h2 h3 (by omega) (by omega)
  obtain ⟨vs0y, rfl, hNy⟩ := hy
  obtain ⟨a0y, c0y, rfl, hNxy⟩ := hNy.get
  clear hNy hNxy hoky hwfy
  have HZv := hidP hzv
  have HWDv : Hid (∀ v W, Nums W v zv → Calls Try.prog 17 #[v, .int .i64 3] W fun e w' => ∃ v', e = .returned v' ∧ Nums w' v' (wdL zv 3) ∧ Below W.heap.size W w') := fun v W h1 => word_any v zv 3 W h1 hwv (by omega)
  have ewv : wrdE (wdL zv 3) = 0 := wdL_wrd (by omega)
  have lwv := wdL_len zv 3
  clear hzv hwv
  have HZt := hidP hzt
  have HWDt : Hid (∀ v W, Nums W v zt → Calls Try.prog 17 #[v, .int .i64 3] W fun e w' => ∃ v', e = .returned v' ∧ Nums w' v' (wdL zt 3) ∧ Below W.heap.size W w') := fun v W h1 => word_any v zt 3 W h1 hwt (by omega)
  have ewt : wrdE (wdL zt 3) = 0 := wdL_wrd (by omega)
  have lwt := wdL_len zt 3
  clear hzt hwt
  have HZb := hidP hzb
  have HWDb : Hid (∀ v W, Nums W v zb → Calls Try.prog 17 #[v, .int .i64 4] W fun e w' => ∃ v', e = .returned v' ∧ Nums w' v' (wdL zb 4) ∧ Below W.heap.size W w') := fun v W h1 => word_any v zb 4 W h1 hwb (by omega)
  have ewb : wrdE (wdL zb 4) = 0 := wdL_wrd (by omega)
  have lwb := wdL_len zb 4
  clear hzb hwb
  have zx := made_ge rx 4 false (by omega)
  have zy := made_ge ry 4 false (by omega)
  rcases cmp_two (by omega) (by omega) (by omega) (made_low rx 4) (made_low ry 4) hfx hfy zx zy with ec | ⟨C, ec, fc, pc, z9C, l9C, cc⟩
  · obtain ⟨Z, hZ, t9c, kZ⟩ : ∃ Z : Mc, (0, []) = Z ∧ ((Z.2.length : Int) == 0) = true ∧ okM Z := ⟨_, rfl, rfl, by simp, fun j hj => absurd hj (by simp)⟩
    rw [hZ] at ec
    clear hZ
    have HUc : Hid (∀ W v u, Mach W v (madeM rx 4 false) → Mach W u (madeM ry 4 false) → Calls Try.prog 14 #[v, u] W fun e w' => RatRes Z 5 W e w') := fun W v u h1 h2 => by
      have := composeP_any v u _ _ W h1 (right_ok hfx) h2 (right_ok hfy)
      rw [ec] at this
      exact this
    clear hfx hfy hcx hcy ec zx zy ewv ewt ewb lwv lwt lwb hlx hly hax hay hpx hpy
    generalize madeM rx 4 false = Mx at *
    generalize madeM ry 4 false = My at *
    obtain ⟨avz, cvz, rfl, _⟩ := HZv.out.get
    obtain ⟨atz, ctz, rfl, _⟩ := HZt.out.get
    obtain ⟨abz, cbz, rfl, _⟩ := HZb.out.get
    have HB0 : Hid (∀ o1 o2, Below w.heap.size w ((w.alloc o1).alloc o2)) := fun o1 o2 => ((Below.refl _ _).alloc (Nat.le_refl _) _).alloc (by simp) _
    try clear kZ
    try clear z9C l9C
    try clear z9K l9K
    try clear z9P l9P
    try clear z9R l9R
    try clear z9D l9D
    go_enter Try.func6, Try.ntmps6
    go_wp2_with (first
      | (go_at_call 16; (with_reducible refine (HEx.out _ _ (HIx.out.later (HB0.out _ _) (Nat.le_refl _)) HOKx.out HWFx.out).mono ?_); rintro e w1 ⟨v1, rfl, hm, hb⟩; have HMx : Hid (Mach w1 v1 (Mx)) := hm; obtain ⟨vsx, rfl, hSx⟩ := hm; obtain ⟨ax, cx, rfl⟩ := hSx.sl; clear hSx; obtain ⟨s1, bb0, bb1, hb1⟩ := boxedTwo hb (by simp); have KX1 := hidP bb0; have KY1 := hidP bb1; clear bb0 bb1; have HB1 := hidP hb1; have qX0 := (KX1.out.alloc (.cells #[.int .i64 Mx.1, .slice ax Mx.2.length cx] 24)).cell 0 (v := .int .i64 rx.1) rfl; have qX1 := (KX1.out.alloc (.cells #[.int .i64 Mx.1, .slice ax Mx.2.length cx] 24)).cell 1 (v := .slice a0x rx.2.length c0x) rfl; have qY0 := (KY1.out.alloc (.cells #[.int .i64 Mx.1, .slice ax Mx.2.length cx] 24)).cell 0 (v := .int .i64 ry.1) rfl; have qY1 := (KY1.out.alloc (.cells #[.int .i64 Mx.1, .slice ax Mx.2.length cx] 24)).cell 1 (v := .slice a0y ry.2.length c0y) rfl; clear hb hb1)
      | (go_at_call 16; (with_reducible refine (HEy.out _ _ (HIy.out.later (HB1.out.alloc HB1.out.size _) (Nat.le_refl _)) HOKy.out HWFy.out).mono ?_); rintro e w2 ⟨v2, rfl, hm, hb⟩; have HMy : Hid (Mach w2 v2 (My)) := hm; obtain ⟨vsy, rfl, hSy⟩ := hm; obtain ⟨ay, cy, rfl⟩ := hSy.sl; clear hSy; obtain ⟨s2, bb0, hb2⟩ := boxed hb (by simp); have KVx2 := hidP bb0; clear bb0; have HB2 := hidP (HB1.out.trans (hb2.mono HB1.out.size)); have KX2 := hidP (KX1.out.below hb2 KX1.out.lt); have KY2 := hidP (KY1.out.below hb2 KY1.out.lt); have Hx2 := hidP hb2; have qX0 := (KX2.out.alloc (.cells #[.int .i64 My.1, .slice ay My.2.length cy] 24)).cell 0 (v := .int .i64 rx.1) rfl; have qX1 := (KX2.out.alloc (.cells #[.int .i64 My.1, .slice ay My.2.length cy] 24)).cell 1 (v := .slice a0x rx.2.length c0x) rfl; have qY0 := (KY2.out.alloc (.cells #[.int .i64 My.1, .slice ay My.2.length cy] 24)).cell 0 (v := .int .i64 ry.1) rfl; have qY1 := (KY2.out.alloc (.cells #[.int .i64 My.1, .slice ay My.2.length cy] 24)).cell 1 (v := .slice a0y ry.2.length c0y) rfl; have qVx0 := (KVx2.out.alloc (.cells #[.int .i64 My.1, .slice ay My.2.length cy] 24)).cell 0 (v := .int .i64 Mx.1) rfl; have qVx1 := (KVx2.out.alloc (.cells #[.int .i64 My.1, .slice ay My.2.length cy] 24)).cell 1 (v := .slice ax Mx.2.length cx) rfl; clear hb hb2)
      | (go_at_call 14; (with_reducible refine (HUc.out _ _ _ (HMx.out.later (Hx2.out.alloc Hx2.out.size _) (Nat.le_refl _)) (HMy.out.later ((Below.refl _ _).alloc (Nat.le_refl _) _) (Nat.le_refl _))).mono ?_); rintro e w3 ⟨v3, rfl, hm, hb⟩; have HMc : Hid (Mach w3 v3 (Z)) := hm; obtain ⟨vsc, rfl, hSc⟩ := hm; obtain ⟨ac, cc, rfl⟩ := hSc.sl; clear hSc; obtain ⟨s3, bb0, hb3⟩ := boxed hb (by simp); have KVy3 := hidP bb0; clear bb0; have HB3 := hidP (HB2.out.trans (hb3.mono HB2.out.size)); have KX3 := hidP (KX2.out.below hb3 KX2.out.lt); have KY3 := hidP (KY2.out.below hb3 KY2.out.lt); have KVx3 := hidP (KVx2.out.below hb3 KVx2.out.lt); have Hx3 := hidP (Hx2.out.trans (hb3.mono Hx2.out.size)); have Hy3 := hidP hb3; have qX0 := (KX3.out.alloc (.cells #[.int .i64 Z.1, .slice ac Z.2.length cc] 24)).cell 0 (v := .int .i64 rx.1) rfl; have qX1 := (KX3.out.alloc (.cells #[.int .i64 Z.1, .slice ac Z.2.length cc] 24)).cell 1 (v := .slice a0x rx.2.length c0x) rfl; have qY0 := (KY3.out.alloc (.cells #[.int .i64 Z.1, .slice ac Z.2.length cc] 24)).cell 0 (v := .int .i64 ry.1) rfl; have qY1 := (KY3.out.alloc (.cells #[.int .i64 Z.1, .slice ac Z.2.length cc] 24)).cell 1 (v := .slice a0y ry.2.length c0y) rfl; have qVx0 := (KVx3.out.alloc (.cells #[.int .i64 Z.1, .slice ac Z.2.length cc] 24)).cell 0 (v := .int .i64 Mx.1) rfl; have qVx1 := (KVx3.out.alloc (.cells #[.int .i64 Z.1, .slice ac Z.2.length cc] 24)).cell 1 (v := .slice ax Mx.2.length cx) rfl; have qVy0 := (KVy3.out.alloc (.cells #[.int .i64 Z.1, .slice ac Z.2.length cc] 24)).cell 0 (v := .int .i64 My.1) rfl; have qVy1 := (KVy3.out.alloc (.cells #[.int .i64 Z.1, .slice ac Z.2.length cc] 24)).cell 1 (v := .slice ay My.2.length cy) rfl; clear hb hb3))
    go_ret
    exact ⟨rfl, (HB3.out.alloc HB3.out.size _)⟩
  · have HUc : Hid (∀ W v u, Mach W v (madeM rx 4 false) → Mach W u (madeM ry 4 false) → Calls Try.prog 14 #[v, u] W fun e w' => RatRes C 0 W e w') := fun W v u h1 h2 => by
      have := composeP_any v u _ _ W h1 (right_ok hfx) h2 (right_ok hfy)
      rw [ec] at this
      exact this
    have HCx : Hid (∀ W v s t, Mach W v (madeM rx 4 false) → Nums W s (wdL zv 3) → Nums W t (wdL zb 4) → Calls Try.prog 18 #[v, s, t] W fun e w' => ∃ n : Int, e = .returned (.int .i64 n) ∧ CstIs (Costs (madeM rx 4 false) (wdL zv 3) (wdL zb 4)) n ∧ Below W.heap.size W w') := fun W v s t h1 h2 h3 => cost_any v s t _ _ _ W h1 (right_ok hfx) hfx hcx h2 h3 ewv ewb
    have HCy : Hid (∀ W v s t, Mach W v (madeM ry 4 false) → Nums W s (wdL zb 4) → Nums W t (wdL zt 3) → Calls Try.prog 18 #[v, s, t] W fun e w' => ∃ n : Int, e = .returned (.int .i64 n) ∧ CstIs (Costs (madeM ry 4 false) (wdL zb 4) (wdL zt 3)) n ∧ Below W.heap.size W w') := fun W v s t h1 h2 h3 => cost_any v s t _ _ _ W h1 (right_ok hfy) hfy hcy h2 h3 ewb ewt
    have HCc : Hid (∀ W v s t, Mach W v C → Nums W s (wdL zv 3) → Nums W t (wdL zt 3) → Calls Try.prog 18 #[v, s, t] W fun e w' => ∃ n : Int, e = .returned (.int .i64 n) ∧ CstIs (Costs C (wdL zv 3) (wdL zt 3)) n ∧ Below W.heap.size W w') := fun W v s t h1 h2 h3 => cost_any v s t _ _ _ W h1 (right_ok fc) fc cc h2 h3 ewv ewt
    have HFC : Hid (∀ a b u, CstIs (Costs (madeM rx 4 false) (wdL zv 3) (wdL zb 4)) a → CstIs (Costs (madeM ry 4 false) (wdL zb 4) (wdL zt 3)) b → CstIs (Costs C (wdL zv 3) (wdL zt 3)) u → u ≤ if a = 1000000001 ∨ b = 1000000001 then 1000000001 else a + b) := fun a b u h1 h2 h3 => cmp_between hfx hfy zx zy ec h3 h1 h2
    clear hfx hfy hcx hcy ec fc cc zx zy ewv ewt ewb lwv lwt lwb hlx hly hax hay hpx hpy
    generalize madeM rx 4 false = Mx at *
    generalize madeM ry 4 false = My at *
    generalize wdL zv 3 = Xv at *
    generalize wdL zt 3 = Xt at *
    generalize wdL zb 4 = Xb at *
    have HTP : Hid (∀ (P : Nat → Prop) n, CstIs P n → n ≤ 1000000001) := fun P n h => cst_most h
    generalize (fun n => CstIs (Costs Mx Xv Xb) n) = Qx at *
    obtain ⟨avz, cvz, rfl, _⟩ := HZv.out.get
    obtain ⟨atz, ctz, rfl, _⟩ := HZt.out.get
    obtain ⟨abz, cbz, rfl, _⟩ := HZb.out.get
    have HB0 : Hid (∀ o1 o2, Below w.heap.size w ((w.alloc o1).alloc o2)) := fun o1 o2 => ((Below.refl _ _).alloc (Nat.le_refl _) _).alloc (by simp) _
    have t4 : (0 : Int) < (C.2.length : Int) := by omega
    try clear kZ
    try clear z9C l9C
    try clear z9K l9K
    try clear z9P l9P
    try clear z9R l9R
    try clear z9D l9D
    go_enter Try.func6, Try.ntmps6
    go_wp2_with (first
      | (go_at_call 16; (with_reducible refine (HEx.out _ _ (HIx.out.later (HB0.out _ _) (Nat.le_refl _)) HOKx.out HWFx.out).mono ?_); rintro e w1 ⟨v1, rfl, hm, hb⟩; have HMx : Hid (Mach w1 v1 (Mx)) := hm; obtain ⟨vsx, rfl, hSx⟩ := hm; obtain ⟨ax, cx, rfl⟩ := hSx.sl; clear hSx; obtain ⟨s1, bb0, bb1, hb1⟩ := boxedTwo hb (by simp); have KX1 := hidP bb0; have KY1 := hidP bb1; clear bb0 bb1; have HB1 := hidP hb1; have qX0 := (KX1.out.alloc (.cells #[.int .i64 Mx.1, .slice ax Mx.2.length cx] 24)).cell 0 (v := .int .i64 rx.1) rfl; have qX1 := (KX1.out.alloc (.cells #[.int .i64 Mx.1, .slice ax Mx.2.length cx] 24)).cell 1 (v := .slice a0x rx.2.length c0x) rfl; have qY0 := (KY1.out.alloc (.cells #[.int .i64 Mx.1, .slice ax Mx.2.length cx] 24)).cell 0 (v := .int .i64 ry.1) rfl; have qY1 := (KY1.out.alloc (.cells #[.int .i64 Mx.1, .slice ax Mx.2.length cx] 24)).cell 1 (v := .slice a0y ry.2.length c0y) rfl; clear hb hb1)
      | (go_at_call 16; (with_reducible refine (HEy.out _ _ (HIy.out.later (HB1.out.alloc HB1.out.size _) (Nat.le_refl _)) HOKy.out HWFy.out).mono ?_); rintro e w2 ⟨v2, rfl, hm, hb⟩; have HMy : Hid (Mach w2 v2 (My)) := hm; obtain ⟨vsy, rfl, hSy⟩ := hm; obtain ⟨ay, cy, rfl⟩ := hSy.sl; clear hSy; obtain ⟨s2, bb0, hb2⟩ := boxed hb (by simp); have KVx2 := hidP bb0; clear bb0; have HB2 := hidP (HB1.out.trans (hb2.mono HB1.out.size)); have KX2 := hidP (KX1.out.below hb2 KX1.out.lt); have KY2 := hidP (KY1.out.below hb2 KY1.out.lt); have Hx2 := hidP hb2; have qX0 := (KX2.out.alloc (.cells #[.int .i64 My.1, .slice ay My.2.length cy] 24)).cell 0 (v := .int .i64 rx.1) rfl; have qX1 := (KX2.out.alloc (.cells #[.int .i64 My.1, .slice ay My.2.length cy] 24)).cell 1 (v := .slice a0x rx.2.length c0x) rfl; have qY0 := (KY2.out.alloc (.cells #[.int .i64 My.1, .slice ay My.2.length cy] 24)).cell 0 (v := .int .i64 ry.1) rfl; have qY1 := (KY2.out.alloc (.cells #[.int .i64 My.1, .slice ay My.2.length cy] 24)).cell 1 (v := .slice a0y ry.2.length c0y) rfl; have qVx0 := (KVx2.out.alloc (.cells #[.int .i64 My.1, .slice ay My.2.length cy] 24)).cell 0 (v := .int .i64 Mx.1) rfl; have qVx1 := (KVx2.out.alloc (.cells #[.int .i64 My.1, .slice ay My.2.length cy] 24)).cell 1 (v := .slice ax Mx.2.length cx) rfl; clear hb hb2)
      | (go_at_call 14; (with_reducible refine (HUc.out _ _ _ (HMx.out.later (Hx2.out.alloc Hx2.out.size _) (Nat.le_refl _)) (HMy.out.later ((Below.refl _ _).alloc (Nat.le_refl _) _) (Nat.le_refl _))).mono ?_); rintro e w3 ⟨v3, rfl, hm, hb⟩; have HMc : Hid (Mach w3 v3 (C)) := hm; obtain ⟨vsc, rfl, hSc⟩ := hm; obtain ⟨ac, cc, rfl⟩ := hSc.sl; clear hSc; obtain ⟨s3, bb0, hb3⟩ := boxed hb (by simp); have KVy3 := hidP bb0; clear bb0; have HB3 := hidP (HB2.out.trans (hb3.mono HB2.out.size)); have KX3 := hidP (KX2.out.below hb3 KX2.out.lt); have KY3 := hidP (KY2.out.below hb3 KY2.out.lt); have KVx3 := hidP (KVx2.out.below hb3 KVx2.out.lt); have Hx3 := hidP (Hx2.out.trans (hb3.mono Hx2.out.size)); have Hy3 := hidP hb3; have qX0 := (KX3.out.alloc (.cells #[.int .i64 C.1, .slice ac C.2.length cc] 24)).cell 0 (v := .int .i64 rx.1) rfl; have qX1 := (KX3.out.alloc (.cells #[.int .i64 C.1, .slice ac C.2.length cc] 24)).cell 1 (v := .slice a0x rx.2.length c0x) rfl; have qY0 := (KY3.out.alloc (.cells #[.int .i64 C.1, .slice ac C.2.length cc] 24)).cell 0 (v := .int .i64 ry.1) rfl; have qY1 := (KY3.out.alloc (.cells #[.int .i64 C.1, .slice ac C.2.length cc] 24)).cell 1 (v := .slice a0y ry.2.length c0y) rfl; have qVx0 := (KVx3.out.alloc (.cells #[.int .i64 C.1, .slice ac C.2.length cc] 24)).cell 0 (v := .int .i64 Mx.1) rfl; have qVx1 := (KVx3.out.alloc (.cells #[.int .i64 C.1, .slice ac C.2.length cc] 24)).cell 1 (v := .slice ax Mx.2.length cx) rfl; have qVy0 := (KVy3.out.alloc (.cells #[.int .i64 C.1, .slice ac C.2.length cc] 24)).cell 0 (v := .int .i64 My.1) rfl; have qVy1 := (KVy3.out.alloc (.cells #[.int .i64 C.1, .slice ac C.2.length cc] 24)).cell 1 (v := .slice ay My.2.length cy) rfl; clear hb hb3)
      | (go_at_call 17; (with_reducible refine (HWDv.out _ _ (HZv.out.later (HB3.out.alloc HB3.out.size _) (Nat.le_refl _))).mono ?_); rintro e w4 ⟨v4, rfl, hn, hb⟩; have HNv : Hid (Nums w4 v4 (Xv)) := hn; obtain ⟨awv, cwv, rfl, _⟩ := hn.get; obtain ⟨s4, bb0, hb4⟩ := boxed hb (by simp); have KVc4 := hidP bb0; clear bb0; have HB4 := hidP (HB3.out.trans (hb4.mono HB3.out.size)); have KX4 := hidP (KX3.out.below hb4 KX3.out.lt); have KY4 := hidP (KY3.out.below hb4 KY3.out.lt); have KVx4 := hidP (KVx3.out.below hb4 KVx3.out.lt); have KVy4 := hidP (KVy3.out.below hb4 KVy3.out.lt); have Hx4 := hidP (Hx3.out.trans (hb4.mono Hx3.out.size)); have Hy4 := hidP (Hy3.out.trans (hb4.mono Hy3.out.size)); have Hc4 := hidP hb4; have qX0 := KX4.out.cell 0 (v := .int .i64 rx.1) rfl; have qX1 := KX4.out.cell 1 (v := .slice a0x rx.2.length c0x) rfl; have qY0 := KY4.out.cell 0 (v := .int .i64 ry.1) rfl; have qY1 := KY4.out.cell 1 (v := .slice a0y ry.2.length c0y) rfl; have qVx0 := KVx4.out.cell 0 (v := .int .i64 Mx.1) rfl; have qVx1 := KVx4.out.cell 1 (v := .slice ax Mx.2.length cx) rfl; have qVy0 := KVy4.out.cell 0 (v := .int .i64 My.1) rfl; have qVy1 := KVy4.out.cell 1 (v := .slice ay My.2.length cy) rfl; have qVc0 := KVc4.out.cell 0 (v := .int .i64 C.1) rfl; have qVc1 := KVc4.out.cell 1 (v := .slice ac C.2.length cc) rfl; clear hb hb4)
      | (go_at_call 17; (with_reducible refine (HWDt.out _ _ (HZt.out.later HB4.out (Nat.le_refl _))).mono ?_); rintro e w5 ⟨v5, rfl, hn, hb⟩; have HNt : Hid (Nums w5 v5 (Xt)) := hn; obtain ⟨awt, cwt, rfl, _⟩ := hn.get; have hb5 := hb; have HB5 := hidP (HB4.out.trans (hb5.mono HB4.out.size)); have KX5 := hidP (KX4.out.below hb5 KX4.out.lt); have KY5 := hidP (KY4.out.below hb5 KY4.out.lt); have KVx5 := hidP (KVx4.out.below hb5 KVx4.out.lt); have KVy5 := hidP (KVy4.out.below hb5 KVy4.out.lt); have KVc5 := hidP (KVc4.out.below hb5 KVc4.out.lt); have Hx5 := hidP (Hx4.out.trans (hb5.mono Hx4.out.size)); have Hy5 := hidP (Hy4.out.trans (hb5.mono Hy4.out.size)); have Hc5 := hidP (Hc4.out.trans (hb5.mono Hc4.out.size)); have Hv5 := hidP hb5; have qX0 := KX5.out.cell 0 (v := .int .i64 rx.1) rfl; have qX1 := KX5.out.cell 1 (v := .slice a0x rx.2.length c0x) rfl; have qY0 := KY5.out.cell 0 (v := .int .i64 ry.1) rfl; have qY1 := KY5.out.cell 1 (v := .slice a0y ry.2.length c0y) rfl; have qVx0 := KVx5.out.cell 0 (v := .int .i64 Mx.1) rfl; have qVx1 := KVx5.out.cell 1 (v := .slice ax Mx.2.length cx) rfl; have qVy0 := KVy5.out.cell 0 (v := .int .i64 My.1) rfl; have qVy1 := KVy5.out.cell 1 (v := .slice ay My.2.length cy) rfl; have qVc0 := KVc5.out.cell 0 (v := .int .i64 C.1) rfl; have qVc1 := KVc5.out.cell 1 (v := .slice ac C.2.length cc) rfl; clear hb hb5)
      | (go_at_call 17; (with_reducible refine (HWDb.out _ _ (HZb.out.later HB5.out (Nat.le_refl _))).mono ?_); rintro e w6 ⟨v6, rfl, hn, hb⟩; have HNb : Hid (Nums w6 v6 (Xb)) := hn; obtain ⟨awb, cwb, rfl, _⟩ := hn.get; have hb6 := hb; have HB6 := hidP (HB5.out.trans (hb6.mono HB5.out.size)); have KX6 := hidP (KX5.out.below hb6 KX5.out.lt); have KY6 := hidP (KY5.out.below hb6 KY5.out.lt); have KVx6 := hidP (KVx5.out.below hb6 KVx5.out.lt); have KVy6 := hidP (KVy5.out.below hb6 KVy5.out.lt); have KVc6 := hidP (KVc5.out.below hb6 KVc5.out.lt); have Hx6 := hidP (Hx5.out.trans (hb6.mono Hx5.out.size)); have Hy6 := hidP (Hy5.out.trans (hb6.mono Hy5.out.size)); have Hc6 := hidP (Hc5.out.trans (hb6.mono Hc5.out.size)); have Hv6 := hidP (Hv5.out.trans (hb6.mono Hv5.out.size)); have Ht6 := hidP hb6; have qX0 := KX6.out.cell 0 (v := .int .i64 rx.1) rfl; have qX1 := KX6.out.cell 1 (v := .slice a0x rx.2.length c0x) rfl; have qY0 := KY6.out.cell 0 (v := .int .i64 ry.1) rfl; have qY1 := KY6.out.cell 1 (v := .slice a0y ry.2.length c0y) rfl; have qVx0 := KVx6.out.cell 0 (v := .int .i64 Mx.1) rfl; have qVx1 := KVx6.out.cell 1 (v := .slice ax Mx.2.length cx) rfl; have qVy0 := KVy6.out.cell 0 (v := .int .i64 My.1) rfl; have qVy1 := KVy6.out.cell 1 (v := .slice ay My.2.length cy) rfl; have qVc0 := KVc6.out.cell 0 (v := .int .i64 C.1) rfl; have qVc1 := KVc6.out.cell 1 (v := .slice ac C.2.length cc) rfl; clear hb hb6)
      | (go_at_call 18; (with_reducible refine (HCx.out _ _ _ _ (HMx.out.later Hx6.out (Nat.le_refl _)) (HNv.out.later Hv6.out (Nat.le_refl _)) (HNb.out.later (Below.refl _ _) (Nat.le_refl _))).mono ?_); rintro e w7 ⟨nx, rfl, hq, hb⟩; have hb7 := hb; have HB7 := hidP (HB6.out.trans (hb7.mono HB6.out.size)); have KX7 := hidP (KX6.out.below hb7 KX6.out.lt); have KY7 := hidP (KY6.out.below hb7 KY6.out.lt); have KVx7 := hidP (KVx6.out.below hb7 KVx6.out.lt); have KVy7 := hidP (KVy6.out.below hb7 KVy6.out.lt); have KVc7 := hidP (KVc6.out.below hb7 KVc6.out.lt); have Hx7 := hidP (Hx6.out.trans (hb7.mono Hx6.out.size)); have Hy7 := hidP (Hy6.out.trans (hb7.mono Hy6.out.size)); have Hc7 := hidP (Hc6.out.trans (hb7.mono Hc6.out.size)); have Hv7 := hidP (Hv6.out.trans (hb7.mono Hv6.out.size)); have Ht7 := hidP (Ht6.out.trans (hb7.mono Ht6.out.size)); have Hb7 := hidP hb7; have qX0 := KX7.out.cell 0 (v := .int .i64 rx.1) rfl; have qX1 := KX7.out.cell 1 (v := .slice a0x rx.2.length c0x) rfl; have qY0 := KY7.out.cell 0 (v := .int .i64 ry.1) rfl; have qY1 := KY7.out.cell 1 (v := .slice a0y ry.2.length c0y) rfl; have qVx0 := KVx7.out.cell 0 (v := .int .i64 Mx.1) rfl; have qVx1 := KVx7.out.cell 1 (v := .slice ax Mx.2.length cx) rfl; have qVy0 := KVy7.out.cell 0 (v := .int .i64 My.1) rfl; have qVy1 := KVy7.out.cell 1 (v := .slice ay My.2.length cy) rfl; have qVc0 := KVc7.out.cell 0 (v := .int .i64 C.1) rfl; have qVc1 := KVc7.out.cell 1 (v := .slice ac C.2.length cc) rfl; have HQx := hidP hq; have nnx := hq.nonneg; clear hq; clear hb hb7)
      | (go_at_call 18; (with_reducible refine (HCy.out _ _ _ _ (HMy.out.later Hy7.out (Nat.le_refl _)) (HNb.out.later Hb7.out (Nat.le_refl _)) (HNt.out.later Ht7.out (Nat.le_refl _))).mono ?_); rintro e w8 ⟨ny, rfl, hq, hb⟩; have hb8 := hb; have HB8 := hidP (HB7.out.trans (hb8.mono HB7.out.size)); have KX8 := hidP (KX7.out.below hb8 KX7.out.lt); have KY8 := hidP (KY7.out.below hb8 KY7.out.lt); have KVx8 := hidP (KVx7.out.below hb8 KVx7.out.lt); have KVy8 := hidP (KVy7.out.below hb8 KVy7.out.lt); have KVc8 := hidP (KVc7.out.below hb8 KVc7.out.lt); have Hx8 := hidP (Hx7.out.trans (hb8.mono Hx7.out.size)); have Hy8 := hidP (Hy7.out.trans (hb8.mono Hy7.out.size)); have Hc8 := hidP (Hc7.out.trans (hb8.mono Hc7.out.size)); have Hv8 := hidP (Hv7.out.trans (hb8.mono Hv7.out.size)); have Ht8 := hidP (Ht7.out.trans (hb8.mono Ht7.out.size)); have Hb8 := hidP (Hb7.out.trans (hb8.mono Hb7.out.size)); have qX0 := KX8.out.cell 0 (v := .int .i64 rx.1) rfl; have qX1 := KX8.out.cell 1 (v := .slice a0x rx.2.length c0x) rfl; have qY0 := KY8.out.cell 0 (v := .int .i64 ry.1) rfl; have qY1 := KY8.out.cell 1 (v := .slice a0y ry.2.length c0y) rfl; have qVx0 := KVx8.out.cell 0 (v := .int .i64 Mx.1) rfl; have qVx1 := KVx8.out.cell 1 (v := .slice ax Mx.2.length cx) rfl; have qVy0 := KVy8.out.cell 0 (v := .int .i64 My.1) rfl; have qVy1 := KVy8.out.cell 1 (v := .slice ay My.2.length cy) rfl; have qVc0 := KVc8.out.cell 0 (v := .int .i64 C.1) rfl; have qVc1 := KVc8.out.cell 1 (v := .slice ac C.2.length cc) rfl; have HQy := hidP hq; have nny := hq.nonneg; clear hq; clear hb hb8)
      | (go_at_call 18; (with_reducible refine (HCc.out _ _ _ _ (HMc.out.later Hc8.out (Nat.le_refl _)) (HNv.out.later Hv8.out (Nat.le_refl _)) (HNt.out.later Ht8.out (Nat.le_refl _))).mono ?_); rintro e w9 ⟨nc, rfl, hq, hb⟩; have hb9 := hb; have HB9 := hidP (HB8.out.trans (hb9.mono HB8.out.size)); have KX9 := hidP (KX8.out.below hb9 KX8.out.lt); have KY9 := hidP (KY8.out.below hb9 KY8.out.lt); have KVx9 := hidP (KVx8.out.below hb9 KVx8.out.lt); have KVy9 := hidP (KVy8.out.below hb9 KVy8.out.lt); have KVc9 := hidP (KVc8.out.below hb9 KVc8.out.lt); have Hx9 := hidP (Hx8.out.trans (hb9.mono Hx8.out.size)); have Hy9 := hidP (Hy8.out.trans (hb9.mono Hy8.out.size)); have Hc9 := hidP (Hc8.out.trans (hb9.mono Hc8.out.size)); have Hv9 := hidP (Hv8.out.trans (hb9.mono Hv8.out.size)); have Ht9 := hidP (Ht8.out.trans (hb9.mono Ht8.out.size)); have Hb9 := hidP (Hb8.out.trans (hb9.mono Hb8.out.size)); have qX0 := KX9.out.cell 0 (v := .int .i64 rx.1) rfl; have qX1 := KX9.out.cell 1 (v := .slice a0x rx.2.length c0x) rfl; have qY0 := KY9.out.cell 0 (v := .int .i64 ry.1) rfl; have qY1 := KY9.out.cell 1 (v := .slice a0y ry.2.length c0y) rfl; have qVx0 := KVx9.out.cell 0 (v := .int .i64 Mx.1) rfl; have qVx1 := KVx9.out.cell 1 (v := .slice ax Mx.2.length cx) rfl; have qVy0 := KVy9.out.cell 0 (v := .int .i64 My.1) rfl; have qVy1 := KVy9.out.cell 1 (v := .slice ay My.2.length cy) rfl; have qVc0 := KVc9.out.cell 0 (v := .int .i64 C.1) rfl; have qVc1 := KVc9.out.cell 1 (v := .slice ac C.2.length cc) rfl; have HQc := hidP hq; have g3 := HFC.out _ _ _ HQx.out HQy.out HQc.out; have HG3 := hidP g3; have ux := cst_most HQx.out; have uy := cst_most HQy.out; have HBO := hidP (fun W => both_any nx ny W ⟨nnx, ux⟩ ⟨nny, uy⟩); clear hq g3; clear hb hb9)
      | (go_at_call 20; (with_reducible refine (HBO.out _).mono ?_); rintro e w99 ⟨rfl, hw9⟩; subst hw9; have t5 := HG3.out; generalize (if nx = 1000000001 ∨ ny = 1000000001 then 1000000001 else nx + ny) = nb at *)
      | (go_at_call 18; (with_reducible refine (HCc.out _ _ _ _ (HMc.out.later Hc9.out (Nat.le_refl _)) (HNv.out.later Hv9.out (Nat.le_refl _)) (HNt.out.later Ht9.out (Nat.le_refl _))).mono ?_); rintro e w98 ⟨nd, rfl, hq, hb⟩; have nnd := hq.nonneg; have HB98 := hidP (HB9.out.trans (hb.mono HB9.out.size)); clear hq hb))
    go_ret
    exact ⟨rfl, HB98.out⟩
theorem walk (vx : Value) (rx : Rw) (vy : Value) (ry : Rw) (a2 : Option Addr) (len2 cap2 : Nat) (z2 : List Int) (a3 : Option Addr) (len3 cap3 : Nat) (z3 : List Int) (a4 : Option Addr) (len4 cap4 : Nat) (z4 : List Int) (w : World) (hx : RawV w vx rx ∧ okR rx ∧ wfR rx) (hy : RawV w vy ry ∧ okR ry ∧ wfR ry) (w2 : IsRow .i64 w a2 len2 cap2 z2 ∧ cap2 * 8 ≤ 140737488351232) (w3 : IsRow .i64 w a3 len3 cap3 z3 ∧ cap3 * 8 ≤ 140737488351232) (w4 : IsRow .i64 w a4 len4 cap4 z4 ∧ cap4 * 8 ≤ 140737488351232) :
    Calls Try.prog 6 #[vx, vy, .slice a2 len2 cap2, .slice a3 len3 cap3, .slice a4 len4 cap4] w fun e w' => e = .returned (.bool true) ∧ Below w.heap.size w w' := by
  obtain ⟨p2, _, _⟩ := row_nums w2.1
  obtain ⟨p3, _, _⟩ := row_nums w3.1
  obtain ⟨p4, _, _⟩ := row_nums w4.1
  exact core vx rx vy ry _ _ _ _ _ _ w hx hy p2 (row_wf w2.1) p3 (row_wf w3.1) p4 (row_wf w4.1)

set_option maxRecDepth 100000 in
theorem lifted (os : Os) (started : os.Started) (H : Type) (enc : TypeId × Value → H) :
    ReturnsInHanded {} Try.checked os 6 .any (Rows.composeBetweenSpec.pre6 enc Try.prog Try.f6 Rows.composeBetweenRow.domain false) (Rows.composeBetweenSpec.post enc Try.prog Try.f6 false true false false) := by
  refine returnsInHanded_of_change_sized (C := Try.checked) own started (by kernel_rfl) Try.func6
    (ChangeSpec.witness6 (enc := enc) (C := Try.checked) false ⟨#[], #[.agg #[.int .i64 0, .slice none 0 0], .agg #[.int .i64 0, .slice none 0 0], .slice none 0 0, .slice none 0 0, .slice none 0 0], []⟩ 8 (by kernel_rfl) (by kernel_rfl) (by kernel_rfl) (by kernel_rfl)) ?_
  intro W base args ds gs before hval0 hW hcnd hsz0 _
  have hsz : (DataW.weightsEach Try.prog (Try.f6.params.toList ++ Rows.composeBetweenSpec.plain.varTypes Try.prog) (ds ++ gs)).all (· ≤ reachBytes) = true := hsz0
  have hval : ∀ (j : Nat) t v, Try.f6.params[j]? = some t → args[j]? = some v → Value.okWide Try.prog W .any base t v := hval0
  clear hval0 hsz0
  have hW' := hW
  obtain ⟨p, q, hA0, hV, rfl, hfz, hnd⟩ := hW
  have hA : DataW.TrodAll enc Try.prog W 0 (fun _ => true) true Try.f6.params.toList args.toList ds p := hA0
  rw [Try.params6] at hA hval hsz
  obtain ⟨v0, vs0, d0, ds0, p0, q0, hargs, rfl, rfl, h0, r0⟩ := trodAll_cons hA
  obtain ⟨v1, vs1, d1, ds1, p1, q1, rfl, rfl, rfl, h1, r1⟩ := trodAll_cons r0
  obtain ⟨v2, vs2, d2, ds2, p2, q2, rfl, rfl, rfl, h2, r2⟩ := trodAll_cons r1
  obtain ⟨v3, vs3, d3, ds3, p3, q3, rfl, rfl, rfl, h3, r3⟩ := trodAll_cons r2
  obtain ⟨v4, vs4, d4, ds4, p4, q4, rfl, rfl, rfl, h4, r4⟩ := trodAll_cons r3
  obtain ⟨rfl, rfl, rfl⟩ := trodAll_nil r4
  obtain rfl : args = #[v0, v1, v2, v3, v4] := by cases args; simp_all
  obtain ⟨rfl, rfl⟩ := trodVars_none hV
  have k0 := h0
  have lt0 : ∀ x ∈ p0, x.block < W.heap.size := by obtain ⟨m, hm⟩ := k0; exact DataW.trod_lt m _ _ _ hm
  obtain ⟨z0, w0⟩ : ∃ m : Rw, RawV W v0 m ∧ okR m ∧ wfR m := by
    obtain ⟨c0, c1, y0, y1, n, rfl, hd, hp, t0, t1⟩ := Go.Joins.open_agg2 Try.underlying39 (by kernel_rfl) (by kernel_rfl) (hval 0 39 v0 rfl rfl) h0
    subst hd
    exact open_raw t0 t1 ((Fits.arg hsz (j := 0) rfl rfl).field Try.underlying39 (f := 1) rfl rfl)
  have k1 := h1
  have lt1 : ∀ x ∈ p1, x.block < W.heap.size := by obtain ⟨m, hm⟩ := k1; exact DataW.trod_lt m _ _ _ hm
  obtain ⟨z1, w1⟩ : ∃ m : Rw, RawV W v1 m ∧ okR m ∧ wfR m := by
    obtain ⟨c0, c1, y0, y1, n, rfl, hd, hp, t0, t1⟩ := Go.Joins.open_agg2 Try.underlying39 (by kernel_rfl) (by kernel_rfl) (hval 1 39 v1 rfl rfl) h1
    subst hd
    exact open_raw t0 t1 ((Fits.arg hsz (j := 1) rfl rfl).field Try.underlying39 (f := 1) rfl rfl)
  obtain ⟨a2, len2, cap2, rfl⟩ := okWide_slice Try.underlying40 (hval 2 40 v2 rfl rfl)
  have k2 := h2
  have lt2 : ∀ x ∈ p2, x.block < W.heap.size := by obtain ⟨m, hm⟩ := k2; exact DataW.trod_lt m _ _ _ hm
  obtain ⟨z2, w2⟩ : ∃ zs, IsRow .i64 W a2 len2 cap2 zs ∧ cap2 * 8 ≤ 140737488351232 := by
    obtain ⟨fuel, hf⟩ := h2
    rcases open_ints Try.underlying40 Try.underlying3 (by kernel_rfl) hf with ⟨hcs, _⟩ | ⟨x, l, c, zs, hcs, _, hl, hm, hz, hx, hcell, hwz⟩
    · simp [Value.cells] at hcs
      obtain ⟨rfl, rfl, rfl⟩ := hcs
      exact ⟨[], .inl ⟨rfl, rfl, rfl, rfl⟩, by omega⟩
    · have hd := congrArg Prod.fst hx
      have hsw := sized_slice hsz (j := 2) (t := 40) (e := 3) rfl (congrArg some hd) Try.underlying40
      have hby : Try.prog.bytesOf 3 = 8 := by kernel_rfl
      rw [hby] at hsw
      simp [Value.cells] at hcs
      obtain ⟨rfl, rfl, rfl⟩ := hcs
      have hz' : zs.length = cap2 := by simpa using hz
      simp only [lits, List.length_map, List.length_take, List.length_drop, reachBytes] at hsw
      exact ⟨zs, .inr ⟨_, rfl, hl, hm, hz', hcell, hwz⟩, by omega⟩
  obtain ⟨a3, len3, cap3, rfl⟩ := okWide_slice Try.underlying40 (hval 3 40 v3 rfl rfl)
  have k3 := h3
  have lt3 : ∀ x ∈ p3, x.block < W.heap.size := by obtain ⟨m, hm⟩ := k3; exact DataW.trod_lt m _ _ _ hm
  obtain ⟨z3, w3⟩ : ∃ zs, IsRow .i64 W a3 len3 cap3 zs ∧ cap3 * 8 ≤ 140737488351232 := by
    obtain ⟨fuel, hf⟩ := h3
    rcases open_ints Try.underlying40 Try.underlying3 (by kernel_rfl) hf with ⟨hcs, _⟩ | ⟨x, l, c, zs, hcs, _, hl, hm, hz, hx, hcell, hwz⟩
    · simp [Value.cells] at hcs
      obtain ⟨rfl, rfl, rfl⟩ := hcs
      exact ⟨[], .inl ⟨rfl, rfl, rfl, rfl⟩, by omega⟩
    · have hd := congrArg Prod.fst hx
      have hsw := sized_slice hsz (j := 3) (t := 40) (e := 3) rfl (congrArg some hd) Try.underlying40
      have hby : Try.prog.bytesOf 3 = 8 := by kernel_rfl
      rw [hby] at hsw
      simp [Value.cells] at hcs
      obtain ⟨rfl, rfl, rfl⟩ := hcs
      have hz' : zs.length = cap3 := by simpa using hz
      simp only [lits, List.length_map, List.length_take, List.length_drop, reachBytes] at hsw
      exact ⟨zs, .inr ⟨_, rfl, hl, hm, hz', hcell, hwz⟩, by omega⟩
  obtain ⟨a4, len4, cap4, rfl⟩ := okWide_slice Try.underlying40 (hval 4 40 v4 rfl rfl)
  have k4 := h4
  have lt4 : ∀ x ∈ p4, x.block < W.heap.size := by obtain ⟨m, hm⟩ := k4; exact DataW.trod_lt m _ _ _ hm
  obtain ⟨z4, w4⟩ : ∃ zs, IsRow .i64 W a4 len4 cap4 zs ∧ cap4 * 8 ≤ 140737488351232 := by
    obtain ⟨fuel, hf⟩ := h4
    rcases open_ints Try.underlying40 Try.underlying3 (by kernel_rfl) hf with ⟨hcs, _⟩ | ⟨x, l, c, zs, hcs, _, hl, hm, hz, hx, hcell, hwz⟩
    · simp [Value.cells] at hcs
      obtain ⟨rfl, rfl, rfl⟩ := hcs
      exact ⟨[], .inl ⟨rfl, rfl, rfl, rfl⟩, by omega⟩
    · have hd := congrArg Prod.fst hx
      have hsw := sized_slice hsz (j := 4) (t := 40) (e := 3) rfl (congrArg some hd) Try.underlying40
      have hby : Try.prog.bytesOf 3 = 8 := by kernel_rfl
      rw [hby] at hsw
      simp [Value.cells] at hcs
      obtain ⟨rfl, rfl, rfl⟩ := hcs
      have hz' : zs.length = cap4 := by simpa using hz
      simp only [lits, List.length_map, List.length_take, List.length_drop, reachBytes] at hsw
      exact ⟨zs, .inr ⟨_, rfl, hl, hm, hz', hcell, hwz⟩, by omega⟩
  refine (walk v0 z0 v1 z1 a2 len2 cap2 z2 a3 len3 cap3 z3 a4 len4 cap4 z4 W w0 w1 w2 w3 w4).mono fun e W' ⟨he, bel⟩ => ?_
  subst he
  exact ⟨_, rfl, _, _, _, [], _, [], hW', trodAll_mk1 (shut_bool Try.underlying4 _), (trodAll_cons_mk (Below.trod laidOut (by kernel_rfl) (of_decide_eq_true (by kernel_rfl)) k0 bel lt0) (trodAll_cons_mk (Below.trod laidOut (by kernel_rfl) (of_decide_eq_true (by kernel_rfl)) k1 bel lt1) (trodAll_cons_mk (Below.trod laidOut (by kernel_rfl) (of_decide_eq_true (by kernel_rfl)) k2 bel lt2) (trodAll_cons_mk (Below.trod laidOut (by kernel_rfl) (of_decide_eq_true (by kernel_rfl)) k3 bel lt3) (trodAll_cons_mk (Below.trod laidOut (by kernel_rfl) (of_decide_eq_true (by kernel_rfl)) k4 bel lt4) trodAll_mk0))))), rfl, bel.frame _, fun h => by cases h⟩
end Go.Proofs.Ythcfkiinjcbajaa.composeBetween
namespace Go.Proofs.Ythcfkiinjcbajaa
theorem composeBetween_holds : Rows.ComposeBetweenSaid :=
  OpenClaim.holds_of_wide 6 Try.f6 rfl rfl rfl rfl rfl rfl rfl ⟨rfl, rfl, rfl, rfl, rfl⟩ rfl rfl rfl rfl rfl (by kernel_rfl) Try.func6 (by kernel_rfl)
    (of_decide_eq_true (by kernel_rfl)) (by unfold Func.isWrapper; first | (rw [if_pos (by decide +kernel)]; kernel_rfl) | (rw [if_neg (by decide +kernel)]; exact ⟨rfl, rfl⟩))
    (fun os started H enc _ => composeBetween.lifted os started H enc)
#print axioms composeBetween_holds
end Go.Proofs.Ythcfkiinjcbajaa
