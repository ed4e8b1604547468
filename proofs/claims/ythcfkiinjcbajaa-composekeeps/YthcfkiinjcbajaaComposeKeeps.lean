/- The statement ComposeKeeps: whatever numbers two machines and two words are made of, composed they cost what both cost together, or they are too large, for every input and without any condition. -/
import Derived.Test.YthcfkiinjcbajaaMd
import Derived.Test.YthcfkiinjcbajaaJ16p
import Derived.Test.YthcfkiinjcbajaaKj
import Derived.Test.YthcfkiinjcbajaaJ16q
import Derived.Test.YthcfkiinjcbajaaCx
import Derived.Test.YthcfkiinjcbajaaXc
import Derived.Test.YthcfkiinjcbajaaJ16e
import Derived.Test.YthcfkiinjcbajaaLo
import Derived.Lib.SmallJoins
import Derived.ChangeOld
import Derived.Below
namespace Go.Proofs.Ythcfkiinjcbajaa.composeKeeps
open Go.ChangeShapes Go.WideShapes Go.ChangeAt Go.RowKit
open Go.Proofs.Ythcfkiinjcbajaa.Pl Go.Proofs.Ythcfkiinjcbajaa.Wt
set_option linter.unusedVariables false
set_option linter.unusedSimpArgs false

theorem own : ownKnob Try.prog.godebug = none := by kernel_rfl
theorem laidOut : laidOutB Try.prog = true := by kernel_rfl
def HeldCk (b1 b2 b3 : Nat) (x0 x1 y0 y1 z0 z1 : Value) (w : World) : Prop := w.cell? ⟨b1, 0, none⟩ = some x0 ∧ w.cell? ⟨b1, 1, none⟩ = some x1 ∧ w.cell? ⟨b2, 0, none⟩ = some y0 ∧ w.cell? ⟨b2, 1, none⟩ = some y1 ∧ w.cell? ⟨b3, 0, none⟩ = some z0 ∧ w.cell? ⟨b3, 1, none⟩ = some z1
theorem HeldCk.later {b1 b2 b3 : Nat} {x0 x1 y0 y1 z0 z1 : Value} {w w' : World} (h : HeldCk b1 b2 b3 x0 x1 y0 y1 z0 z1 w) (hb : Below w.heap.size w w') (l1 : b1 < w.heap.size) (l2 : b2 < w.heap.size) (l3 : b3 < w.heap.size) : HeldCk b1 b2 b3 x0 x1 y0 y1 z0 z1 w' :=
  ⟨(hb.cell (p := ⟨b1, 0, none⟩) l1).trans h.1, (hb.cell (p := ⟨b1, 1, none⟩) l1).trans h.2.1, (hb.cell (p := ⟨b2, 0, none⟩) l2).trans h.2.2.1, (hb.cell (p := ⟨b2, 1, none⟩) l2).trans h.2.2.2.1, (hb.cell (p := ⟨b3, 0, none⟩) l3).trans h.2.2.2.2.1, (hb.cell (p := ⟨b3, 1, none⟩) l3).trans h.2.2.2.2.2⟩
set_option maxRecDepth 100000 in
set_option maxHeartbeats 3200000 in
theorem core (vx : Value) (rx : Rw) (vy : Value) (ry : Rw) (vv : Value) (zv : List Int) (vt : Value) (zt : List Int) (w : World) (hx : RawV w vx rx ∧ okR rx ∧ wfR rx) (hy : RawV w vy ry ∧ okR ry ∧ wfR ry) (hzv : Nums w vv zv) (hwv : ∀ n ∈ zv, (Lit.int .i64 n).wf = true) (hzt : Nums w vt zt) (hwt : ∀ n ∈ zt, (Lit.int .i64 n).wf = true) :
    Calls Try.prog 5 #[vx, vy, vv, vt] w fun e w' => e = .returned (.bool true) ∧ Below w.heap.size w w' := by
  obtain ⟨hx, hokx, hwfx⟩ := hx
  have HIx : Hid (RawV w vx rx) := hx
  have HOKx : Hid (okR rx) := hokx
  have HWFx : Hid (wfR rx) := hwfx
  obtain ⟨hfx, hcx, hlx, hax, hpx⟩ := made_facts rx 4 (by omega) (by omega)
  have HEx : Hid (∀ v W, RawV W v rx → okR rx → wfR rx → Calls Try.prog 16 #[v, .int .i64 4, .bool false] W fun e w' => ∃ v', e = .returned v' ∧ Mach w' v' (madeM rx 4 false) ∧ Below W.heap.size W w') := fun v W h1 h2 h3 => made_any v rx 4 false W h1 h2 h3 (by omega) (by omega)
  obtain ⟨vs0x, rfl, hNx⟩ := hx
  obtain ⟨a0x, c0x, rfl, hNxx⟩ := hNx.get
  clear hNx hNxx hokx hwfx
  obtain ⟨hy, hoky, hwfy⟩ := hy
  have HIy : Hid (RawV w vy ry) := hy
  have HOKy : Hid (okR ry) := hoky
  have HWFy : Hid (wfR ry) := hwfy
  obtain ⟨hfy, hcy, hly, hay, hpy⟩ := made_facts ry 4 (by omega) (by omega)
  have HEy : Hid (∀ v W, RawV W v ry → okR ry → wfR ry → Calls Try.prog 16 #[v, .int .i64 4, .bool false] W fun e w' => ∃ v', e = .returned v' ∧ Mach w' v' (madeM ry 4 false) ∧ Below W.heap.size W w') := fun v W h1 h2 h3 => made_any v ry 4 false W h1 h2 h3 (by omega) (by omega)
  obtain ⟨vs0y, rfl, hNy⟩ := hy
  obtain ⟨a0y, c0y, rfl, hNxy⟩ := hNy.get
  clear hNy hNxy hoky hwfy
  have HZv := hidP hzv
  have HWDv : Hid (∀ v W, Nums W v zv → Calls Try.prog 17 #[v, .int .i64 2] W fun e w' => ∃ v', e = .returned v' ∧ Nums w' v' (wdL zv 2) ∧ Below W.heap.size W w') := fun v W h1 => word_any v zv 2 W h1 hwv (by omega)
  have ewv : wrdE (wdL zv 2) = 0 := wdL_wrd (by omega)
  have lwv := wdL_len zv 2
  clear hzv hwv
  have HZt := hidP hzt
  have HWDt : Hid (∀ v W, Nums W v zt → Calls Try.prog 17 #[v, .int .i64 2] W fun e w' => ∃ v', e = .returned v' ∧ Nums w' v' (wdL zt 2) ∧ Below W.heap.size W w') := fun v W h1 => word_any v zt 2 W h1 hwt (by omega)
  have ewt : wrdE (wdL zt 2) = 0 := wdL_wrd (by omega)
  have lwt := wdL_len zt 2
  clear hzt hwt
  have zx := made_ge rx 4 false (by omega)
  have zy := made_ge ry 4 false (by omega)
  rcases cmp_two (by omega) (by omega) (by omega) (made_low rx 4) (made_low ry 4) hfx hfy zx zy with ec | ⟨C, ec, fc, pc, z9C, l9C, cc⟩
  · obtain ⟨Z, hZ, t9c, kZ⟩ : ∃ Z : Mc, (0, []) = Z ∧ ((Z.2.length : Int) == 0) = true ∧ okM Z := ⟨_, rfl, rfl, by simp, fun j hj => absurd hj (by simp)⟩
    rw [hZ] at ec
    clear hZ
    have HUc : Hid (∀ W v u, Mach W v (madeM rx 4 false) → Mach W u (madeM ry 4 false) → Calls Try.prog 14 #[v, u] W fun e w' => RatRes Z 5 W e w') := fun W v u h1 h2 => by
      have := composeP_any v u _ _ W h1 (right_ok hfx) h2 (right_ok hfy)
      rw [ec] at this
      exact this
    clear hfx hfy hcx hcy ec zx zy ewv ewt lwv lwt hlx hly hax hay hpx hpy
    generalize madeM rx 4 false = Mx at *
    generalize madeM ry 4 false = My at *
    obtain ⟨avz, cvz, rfl, _⟩ := HZv.out.get
    obtain ⟨atz, ctz, rfl, _⟩ := HZt.out.get
    have HB0 : Hid (∀ o1 o2, Below w.heap.size w ((w.alloc o1).alloc o2)) := fun o1 o2 => ((Below.refl _ _).alloc (Nat.le_refl _) _).alloc (by simp) _
    try clear kZ
    try clear z9C l9C
    try clear z9K l9K
    try clear z9P l9P
    try clear z9R l9R
    try clear z9D l9D
    go_enter Try.func5, Try.ntmps5
    go_wp2_with (first
      | (go_at_call 16; (with_reducible refine (HEx.out _ _ (HIx.out.later (HB0.out _ _) (Nat.le_refl _)) HOKx.out HWFx.out).mono ?_); rintro e w1 ⟨v1, rfl, hm, hb⟩; have HMx : Hid (Mach w1 v1 (Mx)) := hm; obtain ⟨vsx, rfl, hSx⟩ := hm; obtain ⟨ax, cx, rfl⟩ := hSx.sl; clear hSx; obtain ⟨s1, bb0, bb1, hb1⟩ := boxedTwo hb (by simp); have KX1 := hidP bb0; have KY1 := hidP bb1; clear bb0 bb1; have HB1 := hidP hb1; have qX0 := (KX1.out.alloc (.cells #[.int .i64 Mx.1, .slice ax Mx.2.length cx] 24)).cell 0 (v := .int .i64 rx.1) rfl; have qX1 := (KX1.out.alloc (.cells #[.int .i64 Mx.1, .slice ax Mx.2.length cx] 24)).cell 1 (v := .slice a0x rx.2.length c0x) rfl; have qY0 := (KY1.out.alloc (.cells #[.int .i64 Mx.1, .slice ax Mx.2.length cx] 24)).cell 0 (v := .int .i64 ry.1) rfl; have qY1 := (KY1.out.alloc (.cells #[.int .i64 Mx.1, .slice ax Mx.2.length cx] 24)).cell 1 (v := .slice a0y ry.2.length c0y) rfl; clear hb hb1)
      | (go_at_call 16; (with_reducible refine (HEy.out _ _ (HIy.out.later (HB1.out.alloc HB1.out.size _) (Nat.le_refl _)) HOKy.out HWFy.out).mono ?_); rintro e w2 ⟨v2, rfl, hm, hb⟩; have HMy : Hid (Mach w2 v2 (My)) := hm; obtain ⟨vsy, rfl, hSy⟩ := hm; obtain ⟨ay, cy, rfl⟩ := hSy.sl; clear hSy; obtain ⟨s2, bb0, hb2⟩ := boxed hb (by simp); have KVx2 := hidP bb0; clear bb0; have HB2 := hidP (HB1.out.trans (hb2.mono HB1.out.size)); have KX2 := hidP (KX1.out.below hb2 KX1.out.lt); have KY2 := hidP (KY1.out.below hb2 KY1.out.lt); have Hx2 := hidP hb2; have qX0 := (KX2.out.alloc (.cells #[.int .i64 My.1, .slice ay My.2.length cy] 24)).cell 0 (v := .int .i64 rx.1) rfl; have qX1 := (KX2.out.alloc (.cells #[.int .i64 My.1, .slice ay My.2.length cy] 24)).cell 1 (v := .slice a0x rx.2.length c0x) rfl; have qY0 := (KY2.out.alloc (.cells #[.int .i64 My.1, .slice ay My.2.length cy] 24)).cell 0 (v := .int .i64 ry.1) rfl; have qY1 := (KY2.out.alloc (.cells #[.int .i64 My.1, .slice ay My.2.length cy] 24)).cell 1 (v := .slice a0y ry.2.length c0y) rfl; have qVx0 := (KVx2.out.alloc (.cells #[.int .i64 My.1, .slice ay My.2.length cy] 24)).cell 0 (v := .int .i64 Mx.1) rfl; have qVx1 := (KVx2.out.alloc (.cells #[.int .i64 My.1, .slice ay My.2.length cy] 24)).cell 1 (v := .slice ax Mx.2.length cx) rfl; clear hb hb2)
      | (go_at_call 14; (with_reducible refine (HUc.out _ _ _ (HMx.out.later (Hx2.out.alloc Hx2.out.size _) (Nat.le_refl _)) (HMy.out.later ((Below.refl _ _).alloc (Nat.le_refl _) _) (Nat.le_refl _))).mono ?_); rintro e w3 ⟨v3, rfl, hm, hb⟩; have HMc : Hid (Mach w3 v3 (Z)) := hm; obtain ⟨vsc, rfl, hSc⟩ := hm; obtain ⟨ac, cc, rfl⟩ := hSc.sl; clear hSc; obtain ⟨s3, bb0, hb3⟩ := boxed hb (by simp); have KVy3 := hidP bb0; clear bb0; have HB3 := hidP (HB2.out.trans (hb3.mono HB2.out.size)); have KX3 := hidP (KX2.out.below hb3 KX2.out.lt); have KY3 := hidP (KY2.out.below hb3 KY2.out.lt); have KVx3 := hidP (KVx2.out.below hb3 KVx2.out.lt); have Hx3 := hidP (Hx2.out.trans (hb3.mono Hx2.out.size)); have Hy3 := hidP hb3; have qX0 := (KX3.out.alloc (.cells #[.int .i64 Z.1, .slice ac Z.2.length cc] 24)).cell 0 (v := .int .i64 rx.1) rfl; have qX1 := (KX3.out.alloc (.cells #[.int .i64 Z.1, .slice ac Z.2.length cc] 24)).cell 1 (v := .slice a0x rx.2.length c0x) rfl; have qY0 := (KY3.out.alloc (.cells #[.int .i64 Z.1, .slice ac Z.2.length cc] 24)).cell 0 (v := .int .i64 ry.1) rfl; have qY1 := (KY3.out.alloc (.cells #[.int .i64 Z.1, .slice ac Z.2.length cc] 24)).cell 1 (v := .slice a0y ry.2.length c0y) rfl; have qVx0 := (KVx3.out.alloc (.cells #[.int .i64 Z.1, .slice ac Z.2.length cc] 24)).cell 0 (v := .int .i64 Mx.1) rfl; have qVx1 := (KVx3.out.alloc (.cells #[.int .i64 Z.1, .slice ac Z.2.length cc] 24)).cell 1 (v := .slice ax Mx.2.length cx) rfl; have qVy0 := (KVy3.out.alloc (.cells #[.int .i64 Z.1, .slice ac Z.2.length cc] 24)).cell 0 (v := .int .i64 My.1) rfl; have qVy1 := (KVy3.out.alloc (.cells #[.int .i64 Z.1, .slice ac Z.2.length cc] 24)).cell 1 (v := .slice ay My.2.length cy) rfl; clear hb hb3))
    go_ret
    exact ⟨rfl, (HB3.out.alloc HB3.out.size _)⟩
  · have HUc : Hid (∀ W v u, Mach W v (madeM rx 4 false) → Mach W u (madeM ry 4 false) → Calls Try.prog 14 #[v, u] W fun e w' => RatRes C 0 W e w') := fun W v u h1 h2 => by
      have := composeP_any v u _ _ W h1 (right_ok hfx) h2 (right_ok hfy)
      rw [ec] at this
      exact this
    have HCc : Hid (∀ W v s t, Mach W v C → Nums W s (wdL zv 2) → Nums W t (wdL zt 2) → Calls Try.prog 18 #[v, s, t] W fun e w' => ∃ n : Int, e = .returned (.int .i64 n) ∧ CstIs (Costs C (wdL zv 2) (wdL zt 2)) n ∧ Below W.heap.size W w') := fun W v s t h1 h2 h3 => cost_any v s t _ _ _ W h1 (right_ok fc) fc cc h2 h3 ewv ewt
    have HFC : Hid (∀ u n, CstIs (Costs C (wdL zv 2) (wdL zt 2)) u → TogA (madeM rx 4 false) (madeM ry 4 false) (wdL zv 2) (wdL zt 2) n → u = n) := fun u n h1 h2 => tog_cst hfx hfy zx zy ec h2 h1
    have HTG : Hid (∀ W v u s t, Mach W v (madeM rx 4 false) → Mach W u (madeM ry 4 false) → Nums W s (wdL zv 2) → Nums W t (wdL zt 2) → Calls Try.prog 19 #[v, u, s, t] W fun e w' => ∃ n : Int, e = .returned (.int .i64 n) ∧ TogA (madeM rx 4 false) (madeM ry 4 false) (wdL zv 2) (wdL zt 2) n ∧ Below W.heap.size W w') := fun W v u s t h1 h2 h3 h4 => together_any v u s t _ _ _ _ W h1 h2 h3 h4 hfx hfy hlx hly (by omega) (by omega) zx zy (fun p a ha => by have := (made_low rx 4 _ (el_mem (el_in ha))).2 a ha; omega) (fun p a ha => by have := (made_low ry 4 _ (el_mem (el_in ha))).2 a ha; omega) (fun p hp hn => by have := (made_low rx 4 _ (el_mem hp)).1 hn; omega) (fun p hp hn => by have := (made_low ry 4 _ (el_mem hp)).1 hn; omega)
    clear hfx hfy hcx hcy ec fc cc zx zy ewv ewt lwv lwt hlx hly hax hay hpx hpy
    generalize madeM rx 4 false = Mx at *
    generalize madeM ry 4 false = My at *
    generalize wdL zv 2 = Xv at *
    generalize wdL zt 2 = Xt at *
    obtain ⟨avz, cvz, rfl, _⟩ := HZv.out.get
    obtain ⟨atz, ctz, rfl, _⟩ := HZt.out.get
    have HB0 : Hid (∀ o1 o2, Below w.heap.size w ((w.alloc o1).alloc o2)) := fun o1 o2 => ((Below.refl _ _).alloc (Nat.le_refl _) _).alloc (by simp) _
    have t4 : (0 : Int) < (C.2.length : Int) := by omega
    try clear kZ
    try clear z9C l9C
    try clear z9K l9K
    try clear z9P l9P
    try clear z9R l9R
    try clear z9D l9D
    go_enter Try.func5, Try.ntmps5
    go_wp2_with (first
      | (go_at_call 16; (with_reducible refine (HEx.out _ _ (HIx.out.later (HB0.out _ _) (Nat.le_refl _)) HOKx.out HWFx.out).mono ?_); rintro e w1 ⟨v1, rfl, hm, hb⟩; have HMx : Hid (Mach w1 v1 (Mx)) := hm; obtain ⟨vsx, rfl, hSx⟩ := hm; obtain ⟨ax, cx, rfl⟩ := hSx.sl; clear hSx; obtain ⟨s1, bb0, bb1, hb1⟩ := boxedTwo hb (by simp); have KX1 := hidP bb0; have KY1 := hidP bb1; clear bb0 bb1; have HB1 := hidP hb1; have qX0 := (KX1.out.alloc (.cells #[.int .i64 Mx.1, .slice ax Mx.2.length cx] 24)).cell 0 (v := .int .i64 rx.1) rfl; have qX1 := (KX1.out.alloc (.cells #[.int .i64 Mx.1, .slice ax Mx.2.length cx] 24)).cell 1 (v := .slice a0x rx.2.length c0x) rfl; have qY0 := (KY1.out.alloc (.cells #[.int .i64 Mx.1, .slice ax Mx.2.length cx] 24)).cell 0 (v := .int .i64 ry.1) rfl; have qY1 := (KY1.out.alloc (.cells #[.int .i64 Mx.1, .slice ax Mx.2.length cx] 24)).cell 1 (v := .slice a0y ry.2.length c0y) rfl; clear hb hb1)
      | (go_at_call 16; (with_reducible refine (HEy.out _ _ (HIy.out.later (HB1.out.alloc HB1.out.size _) (Nat.le_refl _)) HOKy.out HWFy.out).mono ?_); rintro e w2 ⟨v2, rfl, hm, hb⟩; have HMy : Hid (Mach w2 v2 (My)) := hm; obtain ⟨vsy, rfl, hSy⟩ := hm; obtain ⟨ay, cy, rfl⟩ := hSy.sl; clear hSy; obtain ⟨s2, bb0, hb2⟩ := boxed hb (by simp); have KVx2 := hidP bb0; clear bb0; have HB2 := hidP (HB1.out.trans (hb2.mono HB1.out.size)); have KX2 := hidP (KX1.out.below hb2 KX1.out.lt); have KY2 := hidP (KY1.out.below hb2 KY1.out.lt); have Hx2 := hidP hb2; have qX0 := (KX2.out.alloc (.cells #[.int .i64 My.1, .slice ay My.2.length cy] 24)).cell 0 (v := .int .i64 rx.1) rfl; have qX1 := (KX2.out.alloc (.cells #[.int .i64 My.1, .slice ay My.2.length cy] 24)).cell 1 (v := .slice a0x rx.2.length c0x) rfl; have qY0 := (KY2.out.alloc (.cells #[.int .i64 My.1, .slice ay My.2.length cy] 24)).cell 0 (v := .int .i64 ry.1) rfl; have qY1 := (KY2.out.alloc (.cells #[.int .i64 My.1, .slice ay My.2.length cy] 24)).cell 1 (v := .slice a0y ry.2.length c0y) rfl; have qVx0 := (KVx2.out.alloc (.cells #[.int .i64 My.1, .slice ay My.2.length cy] 24)).cell 0 (v := .int .i64 Mx.1) rfl; have qVx1 := (KVx2.out.alloc (.cells #[.int .i64 My.1, .slice ay My.2.length cy] 24)).cell 1 (v := .slice ax Mx.2.length cx) rfl; clear hb hb2)
      | (go_at_call 14; (with_reducible refine (HUc.out _ _ _ (HMx.out.later (Hx2.out.alloc Hx2.out.size _) (Nat.le_refl _)) (HMy.out.later ((Below.refl _ _).alloc (Nat.le_refl _) _) (Nat.le_refl _))).mono ?_); rintro e w3 ⟨v3, rfl, hm, hb⟩; have HMc : Hid (Mach w3 v3 (C)) := hm; obtain ⟨vsc, rfl, hSc⟩ := hm; obtain ⟨ac, cc, rfl⟩ := hSc.sl; clear hSc; obtain ⟨s3, bb0, hb3⟩ := boxed hb (by simp); have KVy3 := hidP bb0; clear bb0; have HB3 := hidP (HB2.out.trans (hb3.mono HB2.out.size)); have KX3 := hidP (KX2.out.below hb3 KX2.out.lt); have KY3 := hidP (KY2.out.below hb3 KY2.out.lt); have KVx3 := hidP (KVx2.out.below hb3 KVx2.out.lt); have Hx3 := hidP (Hx2.out.trans (hb3.mono Hx2.out.size)); have Hy3 := hidP hb3; have qX0 := (KX3.out.alloc (.cells #[.int .i64 C.1, .slice ac C.2.length cc] 24)).cell 0 (v := .int .i64 rx.1) rfl; have qX1 := (KX3.out.alloc (.cells #[.int .i64 C.1, .slice ac C.2.length cc] 24)).cell 1 (v := .slice a0x rx.2.length c0x) rfl; have qY0 := (KY3.out.alloc (.cells #[.int .i64 C.1, .slice ac C.2.length cc] 24)).cell 0 (v := .int .i64 ry.1) rfl; have qY1 := (KY3.out.alloc (.cells #[.int .i64 C.1, .slice ac C.2.length cc] 24)).cell 1 (v := .slice a0y ry.2.length c0y) rfl; have qVx0 := (KVx3.out.alloc (.cells #[.int .i64 C.1, .slice ac C.2.length cc] 24)).cell 0 (v := .int .i64 Mx.1) rfl; have qVx1 := (KVx3.out.alloc (.cells #[.int .i64 C.1, .slice ac C.2.length cc] 24)).cell 1 (v := .slice ax Mx.2.length cx) rfl; have qVy0 := (KVy3.out.alloc (.cells #[.int .i64 C.1, .slice ac C.2.length cc] 24)).cell 0 (v := .int .i64 My.1) rfl; have qVy1 := (KVy3.out.alloc (.cells #[.int .i64 C.1, .slice ac C.2.length cc] 24)).cell 1 (v := .slice ay My.2.length cy) rfl; clear hb hb3)
      | (go_at_call 17; (with_reducible refine (HWDv.out _ _ (HZv.out.later (HB3.out.alloc HB3.out.size _) (Nat.le_refl _))).mono ?_); rintro e w4 ⟨v4, rfl, hn, hb⟩; have HNv : Hid (Nums w4 v4 (Xv)) := hn; obtain ⟨awv, cwv, rfl, _⟩ := hn.get; obtain ⟨s4, bb0, hb4⟩ := boxed hb (by simp); have KVc4 := hidP bb0; clear bb0; have HB4 := hidP (HB3.out.trans (hb4.mono HB3.out.size)); have KX4 := hidP (KX3.out.below hb4 KX3.out.lt); have KY4 := hidP (KY3.out.below hb4 KY3.out.lt); have KVx4 := hidP (KVx3.out.below hb4 KVx3.out.lt); have KVy4 := hidP (KVy3.out.below hb4 KVy3.out.lt); have Hx4 := hidP (Hx3.out.trans (hb4.mono Hx3.out.size)); have Hy4 := hidP (Hy3.out.trans (hb4.mono Hy3.out.size)); have Hc4 := hidP hb4; have qX0 := KX4.out.cell 0 (v := .int .i64 rx.1) rfl; have qX1 := KX4.out.cell 1 (v := .slice a0x rx.2.length c0x) rfl; have qY0 := KY4.out.cell 0 (v := .int .i64 ry.1) rfl; have qY1 := KY4.out.cell 1 (v := .slice a0y ry.2.length c0y) rfl; have qVx0 := KVx4.out.cell 0 (v := .int .i64 Mx.1) rfl; have qVx1 := KVx4.out.cell 1 (v := .slice ax Mx.2.length cx) rfl; have qVy0 := KVy4.out.cell 0 (v := .int .i64 My.1) rfl; have qVy1 := KVy4.out.cell 1 (v := .slice ay My.2.length cy) rfl; have qVc0 := KVc4.out.cell 0 (v := .int .i64 C.1) rfl; have qVc1 := KVc4.out.cell 1 (v := .slice ac C.2.length cc) rfl; clear hb hb4)
      | (go_at_call 17; (with_reducible refine (HWDt.out _ _ (HZt.out.later HB4.out (Nat.le_refl _))).mono ?_); rintro e w5 ⟨v5, rfl, hn, hb⟩; have HNt : Hid (Nums w5 v5 (Xt)) := hn; obtain ⟨awt, cwt, rfl, _⟩ := hn.get; have hb5 := hb; have HB5 := hidP (HB4.out.trans (hb5.mono HB4.out.size)); have KX5 := hidP (KX4.out.below hb5 KX4.out.lt); have KY5 := hidP (KY4.out.below hb5 KY4.out.lt); have KVx5 := hidP (KVx4.out.below hb5 KVx4.out.lt); have KVy5 := hidP (KVy4.out.below hb5 KVy4.out.lt); have KVc5 := hidP (KVc4.out.below hb5 KVc4.out.lt); have Hx5 := hidP (Hx4.out.trans (hb5.mono Hx4.out.size)); have Hy5 := hidP (Hy4.out.trans (hb5.mono Hy4.out.size)); have Hc5 := hidP (Hc4.out.trans (hb5.mono Hc4.out.size)); have Hv5 := hidP hb5; have qX0 := KX5.out.cell 0 (v := .int .i64 rx.1) rfl; have qX1 := KX5.out.cell 1 (v := .slice a0x rx.2.length c0x) rfl; have qY0 := KY5.out.cell 0 (v := .int .i64 ry.1) rfl; have qY1 := KY5.out.cell 1 (v := .slice a0y ry.2.length c0y) rfl; have qVx0 := KVx5.out.cell 0 (v := .int .i64 Mx.1) rfl; have qVx1 := KVx5.out.cell 1 (v := .slice ax Mx.2.length cx) rfl; have qVy0 := KVy5.out.cell 0 (v := .int .i64 My.1) rfl; have qVy1 := KVy5.out.cell 1 (v := .slice ay My.2.length cy) rfl; have qVc0 := KVc5.out.cell 0 (v := .int .i64 C.1) rfl; have qVc1 := KVc5.out.cell 1 (v := .slice ac C.2.length cc) rfl; clear hb hb5))
    have HS0 : HeldCk w1.heap.size w2.heap.size w3.heap.size (.int .i64 Mx.1) (.slice ax Mx.2.length cx) (.int .i64 My.1) (.slice ay My.2.length cy) (.int .i64 C.1) (.slice ac C.2.length cc) w5.drew := ⟨KVx5.out.cell 0 rfl, KVx5.out.cell 1 rfl, KVy5.out.cell 0 rfl, KVy5.out.cell 1 rfl, KVc5.out.cell 0 rfl, KVc5.out.cell 1 rfl⟩
    have l1 := KVx5.out.lt
    have l2 := KVy5.out.lt
    have l3 := KVc5.out.lt
    refine region_anyL (HeldCk w1.heap.size w2.heap.size w3.heap.size (.int .i64 Mx.1) (.slice ax Mx.2.length cx) (.int .i64 My.1) (.slice ay My.2.length cy) (.int .i64 C.1) (.slice ac C.2.length cc)) 1000 (by kernel_rfl) ?_
    refine anyL_take (i := 0) (v := ?v0_1) at0 (by kernel_rfl) (by kernel_rfl) (by kernel_rfl) (by kernel_rfl) (fun _ _ _ h => h) rfl ?y0_1 HS0 ?r0_1
    case y0_1 => intro wx hx; obtain ⟨h0, h1, h2, h3, h4, h5⟩ := hx; go_simp; try (with_reducible rfl)
    simp only [Act.put, List.setIfInBounds_toArray, List.set_cons_zero, List.set_cons_succ]
    refine anyL_take (i := 1) (v := ?v1_2) (atS at0) (by kernel_rfl) (by kernel_rfl) (by kernel_rfl) (by kernel_rfl) (fun _ _ _ h => h) rfl ?y1_2 HS0 ?r1_2
    case y1_2 => intro wx hx; obtain ⟨h0, h1, h2, h3, h4, h5⟩ := hx; go_simp; try (with_reducible rfl)
    simp only [Act.put, List.setIfInBounds_toArray, List.set_cons_zero, List.set_cons_succ]
    refine anyL_take (i := 2) (v := ?v2_3) (atS (atS at0)) (by kernel_rfl) (by kernel_rfl) (by kernel_rfl) (by kernel_rfl) (fun _ _ _ h => h) rfl ?y2_3 HS0 ?r2_3
    case y2_3 => intro wx hx; obtain ⟨h0, h1, h2, h3, h4, h5⟩ := hx; go_simp; try (with_reducible rfl)
    simp only [Act.put, List.setIfInBounds_toArray, List.set_cons_zero, List.set_cons_succ]
    refine anyL_takeG (i := 3) (v := ?v3_7) (atS (atS (atS at0))) (by kernel_rfl) (by kernel_rfl) (by kernel_rfl) (by kernel_rfl) (fun _ _ _ h => h) (by rfl) ?y3_7 HS0 ?r3_7
    case y3_7 => intro wx hx; obtain ⟨h0, h1, h2, h3, h4, h5⟩ := hx; go_simp; try (with_reducible rfl)
    simp only [Act.put, List.setIfInBounds_toArray, List.set_cons_zero, List.set_cons_succ]
    refine anyL_takeG (i := 4) (v := ?v4_8) (atS (atS (atS (atS at0)))) (by kernel_rfl) (by kernel_rfl) (by kernel_rfl) (by kernel_rfl) (fun _ _ _ h => h) (by rfl) ?y4_8 HS0 ?r4_8
    case y4_8 => intro wx hx; obtain ⟨h0, h1, h2, h3, h4, h5⟩ := hx; go_simp; try (with_reducible rfl)
    simp only [Act.put, List.setIfInBounds_toArray, List.set_cons_zero, List.set_cons_succ]
    refine anyL_takeG (i := 5) (v := ?v5_9) (atS (atS (atS (atS (atS at0))))) (by kernel_rfl) (by kernel_rfl) (by kernel_rfl) (by kernel_rfl) (fun _ _ _ h => h) (by rfl) ?y5_9 HS0 ?r5_9
    case y5_9 => intro wx hx; obtain ⟨h0, h1, h2, h3, h4, h5⟩ := hx; go_simp; try (with_reducible rfl)
    simp only [Act.put, List.setIfInBounds_toArray, List.set_cons_zero, List.set_cons_succ]
    refine anyL_takeG (i := 6) (v := ?v6_10) (atS (atS (atS (atS (atS (atS at0)))))) (by kernel_rfl) (by kernel_rfl) (by kernel_rfl) (by kernel_rfl) (fun _ _ _ h => h) (by rfl) ?y6_10 HS0 ?r6_10
    case y6_10 => intro wx hx; obtain ⟨h0, h1, h2, h3, h4, h5⟩ := hx; go_simp; try (with_reducible rfl)
    simp only [Act.put, List.setIfInBounds_toArray, List.set_cons_zero, List.set_cons_succ]
    refine anyL_take (i := 7) (v := ?v7_4) (atS (atS (atS (atS (atS (atS (atS at0))))))) (by kernel_rfl) (by kernel_rfl) (by kernel_rfl) (by kernel_rfl) (fun _ _ _ h => h) rfl ?y7_4 HS0 ?r7_4
    case y7_4 => intro wx hx; obtain ⟨h0, h1, h2, h3, h4, h5⟩ := hx; go_simp; try (with_reducible rfl)
    simp only [Act.put, List.setIfInBounds_toArray, List.set_cons_zero, List.set_cons_succ]
    refine anyL_take (i := 8) (v := ?v8_5) (atS (atS (atS (atS (atS (atS (atS (atS at0)))))))) (by kernel_rfl) (by kernel_rfl) (by kernel_rfl) (by kernel_rfl) (fun _ _ _ h => h) rfl ?y8_5 HS0 ?r8_5
    case y8_5 => intro wx hx; obtain ⟨h0, h1, h2, h3, h4, h5⟩ := hx; go_simp; try (with_reducible rfl)
    simp only [Act.put, List.setIfInBounds_toArray, List.set_cons_zero, List.set_cons_succ]
    refine anyL_takeG (i := 9) (v := ?v9_11) (atS (atS (atS (atS (atS (atS (atS (atS (atS at0))))))))) (by kernel_rfl) (by kernel_rfl) (by kernel_rfl) (by kernel_rfl) (fun _ _ _ h => h) (by rfl) ?y9_11 HS0 ?r9_11
    case y9_11 => intro wx hx; obtain ⟨h0, h1, h2, h3, h4, h5⟩ := hx; go_simp; try (with_reducible rfl)
    simp only [Act.put, List.setIfInBounds_toArray, List.set_cons_zero, List.set_cons_succ]
    refine anyL_takeG (i := 10) (v := ?v10_12) (atS (atS (atS (atS (atS (atS (atS (atS (atS (atS at0)))))))))) (by kernel_rfl) (by kernel_rfl) (by kernel_rfl) (by kernel_rfl) (fun _ _ _ h => h) (by rfl) ?y10_12 HS0 ?r10_12
    case y10_12 => intro wx hx; obtain ⟨h0, h1, h2, h3, h4, h5⟩ := hx; go_simp; try (with_reducible rfl)
    simp only [Act.put, List.setIfInBounds_toArray, List.set_cons_zero, List.set_cons_succ]
    refine anyL_takeG (i := 11) (v := ?v11_13) (atS (atS (atS (atS (atS (atS (atS (atS (atS (atS (atS at0))))))))))) (by kernel_rfl) (by kernel_rfl) (by kernel_rfl) (by kernel_rfl) (fun _ _ _ h => h) (by rfl) ?y11_13 HS0 ?r11_13
    case y11_13 => intro wx hx; obtain ⟨h0, h1, h2, h3, h4, h5⟩ := hx; go_simp; try (with_reducible rfl)
    simp only [Act.put, List.setIfInBounds_toArray, List.set_cons_zero, List.set_cons_succ]
    refine anyL_takeG (i := 13) (v := ?v13_14) (atS (atS (atS (atS (atS (atS (atS (atS (atS (atS (atS (atS (atS at0))))))))))))) (by kernel_rfl) (by kernel_rfl) (by kernel_rfl) (by kernel_rfl) (fun _ _ _ h => h) (by rfl) ?y13_14 HS0 ?r13_14
    case y13_14 => intro wx hx; obtain ⟨h0, h1, h2, h3, h4, h5⟩ := hx; go_simp; try (with_reducible rfl)
    simp only [Act.put, List.setIfInBounds_toArray, List.set_cons_zero, List.set_cons_succ]
    refine anyL_takeG (i := 14) (v := ?v14_15) (atS (atS (atS (atS (atS (atS (atS (atS (atS (atS (atS (atS (atS (atS at0)))))))))))))) (by kernel_rfl) (by kernel_rfl) (by kernel_rfl) (by kernel_rfl) (fun _ _ _ h => h) (by rfl) ?y14_15 HS0 ?r14_15
    case y14_15 => intro wx hx; obtain ⟨h0, h1, h2, h3, h4, h5⟩ := hx; go_simp; try (with_reducible rfl)
    simp only [Act.put, List.setIfInBounds_toArray, List.set_cons_zero, List.set_cons_succ]
    refine anyL_takeG (i := 15) (v := ?v15_16) (atS (atS (atS (atS (atS (atS (atS (atS (atS (atS (atS (atS (atS (atS (atS at0))))))))))))))) (by kernel_rfl) (by kernel_rfl) (by kernel_rfl) (by kernel_rfl) (fun _ _ _ h => h) (by rfl) ?y15_16 HS0 ?r15_16
    case y15_16 => intro wx hx; obtain ⟨h0, h1, h2, h3, h4, h5⟩ := hx; go_simp; try (with_reducible rfl)
    simp only [Act.put, List.setIfInBounds_toArray, List.set_cons_zero, List.set_cons_succ]
    refine anyL_takeG (i := 16) (v := ?v16_17) (atS (atS (atS (atS (atS (atS (atS (atS (atS (atS (atS (atS (atS (atS (atS (atS at0)))))))))))))))) (by kernel_rfl) (by kernel_rfl) (by kernel_rfl) (by kernel_rfl) (fun _ _ _ h => h) (by rfl) ?y16_17 HS0 ?r16_17
    case y16_17 => intro wx hx; obtain ⟨h0, h1, h2, h3, h4, h5⟩ := hx; go_simp; try (with_reducible rfl)
    simp only [Act.put, List.setIfInBounds_toArray, List.set_cons_zero, List.set_cons_succ]
    refine anyL_oneG (i := 12) (atS (atS (atS (atS (atS (atS (atS (atS (atS (atS (atS (atS at0)))))))))))) (by kernel_rfl) (by rfl) (fun K hK => ?_)
    go_simp
    refine (HCc.out _ _ _ _ ((HMc.out.later Hc5.out (Nat.le_refl _)).later ((Below.refl w5.heap.size w5).drew) (Nat.le_refl _)) ((HNv.out.later Hv5.out (Nat.le_refl _)).later ((Below.refl w5.heap.size w5).drew) (Nat.le_refl _)) ((HNt.out.later (Below.refl _ _) (Nat.le_refl _)).later ((Below.refl w5.heap.size w5).drew) (Nat.le_refl _))).mono ?_
    rintro e w8 ⟨nc, rfl, hq8, hb8⟩
    have hb8' : Below w5.heap.size w5 w8 := below_undrewX hb8
    have HS8 : HeldCk w1.heap.size w2.heap.size w3.heap.size (.int .i64 Mx.1) (.slice ax Mx.2.length cx) (.int .i64 My.1) (.slice ay My.2.length cy) (.int .i64 C.1) (.slice ac C.2.length cc) w8 := HeldCk.later HS0 hb8 l1 l2 l3
    have HQ8 := hidP hq8
    have HB8 := hidP hb8'
    have HBW := hidP (HB5.out.trans (hb8'.mono HB5.out.size))
    refine hK _ _ (.inr HS8) ?_
    try simp only [Act.put, List.setIfInBounds_toArray, List.set_cons_zero, List.set_cons_succ]
    clear hq8 hb8 hb8' HS0
    refine anyL_oneG (i := 17) (atS (atS (atS (atS (atS (atS (atS (atS (atS (atS (atS (atS (atS (atS (atS (atS (atS at0))))))))))))))))) (by kernel_rfl) (by rfl) (fun K hK => ?_)
    go_simp
    refine (HTG.out _ _ _ _ _ ((HMx.out.later Hx5.out (Nat.le_refl _)).later HB8.out (Nat.le_refl _)) ((HMy.out.later Hy5.out (Nat.le_refl _)).later HB8.out (Nat.le_refl _)) ((HNv.out.later Hv5.out (Nat.le_refl _)).later HB8.out (Nat.le_refl _)) ((HNt.out.later (Below.refl _ _) (Nat.le_refl _)).later HB8.out (Nat.le_refl _))).mono ?_
    rintro e w9 ⟨nt, rfl, hq9, hb9⟩
    have e9 := HFC.out _ _ HQ8.out hq9
    have s8 := HB8.out.size
    have HS9 : HeldCk w1.heap.size w2.heap.size w3.heap.size (.int .i64 Mx.1) (.slice ax Mx.2.length cx) (.int .i64 My.1) (.slice ay My.2.length cy) (.int .i64 C.1) (.slice ac C.2.length cc) w9 := HeldCk.later HS8 hb9 (by omega) (by omega) (by omega)
    have HBX := hidP (HBW.out.trans (hb9.mono HBW.out.size))
    subst e9
    refine hK _ _ (.inr HS9) ?_
    try simp only [Act.put, List.setIfInBounds_toArray, List.set_cons_zero, List.set_cons_succ]
    clear hq9 hb9 HS8
    refine anyL_takeG (i := 18) (v := ?v18_18) (atS (atS (atS (atS (atS (atS (atS (atS (atS (atS (atS (atS (atS (atS (atS (atS (atS (atS at0)))))))))))))))))) (by kernel_rfl) (by kernel_rfl) (by kernel_rfl) (by kernel_rfl) (fun _ _ _ h => h) (by rfl) ?y18_18 HS9 ?r18_18
    case y18_18 => intro wx hx; obtain ⟨h0, h1, h2, h3, h4, h5⟩ := hx; go_simp; try (with_reducible rfl)
    simp only [Act.put, List.setIfInBounds_toArray, List.set_cons_zero, List.set_cons_succ]
    refine anyL_take (i := 19) (v := ?v19_6) (atS (atS (atS (atS (atS (atS (atS (atS (atS (atS (atS (atS (atS (atS (atS (atS (atS (atS (atS at0))))))))))))))))))) (by kernel_rfl) (by kernel_rfl) (by kernel_rfl) (by kernel_rfl) (fun _ _ _ h => h) rfl ?y19_6 HS9 ?r19_6
    case y19_6 => intro wx hx; obtain ⟨h0, h1, h2, h3, h4, h5⟩ := hx; go_simp; try (with_reducible rfl)
    simp only [Act.put, List.setIfInBounds_toArray, List.set_cons_zero, List.set_cons_succ]
    refine anyL_one (i := 20) (atS (atS (atS (atS (atS (atS (atS (atS (atS (atS (atS (atS (atS (atS (atS (atS (atS (atS (atS (atS at0)))))))))))))))))))) (by kernel_rfl) rfl (fun K hK => ?_)
    go_simp
    refine hK _ _ (.inr HS9) (anyL_done (by kernel_rfl) (NoPanic.normal ?_))
    try simp only [Act.put, List.setIfInBounds_toArray, List.set_cons_zero, List.set_cons_succ]
    clear HS9
    try go_wp2
    go_ret
    exact ⟨rfl, HBX.out⟩
theorem walk (vx : Value) (rx : Rw) (vy : Value) (ry : Rw) (a2 : Option Addr) (len2 cap2 : Nat) (z2 : List Int) (a3 : Option Addr) (len3 cap3 : Nat) (z3 : List Int) (w : World) (hx : RawV w vx rx ∧ okR rx ∧ wfR rx) (hy : RawV w vy ry ∧ okR ry ∧ wfR ry) (w2 : IsRow .i64 w a2 len2 cap2 z2 ∧ cap2 * 8 ≤ 140737488351232) (w3 : IsRow .i64 w a3 len3 cap3 z3 ∧ cap3 * 8 ≤ 140737488351232) :
    Calls Try.prog 5 #[vx, vy, .slice a2 len2 cap2, .slice a3 len3 cap3] w fun e w' => e = .returned (.bool true) ∧ Below w.heap.size w w' := by
  obtain ⟨p2, _, _⟩ := row_nums w2.1
  obtain ⟨p3, _, _⟩ := row_nums w3.1
  exact core vx rx vy ry _ _ _ _ w hx hy p2 (row_wf w2.1) p3 (row_wf w3.1)

set_option maxRecDepth 100000 in
theorem lifted (os : Os) (started : os.Started) (H : Type) (enc : TypeId × Value → H) :
    ReturnsInHanded {} Try.checked os 5 .any (Rows.composeKeepsSpec.pre6 enc Try.prog Try.f5 Rows.composeKeepsRow.domain false) (Rows.composeKeepsSpec.post enc Try.prog Try.f5 false true false false) := by
  refine returnsInHanded_of_change_sized (C := Try.checked) own started (by kernel_rfl) Try.func5
    (ChangeSpec.witness6 (enc := enc) (C := Try.checked) false ⟨#[], #[.agg #[.int .i64 0, .slice none 0 0], .agg #[.int .i64 0, .slice none 0 0], .slice none 0 0, .slice none 0 0], []⟩ 8 (by kernel_rfl) (by kernel_rfl) (by kernel_rfl) (by kernel_rfl)) ?_
  intro W base args ds gs before hval0 hW hcnd hsz0 _
  have hsz : (DataW.weightsEach Try.prog (Try.f5.params.toList ++ Rows.composeKeepsSpec.plain.varTypes Try.prog) (ds ++ gs)).all (· ≤ reachBytes) = true := hsz0
  have hval : ∀ (j : Nat) t v, Try.f5.params[j]? = some t → args[j]? = some v → Value.okWide Try.prog W .any base t v := hval0
  clear hval0 hsz0
  have hW' := hW
  obtain ⟨p, q, hA0, hV, rfl, hfz, hnd⟩ := hW
  have hA : DataW.TrodAll enc Try.prog W 0 (fun _ => true) true Try.f5.params.toList args.toList ds p := hA0
  rw [Try.params5] at hA hval hsz
  obtain ⟨v0, vs0, d0, ds0, p0, q0, hargs, rfl, rfl, h0, r0⟩ := trodAll_cons hA
  obtain ⟨v1, vs1, d1, ds1, p1, q1, rfl, rfl, rfl, h1, r1⟩ := trodAll_cons r0
  obtain ⟨v2, vs2, d2, ds2, p2, q2, rfl, rfl, rfl, h2, r2⟩ := trodAll_cons r1
  obtain ⟨v3, vs3, d3, ds3, p3, q3, rfl, rfl, rfl, h3, r3⟩ := trodAll_cons r2
  obtain ⟨rfl, rfl, rfl⟩ := trodAll_nil r3
  obtain rfl : args = #[v0, v1, v2, v3] := by cases args; simp_all
  obtain ⟨rfl, rfl⟩ := trodVars_none hV
  have k0 := h0
  have lt0 : ∀ x ∈ p0, x.block < W.heap.size := by obtain ⟨m, hm⟩ := k0; exact DataW.trod_lt m _ _ _ hm
  obtain ⟨z0, w0⟩ : ∃ m : Rw, RawV W v0 m ∧ okR m ∧ wfR m := by
    obtain ⟨c0, c1, y0, y1, n, rfl, hd, hp, t0, t1⟩ := Go.Joins.open_agg2 Try.underlying39 (by kernel_rfl) (by kernel_rfl) (hval 0 39 v0 rfl rfl) h0
    subst hd
    exact open_raw t0 t1 ((Fits.arg hsz (j := 0) rfl rfl).field Try.underlying39 (f := 1) rfl rfl)
  have k1 := h1
  have lt1 : ∀ x ∈ p1, x.block < W.heap.size := by obtain ⟨m, hm⟩ := k1; exact DataW.trod_lt m _ _ _ hm
  obtain ⟨z1, w1⟩ : ∃ m : Rw, RawV W v1 m ∧ okR m ∧ wfR m := by
    obtain ⟨c0, c1, y0, y1, n, rfl, hd, hp, t0, t1⟩ := Go.Joins.open_agg2 Try.underlying39 (by kernel_rfl) (by kernel_rfl) (hval 1 39 v1 rfl rfl) h1
    subst hd
    exact open_raw t0 t1 ((Fits.arg hsz (j := 1) rfl rfl).field Try.underlying39 (f := 1) rfl rfl)
  obtain ⟨a2, len2, cap2, rfl⟩ := okWide_slice Try.underlying40 (hval 2 40 v2 rfl rfl)
  have k2 := h2
  have lt2 : ∀ x ∈ p2, x.block < W.heap.size := by obtain ⟨m, hm⟩ := k2; exact DataW.trod_lt m _ _ _ hm
  obtain ⟨z2, w2⟩ : ∃ zs, IsRow .i64 W a2 len2 cap2 zs ∧ cap2 * 8 ≤ 140737488351232 := by
    obtain ⟨fuel, hf⟩ := h2
    rcases open_ints Try.underlying40 Try.underlying3 (by kernel_rfl) hf with ⟨hcs, _⟩ | ⟨x, l, c, zs, hcs, _, hl, hm, hz, hx, hcell, hwz⟩
    · simp [Value.cells] at hcs
      obtain ⟨rfl, rfl, rfl⟩ := hcs
      exact ⟨[], .inl ⟨rfl, rfl, rfl, rfl⟩, by omega⟩
    · have hd := congrArg Prod.fst hx
      have hsw := sized_slice hsz (j := 2) (t := 40) (e := 3) rfl (congrArg some hd) Try.underlying40
      have hby : Try.prog.bytesOf 3 = 8 := by kernel_rfl
      rw [hby] at hsw
      simp [Value.cells] at hcs
      obtain ⟨rfl, rfl, rfl⟩ := hcs
      have hz' : zs.length = cap2 := by simpa using hz
      simp only [lits, List.length_map, List.length_take, List.length_drop, reachBytes] at hsw
      exact ⟨zs, .inr ⟨_, rfl, hl, hm, hz', hcell, hwz⟩, by omega⟩
  obtain ⟨a3, len3, cap3, rfl⟩ := okWide_slice Try.underlying40 (hval 3 40 v3 rfl rfl)
  have k3 := h3
  have lt3 : ∀ x ∈ p3, x.block < W.heap.size := by obtain ⟨m, hm⟩ := k3; exact DataW.trod_lt m _ _ _ hm
  obtain ⟨z3, w3⟩ : ∃ zs, IsRow .i64 W a3 len3 cap3 zs ∧ cap3 * 8 ≤ 140737488351232 := by
    obtain ⟨fuel, hf⟩ := h3
    rcases open_ints Try.underlying40 Try.underlying3 (by kernel_rfl) hf with ⟨hcs, _⟩ | ⟨x, l, c, zs, hcs, _, hl, hm, hz, hx, hcell, hwz⟩
    · simp [Value.cells] at hcs
      obtain ⟨rfl, rfl, rfl⟩ := hcs
      exact ⟨[], .inl ⟨rfl, rfl, rfl, rfl⟩, by omega⟩
    · have hd := congrArg Prod.fst hx
      have hsw := sized_slice hsz (j := 3) (t := 40) (e := 3) rfl (congrArg some hd) Try.underlying40
      have hby : Try.prog.bytesOf 3 = 8 := by kernel_rfl
      rw [hby] at hsw
      simp [Value.cells] at hcs
      obtain ⟨rfl, rfl, rfl⟩ := hcs
      have hz' : zs.length = cap3 := by simpa using hz
      simp only [lits, List.length_map, List.length_take, List.length_drop, reachBytes] at hsw
      exact ⟨zs, .inr ⟨_, rfl, hl, hm, hz', hcell, hwz⟩, by omega⟩
  refine (walk v0 z0 v1 z1 a2 len2 cap2 z2 a3 len3 cap3 z3 W w0 w1 w2 w3).mono fun e W' ⟨he, bel⟩ => ?_
  subst he
  exact ⟨_, rfl, _, _, _, [], _, [], hW', trodAll_mk1 (shut_bool Try.underlying4 _), (trodAll_cons_mk (Below.trod laidOut (by kernel_rfl) (of_decide_eq_true (by kernel_rfl)) k0 bel lt0) (trodAll_cons_mk (Below.trod laidOut (by kernel_rfl) (of_decide_eq_true (by kernel_rfl)) k1 bel lt1) (trodAll_cons_mk (Below.trod laidOut (by kernel_rfl) (of_decide_eq_true (by kernel_rfl)) k2 bel lt2) (trodAll_cons_mk (Below.trod laidOut (by kernel_rfl) (of_decide_eq_true (by kernel_rfl)) k3 bel lt3) trodAll_mk0)))), rfl, bel.frame _, fun h => by cases h⟩
end Go.Proofs.Ythcfkiinjcbajaa.composeKeeps
namespace Go.Proofs.Ythcfkiinjcbajaa
theorem composeKeeps_holds : Rows.ComposeKeepsSaid :=
  OpenClaim.holds_of_wide 5 Try.f5 rfl rfl rfl rfl rfl rfl rfl ⟨rfl, rfl, rfl, rfl, rfl⟩ rfl rfl rfl rfl rfl (by kernel_rfl) Try.func5 (by kernel_rfl)
    (of_decide_eq_true (by kernel_rfl)) (by unfold Func.isWrapper; first | (rw [if_pos (by decide +kernel)]; kernel_rfl) | (rw [if_neg (by decide +kernel)]; exact ⟨rfl, rfl⟩))
    (fun os started H enc _ => composeKeeps.lifted os started H enc)
#print axioms composeKeeps_holds
end Go.Proofs.Ythcfkiinjcbajaa
