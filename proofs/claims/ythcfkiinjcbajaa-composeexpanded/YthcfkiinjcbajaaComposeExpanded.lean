/- The statement ComposeExpanded: whatever numbers two machines and a way are made of, a walk along hops meets in the composed machine just what was expanded, or composed they are too large, for every input and without any condition. -/
import Derived.Test.YthcfkiinjcbajaaMd
import Derived.Test.YthcfkiinjcbajaaJ16p
import Derived.Test.YthcfkiinjcbajaaKj
import Derived.Test.YthcfkiinjcbajaaJ16q
import Derived.Test.YthcfkiinjcbajaaCx
import Derived.Test.YthcfkiinjcbajaaJ16m
import Derived.Test.YthcfkiinjcbajaaJ16f
import Derived.Test.YthcfkiinjcbajaaJ16e
import Derived.Test.YthcfkiinjcbajaaLo
import Derived.Lib.SmallJoins
import Derived.BigQuiet
import Derived.ChangeOld
import Derived.Below
namespace Go.Proofs.Ythcfkiinjcbajaa.composeExpanded
open Go.ChangeShapes Go.WideShapes Go.ChangeAt Go.RowKit
open Go.Proofs.Ythcfkiinjcbajaa.Pl Go.Proofs.Ythcfkiinjcbajaa.Wt
set_option linter.unusedVariables false
set_option linter.unusedSimpArgs false

theorem own : ownKnob Try.prog.godebug = none := by kernel_rfl
theorem laidOut : laidOutB Try.prog = true := by kernel_rfl
set_option maxRecDepth 100000 in
set_option maxHeartbeats 6400000 in
theorem core (vx : Value) (rx : Rw) (vy : Value) (ry : Rw) (vv : Value) (zv : List Int) (w : World) (hx : RawV w vx rx ∧ okR rx ∧ wfR rx) (hy : RawV w vy ry ∧ okR ry ∧ wfR ry) (hzv : Nums w vv zv) (hwv : ∀ n ∈ zv, (Lit.int .i64 n).wf = true) :
    Calls Try.prog 8 #[vx, vy, vv] w fun e w' => e = .returned (.bool true) ∧ Below w.heap.size w w' := by
  obtain ⟨hx, hokx, hwfx⟩ := hx
  have HIx : Hid (RawV w vx rx) := hx
  have HOKx : Hid (okR rx) := hokx
  have HWFx : Hid (wfR rx) := hwfx
  obtain ⟨hfx, hcx, hlx, hax, hpx⟩ := made_facts rx 4 (by omega) (by omega)
  have HEx : Hid (∀ v W, RawV W v rx → okR rx → wfR rx → Calls Try.prog 16 #[v, .int .i64 4, .bool false] W fun e w' => ∃ v', e = .returned v' ∧ Mach w' v' (madeM rx 4 false) ∧ Below W.heap.size W w') := fun v W h1 h2 h3 => made_any v rx 4 false W h1 h2 h3 (by omega) (by omega)
  obtain ⟨vs0x, rfl, hNx⟩ := hx
  obtain ⟨a0x, c0x, rfl, hNxx⟩ := hNx.get
  clear hNx hNxx hokx hwfx
  obtain ⟨hy, hoky, hwfy⟩ := hy
  have HIy : Hid (RawV w vy ry) := hy
  have HOKy : Hid (okR ry) := hoky
  have HWFy : Hid (wfR ry) := hwfy
  obtain ⟨hfy, hcy, hly, hay, hpy⟩ := made_facts ry 4 (by omega) (by omega)
  have HEy : Hid (∀ v W, RawV W v ry → okR ry → wfR ry → Calls Try.prog 16 #[v, .int .i64 4, .bool false] W fun e w' => ∃ v', e = .returned v' ∧ Mach w' v' (madeM ry 4 false) ∧ Below W.heap.size W w') := fun v W h1 h2 h3 => made_any v ry 4 false W h1 h2 h3 (by omega) (by omega)
  obtain ⟨vs0y, rfl, hNy⟩ := hy
  obtain ⟨a0y, c0y, rfl, hNxy⟩ := hNy.get
  clear hNy hNxy hoky hwfy
  have zx := made_ge rx 4 false (by omega)
  have zy := made_ge ry 4 false (by omega)
  have HZv := hidP hzv
  have HWv := hidP hwv
  clear hzv hwv
  rcases cmp_two (by omega) (by omega) (by omega) (made_low rx 4) (made_low ry 4) hfx hfy zx zy with ec | ⟨C, ec, fc, pc, z9C, l9C, cc⟩
  · obtain ⟨Z, hZ, t9c, kZ⟩ : ∃ Z : Mc, (0, []) = Z ∧ ((Z.2.length : Int) == 0) = true ∧ okM Z := ⟨_, rfl, rfl, by simp, fun j hj => absurd hj (by simp)⟩
    rw [hZ] at ec
    clear hZ
    have HUc : Hid (∀ W v u, Mach W v (madeM rx 4 false) → Mach W u (madeM ry 4 false) → Calls Try.prog 14 #[v, u] W fun e w' => RatRes Z 5 W e w') := fun W v u h1 h2 => by
      have := composeP_any v u _ _ W h1 (right_ok hfx) h2 (right_ok hfy)
      rw [ec] at this
      exact this
    clear hfx hcx hlx hax hpx hfy hcy hly hay hpy zx zy ec
    generalize madeM rx 4 false = Mx at *
    generalize madeM ry 4 false = My at *
    obtain ⟨avz, cvz, rfl, _⟩ := HZv.out.get
    have HB0 : Hid (∀ o1 o2, Below w.heap.size w ((w.alloc o1).alloc o2)) := fun o1 o2 => ((Below.refl _ _).alloc (Nat.le_refl _) _).alloc (by simp) _
    try clear kZ
    try clear z9C l9C
    try clear z9K l9K
    try clear z9P l9P
    try clear z9R l9R
    try clear z9D l9D
    go_enter Try.func8, Try.ntmps8
    go_wp2_with (first
      | (go_at_call 16; (with_reducible refine (HEx.out _ _ (HIx.out.later (HB0.out _ _) (Nat.le_refl _)) HOKx.out HWFx.out).mono ?_); rintro e w1 ⟨v1, rfl, hm, hb⟩; have HMx : Hid (Mach w1 v1 (Mx)) := hm; obtain ⟨vsx, rfl, hSx⟩ := hm; obtain ⟨ax, cx, rfl⟩ := hSx.sl; clear hSx; obtain ⟨s1, bb0, bb1, hb1⟩ := boxedTwo hb (by simp); have KX1 := hidP bb0; have KY1 := hidP bb1; clear bb0 bb1; have HB1 := hidP hb1; have qX0 := (KX1.out.alloc (.cells #[.int .i64 Mx.1, .slice ax Mx.2.length cx] 24)).cell 0 (v := .int .i64 rx.1) rfl; have qX1 := (KX1.out.alloc (.cells #[.int .i64 Mx.1, .slice ax Mx.2.length cx] 24)).cell 1 (v := .slice a0x rx.2.length c0x) rfl; have qY0 := (KY1.out.alloc (.cells #[.int .i64 Mx.1, .slice ax Mx.2.length cx] 24)).cell 0 (v := .int .i64 ry.1) rfl; have qY1 := (KY1.out.alloc (.cells #[.int .i64 Mx.1, .slice ax Mx.2.length cx] 24)).cell 1 (v := .slice a0y ry.2.length c0y) rfl; clear hb hb1)
      | (go_at_call 16; (with_reducible refine (HEy.out _ _ (HIy.out.later (HB1.out.alloc HB1.out.size _) (Nat.le_refl _)) HOKy.out HWFy.out).mono ?_); rintro e w2 ⟨v2, rfl, hm, hb⟩; have HMy : Hid (Mach w2 v2 (My)) := hm; obtain ⟨vsy, rfl, hSy⟩ := hm; obtain ⟨ay, cy, rfl⟩ := hSy.sl; clear hSy; obtain ⟨s2, bb0, hb2⟩ := boxed hb (by simp); have KVx2 := hidP bb0; clear bb0; have HB2 := hidP (HB1.out.trans (hb2.mono HB1.out.size)); have KX2 := hidP (KX1.out.below hb2 KX1.out.lt); have KY2 := hidP (KY1.out.below hb2 KY1.out.lt); have Hx2 := hidP hb2; have qX0 := (KX2.out.alloc (.cells #[.int .i64 My.1, .slice ay My.2.length cy] 24)).cell 0 (v := .int .i64 rx.1) rfl; have qX1 := (KX2.out.alloc (.cells #[.int .i64 My.1, .slice ay My.2.length cy] 24)).cell 1 (v := .slice a0x rx.2.length c0x) rfl; have qY0 := (KY2.out.alloc (.cells #[.int .i64 My.1, .slice ay My.2.length cy] 24)).cell 0 (v := .int .i64 ry.1) rfl; have qY1 := (KY2.out.alloc (.cells #[.int .i64 My.1, .slice ay My.2.length cy] 24)).cell 1 (v := .slice a0y ry.2.length c0y) rfl; have qVx0 := (KVx2.out.alloc (.cells #[.int .i64 My.1, .slice ay My.2.length cy] 24)).cell 0 (v := .int .i64 Mx.1) rfl; have qVx1 := (KVx2.out.alloc (.cells #[.int .i64 My.1, .slice ay My.2.length cy] 24)).cell 1 (v := .slice ax Mx.2.length cx) rfl; clear hb hb2)
      | (go_at_call 14; (with_reducible refine (HUc.out _ _ _ (HMx.out.later (Hx2.out.alloc Hx2.out.size _) (Nat.le_refl _)) (HMy.out.later ((Below.refl _ _).alloc (Nat.le_refl _) _) (Nat.le_refl _))).mono ?_); rintro e w3 ⟨v3, rfl, hm, hb⟩; have HMc : Hid (Mach w3 v3 (Z)) := hm; obtain ⟨vsc, rfl, hSc⟩ := hm; obtain ⟨ac, cc, rfl⟩ := hSc.sl; clear hSc; obtain ⟨s3, bb0, hb3⟩ := boxed hb (by simp); have KVy3 := hidP bb0; clear bb0; have HB3 := hidP (HB2.out.trans (hb3.mono HB2.out.size)); have KX3 := hidP (KX2.out.below hb3 KX2.out.lt); have KY3 := hidP (KY2.out.below hb3 KY2.out.lt); have KVx3 := hidP (KVx2.out.below hb3 KVx2.out.lt); have Hx3 := hidP (Hx2.out.trans (hb3.mono Hx2.out.size)); have Hy3 := hidP hb3; have qX0 := (KX3.out.alloc (.cells #[.int .i64 Z.1, .slice ac Z.2.length cc] 24)).cell 0 (v := .int .i64 rx.1) rfl; have qX1 := (KX3.out.alloc (.cells #[.int .i64 Z.1, .slice ac Z.2.length cc] 24)).cell 1 (v := .slice a0x rx.2.length c0x) rfl; have qY0 := (KY3.out.alloc (.cells #[.int .i64 Z.1, .slice ac Z.2.length cc] 24)).cell 0 (v := .int .i64 ry.1) rfl; have qY1 := (KY3.out.alloc (.cells #[.int .i64 Z.1, .slice ac Z.2.length cc] 24)).cell 1 (v := .slice a0y ry.2.length c0y) rfl; have qVx0 := (KVx3.out.alloc (.cells #[.int .i64 Z.1, .slice ac Z.2.length cc] 24)).cell 0 (v := .int .i64 Mx.1) rfl; have qVx1 := (KVx3.out.alloc (.cells #[.int .i64 Z.1, .slice ac Z.2.length cc] 24)).cell 1 (v := .slice ax Mx.2.length cx) rfl; have qVy0 := (KVy3.out.alloc (.cells #[.int .i64 Z.1, .slice ac Z.2.length cc] 24)).cell 0 (v := .int .i64 My.1) rfl; have qVy1 := (KVy3.out.alloc (.cells #[.int .i64 Z.1, .slice ac Z.2.length cc] 24)).cell 1 (v := .slice ay My.2.length cy) rfl; clear hb hb3))
    go_ret
    exact ⟨rfl, (HB3.out.alloc HB3.out.size _)⟩
  · have HUc : Hid (∀ W v u, Mach W v (madeM rx 4 false) → Mach W u (madeM ry 4 false) → Calls Try.prog 14 #[v, u] W fun e w' => RatRes C 0 W e w') := fun W v u h1 h2 => by
      have := composeP_any v u _ _ W h1 (right_ok hfx) h2 (right_ok hfy)
      rw [ec] at this
      exact this
    obtain ⟨z8, Lt, hI⟩ := cpsA_done hfx hfy zx zy ec
    clear z8
    have h60 := (right_size (z := C.1) (l := C.2) fc).1
    have hLl : C.2.length = Lt.length := hI.len
    have HWK : Hid (∀ q, q < C.2.length → expE (madeM rx 4 false) (madeM ry 4 false) (el Lt q) = 0 ∧ el C.2 q = (finTr (madeM rx 4 false) (madeM ry 4 false) (el Lt q), (expT (madeM rx 4 false) (madeM ry 4 false) (el Lt q)).map (arcTr Lt)) ∧ ∀ i, i < (expT (madeM rx 4 false) (madeM ry 4 false) (el Lt q)).length →
        ∃ p : Nat, p < C.2.length ∧ (el (el C.2 q).2 i).2.2.2 = (p : Int) ∧ el Lt p = (el (expT (madeM rx 4 false) (madeM ry 4 false) (el Lt q)) i).2.2.2 ∧ (el (el C.2 q).2 i).1 = (el (expT (madeM rx 4 false) (madeM ry 4 false) (el Lt q)) i).1 ∧ (el (el C.2 q).2 i).2.1 = (el (expT (madeM rx 4 false) (madeM ry 4 false) (el Lt q)) i).2.1 ∧ (el (el C.2 q).2 i).2.2.1 = (el (expT (madeM rx 4 false) (madeM ry 4 false) (el Lt q)) i).2.2.1) := fun q hq => by
      rw [hLl] at hq ⊢
      exact hI.walk hq
    have HST : Hid (el Lt 0 = ((madeM rx 4 false).1, (madeM ry 4 false).1, 0)) := by
      obtain ⟨E, hE⟩ := hI.start
      show _ = _
      rw [hE]; rfl
    have HAR : Hid (∀ q, q < C.2.length → (el C.2 q).2.length ≤ 400) := fun q hq => (right_states fc q hq).2.1
    have HEX : Hid (∀ W v u t, Mach W v (madeM rx 4 false) → Mach W u (madeM ry 4 false) → expE (madeM rx 4 false) (madeM ry 4 false) t = 0 → Calls Try.prog 10 #[v, u, .agg #[.int .i64 t.1, .int .i64 t.2.1, .int .i64 t.2.2]] W fun e w' => ∃ ah ch, e = .returned (.tuple #[.int .i64 (finTr (madeM rx 4 false) (madeM ry 4 false) t), .slice ah (expT (madeM rx 4 false) (madeM ry 4 false) t).length ch, .int .i64 0]) ∧ Hps w' (.slice ah (expT (madeM rx 4 false) (madeM ry 4 false) t).length ch) (expT (madeM rx 4 false) (madeM ry 4 false) t) ∧ Below W.heap.size W w') := fun W v u t h1 h2 h3 => (expandP_any v u _ _ t W h1 (right_ok hfx) h2 (right_ok hfy)).mono fun e w' hr => by
      obtain ⟨vr, he, hh, hb⟩ := hr
      unfold expF expR at *
      rw [if_pos h3] at he hh
      rw [h3] at he
      obtain ⟨ah, ch, hv, _⟩ := hh.get
      subst hv
      exact ⟨ah, ch, he, hh, hb⟩
    clear hfx hcx hlx hax hpx hfy hcy hly hay hpy zx zy ec fc cc hI hLl
    generalize madeM rx 4 false = Mx at *
    generalize madeM ry 4 false = My at *
    obtain ⟨avz, cvz, rfl, _⟩ := HZv.out.get
    have HB0 : Hid (∀ o1 o2, Below w.heap.size w ((w.alloc o1).alloc o2)) := fun o1 o2 => ((Below.refl _ _).alloc (Nat.le_refl _) _).alloc (by simp) _
    have t4 : ((C.2.length : Int) == 0) = false := by rw [beq_eq_false_iff_ne]; omega
    have t5 : (C.1 != 0) = false := by simp [z9C]
    have hpos : 0 < C.2.length := pc
    have HZC := hidP z9C
    clear z9C l9C pc
    obtain ⟨avw, cvw, hvw, hcv⟩ := HZv.out.get
    have HCV := hidP hcv
    clear hcv
    simp only [Value.slice.injEq, true_and] at hvw
    obtain ⟨rfl, rfl⟩ := hvw
    try clear kZ
    try clear z9C l9C
    try clear z9K l9K
    try clear z9P l9P
    try clear z9R l9R
    try clear z9D l9D
    go_enter Try.func8, Try.ntmps8
    go_wp2_with (first
      | (go_at_call 16; (with_reducible refine (HEx.out _ _ (HIx.out.later (HB0.out _ _) (Nat.le_refl _)) HOKx.out HWFx.out).mono ?_); rintro e w1 ⟨v1, rfl, hm, hb⟩; have HMx : Hid (Mach w1 v1 (Mx)) := hm; obtain ⟨vsx, rfl, hSx⟩ := hm; obtain ⟨ax, cx, rfl⟩ := hSx.sl; clear hSx; obtain ⟨s1, bb0, bb1, hb1⟩ := boxedTwo hb (by simp); have KX1 := hidP bb0; have KY1 := hidP bb1; clear bb0 bb1; have HB1 := hidP hb1; have qX0 := (KX1.out.alloc (.cells #[.int .i64 Mx.1, .slice ax Mx.2.length cx] 24)).cell 0 (v := .int .i64 rx.1) rfl; have qX1 := (KX1.out.alloc (.cells #[.int .i64 Mx.1, .slice ax Mx.2.length cx] 24)).cell 1 (v := .slice a0x rx.2.length c0x) rfl; have qY0 := (KY1.out.alloc (.cells #[.int .i64 Mx.1, .slice ax Mx.2.length cx] 24)).cell 0 (v := .int .i64 ry.1) rfl; have qY1 := (KY1.out.alloc (.cells #[.int .i64 Mx.1, .slice ax Mx.2.length cx] 24)).cell 1 (v := .slice a0y ry.2.length c0y) rfl; clear hb hb1)
      | (go_at_call 16; (with_reducible refine (HEy.out _ _ (HIy.out.later (HB1.out.alloc HB1.out.size _) (Nat.le_refl _)) HOKy.out HWFy.out).mono ?_); rintro e w2 ⟨v2, rfl, hm, hb⟩; have HMy : Hid (Mach w2 v2 (My)) := hm; obtain ⟨vsy, rfl, hSy⟩ := hm; obtain ⟨ay, cy, rfl⟩ := hSy.sl; clear hSy; obtain ⟨s2, bb0, hb2⟩ := boxed hb (by simp); have KVx2 := hidP bb0; clear bb0; have HB2 := hidP (HB1.out.trans (hb2.mono HB1.out.size)); have KX2 := hidP (KX1.out.below hb2 KX1.out.lt); have KY2 := hidP (KY1.out.below hb2 KY1.out.lt); have Hx2 := hidP hb2; have qX0 := (KX2.out.alloc (.cells #[.int .i64 My.1, .slice ay My.2.length cy] 24)).cell 0 (v := .int .i64 rx.1) rfl; have qX1 := (KX2.out.alloc (.cells #[.int .i64 My.1, .slice ay My.2.length cy] 24)).cell 1 (v := .slice a0x rx.2.length c0x) rfl; have qY0 := (KY2.out.alloc (.cells #[.int .i64 My.1, .slice ay My.2.length cy] 24)).cell 0 (v := .int .i64 ry.1) rfl; have qY1 := (KY2.out.alloc (.cells #[.int .i64 My.1, .slice ay My.2.length cy] 24)).cell 1 (v := .slice a0y ry.2.length c0y) rfl; have qVx0 := (KVx2.out.alloc (.cells #[.int .i64 My.1, .slice ay My.2.length cy] 24)).cell 0 (v := .int .i64 Mx.1) rfl; have qVx1 := (KVx2.out.alloc (.cells #[.int .i64 My.1, .slice ay My.2.length cy] 24)).cell 1 (v := .slice ax Mx.2.length cx) rfl; clear hb hb2)
      | (go_at_call 14; (with_reducible refine (HUc.out _ _ _ (HMx.out.later (Hx2.out.alloc Hx2.out.size _) (Nat.le_refl _)) (HMy.out.later ((Below.refl _ _).alloc (Nat.le_refl _) _) (Nat.le_refl _))).mono ?_); rintro e w3 ⟨v3, rfl, hm, hb⟩; have HMc : Hid (Mach w3 v3 (C)) := hm; obtain ⟨vsc, rfl, hSc⟩ := hm; obtain ⟨ac, cc, rfl⟩ := hSc.sl; clear hSc; obtain ⟨s3, bb0, hb3⟩ := boxed hb (by simp); have KVy3 := hidP bb0; clear bb0; have HB3 := hidP (HB2.out.trans (hb3.mono HB2.out.size)); have KX3 := hidP (KX2.out.below hb3 KX2.out.lt); have KY3 := hidP (KY2.out.below hb3 KY2.out.lt); have KVx3 := hidP (KVx2.out.below hb3 KVx2.out.lt); have Hx3 := hidP (Hx2.out.trans (hb3.mono Hx2.out.size)); have Hy3 := hidP hb3; have qX0 := (KX3.out.alloc (.cells #[.int .i64 C.1, .slice ac C.2.length cc] 24)).cell 0 (v := .int .i64 rx.1) rfl; have qX1 := (KX3.out.alloc (.cells #[.int .i64 C.1, .slice ac C.2.length cc] 24)).cell 1 (v := .slice a0x rx.2.length c0x) rfl; have qY0 := (KY3.out.alloc (.cells #[.int .i64 C.1, .slice ac C.2.length cc] 24)).cell 0 (v := .int .i64 ry.1) rfl; have qY1 := (KY3.out.alloc (.cells #[.int .i64 C.1, .slice ac C.2.length cc] 24)).cell 1 (v := .slice a0y ry.2.length c0y) rfl; have qVx0 := (KVx3.out.alloc (.cells #[.int .i64 C.1, .slice ac C.2.length cc] 24)).cell 0 (v := .int .i64 Mx.1) rfl; have qVx1 := (KVx3.out.alloc (.cells #[.int .i64 C.1, .slice ac C.2.length cc] 24)).cell 1 (v := .slice ax Mx.2.length cx) rfl; have qVy0 := (KVy3.out.alloc (.cells #[.int .i64 C.1, .slice ac C.2.length cc] 24)).cell 0 (v := .int .i64 My.1) rfl; have qVy1 := (KVy3.out.alloc (.cells #[.int .i64 C.1, .slice ac C.2.length cc] 24)).cell 1 (v := .slice ay My.2.length cy) rfl; clear hb hb3))
    have hNT : Below w3.heap.size w3 ((w3.alloc (.cells #[.int .i64 C.1, .slice ac C.2.length cc] 24)).alloc (.cells #[.int .i64 Mx.1, .int .i64 My.1, .int .i64 0] 26)) := ((Below.refl _ _).alloc (Nat.le_refl _) _).alloc (by simp) _
    have kT := Blk.made (w3.alloc (.cells #[.int .i64 C.1, .slice ac C.2.length cc] 24)) #[.int .i64 Mx.1, .int .i64 My.1, .int .i64 0] 26
    rw [World.size_alloc] at kT
    have kC := (Blk.made w3 #[.int .i64 C.1, .slice ac C.2.length cc] 24).alloc (.cells #[.int .i64 Mx.1, .int .i64 My.1, .int .i64 0] 26)
    have HT0 := hidP kT
    have HC0 := hidP kC
    have HN0 := hidP hNT
    clear kT kC hNT
    go_loopw [12, 13] (fun s12 s13 wr => ∃ (i q : Nat) (t : Tr), s12 = .int .i64 (q : Int) ∧ s13 = .int .i64 (i : Int) ∧ i ≤ zv.length ∧ q < C.2.length ∧ Hid (el Lt q = t) ∧ Hid (Blk wr (w3.heap.size + 1) #[.int .i64 t.1, .int .i64 t.2.1, .int .i64 t.2.2] 26) ∧ Hid (Blk wr w3.heap.size #[.int .i64 C.1, .slice ac C.2.length cc] 24) ∧ Hid (Below w3.heap.size w3 wr)) (fun _ s13 _ => zv.length - (intOf s13).toNat)
    case atStart => exact ⟨0, 0, (Mx.1, My.1, 0), rfl, rfl, Nat.zero_le _, hpos, HST, HT0, HC0, HN0⟩
    case round =>
      clear HT0 HC0 HN0
      obtain ⟨i, q, t, rfl, rfl, hi, hq, het, hT, hC, hb⟩ := hrel
      obtain ⟨w4, hw4⟩ : ∃ w4, w4 = wr := ⟨_, rfl⟩
      subst hw4
      have sT := hT.out.lt
      have x0 := (KVx3.out.below hb.out KVx3.out.lt).cell 0 (v := .int .i64 Mx.1) rfl
      have x1 := (KVx3.out.below hb.out KVx3.out.lt).cell 1 (v := .slice ax Mx.2.length cx) rfl
      have y0 := (KVy3.out.below hb.out KVy3.out.lt).cell 0 (v := .int .i64 My.1) rfl
      have y1 := (KVy3.out.below hb.out KVy3.out.lt).cell 1 (v := .slice ay My.2.length cy) rfl
      have u0 := hT.out.cell 0 (v := .int .i64 t.1) rfl
      have u1 := hT.out.cell 1 (v := .int .i64 t.2.1) rfl
      have u2 := hT.out.cell 2 (v := .int .i64 t.2.2) rfl
      have c1 := hC.out.cell 1 (v := .slice ac C.2.length cc) rfl
      clear qX0 qX1 qY0 qY1 qVx0 qVx1 qVy0 qVy1
      by_cases hlt : i < zv.length
      · have i1 : (i : Int) < (zv.length : Int) := by omega
        have i1d : decide ((i : Int) < (zv.length : Int)) = true := decide_eq_true i1
        by_cases h40 : i < 40
        · have i2 : (i : Int) < 40 := by omega
          have i2d : decide ((i : Int) < 40) = true := decide_eq_true i2
          have i0 : (0 : Int) ≤ (i : Int) := by omega
          have q0 : (0 : Int) ≤ (q : Int) := by omega
          have q1 : (q : Int) < (C.2.length : Int) := by omega
          obtain ⟨we, ws, wa⟩ := HWK.out q hq
          rw [het.out] at we ws wa
          have HE := hidP (HEX.out w4 _ _ t (HMx.out.later (Hx3.out.trans (hb.out.mono Hx3.out.size)) (Nat.le_refl _)) (HMy.out.later (Hy3.out.trans (hb.out.mono Hy3.out.size)) (Nat.le_refl _)) we)
          obtain ⟨vsC, hvC, hSC⟩ := HMc.out
          simp only [Value.agg.injEq, Array.mk.injEq, List.cons.injEq, and_true, true_and] at hvC
          subst hvC
          obtain ⟨a9, c9, hv9, hcc⟩ := hSC.get
          simp only [Value.slice.injEq, true_and] at hv9
          obtain ⟨rfl, rfl⟩ := hv9
          obtain ⟨bs, os, va, rfl, hbs, g0, g1, gA⟩ := hcc q hq
          have hl4 := HAR.out q hq
          have g0 := (hb.out.cell (p := ⟨bs, os + q * 2, none⟩) hbs).trans g0
          have g1 := (hb.out.cell (p := ⟨bs, os + q * 2 + 1, none⟩) hbs).trans g1
          obtain ⟨aA, cA, hvA, hcA⟩ := gA.get
          subst hvA
          have HCA := hidP hcA
          have hfin : (el C.2 q).1 = finTr Mx My t := by rw [ws]
          have hlen : (el C.2 q).2.length = (expT Mx My t).length := by rw [ws]; simp
          have HWA := hidP wa
          rw [hfin] at g0
          rw [hlen] at g1 hl4 HCA
          clear ws we wa hcA gA hSC hcc hfin hlen
          generalize finTr Mx My t = fin at *
          obtain ⟨arC, harC⟩ : ∃ arC, (el C.2 q).2 = arC := ⟨_, rfl⟩
          rw [harC] at HWA HCA
          clear harC
          generalize expT Mx My t = hs at *
          generalize hm : hs.length = m at *
          have HM := hidP hm
          clear hm
          have bslt : bs < w4.heap.size := Nat.lt_of_lt_of_le hbs hb.out.size
          go_wp2_with (first
            | (go_at_call 10; (with_reducible refine HE.out.mono ?_); rintro e w5 ⟨ah, ch, rfl, hh, hb5⟩; have HH5 := hidP hh; have HB5 := hidP hb5; have g0 := low g0 hb5; have g1 := low g1 hb5; have c1 := low c1 hb5; have s5 := hb5.size; have bslt5 : bs < w5.heap.size := (by omega); have sC5 : w3.heap.size < w5.heap.size := (by omega); clear hh hb5))
          clear x0 x1 y0 y1 u0 u1 u2
          have HB35 := hidP (hb.out.trans (HB5.out.mono hb.out.size))
          have hNS : Below w5.heap.size w5 (w5.alloc (.cells #[.int .i64 fin, .slice aA m cA] 54)) := (Below.refl _ _).alloc (Nat.le_refl _) _
          have HKS := hidP (Blk.made w5 #[.int .i64 fin, .slice aA m cA] 54)
          have HNS := hidP hNS
          have sS := (Blk.made w5 #[.int .i64 fin, .slice aA m cA] 54).lt
          clear hNS
          generalize hw6 : w5.alloc (.cells #[.int .i64 fin, .slice aA m cA] 54) = w6 at *
          clear hw6
          go_loopw [18] (fun s18 wr => ∃ (k qd : Nat), s18 = .int .i64 (k : Int) ∧ k ≤ m ∧ wr = w6.drewN qd) (fun s18 _ => m - (intOf s18).toNat)
          case atStart => exact ⟨0, 0, rfl, Nat.zero_le _, (World.drewN_zero w6).symm⟩
          case round =>
            obtain ⟨k, qd, rfl, hk, rfl⟩ := hrel
            have sb1 : (w6.drewN qd).cell? ⟨w5.heap.size, 1, none⟩ = some (.slice aA m cA) := HKS.out.cell 1 rfl
            by_cases hkm : k < m
            · have k0 : (0 : Int) ≤ (k : Int) := by omega
              have k1 : (k : Int) < (m : Int) := by omega
              obtain ⟨p, _, _, _, e0, e1, e2⟩ := HWA.out k hkm
              obtain ⟨bA, oA, rfl, hbA, r0, r1, r2, _⟩ := HCA.out k hkm
              have hBA : Below w3.heap.size w3 w6 := HB35.out.trans (HNS.out.mono HB35.out.size)
              have r0 : w6.cell? ⟨bA, oA + k * 4, none⟩ = some (.int .i64 (el arC k).1) := (hBA.cell (p := ⟨bA, oA + k * 4, none⟩) hbA).trans r0
              have r1 : w6.cell? ⟨bA, oA + k * 4 + 1, none⟩ = some (.int .i64 (el arC k).2.1) := (hBA.cell (p := ⟨bA, oA + k * 4 + 1, none⟩) hbA).trans r1
              have r2 : w6.cell? ⟨bA, oA + k * 4 + 2, none⟩ = some (.int .i64 (el arC k).2.2.1) := (hBA.cell (p := ⟨bA, oA + k * 4 + 2, none⟩) hbA).trans r2
              obtain ⟨ah', ch', hvh, hch⟩ := HH5.out.get
              simp only [Value.slice.injEq] at hvh
              obtain ⟨rfl, h9m, rfl⟩ := hvh
              clear h9m
              obtain ⟨bh, oh, rfl, hbh, d0, d1, d2, _⟩ := hch k (by rw [HM.out]; exact hkm)
              have d0 : w6.cell? ⟨bh, oh + k * 6, none⟩ = some (.int .i64 (el hs k).1) := (HNS.out.cell (p := ⟨bh, oh + k * 6, none⟩) hbh).trans d0
              have d1 : w6.cell? ⟨bh, oh + k * 6 + 1, none⟩ = some (.int .i64 (el hs k).2.1) := (HNS.out.cell (p := ⟨bh, oh + k * 6 + 1, none⟩) hbh).trans d1
              have d2 : w6.cell? ⟨bh, oh + k * 6 + 2, none⟩ = some (.int .i64 (el hs k).2.2.1) := (HNS.out.cell (p := ⟨bh, oh + k * 6 + 2, none⟩) hbh).trans d2
              rw [e0] at r0
              rw [e1] at r1
              rw [e2] at r2
              clear e0 e1 e2 hch hBA
              generalize (el hs k).1 = v0 at *
              generalize (el hs k).2.1 = v1 at *
              generalize (el hs k).2.2.1 = v2 at *
              have sb1' := HKS.out.cell 1 (v := .slice (some ⟨bA, oA, none⟩) m cA) rfl
              have r0' : (w6.drewN qd).cell? ⟨bA, oA + k * 4, none⟩ = some (.int .i64 v0) := r0
              have r1' : (w6.drewN qd).cell? ⟨bA, oA + k * 4 + 1, none⟩ = some (.int .i64 v1) := r1
              have r2' : (w6.drewN qd).cell? ⟨bA, oA + k * 4 + 2, none⟩ = some (.int .i64 v2) := r2
              have d0' : (w6.drewN qd).cell? ⟨bh, oh + k * 6, none⟩ = some (.int .i64 v0) := d0
              have d1' : (w6.drewN qd).cell? ⟨bh, oh + k * 6 + 1, none⟩ = some (.int .i64 v1) := d1
              have d2' : (w6.drewN qd).cell? ⟨bh, oh + k * 6 + 2, none⟩ = some (.int .i64 v2) := d2
              go_wp2
              go_quiet (fail)
              go_wp2
              go_roundw
              case rel => exact ⟨k + 1, qd + nq, by go_num, by omega, by first | rfl | rw [World.drewN_drewN]⟩
              case measure => simp [intOf]; omega
            · have k1 : ¬ (k : Int) < (m : Int) := by omega
              obtain rfl : m = k := by omega
              have HBE := hidP (HB3.out.trans ((HB35.out.trans (HNS.out.mono HB35.out.size)).mono HB3.out.size))
              by_cases hm0 : m = 0
              · have hmb : ((m : Int) == 0) = true := by simp [hm0]
                clear hm0
                go_wp2
                go_ret
                exact ⟨rfl, below_drewN HBE.out _⟩
              · have hmb : ((m : Int) == 0) = false := by rw [beq_eq_false_iff_ne]; omega
                obtain ⟨bv, ov, rfl, hbv, gv⟩ := HCV.out i hlt
                have gv : w6.cell? ⟨bv, ov + i, none⟩ = some (.int .i64 (el zv i)) := ((HB3.out.trans ((HB35.out.trans (HNS.out.mono HB35.out.size)).mono HB3.out.size)).cell (p := ⟨bv, ov + i, none⟩) hbv).trans gv
                have hwfi := HWv.out _ (el_mem hlt)
                obtain ⟨pk0, pk1⟩ := pkR_bd (el zv i) (m : Int) (by omega)
                obtain ⟨kn, hkn⟩ : ∃ kn : Nat, pkR (el zv i) (m : Int) = (kn : Int) := ⟨(pkR (el zv i) (m : Int)).toNat, by omega⟩
                have HPK := hidP (fun W => picked_R (el zv i) (m : Int) W hwfi (by omega) (by omega) (kn : Int) hkn)
                rw [hkn] at pk0 pk1
                have hknm : kn < m := by omega
                obtain ⟨p, hp, ep, el9, _, _, _⟩ := HWA.out kn hknm
                obtain ⟨bA, oA, rfl, hbA, _, _, _, r3⟩ := HCA.out kn hknm
                have hBA : Below w3.heap.size w3 w6 := HB35.out.trans (HNS.out.mono HB35.out.size)
                have r3 : w6.cell? ⟨bA, oA + kn * 4 + 3, none⟩ = some (.int .i64 (p : Int)) := by rw [← ep]; exact (hBA.cell (p := ⟨bA, oA + kn * 4 + 3, none⟩) hbA).trans r3
                obtain ⟨ah', ch', hvh, hch⟩ := HH5.out.get
                simp only [Value.slice.injEq] at hvh
                obtain ⟨rfl, h9m, rfl⟩ := hvh
                clear h9m
                obtain ⟨bh, oh, rfl, hbh, _, _, _, d3, d4, d5⟩ := hch kn (by rw [HM.out]; exact hknm)
                have d3 : w6.cell? ⟨bh, oh + kn * 6 + 3, none⟩ = some (.int .i64 (el hs kn).2.2.2.1) := (HNS.out.cell (p := ⟨bh, oh + kn * 6 + 3, none⟩) hbh).trans d3
                have d4 : w6.cell? ⟨bh, oh + kn * 6 + 3 + 1, none⟩ = some (.int .i64 (el hs kn).2.2.2.2.1) := (HNS.out.cell (p := ⟨bh, oh + kn * 6 + 4, none⟩) hbh).trans d4
                have d5 : w6.cell? ⟨bh, oh + kn * 6 + 3 + 2, none⟩ = some (.int .i64 (el hs kn).2.2.2.2.2) := (HNS.out.cell (p := ⟨bh, oh + kn * 6 + 5, none⟩) hbh).trans d5
                have HT6 := hidP ((hT.out.below HB5.out hT.out.lt).below HNS.out (by have := hT.out.lt; omega))
                have HC6 := hidP ((hC.out.below HB5.out hC.out.lt).below HNS.out (by have := hC.out.lt; omega))
                have v0 := HT6.out.cell 0 (v := .int .i64 t.1) rfl
                have v1 := HT6.out.cell 1 (v := .int .i64 t.2.1) rfl
                have v2 := HT6.out.cell 2 (v := .int .i64 t.2.2) rfl
                have f0 := HT6.out.fz 0
                have f1 := HT6.out.fz 1
                have f2 := HT6.out.fz 2
                have HBA6 := hidP hBA
                obtain ⟨tn, htn⟩ : ∃ tn : Tr, (el hs kn).2.2.2 = tn := ⟨_, rfl⟩
                rw [htn] at d3 d4 d5 el9
                clear htn hch hBA ep pk0 pk1
                have kn0 : (0 : Int) ≤ (kn : Int) := by omega
                have kn1 : (kn : Int) < (m : Int) := by omega
                have pz : ¬ (p : Int) < 0 := by omega
                have pzd : decide ((p : Int) < 0) = false := decide_eq_false pz
                have pc : ¬ (p : Int) ≥ (C.2.length : Int) := by omega
                have pcd : decide ((p : Int) ≥ (C.2.length : Int)) = false := decide_eq_false pc
                have HEL := hidP el9
                clear el9
                have HTX := hidP (((HT6.out.set 0 (.int .i64 tn.1)).set 1 (.int .i64 tn.2.1)).set 2 (.int .i64 tn.2.2))
                have sb1 := HKS.out.cell 1 (v := .slice (some ⟨bA, oA, none⟩) m cA) rfl
                have c61 := HC6.out.cell 1 (v := .slice (some ⟨bs, os, none⟩) C.2.length cc) rfl
                have nA : bA ≠ w3.heap.size + 1 := by omega
                have nS : w5.heap.size ≠ w3.heap.size + 1 := by omega
                go_wp2_with (first
                  | (go_at_call 25; (with_reducible refine (HPK.out _).mono ?_); rintro e w99 ⟨rfl, hw9⟩; subst hw9))
                go_roundw
                case rel => exact ⟨i + 1, p, tn, rfl, by go_num, by omega, hp, HEL, HTX.out.drewN _, ((((HC6.out.setO ⟨w3.heap.size + 1, 0, none⟩ (.int .i64 tn.1) (by show w3.heap.size ≠ w3.heap.size + 1; omega)).setO ⟨w3.heap.size + 1, 1, none⟩ (.int .i64 tn.2.1) (by show w3.heap.size ≠ w3.heap.size + 1; omega))).setO ⟨w3.heap.size + 1, 2, none⟩ (.int .i64 tn.2.2) (by show w3.heap.size ≠ w3.heap.size + 1; omega)).drewN _, below_drewN (((HBA6.out.setCell (p := ⟨w3.heap.size + 1, 0, none⟩) (by show w3.heap.size ≤ w3.heap.size + 1; omega) (.int .i64 tn.1)).setCell (p := ⟨w3.heap.size + 1, 1, none⟩) (by show w3.heap.size ≤ w3.heap.size + 1; omega) (.int .i64 tn.2.1)).setCell (p := ⟨w3.heap.size + 1, 2, none⟩) (by show w3.heap.size ≤ w3.heap.size + 1; omega) (.int .i64 tn.2.2)) _⟩
                case measure => simp [intOf]; omega
        · have i2 : ¬ (i : Int) < 40 := by omega
          have i2d : decide ((i : Int) < 40) = false := decide_eq_false i2
          have HBE := hidP (HB3.out.trans (hb.out.mono HB3.out.size))
          go_wp2
          go_ret
          exact ⟨rfl, HBE.out⟩
      · have i1 : ¬ (i : Int) < (zv.length : Int) := by omega
        have i1d : decide ((i : Int) < (zv.length : Int)) = false := decide_eq_false i1
        have HBE := hidP (HB3.out.trans (hb.out.mono HB3.out.size))
        go_wp2
        go_ret
        exact ⟨rfl, HBE.out⟩
theorem walk (vx : Value) (rx : Rw) (vy : Value) (ry : Rw) (a2 : Option Addr) (len2 cap2 : Nat) (z2 : List Int) (w : World) (hx : RawV w vx rx ∧ okR rx ∧ wfR rx) (hy : RawV w vy ry ∧ okR ry ∧ wfR ry) (w2 : IsRow .i64 w a2 len2 cap2 z2 ∧ cap2 * 8 ≤ 140737488351232) :
    Calls Try.prog 8 #[vx, vy, .slice a2 len2 cap2] w fun e w' => e = .returned (.bool true) ∧ Below w.heap.size w w' := by
  obtain ⟨p2, _, _⟩ := row_nums w2.1
  exact core vx rx vy ry _ _ w hx hy p2 (row_wf w2.1)

set_option maxRecDepth 100000 in
theorem lifted (os : Os) (started : os.Started) (H : Type) (enc : TypeId × Value → H) :
    ReturnsInHanded {} Try.checked os 8 .any (Rows.composeExpandedSpec.pre6 enc Try.prog Try.f8 Rows.composeExpandedRow.domain false) (Rows.composeExpandedSpec.post enc Try.prog Try.f8 false true false false) := by
  refine returnsInHanded_of_change_sized (C := Try.checked) own started (by kernel_rfl) Try.func8
    (ChangeSpec.witness6 (enc := enc) (C := Try.checked) false ⟨#[], #[.agg #[.int .i64 0, .slice none 0 0], .agg #[.int .i64 0, .slice none 0 0], .slice none 0 0], []⟩ 8 (by kernel_rfl) (by kernel_rfl) (by kernel_rfl) (by kernel_rfl)) ?_
  intro W base args ds gs before hval0 hW hcnd hsz0 _
  have hsz : (DataW.weightsEach Try.prog (Try.f8.params.toList ++ Rows.composeExpandedSpec.plain.varTypes Try.prog) (ds ++ gs)).all (· ≤ reachBytes) = true := hsz0
  have hval : ∀ (j : Nat) t v, Try.f8.params[j]? = some t → args[j]? = some v → Value.okWide Try.prog W .any base t v := hval0
  clear hval0 hsz0
  have hW' := hW
  obtain ⟨p, q, hA0, hV, rfl, hfz, hnd⟩ := hW
  have hA : DataW.TrodAll enc Try.prog W 0 (fun _ => true) true Try.f8.params.toList args.toList ds p := hA0
  rw [Try.params8] at hA hval hsz
  obtain ⟨v0, vs0, d0, ds0, p0, q0, hargs, rfl, rfl, h0, r0⟩ := trodAll_cons hA
  obtain ⟨v1, vs1, d1, ds1, p1, q1, rfl, rfl, rfl, h1, r1⟩ := trodAll_cons r0
  obtain ⟨v2, vs2, d2, ds2, p2, q2, rfl, rfl, rfl, h2, r2⟩ := trodAll_cons r1
  obtain ⟨rfl, rfl, rfl⟩ := trodAll_nil r2
  obtain rfl : args = #[v0, v1, v2] := by cases args; simp_all
  obtain ⟨rfl, rfl⟩ := trodVars_none hV
  have k0 := h0
  have lt0 : ∀ x ∈ p0, x.block < W.heap.size := by obtain ⟨m, hm⟩ := k0; exact DataW.trod_lt m _ _ _ hm
  obtain ⟨z0, w0⟩ : ∃ m : Rw, RawV W v0 m ∧ okR m ∧ wfR m := by
    obtain ⟨c0, c1, y0, y1, n, rfl, hd, hp, t0, t1⟩ := Go.Joins.open_agg2 Try.underlying39 (by kernel_rfl) (by kernel_rfl) (hval 0 39 v0 rfl rfl) h0
    subst hd
    exact open_raw t0 t1 ((Fits.arg hsz (j := 0) rfl rfl).field Try.underlying39 (f := 1) rfl rfl)
  have k1 := h1
  have lt1 : ∀ x ∈ p1, x.block < W.heap.size := by obtain ⟨m, hm⟩ := k1; exact DataW.trod_lt m _ _ _ hm
  obtain ⟨z1, w1⟩ : ∃ m : Rw, RawV W v1 m ∧ okR m ∧ wfR m := by
    obtain ⟨c0, c1, y0, y1, n, rfl, hd, hp, t0, t1⟩ := Go.Joins.open_agg2 Try.underlying39 (by kernel_rfl) (by kernel_rfl) (hval 1 39 v1 rfl rfl) h1
    subst hd
    exact open_raw t0 t1 ((Fits.arg hsz (j := 1) rfl rfl).field Try.underlying39 (f := 1) rfl rfl)
  obtain ⟨a2, len2, cap2, rfl⟩ := okWide_slice Try.underlying40 (hval 2 40 v2 rfl rfl)
  have k2 := h2
  have lt2 : ∀ x ∈ p2, x.block < W.heap.size := by obtain ⟨m, hm⟩ := k2; exact DataW.trod_lt m _ _ _ hm
  obtain ⟨z2, w2⟩ : ∃ zs, IsRow .i64 W a2 len2 cap2 zs ∧ cap2 * 8 ≤ 140737488351232 := by
    obtain ⟨fuel, hf⟩ := h2
    rcases open_ints Try.underlying40 Try.underlying3 (by kernel_rfl) hf with ⟨hcs, _⟩ | ⟨x, l, c, zs, hcs, _, hl, hm, hz, hx, hcell, hwz⟩
    · simp [Value.cells] at hcs
      obtain ⟨rfl, rfl, rfl⟩ := hcs
      exact ⟨[], .inl ⟨rfl, rfl, rfl, rfl⟩, by omega⟩
    · have hd := congrArg Prod.fst hx
      have hsw := sized_slice hsz (j := 2) (t := 40) (e := 3) rfl (congrArg some hd) Try.underlying40
      have hby : Try.prog.bytesOf 3 = 8 := by kernel_rfl
      rw [hby] at hsw
      simp [Value.cells] at hcs
      obtain ⟨rfl, rfl, rfl⟩ := hcs
      have hz' : zs.length = cap2 := by simpa using hz
      simp only [lits, List.length_map, List.length_take, List.length_drop, reachBytes] at hsw
      exact ⟨zs, .inr ⟨_, rfl, hl, hm, hz', hcell, hwz⟩, by omega⟩
  refine (walk v0 z0 v1 z1 a2 len2 cap2 z2 W w0 w1 w2).mono fun e W' ⟨he, bel⟩ => ?_
  subst he
  exact ⟨_, rfl, _, _, _, [], _, [], hW', trodAll_mk1 (shut_bool Try.underlying4 _), (trodAll_cons_mk (Below.trod laidOut (by kernel_rfl) (of_decide_eq_true (by kernel_rfl)) k0 bel lt0) (trodAll_cons_mk (Below.trod laidOut (by kernel_rfl) (of_decide_eq_true (by kernel_rfl)) k1 bel lt1) (trodAll_cons_mk (Below.trod laidOut (by kernel_rfl) (of_decide_eq_true (by kernel_rfl)) k2 bel lt2) trodAll_mk0))), rfl, bel.frame _, fun h => by cases h⟩
end Go.Proofs.Ythcfkiinjcbajaa.composeExpanded
namespace Go.Proofs.Ythcfkiinjcbajaa
theorem composeExpanded_holds : Rows.ComposeExpandedSaid :=
  OpenClaim.holds_of_wide 8 Try.f8 rfl rfl rfl rfl rfl rfl rfl ⟨rfl, rfl, rfl, rfl, rfl⟩ rfl rfl rfl rfl rfl (by kernel_rfl) Try.func8 (by kernel_rfl)
    (of_decide_eq_true (by kernel_rfl)) (by unfold Func.isWrapper; first | (rw [if_pos (by decide +kernel)]; kernel_rfl) | (rw [if_neg (by decide +kernel)]; exact ⟨rfl, rfl⟩))
    (fun os started H enc _ => composeExpanded.lifted os started H enc)
#print axioms composeExpanded_holds
end Go.Proofs.Ythcfkiinjcbajaa
