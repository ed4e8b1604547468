/- The statement RemoveAgain: whatever numbers a machine is made of, where there are no empty arcs nothing happens but that arcs are merged, for every input and without any condition. -/
import Derived.Test.YtjpfpdbhdcopbaaMd
import Derived.Test.YtjpfpdbhdcopbaaKi
import Derived.Test.YtjpfpdbhdcopbaaKj
import Derived.Test.YtjpfpdbhdcopbaaWy
import Derived.Test.YtjpfpdbhdcopbaaEw
import Derived.Test.YtjpfpdbhdcopbaaKd
import Derived.Test.YtjpfpdbhdcopbaaJ14o
import Derived.Test.YtjpfpdbhdcopbaaJ14u
import Derived.Test.YtjpfpdbhdcopbaaLo
import Derived.Lib.SmallJoins
import Derived.ChangeOld
import Derived.Below
namespace Go.Proofs.Ytjpfpdbhdcopbaa.removeAgain
open Go.ChangeShapes Go.WideShapes Go.ChangeAt Go.RowKit
open Go.Proofs.Ytjpfpdbhdcopbaa.Pl Go.Proofs.Ytjpfpdbhdcopbaa.Wt
set_option linter.unusedVariables false
set_option linter.unusedSimpArgs false

theorem own : ownKnob Try.prog.godebug = none := by kernel_rfl
theorem laidOut : laidOutB Try.prog = true := by kernel_rfl
set_option maxRecDepth 100000 in
set_option maxHeartbeats 3200000 in
theorem core (vx : Value) (rx : Rw) (w : World) (hx : RawV w vx rx ∧ okR rx ∧ wfR rx) :
    Calls Try.prog 5 #[vx] w fun e w' => e = .returned (.bool true) ∧ Below w.heap.size w w' := by
  obtain ⟨hx, hokx, hwfx⟩ := hx
  have HIx : Hid (RawV w vx rx) := hx
  have HOKx : Hid (okR rx) := hokx
  have HWFx : Hid (wfR rx) := hwfx
  obtain ⟨hfx, hcx, hlx, hax, hpx⟩ := made_facts rx 6 (by omega) (by omega)
  have HEx : Hid (∀ v W, RawV W v rx → okR rx → wfR rx → Calls Try.prog 10 #[v, .int .i64 6, .bool false] W fun e w' => ∃ v', e = .returned v' ∧ Mach w' v' (madeM rx 6 false) ∧ Below W.heap.size W w') := fun v W h1 h2 h3 => made_any v rx 6 false W h1 h2 h3 (by omega) (by omega)
  obtain ⟨vs0x, rfl, hNx⟩ := hx
  obtain ⟨a0x, c0x, rfl, hNxx⟩ := hNx.get
  clear hNx hNxx hokx hwfx
  have HEn : Hid (∀ v W, RawV W v rx → okR rx → wfR rx → Calls Try.prog 10 #[v, .int .i64 6, .bool true] W fun e w' => ∃ v', e = .returned v' ∧ Mach w' v' (madeM rx 6 true) ∧ Below W.heap.size W w') := fun v W h1 h2 h3 => made_any v rx 6 true W h1 h2 h3 (by omega) (by omega)
  have hfn : faultM (madeM rx 6 true) = 0 := madeM_right rx 6 (by omega) (by omega) true
  obtain ⟨Hu, hHu⟩ := hopT_exists (m := madeM rx 6 false) hfx
  obtain ⟨u1, u2, u3, u4⟩ := made_rem hfx (by omega) (by omega) hHu
  have u5 : remR Hu (madeM rx 6 false) = remM Hu (madeM rx 6 false) ∧ remE Hu (madeM rx 6 false) = 0 := ⟨u1, u2⟩
  have hUl := rem_len Hu (madeM rx 6 false)
  obtain ⟨Hy, hHy⟩ := hopT_exists (m := remM Hu (madeM rx 6 false)) u3
  have y5 := noEmp_again u3 (rem_noEmp Hu (madeM rx 6 false)) (by rw [rem_mrg]; exact u3) hHy
  rw [rem_mrg] at y5
  obtain ⟨Hz, hHz⟩ := hopT_exists (m := madeM rx 6 true) hfn
  have z3 := mrg_right hfn
  have z5 := noEmp_again hfn (made_noEmp rx 6) z3 hHz
  have HUu : Hid (∀ W v, Mach W v (madeM rx 6 false) → Calls Try.prog 7 #[v] W fun e w' => RatRes (remM Hu (madeM rx 6 false)) 0 W e w') := fun W v h1 => by
    have := removeP_any v _ W h1 (right_ok hfx) Hu (fun _ => hHu)
    rw [u5.1, u5.2] at this
    exact this
  have HUy : Hid (∀ W v, Mach W v (remM Hu (madeM rx 6 false)) → Calls Try.prog 7 #[v] W fun e w' => RatRes (remM Hu (madeM rx 6 false)) 0 W e w') := fun W v h1 => by
    have := removeP_any v _ W h1 (right_ok u3) Hy (fun _ => hHy)
    rw [y5.1, y5.2] at this
    exact this
  have HUz : Hid (∀ W v, Mach W v (madeM rx 6 true) → Calls Try.prog 7 #[v] W fun e w' => RatRes (mapM mrgL (madeM rx 6 true)) 0 W e w') := fun W v h1 => by
    have := removeP_any v _ W h1 (right_ok hfn) Hz (fun _ => hHz)
    rw [z5.1, z5.2] at this
    exact this
  have HUk : Hid (∀ W v, Mach W v (madeM rx 6 true) → Calls Try.prog 14 #[v] W fun e w' => RatRes (mapM mrgL (madeM rx 6 true)) 0 W e w') := fun W v h1 => mergedK_any v _ W h1 (right_ok hfn) hfn
  have HAu : Hid (∀ W v1 v2, Mach W v1 (remM Hu (madeM rx 6 false)) → Mach W v2 (remM Hu (madeM rx 6 false)) → Calls Try.prog 15 #[v1, v2] W fun e w' => e = .returned (.bool true) ∧ Below W.heap.size W w') := fun W v1 v2 h1 h2 => keepAlike_any v1 v2 _ W h1 h2 (right_ok u3)
  have HAz : Hid (∀ W v1 v2, Mach W v1 (mapM mrgL (madeM rx 6 true)) → Mach W v2 (mapM mrgL (madeM rx 6 true)) → Calls Try.prog 15 #[v1, v2] W fun e w' => e = .returned (.bool true) ∧ Below W.heap.size W w') := fun W v1 v2 h1 h2 => keepAlike_any v1 v2 _ W h1 h2 (right_ok z3)
  clear hfx hcx u1 u2 u3 u4 u5 y5 z3 z5 hfn hHu hHy hHz hlx hax hpx
  generalize mapM mrgL (madeM rx 6 true) = Z at *
  generalize madeM rx 6 true = Mn at *
  generalize remM Hu (madeM rx 6 false) = U at *
  generalize madeM rx 6 false = Mx at *
  have t4 : ((U.2.length : Int) == (Mx.2.length : Int)) = true := by simp [hUl]
  have HB0 : Hid (∀ o1, Below w.heap.size w (w.alloc o1)) := fun o1 => (Below.refl _ _).alloc (Nat.le_refl _) _
  have HUL := hidP hUl
  clear hUl
  go_enter Try.func5, Try.ntmps5
  go_wp2_with (first
    | (go_at_call 10; (with_reducible refine (HEx.out _ _ (HIx.out.later (HB0.out _) (Nat.le_refl _)) HOKx.out HWFx.out).mono ?_); rintro e w1 ⟨v1, rfl, hm, hb⟩; have HMx : Hid (Mach w1 v1 (Mx)) := hm; obtain ⟨vsx, rfl, hSx⟩ := hm; obtain ⟨ax, cx, rfl⟩ := hSx.sl; clear hSx; obtain ⟨s1, bb0, hb1⟩ := boxed hb (by simp); have KX1 := hidP bb0; clear bb0; have HB1 := hidP hb1; have qX0 := (KX1.out.alloc (.cells #[.int .i64 Mx.1, .slice ax Mx.2.length cx] 24)).cell 0 (v := .int .i64 rx.1) rfl; have qX1 := (KX1.out.alloc (.cells #[.int .i64 Mx.1, .slice ax Mx.2.length cx] 24)).cell 1 (v := .slice a0x rx.2.length c0x) rfl; clear hb hb1)
    | (go_at_call 7; (with_reducible refine (HUu.out _ _ (HMx.out.later ((Below.refl _ _).alloc (Nat.le_refl _) _) (Nat.le_refl _))).mono ?_); rintro e w2 ⟨v2, rfl, hm, hb⟩; have HMu : Hid (Mach w2 v2 (U)) := hm; obtain ⟨vsu, rfl, hSu⟩ := hm; obtain ⟨au, cu, rfl⟩ := hSu.sl; clear hSu; obtain ⟨s2, bb0, hb2⟩ := boxed hb (by simp); have KVx2 := hidP bb0; clear bb0; have HB2 := hidP (HB1.out.trans (hb2.mono HB1.out.size)); have KX2 := hidP (KX1.out.below hb2 KX1.out.lt); have Hx2 := hidP hb2; have qX0 := (KX2.out.alloc (.cells #[.int .i64 U.1, .slice au U.2.length cu] 24)).cell 0 (v := .int .i64 rx.1) rfl; have qX1 := (KX2.out.alloc (.cells #[.int .i64 U.1, .slice au U.2.length cu] 24)).cell 1 (v := .slice a0x rx.2.length c0x) rfl; have qVx0 := (KVx2.out.alloc (.cells #[.int .i64 U.1, .slice au U.2.length cu] 24)).cell 0 (v := .int .i64 Mx.1) rfl; have qVx1 := (KVx2.out.alloc (.cells #[.int .i64 U.1, .slice au U.2.length cu] 24)).cell 1 (v := .slice ax Mx.2.length cx) rfl; clear hb hb2)
    | (go_at_call 7; (with_reducible refine (HUy.out _ _ (HMu.out.later ((Below.refl _ _).alloc (Nat.le_refl _) _) (Nat.le_refl _))).mono ?_); rintro e w3 ⟨v3, rfl, hm, hb⟩; have HMy : Hid (Mach w3 v3 (U)) := hm; obtain ⟨vsy, rfl, hSy⟩ := hm; obtain ⟨ay, cy, rfl⟩ := hSy.sl; clear hSy; obtain ⟨s3, bb0, hb3⟩ := boxed hb (by simp); have KVu3 := hidP bb0; clear bb0; have HB3 := hidP (HB2.out.trans (hb3.mono HB2.out.size)); have KX3 := hidP (KX2.out.below hb3 KX2.out.lt); have KVx3 := hidP (KVx2.out.below hb3 KVx2.out.lt); have Hx3 := hidP (Hx2.out.trans (hb3.mono Hx2.out.size)); have Hu3 := hidP hb3; have qX0 := (KX3.out.alloc (.cells #[.int .i64 U.1, .slice ay U.2.length cy] 24)).cell 0 (v := .int .i64 rx.1) rfl; have qX1 := (KX3.out.alloc (.cells #[.int .i64 U.1, .slice ay U.2.length cy] 24)).cell 1 (v := .slice a0x rx.2.length c0x) rfl; have qVx0 := (KVx3.out.alloc (.cells #[.int .i64 U.1, .slice ay U.2.length cy] 24)).cell 0 (v := .int .i64 Mx.1) rfl; have qVx1 := (KVx3.out.alloc (.cells #[.int .i64 U.1, .slice ay U.2.length cy] 24)).cell 1 (v := .slice ax Mx.2.length cx) rfl; have qVu0 := (KVu3.out.alloc (.cells #[.int .i64 U.1, .slice ay U.2.length cy] 24)).cell 0 (v := .int .i64 U.1) rfl; have qVu1 := (KVu3.out.alloc (.cells #[.int .i64 U.1, .slice ay U.2.length cy] 24)).cell 1 (v := .slice au U.2.length cu) rfl; clear hb hb3)
    | (go_at_call 10; (with_reducible refine (HEn.out _ _ (HIx.out.later (HB3.out.alloc HB3.out.size _) (Nat.le_refl _)) HOKx.out HWFx.out).mono ?_); rintro e w4 ⟨v4, rfl, hm, hb⟩; have HMn : Hid (Mach w4 v4 (Mn)) := hm; obtain ⟨vsn, rfl, hSn⟩ := hm; obtain ⟨an, cn, rfl⟩ := hSn.sl; clear hSn; obtain ⟨s4, bb0, hb4⟩ := boxed hb (by simp); have KVy4 := hidP bb0; clear bb0; have HB4 := hidP (HB3.out.trans (hb4.mono HB3.out.size)); have KX4 := hidP (KX3.out.below hb4 KX3.out.lt); have KVx4 := hidP (KVx3.out.below hb4 KVx3.out.lt); have KVu4 := hidP (KVu3.out.below hb4 KVu3.out.lt); have Hx4 := hidP (Hx3.out.trans (hb4.mono Hx3.out.size)); have Hu4 := hidP (Hu3.out.trans (hb4.mono Hu3.out.size)); have Hy4 := hidP hb4; have qX0 := (KX4.out.alloc (.cells #[.int .i64 Mn.1, .slice an Mn.2.length cn] 24)).cell 0 (v := .int .i64 rx.1) rfl; have qX1 := (KX4.out.alloc (.cells #[.int .i64 Mn.1, .slice an Mn.2.length cn] 24)).cell 1 (v := .slice a0x rx.2.length c0x) rfl; have qVx0 := (KVx4.out.alloc (.cells #[.int .i64 Mn.1, .slice an Mn.2.length cn] 24)).cell 0 (v := .int .i64 Mx.1) rfl; have qVx1 := (KVx4.out.alloc (.cells #[.int .i64 Mn.1, .slice an Mn.2.length cn] 24)).cell 1 (v := .slice ax Mx.2.length cx) rfl; have qVu0 := (KVu4.out.alloc (.cells #[.int .i64 Mn.1, .slice an Mn.2.length cn] 24)).cell 0 (v := .int .i64 U.1) rfl; have qVu1 := (KVu4.out.alloc (.cells #[.int .i64 Mn.1, .slice an Mn.2.length cn] 24)).cell 1 (v := .slice au U.2.length cu) rfl; have qVy0 := (KVy4.out.alloc (.cells #[.int .i64 Mn.1, .slice an Mn.2.length cn] 24)).cell 0 (v := .int .i64 U.1) rfl; have qVy1 := (KVy4.out.alloc (.cells #[.int .i64 Mn.1, .slice an Mn.2.length cn] 24)).cell 1 (v := .slice ay U.2.length cy) rfl; clear hb hb4)
    | (go_at_call 7; (with_reducible refine (HUz.out _ _ (HMn.out.later ((Below.refl _ _).alloc (Nat.le_refl _) _) (Nat.le_refl _))).mono ?_); rintro e w5 ⟨v5, rfl, hm, hb⟩; have HMz : Hid (Mach w5 v5 (Z)) := hm; obtain ⟨vsz, rfl, hSz⟩ := hm; obtain ⟨az, cz, rfl⟩ := hSz.sl; clear hSz; obtain ⟨s5, bb0, hb5⟩ := boxed hb (by simp); have KVn5 := hidP bb0; clear bb0; have HB5 := hidP (HB4.out.trans (hb5.mono HB4.out.size)); have KX5 := hidP (KX4.out.below hb5 KX4.out.lt); have KVx5 := hidP (KVx4.out.below hb5 KVx4.out.lt); have KVu5 := hidP (KVu4.out.below hb5 KVu4.out.lt); have KVy5 := hidP (KVy4.out.below hb5 KVy4.out.lt); have Hx5 := hidP (Hx4.out.trans (hb5.mono Hx4.out.size)); have Hu5 := hidP (Hu4.out.trans (hb5.mono Hu4.out.size)); have Hy5 := hidP (Hy4.out.trans (hb5.mono Hy4.out.size)); have Hn5 := hidP hb5; have qX0 := (KX5.out.alloc (.cells #[.int .i64 Z.1, .slice az Z.2.length cz] 24)).cell 0 (v := .int .i64 rx.1) rfl; have qX1 := (KX5.out.alloc (.cells #[.int .i64 Z.1, .slice az Z.2.length cz] 24)).cell 1 (v := .slice a0x rx.2.length c0x) rfl; have qVx0 := (KVx5.out.alloc (.cells #[.int .i64 Z.1, .slice az Z.2.length cz] 24)).cell 0 (v := .int .i64 Mx.1) rfl; have qVx1 := (KVx5.out.alloc (.cells #[.int .i64 Z.1, .slice az Z.2.length cz] 24)).cell 1 (v := .slice ax Mx.2.length cx) rfl; have qVu0 := (KVu5.out.alloc (.cells #[.int .i64 Z.1, .slice az Z.2.length cz] 24)).cell 0 (v := .int .i64 U.1) rfl; have qVu1 := (KVu5.out.alloc (.cells #[.int .i64 Z.1, .slice az Z.2.length cz] 24)).cell 1 (v := .slice au U.2.length cu) rfl; have qVy0 := (KVy5.out.alloc (.cells #[.int .i64 Z.1, .slice az Z.2.length cz] 24)).cell 0 (v := .int .i64 U.1) rfl; have qVy1 := (KVy5.out.alloc (.cells #[.int .i64 Z.1, .slice az Z.2.length cz] 24)).cell 1 (v := .slice ay U.2.length cy) rfl; have qVn0 := (KVn5.out.alloc (.cells #[.int .i64 Z.1, .slice az Z.2.length cz] 24)).cell 0 (v := .int .i64 Mn.1) rfl; have qVn1 := (KVn5.out.alloc (.cells #[.int .i64 Z.1, .slice az Z.2.length cz] 24)).cell 1 (v := .slice an Mn.2.length cn) rfl; clear hb hb5)
    | (go_at_call 14; (with_reducible refine (HUk.out _ _ (HMn.out.later (Hn5.out.alloc Hn5.out.size _) (Nat.le_refl _))).mono ?_); rintro e w6 ⟨v6, rfl, hm, hb⟩; have HMk : Hid (Mach w6 v6 (Z)) := hm; obtain ⟨vsk, rfl, hSk⟩ := hm; obtain ⟨ak, ck, rfl⟩ := hSk.sl; clear hSk; obtain ⟨s6, bb0, hb6⟩ := boxed hb (by simp); have KVz6 := hidP bb0; clear bb0; have HB6 := hidP (HB5.out.trans (hb6.mono HB5.out.size)); have KX6 := hidP (KX5.out.below hb6 KX5.out.lt); have KVx6 := hidP (KVx5.out.below hb6 KVx5.out.lt); have KVu6 := hidP (KVu5.out.below hb6 KVu5.out.lt); have KVy6 := hidP (KVy5.out.below hb6 KVy5.out.lt); have KVn6 := hidP (KVn5.out.below hb6 KVn5.out.lt); have Hx6 := hidP (Hx5.out.trans (hb6.mono Hx5.out.size)); have Hu6 := hidP (Hu5.out.trans (hb6.mono Hu5.out.size)); have Hy6 := hidP (Hy5.out.trans (hb6.mono Hy5.out.size)); have Hn6 := hidP (Hn5.out.trans (hb6.mono Hn5.out.size)); have Hz6 := hidP hb6; have qX0 := (KX6.out.alloc (.cells #[.int .i64 Z.1, .slice ak Z.2.length ck] 24)).cell 0 (v := .int .i64 rx.1) rfl; have qX1 := (KX6.out.alloc (.cells #[.int .i64 Z.1, .slice ak Z.2.length ck] 24)).cell 1 (v := .slice a0x rx.2.length c0x) rfl; have qVx0 := (KVx6.out.alloc (.cells #[.int .i64 Z.1, .slice ak Z.2.length ck] 24)).cell 0 (v := .int .i64 Mx.1) rfl; have qVx1 := (KVx6.out.alloc (.cells #[.int .i64 Z.1, .slice ak Z.2.length ck] 24)).cell 1 (v := .slice ax Mx.2.length cx) rfl; have qVu0 := (KVu6.out.alloc (.cells #[.int .i64 Z.1, .slice ak Z.2.length ck] 24)).cell 0 (v := .int .i64 U.1) rfl; have qVu1 := (KVu6.out.alloc (.cells #[.int .i64 Z.1, .slice ak Z.2.length ck] 24)).cell 1 (v := .slice au U.2.length cu) rfl; have qVy0 := (KVy6.out.alloc (.cells #[.int .i64 Z.1, .slice ak Z.2.length ck] 24)).cell 0 (v := .int .i64 U.1) rfl; have qVy1 := (KVy6.out.alloc (.cells #[.int .i64 Z.1, .slice ak Z.2.length ck] 24)).cell 1 (v := .slice ay U.2.length cy) rfl; have qVn0 := (KVn6.out.alloc (.cells #[.int .i64 Z.1, .slice ak Z.2.length ck] 24)).cell 0 (v := .int .i64 Mn.1) rfl; have qVn1 := (KVn6.out.alloc (.cells #[.int .i64 Z.1, .slice ak Z.2.length ck] 24)).cell 1 (v := .slice an Mn.2.length cn) rfl; have qVz0 := (KVz6.out.alloc (.cells #[.int .i64 Z.1, .slice ak Z.2.length ck] 24)).cell 0 (v := .int .i64 Z.1) rfl; have qVz1 := (KVz6.out.alloc (.cells #[.int .i64 Z.1, .slice ak Z.2.length ck] 24)).cell 1 (v := .slice az Z.2.length cz) rfl; clear hb hb6)
    | (go_at_call 15; (with_reducible refine (HAu.out _ _ _ (HMu.out.later (Hu6.out.alloc Hu6.out.size _) (Nat.le_refl _)) (HMy.out.later (Hy6.out.alloc Hy6.out.size _) (Nat.le_refl _))).mono ?_); rintro e w7 ⟨rfl, hb⟩; obtain ⟨s7, bb0, hb7⟩ := boxed hb (by simp); have KVk7 := hidP bb0; clear bb0; have HB7 := hidP (HB6.out.trans (hb7.mono HB6.out.size)); have KX7 := hidP (KX6.out.below hb7 KX6.out.lt); have KVx7 := hidP (KVx6.out.below hb7 KVx6.out.lt); have KVu7 := hidP (KVu6.out.below hb7 KVu6.out.lt); have KVy7 := hidP (KVy6.out.below hb7 KVy6.out.lt); have KVn7 := hidP (KVn6.out.below hb7 KVn6.out.lt); have KVz7 := hidP (KVz6.out.below hb7 KVz6.out.lt); have Hx7 := hidP (Hx6.out.trans (hb7.mono Hx6.out.size)); have Hu7 := hidP (Hu6.out.trans (hb7.mono Hu6.out.size)); have Hy7 := hidP (Hy6.out.trans (hb7.mono Hy6.out.size)); have Hn7 := hidP (Hn6.out.trans (hb7.mono Hn6.out.size)); have Hz7 := hidP (Hz6.out.trans (hb7.mono Hz6.out.size)); have Hk7 := hidP hb7; have qX0 := KX7.out.cell 0 (v := .int .i64 rx.1) rfl; have qX1 := KX7.out.cell 1 (v := .slice a0x rx.2.length c0x) rfl; have qVx0 := KVx7.out.cell 0 (v := .int .i64 Mx.1) rfl; have qVx1 := KVx7.out.cell 1 (v := .slice ax Mx.2.length cx) rfl; have qVu0 := KVu7.out.cell 0 (v := .int .i64 U.1) rfl; have qVu1 := KVu7.out.cell 1 (v := .slice au U.2.length cu) rfl; have qVy0 := KVy7.out.cell 0 (v := .int .i64 U.1) rfl; have qVy1 := KVy7.out.cell 1 (v := .slice ay U.2.length cy) rfl; have qVn0 := KVn7.out.cell 0 (v := .int .i64 Mn.1) rfl; have qVn1 := KVn7.out.cell 1 (v := .slice an Mn.2.length cn) rfl; have qVz0 := KVz7.out.cell 0 (v := .int .i64 Z.1) rfl; have qVz1 := KVz7.out.cell 1 (v := .slice az Z.2.length cz) rfl; have qVk0 := KVk7.out.cell 0 (v := .int .i64 Z.1) rfl; have qVk1 := KVk7.out.cell 1 (v := .slice ak Z.2.length ck) rfl; clear hb hb7)
    | (go_at_call 15; (with_reducible refine (HAz.out _ _ _ (HMz.out.later Hz7.out (Nat.le_refl _)) (HMk.out.later Hk7.out (Nat.le_refl _))).mono ?_); rintro e w8 ⟨rfl, hb⟩; have hb8 := hb; have HB8 := hidP (HB7.out.trans (hb8.mono HB7.out.size)); have KX8 := hidP (KX7.out.below hb8 KX7.out.lt); have KVx8 := hidP (KVx7.out.below hb8 KVx7.out.lt); have KVu8 := hidP (KVu7.out.below hb8 KVu7.out.lt); have KVy8 := hidP (KVy7.out.below hb8 KVy7.out.lt); have KVn8 := hidP (KVn7.out.below hb8 KVn7.out.lt); have KVz8 := hidP (KVz7.out.below hb8 KVz7.out.lt); have KVk8 := hidP (KVk7.out.below hb8 KVk7.out.lt); have Hx8 := hidP (Hx7.out.trans (hb8.mono Hx7.out.size)); have Hu8 := hidP (Hu7.out.trans (hb8.mono Hu7.out.size)); have Hy8 := hidP (Hy7.out.trans (hb8.mono Hy7.out.size)); have Hn8 := hidP (Hn7.out.trans (hb8.mono Hn7.out.size)); have Hz8 := hidP (Hz7.out.trans (hb8.mono Hz7.out.size)); have Hk8 := hidP (Hk7.out.trans (hb8.mono Hk7.out.size)); have qX0 := KX8.out.cell 0 (v := .int .i64 rx.1) rfl; have qX1 := KX8.out.cell 1 (v := .slice a0x rx.2.length c0x) rfl; have qVx0 := KVx8.out.cell 0 (v := .int .i64 Mx.1) rfl; have qVx1 := KVx8.out.cell 1 (v := .slice ax Mx.2.length cx) rfl; have qVu0 := KVu8.out.cell 0 (v := .int .i64 U.1) rfl; have qVu1 := KVu8.out.cell 1 (v := .slice au U.2.length cu) rfl; have qVy0 := KVy8.out.cell 0 (v := .int .i64 U.1) rfl; have qVy1 := KVy8.out.cell 1 (v := .slice ay U.2.length cy) rfl; have qVn0 := KVn8.out.cell 0 (v := .int .i64 Mn.1) rfl; have qVn1 := KVn8.out.cell 1 (v := .slice an Mn.2.length cn) rfl; have qVz0 := KVz8.out.cell 0 (v := .int .i64 Z.1) rfl; have qVz1 := KVz8.out.cell 1 (v := .slice az Z.2.length cz) rfl; have qVk0 := KVk8.out.cell 0 (v := .int .i64 Z.1) rfl; have qVk1 := KVk8.out.cell 1 (v := .slice ak Z.2.length ck) rfl; clear hb hb8))
  go_ret
  exact ⟨rfl, HB8.out⟩
theorem walk (vx : Value) (rx : Rw) (w : World) (hx : RawV w vx rx ∧ okR rx ∧ wfR rx) :
    Calls Try.prog 5 #[vx] w fun e w' => e = .returned (.bool true) ∧ Below w.heap.size w w' := core vx rx w hx

set_option maxRecDepth 100000 in
theorem lifted (os : Os) (started : os.Started) (H : Type) (enc : TypeId × Value → H) :
    ReturnsInHanded {} Try.checked os 5 .any (Rows.removeAgainSpec.pre6 enc Try.prog Try.f5 Rows.removeAgainRow.domain false) (Rows.removeAgainSpec.post enc Try.prog Try.f5 false true false false) := by
  refine returnsInHanded_of_change_sized (C := Try.checked) own started (by kernel_rfl) Try.func5
    (ChangeSpec.witness6 (enc := enc) (C := Try.checked) false ⟨#[], #[.agg #[.int .i64 0, .slice none 0 0]], []⟩ 8 (by kernel_rfl) (by kernel_rfl) (by kernel_rfl) (by kernel_rfl)) ?_
  intro W base args ds gs before hval0 hW hcnd hsz0 _
  have hsz : (DataW.weightsEach Try.prog (Try.f5.params.toList ++ Rows.removeAgainSpec.plain.varTypes Try.prog) (ds ++ gs)).all (· ≤ reachBytes) = true := hsz0
  have hval : ∀ (j : Nat) t v, Try.f5.params[j]? = some t → args[j]? = some v → Value.okWide Try.prog W .any base t v := hval0
  clear hval0 hsz0
  have hW' := hW
  obtain ⟨p, q, hA0, hV, rfl, hfz, hnd⟩ := hW
  have hA : DataW.TrodAll enc Try.prog W 0 (fun _ => true) true Try.f5.params.toList args.toList ds p := hA0
  rw [Try.params5] at hA hval hsz
  obtain ⟨v0, vs0, d0, ds0, p0, q0, hargs, rfl, rfl, h0, r0⟩ := trodAll_cons hA
  obtain ⟨rfl, rfl, rfl⟩ := trodAll_nil r0
  obtain rfl : args = #[v0] := by cases args; simp_all
  obtain ⟨rfl, rfl⟩ := trodVars_none hV
  have k0 := h0
  have lt0 : ∀ x ∈ p0, x.block < W.heap.size := by obtain ⟨m, hm⟩ := k0; exact DataW.trod_lt m _ _ _ hm
  obtain ⟨z0, w0⟩ : ∃ m : Rw, RawV W v0 m ∧ okR m ∧ wfR m := by
    obtain ⟨c0, c1, y0, y1, n, rfl, hd, hp, t0, t1⟩ := Go.Joins.open_agg2 Try.underlying33 (by kernel_rfl) (by kernel_rfl) (hval 0 33 v0 rfl rfl) h0
    subst hd
    exact open_raw t0 t1 ((Fits.arg hsz (j := 0) rfl rfl).field Try.underlying33 (f := 1) rfl rfl)
  refine (walk v0 z0 W w0).mono fun e W' ⟨he, bel⟩ => ?_
  subst he
  exact ⟨_, rfl, _, _, _, [], _, [], hW', trodAll_mk1 (shut_bool Try.underlying4 _), (trodAll_cons_mk (Below.trod laidOut (by kernel_rfl) (of_decide_eq_true (by kernel_rfl)) k0 bel lt0) trodAll_mk0), rfl, bel.frame _, fun h => by cases h⟩
end Go.Proofs.Ytjpfpdbhdcopbaa.removeAgain
namespace Go.Proofs.Ytjpfpdbhdcopbaa
theorem removeAgain_holds : Rows.RemoveAgainSaid :=
  OpenClaim.holds_of_wide 5 Try.f5 rfl rfl rfl rfl rfl rfl rfl ⟨rfl, rfl, rfl, rfl, rfl⟩ rfl rfl rfl rfl rfl (by kernel_rfl) Try.func5 (by kernel_rfl)
    (of_decide_eq_true (by kernel_rfl)) (by unfold Func.isWrapper; first | (rw [if_pos (by decide +kernel)]; kernel_rfl) | (rw [if_neg (by decide +kernel)]; exact ⟨rfl, rfl⟩))
    (fun os started H enc _ => removeAgain.lifted os started H enc)
#print axioms removeAgain_holds
end Go.Proofs.Ytjpfpdbhdcopbaa
