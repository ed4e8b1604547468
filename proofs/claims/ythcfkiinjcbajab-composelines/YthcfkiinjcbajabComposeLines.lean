/- The statement ComposeLines: whatever numbers a machine and two words are made of, what it costs for the two words is the cheapest path of it between the two lines, or one is too large, for every input and without any condition. -/
import Derived.Test.YthcfkiinjcbajabMd
import Derived.Test.YthcfkiinjcbajabJ16p
import Derived.Test.YthcfkiinjcbajabKj
import Derived.Test.YthcfkiinjcbajabJ16q
import Derived.Test.YthcfkiinjcbajabCx
import Derived.Test.YthcfkiinjcbajabZn
import Derived.Test.YthcfkiinjcbajabKe
import Derived.Test.YthcfkiinjcbajabPlainWr
import Derived.Test.YthcfkiinjcbajabJ16f
import Derived.Test.YthcfkiinjcbajabJ16e
import Derived.Test.YthcfkiinjcbajabLo
import Derived.Lib.SmallJoins
import Derived.ChangeOld
import Derived.Below
namespace Go.Proofs.Ythcfkiinjcbajab.composeLines
open Go.ChangeShapes Go.WideShapes Go.ChangeAt Go.RowKit
open Go.Proofs.Ythcfkiinjcbajab.Pl Go.Proofs.Ythcfkiinjcbajab.Wt
set_option linter.unusedVariables false
set_option linter.unusedSimpArgs false

theorem own : ownKnob Try.prog.godebug = none := by kernel_rfl
theorem laidOut : laidOutB Try.prog = true := by kernel_rfl
theorem line_low (x y : List Int) : LowL 0 (croM x y).2 := fun s hs => by
  simp only [croM, List.mem_append, List.mem_map, List.mem_singleton] at hs
  rcases hs with ⟨q, _, rfl⟩ | rfl
  · refine ⟨fun h => absurd rfl h, fun a ha => ?_⟩
    simp only [croS, List.mem_singleton] at ha
    subst ha
    exact Int.le_refl _
  · exact ⟨fun _ => Int.le_refl _, fun a ha => by simp at ha⟩
set_option maxRecDepth 100000 in
set_option maxHeartbeats 6400000 in
theorem core (vx : Value) (rx : Rw) (vv : Value) (zv : List Int) (vt : Value) (zt : List Int) (w : World) (hx : RawV w vx rx ∧ okR rx ∧ wfR rx) (hzv : Nums w vv zv) (hwv : ∀ n ∈ zv, (Lit.int .i64 n).wf = true) (hzt : Nums w vt zt) (hwt : ∀ n ∈ zt, (Lit.int .i64 n).wf = true) :
    Calls Try.prog 5 #[vx, vv, vt] w fun e w' => e = .returned (.bool true) ∧ Below w.heap.size w w' := by
  obtain ⟨hx, hokx, hwfx⟩ := hx
  have HIx : Hid (RawV w vx rx) := hx
  have HOKx : Hid (okR rx) := hokx
  have HWFx : Hid (wfR rx) := hwfx
  obtain ⟨hfx, hcx, hlx, hax, hpx⟩ := made_facts rx 4 (by omega) (by omega)
  have HEx : Hid (∀ v W, RawV W v rx → okR rx → wfR rx → Calls Try.prog 7 #[v, .int .i64 4, .bool false] W fun e w' => ∃ v', e = .returned v' ∧ Mach w' v' (madeM rx 4 false) ∧ Below W.heap.size W w') := fun v W h1 h2 h3 => made_any v rx 4 false W h1 h2 h3 (by omega) (by omega)
  obtain ⟨vs0x, rfl, hNx⟩ := hx
  obtain ⟨a0x, c0x, rfl, hNxx⟩ := hNx.get
  clear hNx hNxx hokx hwfx
  have HZv := hidP hzv
  have HWDv : Hid (∀ v W, Nums W v zv → Calls Try.prog 9 #[v, .int .i64 3] W fun e w' => ∃ v', e = .returned v' ∧ Nums w' v' (wdL zv 3) ∧ Below W.heap.size W w') := fun v W h1 => word_any v zv 3 W h1 hwv (by omega)
  have ewv : wrdE (wdL zv 3) = 0 := wdL_wrd (by omega)
  have lwv := wdL_len zv 3
  clear hzv hwv
  have HZt := hidP hzt
  have HWDt : Hid (∀ v W, Nums W v zt → Calls Try.prog 9 #[v, .int .i64 3] W fun e w' => ∃ v', e = .returned v' ∧ Nums w' v' (wdL zt 3) ∧ Below W.heap.size W w') := fun v W h1 => word_any v zt 3 W h1 hwt (by omega)
  have ewt : wrdE (wdL zt 3) = 0 := wdL_wrd (by omega)
  have lwt := wdL_len zt 3
  clear hzt hwt
  have zx := made_ge rx 4 false (by omega)
  have ea0 : ∀ a ∈ wdL zv 3, a ≠ 0 := fun a h => by rcases wdL_mem h with rfl | rfl <;> omega
  have fa : faultM (croM (wdL zv 3) (wdL zv 3)) = 0 := cro_right (by omega) (by omega) (fun n h => by rcases wdL_mem h with rfl | rfl <;> omega) (fun n h => by rcases wdL_mem h with rfl | rfl <;> omega)
  have HUa : Hid (∀ W v, Nums W v (wdL zv 3) → Calls Try.prog 12 #[v] W fun e w' => RatRes (croM (wdL zv 3) (wdL zv 3)) 0 W e w') := fun W v h1 => by
    have hE : croE (wdL zv 3) (wdL zv 3) = 0 := by unfold croE; rw [if_neg (by simp [ewv])]; exact ewv
    have h9 := lineP_any v _ W h1
    unfold croR at h9
    rw [if_pos hE, hE] at h9
    exact h9
  have eb0 : ∀ a ∈ wdL zt 3, a ≠ 0 := fun a h => by rcases wdL_mem h with rfl | rfl <;> omega
  have fb : faultM (croM (wdL zt 3) (wdL zt 3)) = 0 := cro_right (by omega) (by omega) (fun n h => by rcases wdL_mem h with rfl | rfl <;> omega) (fun n h => by rcases wdL_mem h with rfl | rfl <;> omega)
  have HUb : Hid (∀ W v, Nums W v (wdL zt 3) → Calls Try.prog 12 #[v] W fun e w' => RatRes (croM (wdL zt 3) (wdL zt 3)) 0 W e w') := fun W v h1 => by
    have hE : croE (wdL zt 3) (wdL zt 3) = 0 := by unfold croE; rw [if_neg (by simp [ewt])]; exact ewt
    have h9 := lineP_any v _ W h1
    unfold croR at h9
    rw [if_pos hE, hE] at h9
    exact h9
  rcases cmp_two (by omega) (by omega) (by omega) (line_low (wdL zv 3) (wdL zv 3)) (made_low rx 4) fa hfx (Int.le_refl 0) zx with ec | ⟨C, ec, fc, pc, z9C, l9C, cc⟩
  · obtain ⟨Z, hZ, t9c, kZ⟩ : ∃ Z : Mc, (0, []) = Z ∧ ((Z.2.length : Int) == 0) = true ∧ okM Z := ⟨_, rfl, rfl, by simp, fun j hj => absurd hj (by simp)⟩
    rw [hZ] at ec
    clear hZ
    have HUc : Hid (∀ W v u, Mach W v (croM (wdL zv 3) (wdL zv 3)) → Mach W u (madeM rx 4 false) → Calls Try.prog 8 #[v, u] W fun e w' => RatRes Z 5 W e w') := fun W v u h1 h2 => by
      have := composeP_any v u _ _ W h1 (right_ok fa) h2 (right_ok hfx)
      rw [ec] at this
      exact this
    have HUd : Hid (∀ W v u, Mach W v Z → Mach W u (croM (wdL zt 3) (wdL zt 3)) → Calls Try.prog 8 #[v, u] W fun e w' => RatRes (cpsA Z (croM (wdL zt 3) (wdL zt 3))).1 (cpsA Z (croM (wdL zt 3) (wdL zt 3))).2 W e w') := fun W v u h1 h2 => composeP_any v u _ _ W h1 kZ h2 (right_ok fb)
    generalize (cpsA Z (croM (wdL zt 3) (wdL zt 3))).1 = Xd at *
    generalize (cpsA Z (croM (wdL zt 3) (wdL zt 3))).2 = ed at *
    clear hfx hcx hlx hax hpx ewv lwv ewt lwt zx fa fb ea0 eb0 ec
    generalize croM (wdL zv 3) (wdL zv 3) = A at *
    generalize croM (wdL zt 3) (wdL zt 3) = B at *
    generalize madeM rx 4 false = Mx at *
    generalize wdL zv 3 = Xv at *
    generalize wdL zt 3 = Xt at *
    obtain ⟨avz, cvz, rfl, _⟩ := HZv.out.get
    obtain ⟨atz, ctz, rfl, _⟩ := HZt.out.get
    have HB0 : Hid (∀ o1, Below w.heap.size w (w.alloc o1)) := fun o1 => (Below.refl _ _).alloc (Nat.le_refl _) _
    try clear kZ
    try clear z9C l9C
    try clear z9K l9K
    try clear z9P l9P
    try clear z9R l9R
    try clear z9D l9D
    go_enter Try.func5, Try.ntmps5
    go_wp2_with (first
      | (go_at_call 7; (with_reducible refine (HEx.out _ _ (HIx.out.later (HB0.out _) (Nat.le_refl _)) HOKx.out HWFx.out).mono ?_); rintro e w1 ⟨v1, rfl, hm, hb⟩; have HMx : Hid (Mach w1 v1 (Mx)) := hm; obtain ⟨vsx, rfl, hSx⟩ := hm; obtain ⟨ax, cx, rfl⟩ := hSx.sl; clear hSx; obtain ⟨s1, bb0, hb1⟩ := boxed hb (by simp); have KX1 := hidP bb0; clear bb0; have HB1 := hidP hb1; have qX0 := (KX1.out.alloc (.cells #[.int .i64 Mx.1, .slice ax Mx.2.length cx] 28)).cell 0 (v := .int .i64 rx.1) rfl; have qX1 := (KX1.out.alloc (.cells #[.int .i64 Mx.1, .slice ax Mx.2.length cx] 28)).cell 1 (v := .slice a0x rx.2.length c0x) rfl; clear hb hb1)
      | (go_at_call 9; (with_reducible refine (HWDv.out _ _ (HZv.out.later (HB1.out.alloc HB1.out.size _) (Nat.le_refl _))).mono ?_); rintro e w2 ⟨v2, rfl, hn, hb⟩; have HNv : Hid (Nums w2 v2 (Xv)) := hn; obtain ⟨awv, cwv, rfl, _⟩ := hn.get; obtain ⟨s2, bb0, hb2⟩ := boxed hb (by simp); have KVx2 := hidP bb0; clear bb0; have HB2 := hidP (HB1.out.trans (hb2.mono HB1.out.size)); have KX2 := hidP (KX1.out.below hb2 KX1.out.lt); have Hx2 := hidP hb2; have qX0 := KX2.out.cell 0 (v := .int .i64 rx.1) rfl; have qX1 := KX2.out.cell 1 (v := .slice a0x rx.2.length c0x) rfl; have qVx0 := KVx2.out.cell 0 (v := .int .i64 Mx.1) rfl; have qVx1 := KVx2.out.cell 1 (v := .slice ax Mx.2.length cx) rfl; clear hb hb2)
      | (go_at_call 9; (with_reducible refine (HWDt.out _ _ (HZt.out.later HB2.out (Nat.le_refl _))).mono ?_); rintro e w3 ⟨v3, rfl, hn, hb⟩; have HNt : Hid (Nums w3 v3 (Xt)) := hn; obtain ⟨awt, cwt, rfl, _⟩ := hn.get; have hb3 := hb; have HB3 := hidP (HB2.out.trans (hb3.mono HB2.out.size)); have KX3 := hidP (KX2.out.below hb3 KX2.out.lt); have KVx3 := hidP (KVx2.out.below hb3 KVx2.out.lt); have Hx3 := hidP (Hx2.out.trans (hb3.mono Hx2.out.size)); have Hv3 := hidP hb3; have qX0 := KX3.out.cell 0 (v := .int .i64 rx.1) rfl; have qX1 := KX3.out.cell 1 (v := .slice a0x rx.2.length c0x) rfl; have qVx0 := KVx3.out.cell 0 (v := .int .i64 Mx.1) rfl; have qVx1 := KVx3.out.cell 1 (v := .slice ax Mx.2.length cx) rfl; clear hb hb3)
      | (go_at_call 12; (with_reducible refine (HUa.out _ _ (HNv.out.later Hv3.out (Nat.le_refl _))).mono ?_); rintro e w4 ⟨v4, rfl, hm, hb⟩; have HMa : Hid (Mach w4 v4 (A)) := hm; obtain ⟨vsa, rfl, hSa⟩ := hm; obtain ⟨aa, ca, rfl⟩ := hSa.sl; clear hSa; have hb4 := hb; have HB4 := hidP (HB3.out.trans (hb4.mono HB3.out.size)); have KX4 := hidP (KX3.out.below hb4 KX3.out.lt); have KVx4 := hidP (KVx3.out.below hb4 KVx3.out.lt); have Hx4 := hidP (Hx3.out.trans (hb4.mono Hx3.out.size)); have Hv4 := hidP (Hv3.out.trans (hb4.mono Hv3.out.size)); have Ht4 := hidP hb4; have qX0 := (KX4.out.alloc (.cells #[.int .i64 A.1, .slice aa A.2.length ca] 28)).cell 0 (v := .int .i64 rx.1) rfl; have qX1 := (KX4.out.alloc (.cells #[.int .i64 A.1, .slice aa A.2.length ca] 28)).cell 1 (v := .slice a0x rx.2.length c0x) rfl; have qVx0 := (KVx4.out.alloc (.cells #[.int .i64 A.1, .slice aa A.2.length ca] 28)).cell 0 (v := .int .i64 Mx.1) rfl; have qVx1 := (KVx4.out.alloc (.cells #[.int .i64 A.1, .slice aa A.2.length ca] 28)).cell 1 (v := .slice ax Mx.2.length cx) rfl; clear hb hb4)
      | (go_at_call 12; (with_reducible refine (HUb.out _ _ (HNt.out.later (Ht4.out.alloc Ht4.out.size _) (Nat.le_refl _))).mono ?_); rintro e w5 ⟨v5, rfl, hm, hb⟩; have HMb : Hid (Mach w5 v5 (B)) := hm; obtain ⟨vsb, rfl, hSb⟩ := hm; obtain ⟨ab, cb, rfl⟩ := hSb.sl; clear hSb; obtain ⟨s5, bb0, hb5⟩ := boxed hb (by simp); have KVa5 := hidP bb0; clear bb0; have HB5 := hidP (HB4.out.trans (hb5.mono HB4.out.size)); have KX5 := hidP (KX4.out.below hb5 KX4.out.lt); have KVx5 := hidP (KVx4.out.below hb5 KVx4.out.lt); have Hx5 := hidP (Hx4.out.trans (hb5.mono Hx4.out.size)); have Hv5 := hidP (Hv4.out.trans (hb5.mono Hv4.out.size)); have Ht5 := hidP (Ht4.out.trans (hb5.mono Ht4.out.size)); have Ha5 := hidP hb5; have qX0 := (KX5.out.alloc (.cells #[.int .i64 B.1, .slice ab B.2.length cb] 28)).cell 0 (v := .int .i64 rx.1) rfl; have qX1 := (KX5.out.alloc (.cells #[.int .i64 B.1, .slice ab B.2.length cb] 28)).cell 1 (v := .slice a0x rx.2.length c0x) rfl; have qVx0 := (KVx5.out.alloc (.cells #[.int .i64 B.1, .slice ab B.2.length cb] 28)).cell 0 (v := .int .i64 Mx.1) rfl; have qVx1 := (KVx5.out.alloc (.cells #[.int .i64 B.1, .slice ab B.2.length cb] 28)).cell 1 (v := .slice ax Mx.2.length cx) rfl; have qVa0 := (KVa5.out.alloc (.cells #[.int .i64 B.1, .slice ab B.2.length cb] 28)).cell 0 (v := .int .i64 A.1) rfl; have qVa1 := (KVa5.out.alloc (.cells #[.int .i64 B.1, .slice ab B.2.length cb] 28)).cell 1 (v := .slice aa A.2.length ca) rfl; clear hb hb5)
      | (go_at_call 8; (with_reducible refine (HUc.out _ _ _ (HMa.out.later (Ha5.out.alloc Ha5.out.size _) (Nat.le_refl _)) (HMx.out.later (Hx5.out.alloc Hx5.out.size _) (Nat.le_refl _))).mono ?_); rintro e w6 ⟨v6, rfl, hm, hb⟩; have HMc : Hid (Mach w6 v6 (Z)) := hm; obtain ⟨vsc, rfl, hSc⟩ := hm; obtain ⟨ac, cc, rfl⟩ := hSc.sl; clear hSc; obtain ⟨s6, bb0, hb6⟩ := boxed hb (by simp); have KVb6 := hidP bb0; clear bb0; have HB6 := hidP (HB5.out.trans (hb6.mono HB5.out.size)); have KX6 := hidP (KX5.out.below hb6 KX5.out.lt); have KVx6 := hidP (KVx5.out.below hb6 KVx5.out.lt); have KVa6 := hidP (KVa5.out.below hb6 KVa5.out.lt); have Hx6 := hidP (Hx5.out.trans (hb6.mono Hx5.out.size)); have Hv6 := hidP (Hv5.out.trans (hb6.mono Hv5.out.size)); have Ht6 := hidP (Ht5.out.trans (hb6.mono Ht5.out.size)); have Ha6 := hidP (Ha5.out.trans (hb6.mono Ha5.out.size)); have Hb6 := hidP hb6; have qX0 := (KX6.out.alloc (.cells #[.int .i64 Z.1, .slice ac Z.2.length cc] 28)).cell 0 (v := .int .i64 rx.1) rfl; have qX1 := (KX6.out.alloc (.cells #[.int .i64 Z.1, .slice ac Z.2.length cc] 28)).cell 1 (v := .slice a0x rx.2.length c0x) rfl; have qVx0 := (KVx6.out.alloc (.cells #[.int .i64 Z.1, .slice ac Z.2.length cc] 28)).cell 0 (v := .int .i64 Mx.1) rfl; have qVx1 := (KVx6.out.alloc (.cells #[.int .i64 Z.1, .slice ac Z.2.length cc] 28)).cell 1 (v := .slice ax Mx.2.length cx) rfl; have qVa0 := (KVa6.out.alloc (.cells #[.int .i64 Z.1, .slice ac Z.2.length cc] 28)).cell 0 (v := .int .i64 A.1) rfl; have qVa1 := (KVa6.out.alloc (.cells #[.int .i64 Z.1, .slice ac Z.2.length cc] 28)).cell 1 (v := .slice aa A.2.length ca) rfl; have qVb0 := (KVb6.out.alloc (.cells #[.int .i64 Z.1, .slice ac Z.2.length cc] 28)).cell 0 (v := .int .i64 B.1) rfl; have qVb1 := (KVb6.out.alloc (.cells #[.int .i64 Z.1, .slice ac Z.2.length cc] 28)).cell 1 (v := .slice ab B.2.length cb) rfl; clear hb hb6)
      | (go_at_call 8; (with_reducible refine (HUd.out _ _ _ (HMc.out.later ((Below.refl _ _).alloc (Nat.le_refl _) _) (Nat.le_refl _)) (HMb.out.later (Hb6.out.alloc Hb6.out.size _) (Nat.le_refl _))).mono ?_); rintro e w7 ⟨v7, rfl, hm, hb⟩; have HMd : Hid (Mach w7 v7 (Xd)) := hm; obtain ⟨vsd, rfl, hSd⟩ := hm; obtain ⟨ad, cd, rfl⟩ := hSd.sl; clear hSd; obtain ⟨s7, bb0, hb7⟩ := boxed hb (by simp); have KVc7 := hidP bb0; clear bb0; have HB7 := hidP (HB6.out.trans (hb7.mono HB6.out.size)); have KX7 := hidP (KX6.out.below hb7 KX6.out.lt); have KVx7 := hidP (KVx6.out.below hb7 KVx6.out.lt); have KVa7 := hidP (KVa6.out.below hb7 KVa6.out.lt); have KVb7 := hidP (KVb6.out.below hb7 KVb6.out.lt); have Hx7 := hidP (Hx6.out.trans (hb7.mono Hx6.out.size)); have Hv7 := hidP (Hv6.out.trans (hb7.mono Hv6.out.size)); have Ht7 := hidP (Ht6.out.trans (hb7.mono Ht6.out.size)); have Ha7 := hidP (Ha6.out.trans (hb7.mono Ha6.out.size)); have Hb7 := hidP (Hb6.out.trans (hb7.mono Hb6.out.size)); have Hc7 := hidP hb7; have qX0 := (KX7.out.alloc (.cells #[.int .i64 Xd.1, .slice ad Xd.2.length cd] 28)).cell 0 (v := .int .i64 rx.1) rfl; have qX1 := (KX7.out.alloc (.cells #[.int .i64 Xd.1, .slice ad Xd.2.length cd] 28)).cell 1 (v := .slice a0x rx.2.length c0x) rfl; have qVx0 := (KVx7.out.alloc (.cells #[.int .i64 Xd.1, .slice ad Xd.2.length cd] 28)).cell 0 (v := .int .i64 Mx.1) rfl; have qVx1 := (KVx7.out.alloc (.cells #[.int .i64 Xd.1, .slice ad Xd.2.length cd] 28)).cell 1 (v := .slice ax Mx.2.length cx) rfl; have qVa0 := (KVa7.out.alloc (.cells #[.int .i64 Xd.1, .slice ad Xd.2.length cd] 28)).cell 0 (v := .int .i64 A.1) rfl; have qVa1 := (KVa7.out.alloc (.cells #[.int .i64 Xd.1, .slice ad Xd.2.length cd] 28)).cell 1 (v := .slice aa A.2.length ca) rfl; have qVb0 := (KVb7.out.alloc (.cells #[.int .i64 Xd.1, .slice ad Xd.2.length cd] 28)).cell 0 (v := .int .i64 B.1) rfl; have qVb1 := (KVb7.out.alloc (.cells #[.int .i64 Xd.1, .slice ad Xd.2.length cd] 28)).cell 1 (v := .slice ab B.2.length cb) rfl; have qVc0 := (KVc7.out.alloc (.cells #[.int .i64 Xd.1, .slice ad Xd.2.length cd] 28)).cell 0 (v := .int .i64 Z.1) rfl; have qVc1 := (KVc7.out.alloc (.cells #[.int .i64 Xd.1, .slice ad Xd.2.length cd] 28)).cell 1 (v := .slice ac Z.2.length cc) rfl; clear hb hb7))
    go_ret
    exact ⟨rfl, (HB7.out.alloc HB7.out.size _)⟩
  · rcases cmp_two (by omega) (by omega) (by omega) l9C (line_low (wdL zt 3) (wdL zt 3)) fc fb (by omega) (Int.le_refl 0) with ed | ⟨D, ed, fd, pd, z9D, l9D, cd⟩
    · have HUc : Hid (∀ W v u, Mach W v (croM (wdL zv 3) (wdL zv 3)) → Mach W u (madeM rx 4 false) → Calls Try.prog 8 #[v, u] W fun e w' => RatRes C 0 W e w') := fun W v u h1 h2 => by
        have := composeP_any v u _ _ W h1 (right_ok fa) h2 (right_ok hfx)
        rw [ec] at this
        exact this
      obtain ⟨Z, hZ, t9d, kZ⟩ : ∃ Z : Mc, (0, []) = Z ∧ ((Z.2.length : Int) == 0) = true ∧ okM Z := ⟨_, rfl, rfl, by simp, fun j hj => absurd hj (by simp)⟩
      rw [hZ] at ed
      clear hZ
      have HUd : Hid (∀ W v u, Mach W v C → Mach W u (croM (wdL zt 3) (wdL zt 3)) → Calls Try.prog 8 #[v, u] W fun e w' => RatRes Z 5 W e w') := fun W v u h1 h2 => by
        have := composeP_any v u _ _ W h1 (right_ok fc) h2 (right_ok fb)
        rw [ed] at this
        exact this
      clear hfx hcx hlx hax hpx ewv lwv ewt lwt zx fa fb ea0 eb0 ec ed fc cc pc
      generalize croM (wdL zv 3) (wdL zv 3) = A at *
      generalize croM (wdL zt 3) (wdL zt 3) = B at *
      generalize madeM rx 4 false = Mx at *
      generalize wdL zv 3 = Xv at *
      generalize wdL zt 3 = Xt at *
      obtain ⟨avz, cvz, rfl, _⟩ := HZv.out.get
      obtain ⟨atz, ctz, rfl, _⟩ := HZt.out.get
      have HB0 : Hid (∀ o1, Below w.heap.size w (w.alloc o1)) := fun o1 => (Below.refl _ _).alloc (Nat.le_refl _) _
      try clear kZ
      try clear z9C l9C
      try clear z9K l9K
      try clear z9P l9P
      try clear z9R l9R
      try clear z9D l9D
      go_enter Try.func5, Try.ntmps5
      go_wp2_with (first
        | (go_at_call 7; (with_reducible refine (HEx.out _ _ (HIx.out.later (HB0.out _) (Nat.le_refl _)) HOKx.out HWFx.out).mono ?_); rintro e w1 ⟨v1, rfl, hm, hb⟩; have HMx : Hid (Mach w1 v1 (Mx)) := hm; obtain ⟨vsx, rfl, hSx⟩ := hm; obtain ⟨ax, cx, rfl⟩ := hSx.sl; clear hSx; obtain ⟨s1, bb0, hb1⟩ := boxed hb (by simp); have KX1 := hidP bb0; clear bb0; have HB1 := hidP hb1; have qX0 := (KX1.out.alloc (.cells #[.int .i64 Mx.1, .slice ax Mx.2.length cx] 28)).cell 0 (v := .int .i64 rx.1) rfl; have qX1 := (KX1.out.alloc (.cells #[.int .i64 Mx.1, .slice ax Mx.2.length cx] 28)).cell 1 (v := .slice a0x rx.2.length c0x) rfl; clear hb hb1)
        | (go_at_call 9; (with_reducible refine (HWDv.out _ _ (HZv.out.later (HB1.out.alloc HB1.out.size _) (Nat.le_refl _))).mono ?_); rintro e w2 ⟨v2, rfl, hn, hb⟩; have HNv : Hid (Nums w2 v2 (Xv)) := hn; obtain ⟨awv, cwv, rfl, _⟩ := hn.get; obtain ⟨s2, bb0, hb2⟩ := boxed hb (by simp); have KVx2 := hidP bb0; clear bb0; have HB2 := hidP (HB1.out.trans (hb2.mono HB1.out.size)); have KX2 := hidP (KX1.out.below hb2 KX1.out.lt); have Hx2 := hidP hb2; have qX0 := KX2.out.cell 0 (v := .int .i64 rx.1) rfl; have qX1 := KX2.out.cell 1 (v := .slice a0x rx.2.length c0x) rfl; have qVx0 := KVx2.out.cell 0 (v := .int .i64 Mx.1) rfl; have qVx1 := KVx2.out.cell 1 (v := .slice ax Mx.2.length cx) rfl; clear hb hb2)
        | (go_at_call 9; (with_reducible refine (HWDt.out _ _ (HZt.out.later HB2.out (Nat.le_refl _))).mono ?_); rintro e w3 ⟨v3, rfl, hn, hb⟩; have HNt : Hid (Nums w3 v3 (Xt)) := hn; obtain ⟨awt, cwt, rfl, _⟩ := hn.get; have hb3 := hb; have HB3 := hidP (HB2.out.trans (hb3.mono HB2.out.size)); have KX3 := hidP (KX2.out.below hb3 KX2.out.lt); have KVx3 := hidP (KVx2.out.below hb3 KVx2.out.lt); have Hx3 := hidP (Hx2.out.trans (hb3.mono Hx2.out.size)); have Hv3 := hidP hb3; have qX0 := KX3.out.cell 0 (v := .int .i64 rx.1) rfl; have qX1 := KX3.out.cell 1 (v := .slice a0x rx.2.length c0x) rfl; have qVx0 := KVx3.out.cell 0 (v := .int .i64 Mx.1) rfl; have qVx1 := KVx3.out.cell 1 (v := .slice ax Mx.2.length cx) rfl; clear hb hb3)
        | (go_at_call 12; (with_reducible refine (HUa.out _ _ (HNv.out.later Hv3.out (Nat.le_refl _))).mono ?_); rintro e w4 ⟨v4, rfl, hm, hb⟩; have HMa : Hid (Mach w4 v4 (A)) := hm; obtain ⟨vsa, rfl, hSa⟩ := hm; obtain ⟨aa, ca, rfl⟩ := hSa.sl; clear hSa; have hb4 := hb; have HB4 := hidP (HB3.out.trans (hb4.mono HB3.out.size)); have KX4 := hidP (KX3.out.below hb4 KX3.out.lt); have KVx4 := hidP (KVx3.out.below hb4 KVx3.out.lt); have Hx4 := hidP (Hx3.out.trans (hb4.mono Hx3.out.size)); have Hv4 := hidP (Hv3.out.trans (hb4.mono Hv3.out.size)); have Ht4 := hidP hb4; have qX0 := (KX4.out.alloc (.cells #[.int .i64 A.1, .slice aa A.2.length ca] 28)).cell 0 (v := .int .i64 rx.1) rfl; have qX1 := (KX4.out.alloc (.cells #[.int .i64 A.1, .slice aa A.2.length ca] 28)).cell 1 (v := .slice a0x rx.2.length c0x) rfl; have qVx0 := (KVx4.out.alloc (.cells #[.int .i64 A.1, .slice aa A.2.length ca] 28)).cell 0 (v := .int .i64 Mx.1) rfl; have qVx1 := (KVx4.out.alloc (.cells #[.int .i64 A.1, .slice aa A.2.length ca] 28)).cell 1 (v := .slice ax Mx.2.length cx) rfl; clear hb hb4)
        | (go_at_call 12; (with_reducible refine (HUb.out _ _ (HNt.out.later (Ht4.out.alloc Ht4.out.size _) (Nat.le_refl _))).mono ?_); rintro e w5 ⟨v5, rfl, hm, hb⟩; have HMb : Hid (Mach w5 v5 (B)) := hm; obtain ⟨vsb, rfl, hSb⟩ := hm; obtain ⟨ab, cb, rfl⟩ := hSb.sl; clear hSb; obtain ⟨s5, bb0, hb5⟩ := boxed hb (by simp); have KVa5 := hidP bb0; clear bb0; have HB5 := hidP (HB4.out.trans (hb5.mono HB4.out.size)); have KX5 := hidP (KX4.out.below hb5 KX4.out.lt); have KVx5 := hidP (KVx4.out.below hb5 KVx4.out.lt); have Hx5 := hidP (Hx4.out.trans (hb5.mono Hx4.out.size)); have Hv5 := hidP (Hv4.out.trans (hb5.mono Hv4.out.size)); have Ht5 := hidP (Ht4.out.trans (hb5.mono Ht4.out.size)); have Ha5 := hidP hb5; have qX0 := (KX5.out.alloc (.cells #[.int .i64 B.1, .slice ab B.2.length cb] 28)).cell 0 (v := .int .i64 rx.1) rfl; have qX1 := (KX5.out.alloc (.cells #[.int .i64 B.1, .slice ab B.2.length cb] 28)).cell 1 (v := .slice a0x rx.2.length c0x) rfl; have qVx0 := (KVx5.out.alloc (.cells #[.int .i64 B.1, .slice ab B.2.length cb] 28)).cell 0 (v := .int .i64 Mx.1) rfl; have qVx1 := (KVx5.out.alloc (.cells #[.int .i64 B.1, .slice ab B.2.length cb] 28)).cell 1 (v := .slice ax Mx.2.length cx) rfl; have qVa0 := (KVa5.out.alloc (.cells #[.int .i64 B.1, .slice ab B.2.length cb] 28)).cell 0 (v := .int .i64 A.1) rfl; have qVa1 := (KVa5.out.alloc (.cells #[.int .i64 B.1, .slice ab B.2.length cb] 28)).cell 1 (v := .slice aa A.2.length ca) rfl; clear hb hb5)
        | (go_at_call 8; (with_reducible refine (HUc.out _ _ _ (HMa.out.later (Ha5.out.alloc Ha5.out.size _) (Nat.le_refl _)) (HMx.out.later (Hx5.out.alloc Hx5.out.size _) (Nat.le_refl _))).mono ?_); rintro e w6 ⟨v6, rfl, hm, hb⟩; have HMc : Hid (Mach w6 v6 (C)) := hm; obtain ⟨vsc, rfl, hSc⟩ := hm; obtain ⟨ac, cc, rfl⟩ := hSc.sl; clear hSc; obtain ⟨s6, bb0, hb6⟩ := boxed hb (by simp); have KVb6 := hidP bb0; clear bb0; have HB6 := hidP (HB5.out.trans (hb6.mono HB5.out.size)); have KX6 := hidP (KX5.out.below hb6 KX5.out.lt); have KVx6 := hidP (KVx5.out.below hb6 KVx5.out.lt); have KVa6 := hidP (KVa5.out.below hb6 KVa5.out.lt); have Hx6 := hidP (Hx5.out.trans (hb6.mono Hx5.out.size)); have Hv6 := hidP (Hv5.out.trans (hb6.mono Hv5.out.size)); have Ht6 := hidP (Ht5.out.trans (hb6.mono Ht5.out.size)); have Ha6 := hidP (Ha5.out.trans (hb6.mono Ha5.out.size)); have Hb6 := hidP hb6; have qX0 := (KX6.out.alloc (.cells #[.int .i64 C.1, .slice ac C.2.length cc] 28)).cell 0 (v := .int .i64 rx.1) rfl; have qX1 := (KX6.out.alloc (.cells #[.int .i64 C.1, .slice ac C.2.length cc] 28)).cell 1 (v := .slice a0x rx.2.length c0x) rfl; have qVx0 := (KVx6.out.alloc (.cells #[.int .i64 C.1, .slice ac C.2.length cc] 28)).cell 0 (v := .int .i64 Mx.1) rfl; have qVx1 := (KVx6.out.alloc (.cells #[.int .i64 C.1, .slice ac C.2.length cc] 28)).cell 1 (v := .slice ax Mx.2.length cx) rfl; have qVa0 := (KVa6.out.alloc (.cells #[.int .i64 C.1, .slice ac C.2.length cc] 28)).cell 0 (v := .int .i64 A.1) rfl; have qVa1 := (KVa6.out.alloc (.cells #[.int .i64 C.1, .slice ac C.2.length cc] 28)).cell 1 (v := .slice aa A.2.length ca) rfl; have qVb0 := (KVb6.out.alloc (.cells #[.int .i64 C.1, .slice ac C.2.length cc] 28)).cell 0 (v := .int .i64 B.1) rfl; have qVb1 := (KVb6.out.alloc (.cells #[.int .i64 C.1, .slice ac C.2.length cc] 28)).cell 1 (v := .slice ab B.2.length cb) rfl; clear hb hb6)
        | (go_at_call 8; (with_reducible refine (HUd.out _ _ _ (HMc.out.later ((Below.refl _ _).alloc (Nat.le_refl _) _) (Nat.le_refl _)) (HMb.out.later (Hb6.out.alloc Hb6.out.size _) (Nat.le_refl _))).mono ?_); rintro e w7 ⟨v7, rfl, hm, hb⟩; have HMd : Hid (Mach w7 v7 (Z)) := hm; obtain ⟨vsd, rfl, hSd⟩ := hm; obtain ⟨ad, cd, rfl⟩ := hSd.sl; clear hSd; obtain ⟨s7, bb0, hb7⟩ := boxed hb (by simp); have KVc7 := hidP bb0; clear bb0; have HB7 := hidP (HB6.out.trans (hb7.mono HB6.out.size)); have KX7 := hidP (KX6.out.below hb7 KX6.out.lt); have KVx7 := hidP (KVx6.out.below hb7 KVx6.out.lt); have KVa7 := hidP (KVa6.out.below hb7 KVa6.out.lt); have KVb7 := hidP (KVb6.out.below hb7 KVb6.out.lt); have Hx7 := hidP (Hx6.out.trans (hb7.mono Hx6.out.size)); have Hv7 := hidP (Hv6.out.trans (hb7.mono Hv6.out.size)); have Ht7 := hidP (Ht6.out.trans (hb7.mono Ht6.out.size)); have Ha7 := hidP (Ha6.out.trans (hb7.mono Ha6.out.size)); have Hb7 := hidP (Hb6.out.trans (hb7.mono Hb6.out.size)); have Hc7 := hidP hb7; have qX0 := (KX7.out.alloc (.cells #[.int .i64 Z.1, .slice ad Z.2.length cd] 28)).cell 0 (v := .int .i64 rx.1) rfl; have qX1 := (KX7.out.alloc (.cells #[.int .i64 Z.1, .slice ad Z.2.length cd] 28)).cell 1 (v := .slice a0x rx.2.length c0x) rfl; have qVx0 := (KVx7.out.alloc (.cells #[.int .i64 Z.1, .slice ad Z.2.length cd] 28)).cell 0 (v := .int .i64 Mx.1) rfl; have qVx1 := (KVx7.out.alloc (.cells #[.int .i64 Z.1, .slice ad Z.2.length cd] 28)).cell 1 (v := .slice ax Mx.2.length cx) rfl; have qVa0 := (KVa7.out.alloc (.cells #[.int .i64 Z.1, .slice ad Z.2.length cd] 28)).cell 0 (v := .int .i64 A.1) rfl; have qVa1 := (KVa7.out.alloc (.cells #[.int .i64 Z.1, .slice ad Z.2.length cd] 28)).cell 1 (v := .slice aa A.2.length ca) rfl; have qVb0 := (KVb7.out.alloc (.cells #[.int .i64 Z.1, .slice ad Z.2.length cd] 28)).cell 0 (v := .int .i64 B.1) rfl; have qVb1 := (KVb7.out.alloc (.cells #[.int .i64 Z.1, .slice ad Z.2.length cd] 28)).cell 1 (v := .slice ab B.2.length cb) rfl; have qVc0 := (KVc7.out.alloc (.cells #[.int .i64 Z.1, .slice ad Z.2.length cd] 28)).cell 0 (v := .int .i64 C.1) rfl; have qVc1 := (KVc7.out.alloc (.cells #[.int .i64 Z.1, .slice ad Z.2.length cd] 28)).cell 1 (v := .slice ac C.2.length cc) rfl; clear hb hb7))
      go_ret
      exact ⟨rfl, (HB7.out.alloc HB7.out.size _)⟩
    · have HUc : Hid (∀ W v u, Mach W v (croM (wdL zv 3) (wdL zv 3)) → Mach W u (madeM rx 4 false) → Calls Try.prog 8 #[v, u] W fun e w' => RatRes C 0 W e w') := fun W v u h1 h2 => by
        have := composeP_any v u _ _ W h1 (right_ok fa) h2 (right_ok hfx)
        rw [ec] at this
        exact this
      have HUd : Hid (∀ W v u, Mach W v C → Mach W u (croM (wdL zt 3) (wdL zt 3)) → Calls Try.prog 8 #[v, u] W fun e w' => RatRes D 0 W e w') := fun W v u h1 h2 => by
        have := composeP_any v u _ _ W h1 (right_ok fc) h2 (right_ok fb)
        rw [ed] at this
        exact this
      have HCx : Hid (∀ W v s t, Mach W v (madeM rx 4 false) → Nums W s (wdL zv 3) → Nums W t (wdL zt 3) → Calls Try.prog 10 #[v, s, t] W fun e w' => ∃ n : Int, e = .returned (.int .i64 n) ∧ CstIs (Costs (madeM rx 4 false) (wdL zv 3) (wdL zt 3)) n ∧ Below W.heap.size W w') := fun W v s t h1 h2 h3 => cost_any v s t _ _ _ W h1 (right_ok hfx) hfx hcx h2 h3 ewv ewt
      have HLE : Hid (∀ W v, Mach W v D → Calls Try.prog 13 #[v] W fun e w' => ∃ x : Int, e = .returned (.tuple #[.int .i64 x, .int .i64 0]) ∧ CstIs (EndC D.2 D.1.toNat) x ∧ Below W.heap.size W w') := fun W v h1 => least_cst v D W h1 fd cd (by omega)
      have HFC : Hid (∀ a u, CstIs (Costs (madeM rx 4 false) (wdL zv 3) (wdL zt 3)) a → CstIs (EndC D.2 D.1.toNat) u → u = a) := fun a u h1 h3 => h3.eq h1 (fun c => cmp_lines hfx fa fb zx (Int.le_refl 0) (Int.le_refl 0) (fun u v k => costs_cro ea0 ea0 u v k) (fun u v k => costs_cro eb0 eb0 u v k) ec ed c)
      clear hfx hcx hlx hax hpx ewv lwv ewt lwt zx fa fb ea0 eb0 ec ed fc cc fd cd pd z9C l9C z9D l9D
      generalize croM (wdL zv 3) (wdL zv 3) = A at *
      generalize croM (wdL zt 3) (wdL zt 3) = B at *
      generalize madeM rx 4 false = Mx at *
      generalize wdL zv 3 = Xv at *
      generalize wdL zt 3 = Xt at *
      generalize (fun n => CstIs (Costs Mx Xv Xt) n) = Qx at *
      generalize (fun n => CstIs (EndC D.2 D.1.toNat) n) = Ql at *
      obtain ⟨avz, cvz, rfl, _⟩ := HZv.out.get
      obtain ⟨atz, ctz, rfl, _⟩ := HZt.out.get
      have t4 : (0 : Int) < (C.2.length : Int) := by omega
      clear pc
      have HB0 : Hid (∀ o1, Below w.heap.size w (w.alloc o1)) := fun o1 => (Below.refl _ _).alloc (Nat.le_refl _) _
      try clear kZ
      try clear z9C l9C
      try clear z9K l9K
      try clear z9P l9P
      try clear z9R l9R
      try clear z9D l9D
      go_enter Try.func5, Try.ntmps5
      go_wp2_with (first
        | (go_at_call 7; (with_reducible refine (HEx.out _ _ (HIx.out.later (HB0.out _) (Nat.le_refl _)) HOKx.out HWFx.out).mono ?_); rintro e w1 ⟨v1, rfl, hm, hb⟩; have HMx : Hid (Mach w1 v1 (Mx)) := hm; obtain ⟨vsx, rfl, hSx⟩ := hm; obtain ⟨ax, cx, rfl⟩ := hSx.sl; clear hSx; obtain ⟨s1, bb0, hb1⟩ := boxed hb (by simp); have KX1 := hidP bb0; clear bb0; have HB1 := hidP hb1; have qX0 := (KX1.out.alloc (.cells #[.int .i64 Mx.1, .slice ax Mx.2.length cx] 28)).cell 0 (v := .int .i64 rx.1) rfl; have qX1 := (KX1.out.alloc (.cells #[.int .i64 Mx.1, .slice ax Mx.2.length cx] 28)).cell 1 (v := .slice a0x rx.2.length c0x) rfl; clear hb hb1)
        | (go_at_call 9; (with_reducible refine (HWDv.out _ _ (HZv.out.later (HB1.out.alloc HB1.out.size _) (Nat.le_refl _))).mono ?_); rintro e w2 ⟨v2, rfl, hn, hb⟩; have HNv : Hid (Nums w2 v2 (Xv)) := hn; obtain ⟨awv, cwv, rfl, _⟩ := hn.get; obtain ⟨s2, bb0, hb2⟩ := boxed hb (by simp); have KVx2 := hidP bb0; clear bb0; have HB2 := hidP (HB1.out.trans (hb2.mono HB1.out.size)); have KX2 := hidP (KX1.out.below hb2 KX1.out.lt); have Hx2 := hidP hb2; have qX0 := KX2.out.cell 0 (v := .int .i64 rx.1) rfl; have qX1 := KX2.out.cell 1 (v := .slice a0x rx.2.length c0x) rfl; have qVx0 := KVx2.out.cell 0 (v := .int .i64 Mx.1) rfl; have qVx1 := KVx2.out.cell 1 (v := .slice ax Mx.2.length cx) rfl; clear hb hb2)
        | (go_at_call 9; (with_reducible refine (HWDt.out _ _ (HZt.out.later HB2.out (Nat.le_refl _))).mono ?_); rintro e w3 ⟨v3, rfl, hn, hb⟩; have HNt : Hid (Nums w3 v3 (Xt)) := hn; obtain ⟨awt, cwt, rfl, _⟩ := hn.get; have hb3 := hb; have HB3 := hidP (HB2.out.trans (hb3.mono HB2.out.size)); have KX3 := hidP (KX2.out.below hb3 KX2.out.lt); have KVx3 := hidP (KVx2.out.below hb3 KVx2.out.lt); have Hx3 := hidP (Hx2.out.trans (hb3.mono Hx2.out.size)); have Hv3 := hidP hb3; have qX0 := KX3.out.cell 0 (v := .int .i64 rx.1) rfl; have qX1 := KX3.out.cell 1 (v := .slice a0x rx.2.length c0x) rfl; have qVx0 := KVx3.out.cell 0 (v := .int .i64 Mx.1) rfl; have qVx1 := KVx3.out.cell 1 (v := .slice ax Mx.2.length cx) rfl; clear hb hb3)
        | (go_at_call 12; (with_reducible refine (HUa.out _ _ (HNv.out.later Hv3.out (Nat.le_refl _))).mono ?_); rintro e w4 ⟨v4, rfl, hm, hb⟩; have HMa : Hid (Mach w4 v4 (A)) := hm; obtain ⟨vsa, rfl, hSa⟩ := hm; obtain ⟨aa, ca, rfl⟩ := hSa.sl; clear hSa; have hb4 := hb; have HB4 := hidP (HB3.out.trans (hb4.mono HB3.out.size)); have KX4 := hidP (KX3.out.below hb4 KX3.out.lt); have KVx4 := hidP (KVx3.out.below hb4 KVx3.out.lt); have Hx4 := hidP (Hx3.out.trans (hb4.mono Hx3.out.size)); have Hv4 := hidP (Hv3.out.trans (hb4.mono Hv3.out.size)); have Ht4 := hidP hb4; have qX0 := (KX4.out.alloc (.cells #[.int .i64 A.1, .slice aa A.2.length ca] 28)).cell 0 (v := .int .i64 rx.1) rfl; have qX1 := (KX4.out.alloc (.cells #[.int .i64 A.1, .slice aa A.2.length ca] 28)).cell 1 (v := .slice a0x rx.2.length c0x) rfl; have qVx0 := (KVx4.out.alloc (.cells #[.int .i64 A.1, .slice aa A.2.length ca] 28)).cell 0 (v := .int .i64 Mx.1) rfl; have qVx1 := (KVx4.out.alloc (.cells #[.int .i64 A.1, .slice aa A.2.length ca] 28)).cell 1 (v := .slice ax Mx.2.length cx) rfl; clear hb hb4)
        | (go_at_call 12; (with_reducible refine (HUb.out _ _ (HNt.out.later (Ht4.out.alloc Ht4.out.size _) (Nat.le_refl _))).mono ?_); rintro e w5 ⟨v5, rfl, hm, hb⟩; have HMb : Hid (Mach w5 v5 (B)) := hm; obtain ⟨vsb, rfl, hSb⟩ := hm; obtain ⟨ab, cb, rfl⟩ := hSb.sl; clear hSb; obtain ⟨s5, bb0, hb5⟩ := boxed hb (by simp); have KVa5 := hidP bb0; clear bb0; have HB5 := hidP (HB4.out.trans (hb5.mono HB4.out.size)); have KX5 := hidP (KX4.out.below hb5 KX4.out.lt); have KVx5 := hidP (KVx4.out.below hb5 KVx4.out.lt); have Hx5 := hidP (Hx4.out.trans (hb5.mono Hx4.out.size)); have Hv5 := hidP (Hv4.out.trans (hb5.mono Hv4.out.size)); have Ht5 := hidP (Ht4.out.trans (hb5.mono Ht4.out.size)); have Ha5 := hidP hb5; have qX0 := (KX5.out.alloc (.cells #[.int .i64 B.1, .slice ab B.2.length cb] 28)).cell 0 (v := .int .i64 rx.1) rfl; have qX1 := (KX5.out.alloc (.cells #[.int .i64 B.1, .slice ab B.2.length cb] 28)).cell 1 (v := .slice a0x rx.2.length c0x) rfl; have qVx0 := (KVx5.out.alloc (.cells #[.int .i64 B.1, .slice ab B.2.length cb] 28)).cell 0 (v := .int .i64 Mx.1) rfl; have qVx1 := (KVx5.out.alloc (.cells #[.int .i64 B.1, .slice ab B.2.length cb] 28)).cell 1 (v := .slice ax Mx.2.length cx) rfl; have qVa0 := (KVa5.out.alloc (.cells #[.int .i64 B.1, .slice ab B.2.length cb] 28)).cell 0 (v := .int .i64 A.1) rfl; have qVa1 := (KVa5.out.alloc (.cells #[.int .i64 B.1, .slice ab B.2.length cb] 28)).cell 1 (v := .slice aa A.2.length ca) rfl; clear hb hb5)
        | (go_at_call 8; (with_reducible refine (HUc.out _ _ _ (HMa.out.later (Ha5.out.alloc Ha5.out.size _) (Nat.le_refl _)) (HMx.out.later (Hx5.out.alloc Hx5.out.size _) (Nat.le_refl _))).mono ?_); rintro e w6 ⟨v6, rfl, hm, hb⟩; have HMc : Hid (Mach w6 v6 (C)) := hm; obtain ⟨vsc, rfl, hSc⟩ := hm; obtain ⟨ac, cc, rfl⟩ := hSc.sl; clear hSc; obtain ⟨s6, bb0, hb6⟩ := boxed hb (by simp); have KVb6 := hidP bb0; clear bb0; have HB6 := hidP (HB5.out.trans (hb6.mono HB5.out.size)); have KX6 := hidP (KX5.out.below hb6 KX5.out.lt); have KVx6 := hidP (KVx5.out.below hb6 KVx5.out.lt); have KVa6 := hidP (KVa5.out.below hb6 KVa5.out.lt); have Hx6 := hidP (Hx5.out.trans (hb6.mono Hx5.out.size)); have Hv6 := hidP (Hv5.out.trans (hb6.mono Hv5.out.size)); have Ht6 := hidP (Ht5.out.trans (hb6.mono Ht5.out.size)); have Ha6 := hidP (Ha5.out.trans (hb6.mono Ha5.out.size)); have Hb6 := hidP hb6; have qX0 := (KX6.out.alloc (.cells #[.int .i64 C.1, .slice ac C.2.length cc] 28)).cell 0 (v := .int .i64 rx.1) rfl; have qX1 := (KX6.out.alloc (.cells #[.int .i64 C.1, .slice ac C.2.length cc] 28)).cell 1 (v := .slice a0x rx.2.length c0x) rfl; have qVx0 := (KVx6.out.alloc (.cells #[.int .i64 C.1, .slice ac C.2.length cc] 28)).cell 0 (v := .int .i64 Mx.1) rfl; have qVx1 := (KVx6.out.alloc (.cells #[.int .i64 C.1, .slice ac C.2.length cc] 28)).cell 1 (v := .slice ax Mx.2.length cx) rfl; have qVa0 := (KVa6.out.alloc (.cells #[.int .i64 C.1, .slice ac C.2.length cc] 28)).cell 0 (v := .int .i64 A.1) rfl; have qVa1 := (KVa6.out.alloc (.cells #[.int .i64 C.1, .slice ac C.2.length cc] 28)).cell 1 (v := .slice aa A.2.length ca) rfl; have qVb0 := (KVb6.out.alloc (.cells #[.int .i64 C.1, .slice ac C.2.length cc] 28)).cell 0 (v := .int .i64 B.1) rfl; have qVb1 := (KVb6.out.alloc (.cells #[.int .i64 C.1, .slice ac C.2.length cc] 28)).cell 1 (v := .slice ab B.2.length cb) rfl; clear hb hb6)
        | (go_at_call 8; (with_reducible refine (HUd.out _ _ _ (HMc.out.later ((Below.refl _ _).alloc (Nat.le_refl _) _) (Nat.le_refl _)) (HMb.out.later (Hb6.out.alloc Hb6.out.size _) (Nat.le_refl _))).mono ?_); rintro e w7 ⟨v7, rfl, hm, hb⟩; have HMd : Hid (Mach w7 v7 (D)) := hm; obtain ⟨vsd, rfl, hSd⟩ := hm; obtain ⟨ad, cd, rfl⟩ := hSd.sl; clear hSd; obtain ⟨s7, bb0, hb7⟩ := boxed hb (by simp); have KVc7 := hidP bb0; clear bb0; have HB7 := hidP (HB6.out.trans (hb7.mono HB6.out.size)); have KX7 := hidP (KX6.out.below hb7 KX6.out.lt); have KVx7 := hidP (KVx6.out.below hb7 KVx6.out.lt); have KVa7 := hidP (KVa6.out.below hb7 KVa6.out.lt); have KVb7 := hidP (KVb6.out.below hb7 KVb6.out.lt); have Hx7 := hidP (Hx6.out.trans (hb7.mono Hx6.out.size)); have Hv7 := hidP (Hv6.out.trans (hb7.mono Hv6.out.size)); have Ht7 := hidP (Ht6.out.trans (hb7.mono Ht6.out.size)); have Ha7 := hidP (Ha6.out.trans (hb7.mono Ha6.out.size)); have Hb7 := hidP (Hb6.out.trans (hb7.mono Hb6.out.size)); have Hc7 := hidP hb7; have qX0 := (KX7.out.alloc (.cells #[.int .i64 D.1, .slice ad D.2.length cd] 28)).cell 0 (v := .int .i64 rx.1) rfl; have qX1 := (KX7.out.alloc (.cells #[.int .i64 D.1, .slice ad D.2.length cd] 28)).cell 1 (v := .slice a0x rx.2.length c0x) rfl; have qVx0 := (KVx7.out.alloc (.cells #[.int .i64 D.1, .slice ad D.2.length cd] 28)).cell 0 (v := .int .i64 Mx.1) rfl; have qVx1 := (KVx7.out.alloc (.cells #[.int .i64 D.1, .slice ad D.2.length cd] 28)).cell 1 (v := .slice ax Mx.2.length cx) rfl; have qVa0 := (KVa7.out.alloc (.cells #[.int .i64 D.1, .slice ad D.2.length cd] 28)).cell 0 (v := .int .i64 A.1) rfl; have qVa1 := (KVa7.out.alloc (.cells #[.int .i64 D.1, .slice ad D.2.length cd] 28)).cell 1 (v := .slice aa A.2.length ca) rfl; have qVb0 := (KVb7.out.alloc (.cells #[.int .i64 D.1, .slice ad D.2.length cd] 28)).cell 0 (v := .int .i64 B.1) rfl; have qVb1 := (KVb7.out.alloc (.cells #[.int .i64 D.1, .slice ad D.2.length cd] 28)).cell 1 (v := .slice ab B.2.length cb) rfl; have qVc0 := (KVc7.out.alloc (.cells #[.int .i64 D.1, .slice ad D.2.length cd] 28)).cell 0 (v := .int .i64 C.1) rfl; have qVc1 := (KVc7.out.alloc (.cells #[.int .i64 D.1, .slice ad D.2.length cd] 28)).cell 1 (v := .slice ac C.2.length cc) rfl; clear hb hb7)
        | (go_at_call 13; (with_reducible refine (HLE.out _ _ (HMd.out.later ((Below.refl _ _).alloc (Nat.le_refl _) _) (Nat.le_refl _))).mono ?_); rintro e w8 ⟨nl, rfl, hq, hb⟩; obtain ⟨s8, bb0, hb8⟩ := boxed hb (by simp); have KVd8 := hidP bb0; clear bb0; have HB8 := hidP (HB7.out.trans (hb8.mono HB7.out.size)); have KX8 := hidP (KX7.out.below hb8 KX7.out.lt); have KVx8 := hidP (KVx7.out.below hb8 KVx7.out.lt); have KVa8 := hidP (KVa7.out.below hb8 KVa7.out.lt); have KVb8 := hidP (KVb7.out.below hb8 KVb7.out.lt); have KVc8 := hidP (KVc7.out.below hb8 KVc7.out.lt); have Hx8 := hidP (Hx7.out.trans (hb8.mono Hx7.out.size)); have Hv8 := hidP (Hv7.out.trans (hb8.mono Hv7.out.size)); have Ht8 := hidP (Ht7.out.trans (hb8.mono Ht7.out.size)); have Ha8 := hidP (Ha7.out.trans (hb8.mono Ha7.out.size)); have Hb8 := hidP (Hb7.out.trans (hb8.mono Hb7.out.size)); have Hc8 := hidP (Hc7.out.trans (hb8.mono Hc7.out.size)); have Hd8 := hidP hb8; have qX0 := KX8.out.cell 0 (v := .int .i64 rx.1) rfl; have qX1 := KX8.out.cell 1 (v := .slice a0x rx.2.length c0x) rfl; have qVx0 := KVx8.out.cell 0 (v := .int .i64 Mx.1) rfl; have qVx1 := KVx8.out.cell 1 (v := .slice ax Mx.2.length cx) rfl; have qVa0 := KVa8.out.cell 0 (v := .int .i64 A.1) rfl; have qVa1 := KVa8.out.cell 1 (v := .slice aa A.2.length ca) rfl; have qVb0 := KVb8.out.cell 0 (v := .int .i64 B.1) rfl; have qVb1 := KVb8.out.cell 1 (v := .slice ab B.2.length cb) rfl; have qVc0 := KVc8.out.cell 0 (v := .int .i64 C.1) rfl; have qVc1 := KVc8.out.cell 1 (v := .slice ac C.2.length cc) rfl; have qVd0 := KVd8.out.cell 0 (v := .int .i64 D.1) rfl; have qVd1 := KVd8.out.cell 1 (v := .slice ad D.2.length cd) rfl; have HQl := hidP hq; clear hq; clear hb hb8)
        | (go_at_call 10; (with_reducible refine (HCx.out _ _ _ _ (HMx.out.later Hx8.out (Nat.le_refl _)) (HNv.out.later Hv8.out (Nat.le_refl _)) (HNt.out.later Ht8.out (Nat.le_refl _))).mono ?_); rintro e w9 ⟨nx, rfl, hq, hb⟩; have hb9 := hb; have HB9 := hidP (HB8.out.trans (hb9.mono HB8.out.size)); have KX9 := hidP (KX8.out.below hb9 KX8.out.lt); have KVx9 := hidP (KVx8.out.below hb9 KVx8.out.lt); have KVa9 := hidP (KVa8.out.below hb9 KVa8.out.lt); have KVb9 := hidP (KVb8.out.below hb9 KVb8.out.lt); have KVc9 := hidP (KVc8.out.below hb9 KVc8.out.lt); have KVd9 := hidP (KVd8.out.below hb9 KVd8.out.lt); have Hx9 := hidP (Hx8.out.trans (hb9.mono Hx8.out.size)); have Hv9 := hidP (Hv8.out.trans (hb9.mono Hv8.out.size)); have Ht9 := hidP (Ht8.out.trans (hb9.mono Ht8.out.size)); have Ha9 := hidP (Ha8.out.trans (hb9.mono Ha8.out.size)); have Hb9 := hidP (Hb8.out.trans (hb9.mono Hb8.out.size)); have Hc9 := hidP (Hc8.out.trans (hb9.mono Hc8.out.size)); have Hd9 := hidP (Hd8.out.trans (hb9.mono Hd8.out.size)); have qX0 := KX9.out.cell 0 (v := .int .i64 rx.1) rfl; have qX1 := KX9.out.cell 1 (v := .slice a0x rx.2.length c0x) rfl; have qVx0 := KVx9.out.cell 0 (v := .int .i64 Mx.1) rfl; have qVx1 := KVx9.out.cell 1 (v := .slice ax Mx.2.length cx) rfl; have qVa0 := KVa9.out.cell 0 (v := .int .i64 A.1) rfl; have qVa1 := KVa9.out.cell 1 (v := .slice aa A.2.length ca) rfl; have qVb0 := KVb9.out.cell 0 (v := .int .i64 B.1) rfl; have qVb1 := KVb9.out.cell 1 (v := .slice ab B.2.length cb) rfl; have qVc0 := KVc9.out.cell 0 (v := .int .i64 C.1) rfl; have qVc1 := KVc9.out.cell 1 (v := .slice ac C.2.length cc) rfl; have qVd0 := KVd9.out.cell 0 (v := .int .i64 D.1) rfl; have qVd1 := KVd9.out.cell 1 (v := .slice ad D.2.length cd) rfl; have HQx := hidP hq; have nnx := hq.nonneg; clear hq; have g3 := HFC.out _ _ HQx.out HQl.out; have t3 : (nl == nx) = true := (by simpa using g3); clear g3; clear hb hb9))
      go_ret
      exact ⟨rfl, HB9.out⟩
theorem walk (vx : Value) (rx : Rw) (a1 : Option Addr) (len1 cap1 : Nat) (z1 : List Int) (a2 : Option Addr) (len2 cap2 : Nat) (z2 : List Int) (w : World) (hx : RawV w vx rx ∧ okR rx ∧ wfR rx) (w1 : IsRow .i64 w a1 len1 cap1 z1 ∧ cap1 * 8 ≤ 140737488351232) (w2 : IsRow .i64 w a2 len2 cap2 z2 ∧ cap2 * 8 ≤ 140737488351232) :
    Calls Try.prog 5 #[vx, .slice a1 len1 cap1, .slice a2 len2 cap2] w fun e w' => e = .returned (.bool true) ∧ Below w.heap.size w w' := by
  obtain ⟨p1, _, _⟩ := row_nums w1.1
  obtain ⟨p2, _, _⟩ := row_nums w2.1
  exact core vx rx _ _ _ _ w hx p1 (row_wf w1.1) p2 (row_wf w2.1)

set_option maxRecDepth 100000 in
theorem lifted (os : Os) (started : os.Started) (H : Type) (enc : TypeId × Value → H) :
    ReturnsInHanded {} Try.checked os 5 .any (Rows.composeLinesSpec.pre6 enc Try.prog Try.f5 Rows.composeLinesRow.domain false) (Rows.composeLinesSpec.post enc Try.prog Try.f5 false true false false) := by
  refine returnsInHanded_of_change_sized (C := Try.checked) own started (by kernel_rfl) Try.func5
    (ChangeSpec.witness6 (enc := enc) (C := Try.checked) false ⟨#[], #[.agg #[.int .i64 0, .slice none 0 0], .slice none 0 0, .slice none 0 0], []⟩ 8 (by kernel_rfl) (by kernel_rfl) (by kernel_rfl) (by kernel_rfl)) ?_
  intro W base args ds gs before hval0 hW hcnd hsz0 _
  have hsz : (DataW.weightsEach Try.prog (Try.f5.params.toList ++ Rows.composeLinesSpec.plain.varTypes Try.prog) (ds ++ gs)).all (· ≤ reachBytes) = true := hsz0
  have hval : ∀ (j : Nat) t v, Try.f5.params[j]? = some t → args[j]? = some v → Value.okWide Try.prog W .any base t v := hval0
  clear hval0 hsz0
  have hW' := hW
  obtain ⟨p, q, hA0, hV, rfl, hfz, hnd⟩ := hW
  have hA : DataW.TrodAll enc Try.prog W 0 (fun _ => true) true Try.f5.params.toList args.toList ds p := hA0
  rw [Try.params5] at hA hval hsz
  obtain ⟨v0, vs0, d0, ds0, p0, q0, hargs, rfl, rfl, h0, r0⟩ := trodAll_cons hA
  obtain ⟨v1, vs1, d1, ds1, p1, q1, rfl, rfl, rfl, h1, r1⟩ := trodAll_cons r0
  obtain ⟨v2, vs2, d2, ds2, p2, q2, rfl, rfl, rfl, h2, r2⟩ := trodAll_cons r1
  obtain ⟨rfl, rfl, rfl⟩ := trodAll_nil r2
  obtain rfl : args = #[v0, v1, v2] := by cases args; simp_all
  obtain ⟨rfl, rfl⟩ := trodVars_none hV
  have k0 := h0
  have lt0 : ∀ x ∈ p0, x.block < W.heap.size := by obtain ⟨m, hm⟩ := k0; exact DataW.trod_lt m _ _ _ hm
  obtain ⟨z0, w0⟩ : ∃ m : Rw, RawV W v0 m ∧ okR m ∧ wfR m := by
    obtain ⟨c0, c1, y0, y1, n, rfl, hd, hp, t0, t1⟩ := Go.Joins.open_agg2 Try.underlying24 (by kernel_rfl) (by kernel_rfl) (hval 0 24 v0 rfl rfl) h0
    subst hd
    exact open_raw t0 t1 ((Fits.arg hsz (j := 0) rfl rfl).field Try.underlying24 (f := 1) rfl rfl)
  obtain ⟨a1, len1, cap1, rfl⟩ := okWide_slice Try.underlying25 (hval 1 25 v1 rfl rfl)
  have k1 := h1
  have lt1 : ∀ x ∈ p1, x.block < W.heap.size := by obtain ⟨m, hm⟩ := k1; exact DataW.trod_lt m _ _ _ hm
  obtain ⟨z1, w1⟩ : ∃ zs, IsRow .i64 W a1 len1 cap1 zs ∧ cap1 * 8 ≤ 140737488351232 := by
    obtain ⟨fuel, hf⟩ := h1
    rcases open_ints Try.underlying25 Try.underlying3 (by kernel_rfl) hf with ⟨hcs, _⟩ | ⟨x, l, c, zs, hcs, _, hl, hm, hz, hx, hcell, hwz⟩
    · simp [Value.cells] at hcs
      obtain ⟨rfl, rfl, rfl⟩ := hcs
      exact ⟨[], .inl ⟨rfl, rfl, rfl, rfl⟩, by omega⟩
    · have hd := congrArg Prod.fst hx
      have hsw := sized_slice hsz (j := 1) (t := 25) (e := 3) rfl (congrArg some hd) Try.underlying25
      have hby : Try.prog.bytesOf 3 = 8 := by kernel_rfl
      rw [hby] at hsw
      simp [Value.cells] at hcs
      obtain ⟨rfl, rfl, rfl⟩ := hcs
      have hz' : zs.length = cap1 := by simpa using hz
      simp only [lits, List.length_map, List.length_take, List.length_drop, reachBytes] at hsw
      exact ⟨zs, .inr ⟨_, rfl, hl, hm, hz', hcell, hwz⟩, by omega⟩
  obtain ⟨a2, len2, cap2, rfl⟩ := okWide_slice Try.underlying25 (hval 2 25 v2 rfl rfl)
  have k2 := h2
  have lt2 : ∀ x ∈ p2, x.block < W.heap.size := by obtain ⟨m, hm⟩ := k2; exact DataW.trod_lt m _ _ _ hm
  obtain ⟨z2, w2⟩ : ∃ zs, IsRow .i64 W a2 len2 cap2 zs ∧ cap2 * 8 ≤ 140737488351232 := by
    obtain ⟨fuel, hf⟩ := h2
    rcases open_ints Try.underlying25 Try.underlying3 (by kernel_rfl) hf with ⟨hcs, _⟩ | ⟨x, l, c, zs, hcs, _, hl, hm, hz, hx, hcell, hwz⟩
    · simp [Value.cells] at hcs
      obtain ⟨rfl, rfl, rfl⟩ := hcs
      exact ⟨[], .inl ⟨rfl, rfl, rfl, rfl⟩, by omega⟩
    · have hd := congrArg Prod.fst hx
      have hsw := sized_slice hsz (j := 2) (t := 25) (e := 3) rfl (congrArg some hd) Try.underlying25
      have hby : Try.prog.bytesOf 3 = 8 := by kernel_rfl
      rw [hby] at hsw
      simp [Value.cells] at hcs
      obtain ⟨rfl, rfl, rfl⟩ := hcs
      have hz' : zs.length = cap2 := by simpa using hz
      simp only [lits, List.length_map, List.length_take, List.length_drop, reachBytes] at hsw
      exact ⟨zs, .inr ⟨_, rfl, hl, hm, hz', hcell, hwz⟩, by omega⟩
  refine (walk v0 z0 a1 len1 cap1 z1 a2 len2 cap2 z2 W w0 w1 w2).mono fun e W' ⟨he, bel⟩ => ?_
  subst he
  exact ⟨_, rfl, _, _, _, [], _, [], hW', trodAll_mk1 (shut_bool Try.underlying4 _), (trodAll_cons_mk (Below.trod laidOut (by kernel_rfl) (of_decide_eq_true (by kernel_rfl)) k0 bel lt0) (trodAll_cons_mk (Below.trod laidOut (by kernel_rfl) (of_decide_eq_true (by kernel_rfl)) k1 bel lt1) (trodAll_cons_mk (Below.trod laidOut (by kernel_rfl) (of_decide_eq_true (by kernel_rfl)) k2 bel lt2) trodAll_mk0))), rfl, bel.frame _, fun h => by cases h⟩
end Go.Proofs.Ythcfkiinjcbajab.composeLines
namespace Go.Proofs.Ythcfkiinjcbajab
theorem composeLines_holds : Rows.ComposeLinesSaid :=
  OpenClaim.holds_of_wide 5 Try.f5 rfl rfl rfl rfl rfl rfl rfl ⟨rfl, rfl, rfl, rfl, rfl⟩ rfl rfl rfl rfl rfl (by kernel_rfl) Try.func5 (by kernel_rfl)
    (of_decide_eq_true (by kernel_rfl)) (by unfold Func.isWrapper; first | (rw [if_pos (by decide +kernel)]; kernel_rfl) | (rw [if_neg (by decide +kernel)]; exact ⟨rfl, rfl⟩))
    (fun os started H enc _ => composeLines.lifted os started H enc)
#print axioms composeLines_holds
end Go.Proofs.Ythcfkiinjcbajab
