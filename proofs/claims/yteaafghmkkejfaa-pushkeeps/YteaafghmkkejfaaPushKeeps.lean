/- The statement PushKeeps: whatever numbers a machine and two words are made of, pushed it costs the total less, and pulled what it cost, for every input and without any condition. -/
import Derived.Test.YteaafghmkkejfaaMd
import Derived.Test.YteaafghmkkejfaaJ15y
import Derived.Test.YteaafghmkkejfaaKj
import Derived.Test.YteaafghmkkejfaaJ15z
import Derived.Test.YteaafghmkkejfaaPz
import Derived.Test.YteaafghmkkejfaaJ15x
import Derived.Test.YteaafghmkkejfaaPlainPn
import Derived.Test.YteaafghmkkejfaaLo
import Derived.Lib.SmallJoins
import Derived.ChangeOld
import Derived.Below
namespace Go.Proofs.Yteaafghmkkejfaa.pushKeeps
open Go.ChangeShapes Go.WideShapes Go.ChangeAt Go.RowKit
open Go.Proofs.Yteaafghmkkejfaa.Pl Go.Proofs.Yteaafghmkkejfaa.Wt
set_option linter.unusedVariables false
set_option linter.unusedSimpArgs false

theorem own : ownKnob Try.prog.godebug = none := by kernel_rfl
theorem laidOut : laidOutB Try.prog = true := by kernel_rfl
set_option maxRecDepth 100000 in
set_option maxHeartbeats 1600000 in
theorem core (vx : Value) (rx : Rw) (vv : Value) (zv : List Int) (vt : Value) (zt : List Int) (w : World) (hx : RawV w vx rx ∧ okR rx ∧ wfR rx) (hzv : Nums w vv zv) (hwv : ∀ n ∈ zv, (Lit.int .i64 n).wf = true) (hzt : Nums w vt zt) (hwt : ∀ n ∈ zt, (Lit.int .i64 n).wf = true) :
    Calls Try.prog 5 #[vx, vv, vt] w fun e w' => e = .returned (.bool true) ∧ Below w.heap.size w w' := by
  obtain ⟨hx, hokx, hwfx⟩ := hx
  have HIx : Hid (RawV w vx rx) := hx
  have HOKx : Hid (okR rx) := hokx
  have HWFx : Hid (wfR rx) := hwfx
  obtain ⟨hfx, hcx, hlx, hax, hpx⟩ := made_facts rx 6 (by omega) (by omega)
  have HEx : Hid (∀ v W, RawV W v rx → okR rx → wfR rx → Calls Try.prog 13 #[v, .int .i64 6, .bool false] W fun e w' => ∃ v', e = .returned v' ∧ Mach w' v' (madeM rx 6 false) ∧ Below W.heap.size W w') := fun v W h1 h2 h3 => made_any v rx 6 false W h1 h2 h3 (by omega) (by omega)
  obtain ⟨vs0x, rfl, hNx⟩ := hx
  obtain ⟨a0x, c0x, rfl, hNxx⟩ := hNx.get
  clear hNx hNxx hokx hwfx
  have HZv := hidP hzv
  have HWDv : Hid (∀ v W, Nums W v zv → Calls Try.prog 14 #[v, .int .i64 4] W fun e w' => ∃ v', e = .returned v' ∧ Nums w' v' (wdL zv 4) ∧ Below W.heap.size W w') := fun v W h1 => word_any v zv 4 W h1 hwv (by omega)
  have ewv : wrdE (wdL zv 4) = 0 := wdL_wrd (by omega)
  have lwv := wdL_len zv 4
  clear hzv hwv
  have HZt := hidP hzt
  have HWDt : Hid (∀ v W, Nums W v zt → Calls Try.prog 14 #[v, .int .i64 4] W fun e w' => ∃ v', e = .returned v' ∧ Nums w' v' (wdL zt 4) ∧ Below W.heap.size W w') := fun v W h1 => word_any v zt 4 W h1 hwt (by omega)
  have ewt : wrdE (wdL zt 4) = 0 := wdL_wrd (by omega)
  have lwt := wdL_len zt 4
  clear hzt hwt
  have hz := made_begin rx 6 false (by omega)
  have hzl := start_lt hfx
  obtain ⟨z, hz1⟩ : ∃ z : Nat, (madeM rx 6 false).1 = (z : Int) := ⟨(madeM rx 6 false).1.toNat, by omega⟩
  have HZ1 := hidP hz1
  have HZL : Hid (z < (madeM rx 6 false).2.length) := by show _ < _; omega
  have hM := fun x tt ec (h : PshAns (madeM rx 6 false) x tt ec) => psh_made hfx (made_nine rx 6 false) (by omega) h
  have HPU : Hid (∀ W v, Mach W v (madeM rx 6 false) → Calls Try.prog 8 #[v] W fun e w' => PshRes (PshAns (madeM rx 6 false)) W e w') := fun W v h1 => pushP_any v _ W h1 (right_ok hfx)
  have HPF : Hid (∀ x tt ec, PshAns (madeM rx 6 false) x tt ec → ec = 0 ∧ 0 ≤ tt ∧ tt ≤ 90 ∧ faultM x = 0 ∧ CheapL x.2) := fun x tt ec h => by
    obtain ⟨h1, T, vs, h2⟩ := hM x tt ec h
    exact ⟨h1, h2.tot_rng.1, h2.tot_rng.2, h2.rightx, h2.cheapx⟩
  have HPL : Hid (∀ W v x tt, faultM x = 0 → Mach W v x → Calls Try.prog 11 #[v, .int .i64 tt] W fun e w' => PulRes (PulAns x tt) W e w') := fun W v x tt h1 h2 => pullP_any v x tt W h2 (right_ok h1)
  have HPP : Hid (∀ x tt ec, PshAns (madeM rx 6 false) x tt ec → ∀ y f, PulAns x tt y f → f = 0 ∧ faultM y = 0 ∧ CheapL y.2 ∧ ∀ a b c, CstIs (Costs (madeM rx 6 false) (wdL zv 4) (wdL zt 4)) a → CstIs (Costs x (wdL zv 4) (wdL zt 4)) b → CstIs (Costs y (wdL zv 4) (wdL zt 4)) c → c = a) := fun x tt ec h y f h' => by
    obtain ⟨h1, T, vs, h2⟩ := hM x tt ec h
    obtain ⟨e1, e2, e3, e4, e5⟩ := pul_made h2 h'
    refine ⟨e1, e4, e5, fun a b c k1 k2 k3 => ?_⟩
    rw [e2] at k3
    exact h2.pulled k1 k2 e3 k3
  have HBO : Hid (∀ x tt ec, PshAns (madeM rx 6 false) x tt ec → ∀ a b, CstIs (Costs (madeM rx 6 false) (wdL zv 4) (wdL zt 4)) a → CstIs (Costs x (wdL zv 4) (wdL zt 4)) b → a = bothI tt b) := fun x tt ec h a b k1 k2 => by
    obtain ⟨h1, T, vs, h2⟩ := hM x tt ec h
    exact h2.both k1 k2
  have hSM : (el (madeM rx 6 false).2 z).1 ≠ 1000000001 → ∀ x tt ec, PshAns (madeM rx 6 false) x tt ec → 0 < x.2.length := fun hn x tt ec h => by
    obtain ⟨h1, T, vs, h2⟩ := hM x tt ec h
    have e : (madeM rx 6 false).1.toNat = z := by omega
    exact h2.some hz (by omega) (by rw [e]; exact hn)
  have HCG : Hid (∀ N : Mc, faultM N = 0 → CheapL N.2 → ∀ W v s t, Mach W v N → Nums W s (wdL zv 4) → Nums W t (wdL zt 4) → Calls Try.prog 15 #[v, s, t] W fun e w' => ∃ n : Int, e = .returned (.int .i64 n) ∧ CstIs (Costs N (wdL zv 4) (wdL zt 4)) n ∧ Below W.heap.size W w') := fun N f1 c1 W v s t h1 h2 h3 => cost_any v s t _ _ _ W h1 (right_ok f1) f1 c1 h2 h3 ewv ewt
  have HCx := hidP (HCG.out (madeM rx 6 false) hfx hcx)
  have HBA : Hid (∀ (a b : Int) W, 0 ≤ a → a ≤ 90 → 0 ≤ b → b ≤ 1000000001 → Calls Try.prog 16 #[.int .i64 a, .int .i64 b] W fun e w' => e = .returned (.int .i64 (bothI a b)) ∧ Below W.heap.size W w') := fun a b W h1 h2 h3 h4 => by
    refine (both_any a b W ⟨h1, by omega⟩ ⟨h3, h4⟩).mono ?_
    rintro e w' ⟨rfl, rfl⟩
    exact ⟨rfl, Below.refl _ _⟩
  clear hM hfx hcx ewv ewt lwv lwt hlx hax hpx hz
  generalize madeM rx 6 false = Mx at *
  generalize wdL zv 4 = Xv at *
  generalize wdL zt 4 = Xt at *
  have z0 : (0 : Int) ≤ (z : Int) := by omega
  have z1 : (z : Int) < (Mx.2.length : Int) := by rw [← hz1]; exact hzl
  clear hz1 hzl
  obtain ⟨avz, cvz, rfl, _⟩ := HZv.out.get
  obtain ⟨atz, ctz, rfl, _⟩ := HZt.out.get
  have HB0 : Hid (∀ o1, Below w.heap.size w (w.alloc o1)) := fun o1 => (Below.refl _ _).alloc (Nat.le_refl _) _
  by_cases hfin : (el Mx.2 z).1 = 1000000001
  · have HFI := hidP hfin
    clear hSM hfin
    go_enter Try.func5, Try.ntmps5
    go_wp2_with (first
      | (go_at_call 13; (with_reducible refine (HEx.out _ _ (HIx.out.later (HB0.out _) (Nat.le_refl _)) HOKx.out HWFx.out).mono ?_); rintro e w1 ⟨v1, rfl, hm, hb⟩; have HMx : Hid (Mach w1 v1 (Mx)) := hm; obtain ⟨vsx, rfl, hSx⟩ := hm; obtain ⟨ax, cx, rfl⟩ := hSx.sl; clear hSx; obtain ⟨s1, bb0, hb1⟩ := boxed hb (by simp); have KX1 := hidP bb0; clear bb0; have HB1 := hidP hb1; have qX0 := (KX1.out.alloc (.cells #[.int .i64 Mx.1, .slice ax Mx.2.length cx] 24)).cell 0 (v := .int .i64 rx.1) rfl; have qX1 := (KX1.out.alloc (.cells #[.int .i64 Mx.1, .slice ax Mx.2.length cx] 24)).cell 1 (v := .slice a0x rx.2.length c0x) rfl; clear hb hb1)
      | (go_at_call 8; (with_reducible refine (HPU.out _ _ (HMx.out.later ((Below.refl _ _).alloc (Nat.le_refl _) _) (Nat.le_refl _))).mono ?_); rintro e w2 ⟨v2, U, tt, ec, rfl, hq, hm, hb⟩; have HMu : Hid (Mach w2 v2 (U)) := hm; obtain ⟨vsu, rfl, hSu⟩ := hm; obtain ⟨au, cu, rfl⟩ := hSu.sl; clear hSu; have HQp := hidP hq; obtain ⟨rfl, tt0, tt9, hfU, hcU⟩ := HPF.out _ _ _ hq; have HFU := hidP hfU; have HCu := hidP (HCG.out U hfU hcU); clear hq hfU hcU; obtain ⟨s2, bb0, hb2⟩ := boxed hb (by simp); have KVx2 := hidP bb0; clear bb0; have HB2 := hidP (HB1.out.trans (hb2.mono HB1.out.size)); have KX2 := hidP (KX1.out.below hb2 KX1.out.lt); have Hx2 := hidP hb2; have qX0 := (KX2.out.alloc (.cells #[.int .i64 U.1, .slice au U.2.length cu] 24)).cell 0 (v := .int .i64 rx.1) rfl; have qX1 := (KX2.out.alloc (.cells #[.int .i64 U.1, .slice au U.2.length cu] 24)).cell 1 (v := .slice a0x rx.2.length c0x) rfl; have qVx0 := (KVx2.out.alloc (.cells #[.int .i64 U.1, .slice au U.2.length cu] 24)).cell 0 (v := .int .i64 Mx.1) rfl; have qVx1 := (KVx2.out.alloc (.cells #[.int .i64 U.1, .slice au U.2.length cu] 24)).cell 1 (v := .slice ax Mx.2.length cx) rfl; clear hb hb2)
      | (go_at_call 11; (with_reducible refine (HPL.out _ _ _ _ HFU.out (HMu.out.later ((Below.refl _ _).alloc (Nat.le_refl _) _) (Nat.le_refl _))).mono ?_); rintro e w3 ⟨v3, Y, f, rfl, hq, hm, hb⟩; have HMy : Hid (Mach w3 v3 (Y)) := hm; obtain ⟨vsy, rfl, hSy⟩ := hm; obtain ⟨ay, cy, rfl⟩ := hSy.sl; clear hSy; obtain ⟨rfl, hfY, hcY, hpy⟩ := HPP.out _ _ _ HQp.out _ _ hq; have HCy := hidP (HCG.out Y hfY hcY); have HPY := hidP hpy; clear hq hfY hcY hpy; obtain ⟨s3, bb0, hb3⟩ := boxed hb (by simp); have KVu3 := hidP bb0; clear bb0; have HB3 := hidP (HB2.out.trans (hb3.mono HB2.out.size)); have KX3 := hidP (KX2.out.below hb3 KX2.out.lt); have KVx3 := hidP (KVx2.out.below hb3 KVx2.out.lt); have Hx3 := hidP (Hx2.out.trans (hb3.mono Hx2.out.size)); have Hu3 := hidP hb3; have qX0 := (KX3.out.alloc (.cells #[.int .i64 Y.1, .slice ay Y.2.length cy] 24)).cell 0 (v := .int .i64 rx.1) rfl; have qX1 := (KX3.out.alloc (.cells #[.int .i64 Y.1, .slice ay Y.2.length cy] 24)).cell 1 (v := .slice a0x rx.2.length c0x) rfl; have qVx0 := (KVx3.out.alloc (.cells #[.int .i64 Y.1, .slice ay Y.2.length cy] 24)).cell 0 (v := .int .i64 Mx.1) rfl; have qVx1 := (KVx3.out.alloc (.cells #[.int .i64 Y.1, .slice ay Y.2.length cy] 24)).cell 1 (v := .slice ax Mx.2.length cx) rfl; have qVu0 := (KVu3.out.alloc (.cells #[.int .i64 Y.1, .slice ay Y.2.length cy] 24)).cell 0 (v := .int .i64 U.1) rfl; have qVu1 := (KVu3.out.alloc (.cells #[.int .i64 Y.1, .slice ay Y.2.length cy] 24)).cell 1 (v := .slice au U.2.length cu) rfl; clear hb hb3)
      | (go_at_call 14; (with_reducible refine (HWDv.out _ _ (HZv.out.later (HB3.out.alloc HB3.out.size _) (Nat.le_refl _))).mono ?_); rintro e w4 ⟨v4, rfl, hn, hb⟩; have HNv : Hid (Nums w4 v4 (Xv)) := hn; obtain ⟨awv, cwv, rfl, _⟩ := hn.get; obtain ⟨s4, bb0, hb4⟩ := boxed hb (by simp); have KVy4 := hidP bb0; clear bb0; have HB4 := hidP (HB3.out.trans (hb4.mono HB3.out.size)); have KX4 := hidP (KX3.out.below hb4 KX3.out.lt); have KVx4 := hidP (KVx3.out.below hb4 KVx3.out.lt); have KVu4 := hidP (KVu3.out.below hb4 KVu3.out.lt); have Hx4 := hidP (Hx3.out.trans (hb4.mono Hx3.out.size)); have Hu4 := hidP (Hu3.out.trans (hb4.mono Hu3.out.size)); have Hy4 := hidP hb4; have qX0 := KX4.out.cell 0 (v := .int .i64 rx.1) rfl; have qX1 := KX4.out.cell 1 (v := .slice a0x rx.2.length c0x) rfl; have qVx0 := KVx4.out.cell 0 (v := .int .i64 Mx.1) rfl; have qVx1 := KVx4.out.cell 1 (v := .slice ax Mx.2.length cx) rfl; have qVu0 := KVu4.out.cell 0 (v := .int .i64 U.1) rfl; have qVu1 := KVu4.out.cell 1 (v := .slice au U.2.length cu) rfl; have qVy0 := KVy4.out.cell 0 (v := .int .i64 Y.1) rfl; have qVy1 := KVy4.out.cell 1 (v := .slice ay Y.2.length cy) rfl; clear hb hb4)
      | (go_at_call 14; (with_reducible refine (HWDt.out _ _ (HZt.out.later HB4.out (Nat.le_refl _))).mono ?_); rintro e w5 ⟨v5, rfl, hn, hb⟩; have HNt : Hid (Nums w5 v5 (Xt)) := hn; obtain ⟨awt, cwt, rfl, _⟩ := hn.get; have hb5 := hb; have HB5 := hidP (HB4.out.trans (hb5.mono HB4.out.size)); have KX5 := hidP (KX4.out.below hb5 KX4.out.lt); have KVx5 := hidP (KVx4.out.below hb5 KVx4.out.lt); have KVu5 := hidP (KVu4.out.below hb5 KVu4.out.lt); have KVy5 := hidP (KVy4.out.below hb5 KVy4.out.lt); have Hx5 := hidP (Hx4.out.trans (hb5.mono Hx4.out.size)); have Hu5 := hidP (Hu4.out.trans (hb5.mono Hu4.out.size)); have Hy5 := hidP (Hy4.out.trans (hb5.mono Hy4.out.size)); have Hv5 := hidP hb5; have qX0 := KX5.out.cell 0 (v := .int .i64 rx.1) rfl; have qX1 := KX5.out.cell 1 (v := .slice a0x rx.2.length c0x) rfl; have qVx0 := KVx5.out.cell 0 (v := .int .i64 Mx.1) rfl; have qVx1 := KVx5.out.cell 1 (v := .slice ax Mx.2.length cx) rfl; have qVu0 := KVu5.out.cell 0 (v := .int .i64 U.1) rfl; have qVu1 := KVu5.out.cell 1 (v := .slice au U.2.length cu) rfl; have qVy0 := KVy5.out.cell 0 (v := .int .i64 Y.1) rfl; have qVy1 := KVy5.out.cell 1 (v := .slice ay Y.2.length cy) rfl; clear hb hb5)
      | (go_at_call 15; (with_reducible refine (HCx.out _ _ _ _ (HMx.out.later Hx5.out (Nat.le_refl _)) (HNv.out.later Hv5.out (Nat.le_refl _)) (HNt.out.later (Below.refl _ _) (Nat.le_refl _))).mono ?_); rintro e w6 ⟨nx, rfl, hq, hb⟩; have hb6 := hb; have HB6 := hidP (HB5.out.trans (hb6.mono HB5.out.size)); have KX6 := hidP (KX5.out.below hb6 KX5.out.lt); have KVx6 := hidP (KVx5.out.below hb6 KVx5.out.lt); have KVu6 := hidP (KVu5.out.below hb6 KVu5.out.lt); have KVy6 := hidP (KVy5.out.below hb6 KVy5.out.lt); have Hx6 := hidP (Hx5.out.trans (hb6.mono Hx5.out.size)); have Hu6 := hidP (Hu5.out.trans (hb6.mono Hu5.out.size)); have Hy6 := hidP (Hy5.out.trans (hb6.mono Hy5.out.size)); have Hv6 := hidP (Hv5.out.trans (hb6.mono Hv5.out.size)); have Ht6 := hidP hb6; have qX0 := KX6.out.cell 0 (v := .int .i64 rx.1) rfl; have qX1 := KX6.out.cell 1 (v := .slice a0x rx.2.length c0x) rfl; have qVx0 := KVx6.out.cell 0 (v := .int .i64 Mx.1) rfl; have qVx1 := KVx6.out.cell 1 (v := .slice ax Mx.2.length cx) rfl; have qVu0 := KVu6.out.cell 0 (v := .int .i64 U.1) rfl; have qVu1 := KVu6.out.cell 1 (v := .slice au U.2.length cu) rfl; have qVy0 := KVy6.out.cell 0 (v := .int .i64 Y.1) rfl; have qVy1 := KVy6.out.cell 1 (v := .slice ay Y.2.length cy) rfl; have HQx := hidP hq; have nnx := hq.nonneg; clear hq; obtain ⟨_, he, hS⟩ := HMx.out.later Hx6.out (Nat.le_refl _); simp only [Value.agg.injEq, Array.mk.injEq, List.cons.injEq, and_true, true_and] at he; subst he; obtain ⟨_, _, e3, g3⟩ := hS.get; simp only [Value.slice.injEq, true_and] at e3; obtain ⟨rfl, rfl⟩ := e3; obtain ⟨b3, o3, va, hax, hb3, c3, _, _⟩ := g3 z HZL.out; rw [HZ1.out] at qVx0; rw [hax] at qVx1; rw [HFI.out] at c3; clear g3 hS hax; clear hb hb6)
      | (go_at_call 15; (with_reducible refine (HCu.out _ _ _ _ (HMu.out.later Hu6.out (Nat.le_refl _)) (HNv.out.later Hv6.out (Nat.le_refl _)) (HNt.out.later Ht6.out (Nat.le_refl _))).mono ?_); rintro e w7 ⟨nu, rfl, hq, hb⟩; have hb7 := hb; have HB7 := hidP (HB6.out.trans (hb7.mono HB6.out.size)); have KX7 := hidP (KX6.out.below hb7 KX6.out.lt); have KVx7 := hidP (KVx6.out.below hb7 KVx6.out.lt); have KVu7 := hidP (KVu6.out.below hb7 KVu6.out.lt); have KVy7 := hidP (KVy6.out.below hb7 KVy6.out.lt); have Hx7 := hidP (Hx6.out.trans (hb7.mono Hx6.out.size)); have Hu7 := hidP (Hu6.out.trans (hb7.mono Hu6.out.size)); have Hy7 := hidP (Hy6.out.trans (hb7.mono Hy6.out.size)); have Hv7 := hidP (Hv6.out.trans (hb7.mono Hv6.out.size)); have Ht7 := hidP (Ht6.out.trans (hb7.mono Ht6.out.size)); have qX0 := KX7.out.cell 0 (v := .int .i64 rx.1) rfl; have qX1 := KX7.out.cell 1 (v := .slice a0x rx.2.length c0x) rfl; have qVx0 := KVx7.out.cell 0 (v := .int .i64 Mx.1) rfl; have qVx1 := KVx7.out.cell 1 (v := .slice ax Mx.2.length cx) rfl; have qVu0 := KVu7.out.cell 0 (v := .int .i64 U.1) rfl; have qVu1 := KVu7.out.cell 1 (v := .slice au U.2.length cu) rfl; have qVy0 := KVy7.out.cell 0 (v := .int .i64 Y.1) rfl; have qVy1 := KVy7.out.cell 1 (v := .slice ay Y.2.length cy) rfl; have HQu := hidP hq; have nnu := hq.nonneg; clear hq; have gu := hidP (HBO.out _ _ _ HQp.out nx nu HQx.out HQu.out); have nu9 := cst_top HQu.out; clear hb hb7)
      | (go_at_call 16; (with_reducible refine (HBA.out _ _ _ tt0 tt9 nu9.1 nu9.2).mono ?_); rintro e w8 ⟨rfl, hb⟩; have hb8 := hb; have HB8 := hidP (HB7.out.trans (hb8.mono HB7.out.size)); have KX8 := hidP (KX7.out.below hb8 KX7.out.lt); have KVx8 := hidP (KVx7.out.below hb8 KVx7.out.lt); have KVu8 := hidP (KVu7.out.below hb8 KVu7.out.lt); have KVy8 := hidP (KVy7.out.below hb8 KVy7.out.lt); have Hx8 := hidP (Hx7.out.trans (hb8.mono Hx7.out.size)); have Hu8 := hidP (Hu7.out.trans (hb8.mono Hu7.out.size)); have Hy8 := hidP (Hy7.out.trans (hb8.mono Hy7.out.size)); have Hv8 := hidP (Hv7.out.trans (hb8.mono Hv7.out.size)); have Ht8 := hidP (Ht7.out.trans (hb8.mono Ht7.out.size)); have qX0 := KX8.out.cell 0 (v := .int .i64 rx.1) rfl; have qX1 := KX8.out.cell 1 (v := .slice a0x rx.2.length c0x) rfl; have qVx0 := KVx8.out.cell 0 (v := .int .i64 Mx.1) rfl; have qVx1 := KVx8.out.cell 1 (v := .slice ax Mx.2.length cx) rfl; have qVu0 := KVu8.out.cell 0 (v := .int .i64 U.1) rfl; have qVu1 := KVu8.out.cell 1 (v := .slice au U.2.length cu) rfl; have qVy0 := KVy8.out.cell 0 (v := .int .i64 Y.1) rfl; have qVy1 := KVy8.out.cell 1 (v := .slice ay Y.2.length cy) rfl; have tb : (bothI tt nu == nx) = true := (by rw [gu.out]; simp); clear hb hb8)
      | (go_at_call 15; (with_reducible refine (HCy.out _ _ _ _ (HMy.out.later Hy8.out (Nat.le_refl _)) (HNv.out.later Hv8.out (Nat.le_refl _)) (HNt.out.later Ht8.out (Nat.le_refl _))).mono ?_); rintro e w9 ⟨ny, rfl, hq, hb⟩; have hb9 := hb; have HB9 := hidP (HB8.out.trans (hb9.mono HB8.out.size)); have KX9 := hidP (KX8.out.below hb9 KX8.out.lt); have KVx9 := hidP (KVx8.out.below hb9 KVx8.out.lt); have KVu9 := hidP (KVu8.out.below hb9 KVu8.out.lt); have KVy9 := hidP (KVy8.out.below hb9 KVy8.out.lt); have Hx9 := hidP (Hx8.out.trans (hb9.mono Hx8.out.size)); have Hu9 := hidP (Hu8.out.trans (hb9.mono Hu8.out.size)); have Hy9 := hidP (Hy8.out.trans (hb9.mono Hy8.out.size)); have Hv9 := hidP (Hv8.out.trans (hb9.mono Hv8.out.size)); have Ht9 := hidP (Ht8.out.trans (hb9.mono Ht8.out.size)); have qX0 := KX9.out.cell 0 (v := .int .i64 rx.1) rfl; have qX1 := KX9.out.cell 1 (v := .slice a0x rx.2.length c0x) rfl; have qVx0 := KVx9.out.cell 0 (v := .int .i64 Mx.1) rfl; have qVx1 := KVx9.out.cell 1 (v := .slice ax Mx.2.length cx) rfl; have qVu0 := KVu9.out.cell 0 (v := .int .i64 U.1) rfl; have qVu1 := KVu9.out.cell 1 (v := .slice au U.2.length cu) rfl; have qVy0 := KVy9.out.cell 0 (v := .int .i64 Y.1) rfl; have qVy1 := KVy9.out.cell 1 (v := .slice ay Y.2.length cy) rfl; have HQy := hidP hq; have nny := hq.nonneg; clear hq; have ty : (ny == nx) = true := (by rw [HPY.out _ _ _ HQx.out HQu.out HQy.out]; simp); clear hb hb9))
    all_goals
      go_ret
      exact ⟨rfl, HB9.out⟩
  · have HSM := hidP (hSM hfin)
    have hfin' : ((el Mx.2 z).1 == 1000000001) = false := by simpa using hfin
    obtain ⟨fi, hfi⟩ : ∃ fi, (el Mx.2 z).1 = fi := ⟨_, rfl⟩
    rw [hfi] at hfin'
    have HFI := hidP hfi
    clear hSM hfin hfi
    go_enter Try.func5, Try.ntmps5
    go_wp2_with (first
      | (go_at_call 13; (with_reducible refine (HEx.out _ _ (HIx.out.later (HB0.out _) (Nat.le_refl _)) HOKx.out HWFx.out).mono ?_); rintro e w1 ⟨v1, rfl, hm, hb⟩; have HMx : Hid (Mach w1 v1 (Mx)) := hm; obtain ⟨vsx, rfl, hSx⟩ := hm; obtain ⟨ax, cx, rfl⟩ := hSx.sl; clear hSx; obtain ⟨s1, bb0, hb1⟩ := boxed hb (by simp); have KX1 := hidP bb0; clear bb0; have HB1 := hidP hb1; have qX0 := (KX1.out.alloc (.cells #[.int .i64 Mx.1, .slice ax Mx.2.length cx] 24)).cell 0 (v := .int .i64 rx.1) rfl; have qX1 := (KX1.out.alloc (.cells #[.int .i64 Mx.1, .slice ax Mx.2.length cx] 24)).cell 1 (v := .slice a0x rx.2.length c0x) rfl; clear hb hb1)
      | (go_at_call 8; (with_reducible refine (HPU.out _ _ (HMx.out.later ((Below.refl _ _).alloc (Nat.le_refl _) _) (Nat.le_refl _))).mono ?_); rintro e w2 ⟨v2, U, tt, ec, rfl, hq, hm, hb⟩; have HMu : Hid (Mach w2 v2 (U)) := hm; obtain ⟨vsu, rfl, hSu⟩ := hm; obtain ⟨au, cu, rfl⟩ := hSu.sl; clear hSu; have HQp := hidP hq; obtain ⟨rfl, tt0, tt9, hfU, hcU⟩ := HPF.out _ _ _ hq; have HFU := hidP hfU; have HCu := hidP (HCG.out U hfU hcU); have tu : ((U.2.length : Int) == 0) = false := (by have := HSM.out _ _ _ hq; simp; intro e; simp [e] at this); clear hq hfU hcU; obtain ⟨s2, bb0, hb2⟩ := boxed hb (by simp); have KVx2 := hidP bb0; clear bb0; have HB2 := hidP (HB1.out.trans (hb2.mono HB1.out.size)); have KX2 := hidP (KX1.out.below hb2 KX1.out.lt); have Hx2 := hidP hb2; have qX0 := (KX2.out.alloc (.cells #[.int .i64 U.1, .slice au U.2.length cu] 24)).cell 0 (v := .int .i64 rx.1) rfl; have qX1 := (KX2.out.alloc (.cells #[.int .i64 U.1, .slice au U.2.length cu] 24)).cell 1 (v := .slice a0x rx.2.length c0x) rfl; have qVx0 := (KVx2.out.alloc (.cells #[.int .i64 U.1, .slice au U.2.length cu] 24)).cell 0 (v := .int .i64 Mx.1) rfl; have qVx1 := (KVx2.out.alloc (.cells #[.int .i64 U.1, .slice au U.2.length cu] 24)).cell 1 (v := .slice ax Mx.2.length cx) rfl; clear hb hb2)
      | (go_at_call 11; (with_reducible refine (HPL.out _ _ _ _ HFU.out (HMu.out.later ((Below.refl _ _).alloc (Nat.le_refl _) _) (Nat.le_refl _))).mono ?_); rintro e w3 ⟨v3, Y, f, rfl, hq, hm, hb⟩; have HMy : Hid (Mach w3 v3 (Y)) := hm; obtain ⟨vsy, rfl, hSy⟩ := hm; obtain ⟨ay, cy, rfl⟩ := hSy.sl; clear hSy; obtain ⟨rfl, hfY, hcY, hpy⟩ := HPP.out _ _ _ HQp.out _ _ hq; have HCy := hidP (HCG.out Y hfY hcY); have HPY := hidP hpy; clear hq hfY hcY hpy; obtain ⟨s3, bb0, hb3⟩ := boxed hb (by simp); have KVu3 := hidP bb0; clear bb0; have HB3 := hidP (HB2.out.trans (hb3.mono HB2.out.size)); have KX3 := hidP (KX2.out.below hb3 KX2.out.lt); have KVx3 := hidP (KVx2.out.below hb3 KVx2.out.lt); have Hx3 := hidP (Hx2.out.trans (hb3.mono Hx2.out.size)); have Hu3 := hidP hb3; have qX0 := (KX3.out.alloc (.cells #[.int .i64 Y.1, .slice ay Y.2.length cy] 24)).cell 0 (v := .int .i64 rx.1) rfl; have qX1 := (KX3.out.alloc (.cells #[.int .i64 Y.1, .slice ay Y.2.length cy] 24)).cell 1 (v := .slice a0x rx.2.length c0x) rfl; have qVx0 := (KVx3.out.alloc (.cells #[.int .i64 Y.1, .slice ay Y.2.length cy] 24)).cell 0 (v := .int .i64 Mx.1) rfl; have qVx1 := (KVx3.out.alloc (.cells #[.int .i64 Y.1, .slice ay Y.2.length cy] 24)).cell 1 (v := .slice ax Mx.2.length cx) rfl; have qVu0 := (KVu3.out.alloc (.cells #[.int .i64 Y.1, .slice ay Y.2.length cy] 24)).cell 0 (v := .int .i64 U.1) rfl; have qVu1 := (KVu3.out.alloc (.cells #[.int .i64 Y.1, .slice ay Y.2.length cy] 24)).cell 1 (v := .slice au U.2.length cu) rfl; clear hb hb3)
      | (go_at_call 14; (with_reducible refine (HWDv.out _ _ (HZv.out.later (HB3.out.alloc HB3.out.size _) (Nat.le_refl _))).mono ?_); rintro e w4 ⟨v4, rfl, hn, hb⟩; have HNv : Hid (Nums w4 v4 (Xv)) := hn; obtain ⟨awv, cwv, rfl, _⟩ := hn.get; obtain ⟨s4, bb0, hb4⟩ := boxed hb (by simp); have KVy4 := hidP bb0; clear bb0; have HB4 := hidP (HB3.out.trans (hb4.mono HB3.out.size)); have KX4 := hidP (KX3.out.below hb4 KX3.out.lt); have KVx4 := hidP (KVx3.out.below hb4 KVx3.out.lt); have KVu4 := hidP (KVu3.out.below hb4 KVu3.out.lt); have Hx4 := hidP (Hx3.out.trans (hb4.mono Hx3.out.size)); have Hu4 := hidP (Hu3.out.trans (hb4.mono Hu3.out.size)); have Hy4 := hidP hb4; have qX0 := KX4.out.cell 0 (v := .int .i64 rx.1) rfl; have qX1 := KX4.out.cell 1 (v := .slice a0x rx.2.length c0x) rfl; have qVx0 := KVx4.out.cell 0 (v := .int .i64 Mx.1) rfl; have qVx1 := KVx4.out.cell 1 (v := .slice ax Mx.2.length cx) rfl; have qVu0 := KVu4.out.cell 0 (v := .int .i64 U.1) rfl; have qVu1 := KVu4.out.cell 1 (v := .slice au U.2.length cu) rfl; have qVy0 := KVy4.out.cell 0 (v := .int .i64 Y.1) rfl; have qVy1 := KVy4.out.cell 1 (v := .slice ay Y.2.length cy) rfl; clear hb hb4)
      | (go_at_call 14; (with_reducible refine (HWDt.out _ _ (HZt.out.later HB4.out (Nat.le_refl _))).mono ?_); rintro e w5 ⟨v5, rfl, hn, hb⟩; have HNt : Hid (Nums w5 v5 (Xt)) := hn; obtain ⟨awt, cwt, rfl, _⟩ := hn.get; have hb5 := hb; have HB5 := hidP (HB4.out.trans (hb5.mono HB4.out.size)); have KX5 := hidP (KX4.out.below hb5 KX4.out.lt); have KVx5 := hidP (KVx4.out.below hb5 KVx4.out.lt); have KVu5 := hidP (KVu4.out.below hb5 KVu4.out.lt); have KVy5 := hidP (KVy4.out.below hb5 KVy4.out.lt); have Hx5 := hidP (Hx4.out.trans (hb5.mono Hx4.out.size)); have Hu5 := hidP (Hu4.out.trans (hb5.mono Hu4.out.size)); have Hy5 := hidP (Hy4.out.trans (hb5.mono Hy4.out.size)); have Hv5 := hidP hb5; have qX0 := KX5.out.cell 0 (v := .int .i64 rx.1) rfl; have qX1 := KX5.out.cell 1 (v := .slice a0x rx.2.length c0x) rfl; have qVx0 := KVx5.out.cell 0 (v := .int .i64 Mx.1) rfl; have qVx1 := KVx5.out.cell 1 (v := .slice ax Mx.2.length cx) rfl; have qVu0 := KVu5.out.cell 0 (v := .int .i64 U.1) rfl; have qVu1 := KVu5.out.cell 1 (v := .slice au U.2.length cu) rfl; have qVy0 := KVy5.out.cell 0 (v := .int .i64 Y.1) rfl; have qVy1 := KVy5.out.cell 1 (v := .slice ay Y.2.length cy) rfl; clear hb hb5)
      | (go_at_call 15; (with_reducible refine (HCx.out _ _ _ _ (HMx.out.later Hx5.out (Nat.le_refl _)) (HNv.out.later Hv5.out (Nat.le_refl _)) (HNt.out.later (Below.refl _ _) (Nat.le_refl _))).mono ?_); rintro e w6 ⟨nx, rfl, hq, hb⟩; have hb6 := hb; have HB6 := hidP (HB5.out.trans (hb6.mono HB5.out.size)); have KX6 := hidP (KX5.out.below hb6 KX5.out.lt); have KVx6 := hidP (KVx5.out.below hb6 KVx5.out.lt); have KVu6 := hidP (KVu5.out.below hb6 KVu5.out.lt); have KVy6 := hidP (KVy5.out.below hb6 KVy5.out.lt); have Hx6 := hidP (Hx5.out.trans (hb6.mono Hx5.out.size)); have Hu6 := hidP (Hu5.out.trans (hb6.mono Hu5.out.size)); have Hy6 := hidP (Hy5.out.trans (hb6.mono Hy5.out.size)); have Hv6 := hidP (Hv5.out.trans (hb6.mono Hv5.out.size)); have Ht6 := hidP hb6; have qX0 := KX6.out.cell 0 (v := .int .i64 rx.1) rfl; have qX1 := KX6.out.cell 1 (v := .slice a0x rx.2.length c0x) rfl; have qVx0 := KVx6.out.cell 0 (v := .int .i64 Mx.1) rfl; have qVx1 := KVx6.out.cell 1 (v := .slice ax Mx.2.length cx) rfl; have qVu0 := KVu6.out.cell 0 (v := .int .i64 U.1) rfl; have qVu1 := KVu6.out.cell 1 (v := .slice au U.2.length cu) rfl; have qVy0 := KVy6.out.cell 0 (v := .int .i64 Y.1) rfl; have qVy1 := KVy6.out.cell 1 (v := .slice ay Y.2.length cy) rfl; have HQx := hidP hq; have nnx := hq.nonneg; clear hq; obtain ⟨_, he, hS⟩ := HMx.out.later Hx6.out (Nat.le_refl _); simp only [Value.agg.injEq, Array.mk.injEq, List.cons.injEq, and_true, true_and] at he; subst he; obtain ⟨_, _, e3, g3⟩ := hS.get; simp only [Value.slice.injEq, true_and] at e3; obtain ⟨rfl, rfl⟩ := e3; obtain ⟨b3, o3, va, hax, hb3, c3, _, _⟩ := g3 z HZL.out; rw [HZ1.out] at qVx0; rw [hax] at qVx1; rw [HFI.out] at c3; clear g3 hS hax; clear hb hb6)
      | (go_at_call 15; (with_reducible refine (HCu.out _ _ _ _ (HMu.out.later Hu6.out (Nat.le_refl _)) (HNv.out.later Hv6.out (Nat.le_refl _)) (HNt.out.later Ht6.out (Nat.le_refl _))).mono ?_); rintro e w7 ⟨nu, rfl, hq, hb⟩; have hb7 := hb; have HB7 := hidP (HB6.out.trans (hb7.mono HB6.out.size)); have KX7 := hidP (KX6.out.below hb7 KX6.out.lt); have KVx7 := hidP (KVx6.out.below hb7 KVx6.out.lt); have KVu7 := hidP (KVu6.out.below hb7 KVu6.out.lt); have KVy7 := hidP (KVy6.out.below hb7 KVy6.out.lt); have Hx7 := hidP (Hx6.out.trans (hb7.mono Hx6.out.size)); have Hu7 := hidP (Hu6.out.trans (hb7.mono Hu6.out.size)); have Hy7 := hidP (Hy6.out.trans (hb7.mono Hy6.out.size)); have Hv7 := hidP (Hv6.out.trans (hb7.mono Hv6.out.size)); have Ht7 := hidP (Ht6.out.trans (hb7.mono Ht6.out.size)); have qX0 := KX7.out.cell 0 (v := .int .i64 rx.1) rfl; have qX1 := KX7.out.cell 1 (v := .slice a0x rx.2.length c0x) rfl; have qVx0 := KVx7.out.cell 0 (v := .int .i64 Mx.1) rfl; have qVx1 := KVx7.out.cell 1 (v := .slice ax Mx.2.length cx) rfl; have qVu0 := KVu7.out.cell 0 (v := .int .i64 U.1) rfl; have qVu1 := KVu7.out.cell 1 (v := .slice au U.2.length cu) rfl; have qVy0 := KVy7.out.cell 0 (v := .int .i64 Y.1) rfl; have qVy1 := KVy7.out.cell 1 (v := .slice ay Y.2.length cy) rfl; have HQu := hidP hq; have nnu := hq.nonneg; clear hq; have gu := hidP (HBO.out _ _ _ HQp.out nx nu HQx.out HQu.out); have nu9 := cst_top HQu.out; clear hb hb7)
      | (go_at_call 16; (with_reducible refine (HBA.out _ _ _ tt0 tt9 nu9.1 nu9.2).mono ?_); rintro e w8 ⟨rfl, hb⟩; have hb8 := hb; have HB8 := hidP (HB7.out.trans (hb8.mono HB7.out.size)); have KX8 := hidP (KX7.out.below hb8 KX7.out.lt); have KVx8 := hidP (KVx7.out.below hb8 KVx7.out.lt); have KVu8 := hidP (KVu7.out.below hb8 KVu7.out.lt); have KVy8 := hidP (KVy7.out.below hb8 KVy7.out.lt); have Hx8 := hidP (Hx7.out.trans (hb8.mono Hx7.out.size)); have Hu8 := hidP (Hu7.out.trans (hb8.mono Hu7.out.size)); have Hy8 := hidP (Hy7.out.trans (hb8.mono Hy7.out.size)); have Hv8 := hidP (Hv7.out.trans (hb8.mono Hv7.out.size)); have Ht8 := hidP (Ht7.out.trans (hb8.mono Ht7.out.size)); have qX0 := KX8.out.cell 0 (v := .int .i64 rx.1) rfl; have qX1 := KX8.out.cell 1 (v := .slice a0x rx.2.length c0x) rfl; have qVx0 := KVx8.out.cell 0 (v := .int .i64 Mx.1) rfl; have qVx1 := KVx8.out.cell 1 (v := .slice ax Mx.2.length cx) rfl; have qVu0 := KVu8.out.cell 0 (v := .int .i64 U.1) rfl; have qVu1 := KVu8.out.cell 1 (v := .slice au U.2.length cu) rfl; have qVy0 := KVy8.out.cell 0 (v := .int .i64 Y.1) rfl; have qVy1 := KVy8.out.cell 1 (v := .slice ay Y.2.length cy) rfl; have tb : (bothI tt nu == nx) = true := (by rw [gu.out]; simp); clear hb hb8)
      | (go_at_call 15; (with_reducible refine (HCy.out _ _ _ _ (HMy.out.later Hy8.out (Nat.le_refl _)) (HNv.out.later Hv8.out (Nat.le_refl _)) (HNt.out.later Ht8.out (Nat.le_refl _))).mono ?_); rintro e w9 ⟨ny, rfl, hq, hb⟩; have hb9 := hb; have HB9 := hidP (HB8.out.trans (hb9.mono HB8.out.size)); have KX9 := hidP (KX8.out.below hb9 KX8.out.lt); have KVx9 := hidP (KVx8.out.below hb9 KVx8.out.lt); have KVu9 := hidP (KVu8.out.below hb9 KVu8.out.lt); have KVy9 := hidP (KVy8.out.below hb9 KVy8.out.lt); have Hx9 := hidP (Hx8.out.trans (hb9.mono Hx8.out.size)); have Hu9 := hidP (Hu8.out.trans (hb9.mono Hu8.out.size)); have Hy9 := hidP (Hy8.out.trans (hb9.mono Hy8.out.size)); have Hv9 := hidP (Hv8.out.trans (hb9.mono Hv8.out.size)); have Ht9 := hidP (Ht8.out.trans (hb9.mono Ht8.out.size)); have qX0 := KX9.out.cell 0 (v := .int .i64 rx.1) rfl; have qX1 := KX9.out.cell 1 (v := .slice a0x rx.2.length c0x) rfl; have qVx0 := KVx9.out.cell 0 (v := .int .i64 Mx.1) rfl; have qVx1 := KVx9.out.cell 1 (v := .slice ax Mx.2.length cx) rfl; have qVu0 := KVu9.out.cell 0 (v := .int .i64 U.1) rfl; have qVu1 := KVu9.out.cell 1 (v := .slice au U.2.length cu) rfl; have qVy0 := KVy9.out.cell 0 (v := .int .i64 Y.1) rfl; have qVy1 := KVy9.out.cell 1 (v := .slice ay Y.2.length cy) rfl; have HQy := hidP hq; have nny := hq.nonneg; clear hq; have ty : (ny == nx) = true := (by rw [HPY.out _ _ _ HQx.out HQu.out HQy.out]; simp); clear hb hb9))
    all_goals
      go_ret
      exact ⟨rfl, HB9.out⟩
theorem walk (vx : Value) (rx : Rw) (a1 : Option Addr) (len1 cap1 : Nat) (z1 : List Int) (a2 : Option Addr) (len2 cap2 : Nat) (z2 : List Int) (w : World) (hx : RawV w vx rx ∧ okR rx ∧ wfR rx) (w1 : IsRow .i64 w a1 len1 cap1 z1 ∧ cap1 * 8 ≤ 140737488351232) (w2 : IsRow .i64 w a2 len2 cap2 z2 ∧ cap2 * 8 ≤ 140737488351232) :
    Calls Try.prog 5 #[vx, .slice a1 len1 cap1, .slice a2 len2 cap2] w fun e w' => e = .returned (.bool true) ∧ Below w.heap.size w w' := by
  obtain ⟨p1, _, _⟩ := row_nums w1.1
  obtain ⟨p2, _, _⟩ := row_nums w2.1
  exact core vx rx _ _ _ _ w hx p1 (row_wf w1.1) p2 (row_wf w2.1)

set_option maxRecDepth 100000 in
theorem lifted (os : Os) (started : os.Started) (H : Type) (enc : TypeId × Value → H) :
    ReturnsInHanded {} Try.checked os 5 .any (Rows.pushKeepsSpec.pre6 enc Try.prog Try.f5 Rows.pushKeepsRow.domain false) (Rows.pushKeepsSpec.post enc Try.prog Try.f5 false true false false) := by
  refine returnsInHanded_of_change_sized (C := Try.checked) own started (by kernel_rfl) Try.func5
    (ChangeSpec.witness6 (enc := enc) (C := Try.checked) false ⟨#[], #[.agg #[.int .i64 0, .slice none 0 0], .slice none 0 0, .slice none 0 0], []⟩ 8 (by kernel_rfl) (by kernel_rfl) (by kernel_rfl) (by kernel_rfl)) ?_
  intro W base args ds gs before hval0 hW hcnd hsz0 _
  have hsz : (DataW.weightsEach Try.prog (Try.f5.params.toList ++ Rows.pushKeepsSpec.plain.varTypes Try.prog) (ds ++ gs)).all (· ≤ reachBytes) = true := hsz0
  have hval : ∀ (j : Nat) t v, Try.f5.params[j]? = some t → args[j]? = some v → Value.okWide Try.prog W .any base t v := hval0
  clear hval0 hsz0
  have hW' := hW
  obtain ⟨p, q, hA0, hV, rfl, hfz, hnd⟩ := hW
  have hA : DataW.TrodAll enc Try.prog W 0 (fun _ => true) true Try.f5.params.toList args.toList ds p := hA0
  rw [Try.params5] at hA hval hsz
  obtain ⟨v0, vs0, d0, ds0, p0, q0, hargs, rfl, rfl, h0, r0⟩ := trodAll_cons hA
  obtain ⟨v1, vs1, d1, ds1, p1, q1, rfl, rfl, rfl, h1, r1⟩ := trodAll_cons r0
  obtain ⟨v2, vs2, d2, ds2, p2, q2, rfl, rfl, rfl, h2, r2⟩ := trodAll_cons r1
  obtain ⟨rfl, rfl, rfl⟩ := trodAll_nil r2
  obtain rfl : args = #[v0, v1, v2] := by cases args; simp_all
  obtain ⟨rfl, rfl⟩ := trodVars_none hV
  have k0 := h0
  have lt0 : ∀ x ∈ p0, x.block < W.heap.size := by obtain ⟨m, hm⟩ := k0; exact DataW.trod_lt m _ _ _ hm
  obtain ⟨z0, w0⟩ : ∃ m : Rw, RawV W v0 m ∧ okR m ∧ wfR m := by
    obtain ⟨c0, c1, y0, y1, n, rfl, hd, hp, t0, t1⟩ := Go.Joins.open_agg2 Try.underlying36 (by kernel_rfl) (by kernel_rfl) (hval 0 36 v0 rfl rfl) h0
    subst hd
    exact open_raw t0 t1 ((Fits.arg hsz (j := 0) rfl rfl).field Try.underlying36 (f := 1) rfl rfl)
  obtain ⟨a1, len1, cap1, rfl⟩ := okWide_slice Try.underlying37 (hval 1 37 v1 rfl rfl)
  have k1 := h1
  have lt1 : ∀ x ∈ p1, x.block < W.heap.size := by obtain ⟨m, hm⟩ := k1; exact DataW.trod_lt m _ _ _ hm
  obtain ⟨z1, w1⟩ : ∃ zs, IsRow .i64 W a1 len1 cap1 zs ∧ cap1 * 8 ≤ 140737488351232 := by
    obtain ⟨fuel, hf⟩ := h1
    rcases open_ints Try.underlying37 Try.underlying3 (by kernel_rfl) hf with ⟨hcs, _⟩ | ⟨x, l, c, zs, hcs, _, hl, hm, hz, hx, hcell, hwz⟩
    · simp [Value.cells] at hcs
      obtain ⟨rfl, rfl, rfl⟩ := hcs
      exact ⟨[], .inl ⟨rfl, rfl, rfl, rfl⟩, by omega⟩
    · have hd := congrArg Prod.fst hx
      have hsw := sized_slice hsz (j := 1) (t := 37) (e := 3) rfl (congrArg some hd) Try.underlying37
      have hby : Try.prog.bytesOf 3 = 8 := by kernel_rfl
      rw [hby] at hsw
      simp [Value.cells] at hcs
      obtain ⟨rfl, rfl, rfl⟩ := hcs
      have hz' : zs.length = cap1 := by simpa using hz
      simp only [lits, List.length_map, List.length_take, List.length_drop, reachBytes] at hsw
      exact ⟨zs, .inr ⟨_, rfl, hl, hm, hz', hcell, hwz⟩, by omega⟩
  obtain ⟨a2, len2, cap2, rfl⟩ := okWide_slice Try.underlying37 (hval 2 37 v2 rfl rfl)
  have k2 := h2
  have lt2 : ∀ x ∈ p2, x.block < W.heap.size := by obtain ⟨m, hm⟩ := k2; exact DataW.trod_lt m _ _ _ hm
  obtain ⟨z2, w2⟩ : ∃ zs, IsRow .i64 W a2 len2 cap2 zs ∧ cap2 * 8 ≤ 140737488351232 := by
    obtain ⟨fuel, hf⟩ := h2
    rcases open_ints Try.underlying37 Try.underlying3 (by kernel_rfl) hf with ⟨hcs, _⟩ | ⟨x, l, c, zs, hcs, _, hl, hm, hz, hx, hcell, hwz⟩
    · simp [Value.cells] at hcs
      obtain ⟨rfl, rfl, rfl⟩ := hcs
      exact ⟨[], .inl ⟨rfl, rfl, rfl, rfl⟩, by omega⟩
    · have hd := congrArg Prod.fst hx
      have hsw := sized_slice hsz (j := 2) (t := 37) (e := 3) rfl (congrArg some hd) Try.underlying37
      have hby : Try.prog.bytesOf 3 = 8 := by kernel_rfl
      rw [hby] at hsw
      simp [Value.cells] at hcs
      obtain ⟨rfl, rfl, rfl⟩ := hcs
      have hz' : zs.length = cap2 := by simpa using hz
      simp only [lits, List.length_map, List.length_take, List.length_drop, reachBytes] at hsw
      exact ⟨zs, .inr ⟨_, rfl, hl, hm, hz', hcell, hwz⟩, by omega⟩
  refine (walk v0 z0 a1 len1 cap1 z1 a2 len2 cap2 z2 W w0 w1 w2).mono fun e W' ⟨he, bel⟩ => ?_
  subst he
  exact ⟨_, rfl, _, _, _, [], _, [], hW', trodAll_mk1 (shut_bool Try.underlying4 _), (trodAll_cons_mk (Below.trod laidOut (by kernel_rfl) (of_decide_eq_true (by kernel_rfl)) k0 bel lt0) (trodAll_cons_mk (Below.trod laidOut (by kernel_rfl) (of_decide_eq_true (by kernel_rfl)) k1 bel lt1) (trodAll_cons_mk (Below.trod laidOut (by kernel_rfl) (of_decide_eq_true (by kernel_rfl)) k2 bel lt2) trodAll_mk0))), rfl, bel.frame _, fun h => by cases h⟩
end Go.Proofs.Yteaafghmkkejfaa.pushKeeps
namespace Go.Proofs.Yteaafghmkkejfaa
theorem pushKeeps_holds : Rows.PushKeepsSaid :=
  OpenClaim.holds_of_wide 5 Try.f5 rfl rfl rfl rfl rfl rfl rfl ⟨rfl, rfl, rfl, rfl, rfl⟩ rfl rfl rfl rfl rfl (by kernel_rfl) Try.func5 (by kernel_rfl)
    (of_decide_eq_true (by kernel_rfl)) (by unfold Func.isWrapper; first | (rw [if_pos (by decide +kernel)]; kernel_rfl) | (rw [if_neg (by decide +kernel)]; exact ⟨rfl, rfl⟩))
    (fun os started H enc _ => pushKeeps.lifted os started H enc)
#print axioms pushKeeps_holds
end Go.Proofs.Yteaafghmkkejfaa
