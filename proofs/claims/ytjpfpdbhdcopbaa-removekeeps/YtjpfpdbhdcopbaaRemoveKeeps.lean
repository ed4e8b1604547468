/- The statement RemoveKeeps: whatever numbers a machine and two words are made of, without its empty arcs it costs the same, and there are none, for every input and without any condition. -/
import Derived.Test.YtjpfpdbhdcopbaaMd
import Derived.Test.YtjpfpdbhdcopbaaKi
import Derived.Test.YtjpfpdbhdcopbaaKj
import Derived.Test.YtjpfpdbhdcopbaaWy
import Derived.Test.YtjpfpdbhdcopbaaEw
import Derived.Test.YtjpfpdbhdcopbaaJ14v
import Derived.Test.YtjpfpdbhdcopbaaJ14u
import Derived.Test.YtjpfpdbhdcopbaaLo
import Derived.Lib.SmallJoins
import Derived.ChangeOld
import Derived.Below
namespace Go.Proofs.Ytjpfpdbhdcopbaa.removeKeeps
open Go.ChangeShapes Go.WideShapes Go.ChangeAt Go.RowKit
open Go.Proofs.Ytjpfpdbhdcopbaa.Pl Go.Proofs.Ytjpfpdbhdcopbaa.Wt
set_option linter.unusedVariables false
set_option linter.unusedSimpArgs false

theorem own : ownKnob Try.prog.godebug = none := by kernel_rfl
theorem laidOut : laidOutB Try.prog = true := by kernel_rfl
set_option maxRecDepth 100000 in
set_option maxHeartbeats 1600000 in
theorem core (vx : Value) (rx : Rw) (vv : Value) (zv : List Int) (vt : Value) (zt : List Int) (w : World) (hx : RawV w vx rx ∧ okR rx ∧ wfR rx) (hzv : Nums w vv zv) (hwv : ∀ n ∈ zv, (Lit.int .i64 n).wf = true) (hzt : Nums w vt zt) (hwt : ∀ n ∈ zt, (Lit.int .i64 n).wf = true) :
    Calls Try.prog 4 #[vx, vv, vt] w fun e w' => e = .returned (.bool true) ∧ Below w.heap.size w w' := by
  obtain ⟨hx, hokx, hwfx⟩ := hx
  have HIx : Hid (RawV w vx rx) := hx
  have HOKx : Hid (okR rx) := hokx
  have HWFx : Hid (wfR rx) := hwfx
  obtain ⟨hfx, hcx, hlx, hax, hpx⟩ := made_facts rx 6 (by omega) (by omega)
  have HEx : Hid (∀ v W, RawV W v rx → okR rx → wfR rx → Calls Try.prog 10 #[v, .int .i64 6, .bool false] W fun e w' => ∃ v', e = .returned v' ∧ Mach w' v' (madeM rx 6 false) ∧ Below W.heap.size W w') := fun v W h1 h2 h3 => made_any v rx 6 false W h1 h2 h3 (by omega) (by omega)
  obtain ⟨vs0x, rfl, hNx⟩ := hx
  obtain ⟨a0x, c0x, rfl, hNxx⟩ := hNx.get
  clear hNx hNxx hokx hwfx
  have HZv := hidP hzv
  have HWDv : Hid (∀ v W, Nums W v zv → Calls Try.prog 12 #[v, .int .i64 4] W fun e w' => ∃ v', e = .returned v' ∧ Nums w' v' (wdL zv 4) ∧ Below W.heap.size W w') := fun v W h1 => word_any v zv 4 W h1 hwv (by omega)
  have ewv : wrdE (wdL zv 4) = 0 := wdL_wrd (by omega)
  have lwv := wdL_len zv 4
  clear hzv hwv
  have HZt := hidP hzt
  have HWDt : Hid (∀ v W, Nums W v zt → Calls Try.prog 12 #[v, .int .i64 4] W fun e w' => ∃ v', e = .returned v' ∧ Nums w' v' (wdL zt 4) ∧ Below W.heap.size W w') := fun v W h1 => word_any v zt 4 W h1 hwt (by omega)
  have ewt : wrdE (wdL zt 4) = 0 := wdL_wrd (by omega)
  have lwt := wdL_len zt 4
  clear hzt hwt
  obtain ⟨Hu, hHu⟩ := hopT_exists (m := madeM rx 6 false) hfx
  obtain ⟨u1, u2, u3, u4⟩ := made_rem hfx (by omega) (by omega) hHu
  have u5 : remR Hu (madeM rx 6 false) = remM Hu (madeM rx 6 false) ∧ remE Hu (madeM rx 6 false) = 0 := ⟨u1, u2⟩
  have HUu : Hid (∀ W v, Mach W v (madeM rx 6 false) → Calls Try.prog 7 #[v] W fun e w' => RatRes (remM Hu (madeM rx 6 false)) 0 W e w') := fun W v h1 => by
    have := removeP_any v _ W h1 (right_ok hfx) Hu (fun _ => hHu)
    rw [u5.1, u5.2] at this
    exact this
  have hUl := rem_len Hu (madeM rx 6 false)
  have hful : (remM Hu (madeM rx 6 false)).2.all (fun s => s.2.all fullA) = true := by
    rw [List.all_eq_true]
    intro s hs
    rw [List.all_eq_true]
    intro a ha
    obtain ⟨q, hq, rfl⟩ := mem_el hs
    have := rem_noEmp Hu (madeM rx 6 false) q hq a ha
    unfold fullA
    unfold empA at this
    rw [this]
    rfl
  have hsor := rem_sorted Hu (madeM rx 6 false)
  obtain ⟨rA, rC, rP, hBT⟩ : ∃ rA rC rP : Bool, ∀ W v, Mach W v (remM Hu (madeM rx 6 false)) → Calls Try.prog 11 #[v] W fun e w' => e = .returned (.tuple #[.agg #[.bool rA, .bool true, .bool rC, .bool true, .bool rP], .int .i64 0]) ∧ Below W.heap.size W w' := by
    refine ⟨(remM Hu (madeM rx 6 false)).2.all (fun s => s.2.all accA), (true && (remM Hu (madeM rx 6 false)).2.all (fun s => onceB s.2)), ((remM Hu (madeM rx 6 false)).2.all (fun s => s.2.all freeA) && (remM Hu (madeM rx 6 false)).2.all freeS), fun W v h1 => ?_⟩
    have h2 := h1
    obtain ⟨vs, rfl, hS⟩ := h2
    obtain ⟨a, cap, rfl⟩ := hS.sl
    exact bits_ok _ a cap _ W h1 (right_ok u3) u3 _ _ _ _ _ _ rfl hful rfl hsor rfl rfl
  have HBT := hidP hBT
  clear hBT hful hsor
  have HCx : Hid (∀ W v s t, Mach W v (madeM rx 6 false) → Nums W s (wdL zv 4) → Nums W t (wdL zt 4) → Calls Try.prog 13 #[v, s, t] W fun e w' => ∃ n : Int, e = .returned (.int .i64 n) ∧ CstIs (Costs (madeM rx 6 false) (wdL zv 4) (wdL zt 4)) n ∧ Below W.heap.size W w') := fun W v s t h1 h2 h3 => cost_any v s t _ _ _ W h1 (right_ok hfx) hfx hcx h2 h3 ewv ewt
  have HCu : Hid (∀ W v s t, Mach W v (remM Hu (madeM rx 6 false)) → Nums W s (wdL zv 4) → Nums W t (wdL zt 4) → Calls Try.prog 13 #[v, s, t] W fun e w' => ∃ n : Int, e = .returned (.int .i64 n) ∧ CstIs (Costs (remM Hu (madeM rx 6 false)) (wdL zv 4) (wdL zt 4)) n ∧ Below W.heap.size W w') := fun W v s t h1 h2 h3 => cost_any v s t _ _ _ W h1 (right_ok u3) u3 u4 h2 h3 ewv ewt
  have HFC : Hid (∀ a u, CstIs (Costs (madeM rx 6 false) (wdL zv 4) (wdL zt 4)) a → CstIs (Costs (remM Hu (madeM rx 6 false)) (wdL zv 4) (wdL zt 4)) u → u = a) := fun a u h1 h3 => rem_cst hfx hHu (nine_ov hfx (made_nine rx 6 false) (by omega) hHu (Nat.le_refl _)) h1 h3
  clear hfx hcx u1 u2 u3 u4 u5 hHu ewv ewt lwv lwt hlx hax hpx
  generalize remM Hu (madeM rx 6 false) = U at *
  generalize madeM rx 6 false = Mx at *
  generalize wdL zv 4 = Xv at *
  generalize wdL zt 4 = Xt at *
  generalize (fun n => CstIs (Costs Mx Xv Xt) n) = Qx at *
  generalize (fun n => CstIs (Costs U Xv Xt) n) = Qu at *
  obtain ⟨avz, cvz, rfl, _⟩ := HZv.out.get
  obtain ⟨atz, ctz, rfl, _⟩ := HZt.out.get
  have t4 : ((U.2.length : Int) == (Mx.2.length : Int)) = true := by simp [hUl]
  have HB0 : Hid (∀ o1, Below w.heap.size w (w.alloc o1)) := fun o1 => (Below.refl _ _).alloc (Nat.le_refl _) _
  have HUL := hidP hUl
  clear hUl
  go_enter Try.func4, Try.ntmps4
  go_wp2_with (first
    | (go_at_call 10; (with_reducible refine (HEx.out _ _ (HIx.out.later (HB0.out _) (Nat.le_refl _)) HOKx.out HWFx.out).mono ?_); rintro e w1 ⟨v1, rfl, hm, hb⟩; have HMx : Hid (Mach w1 v1 (Mx)) := hm; obtain ⟨vsx, rfl, hSx⟩ := hm; obtain ⟨ax, cx, rfl⟩ := hSx.sl; clear hSx; obtain ⟨s1, bb0, hb1⟩ := boxed hb (by simp); have KX1 := hidP bb0; clear bb0; have HB1 := hidP hb1; have qX0 := (KX1.out.alloc (.cells #[.int .i64 Mx.1, .slice ax Mx.2.length cx] 24)).cell 0 (v := .int .i64 rx.1) rfl; have qX1 := (KX1.out.alloc (.cells #[.int .i64 Mx.1, .slice ax Mx.2.length cx] 24)).cell 1 (v := .slice a0x rx.2.length c0x) rfl; clear hb hb1)
    | (go_at_call 7; (with_reducible refine (HUu.out _ _ (HMx.out.later ((Below.refl _ _).alloc (Nat.le_refl _) _) (Nat.le_refl _))).mono ?_); rintro e w2 ⟨v2, rfl, hm, hb⟩; have HMu : Hid (Mach w2 v2 (U)) := hm; obtain ⟨vsu, rfl, hSu⟩ := hm; obtain ⟨au, cu, rfl⟩ := hSu.sl; clear hSu; obtain ⟨s2, bb0, hb2⟩ := boxed hb (by simp); have KVx2 := hidP bb0; clear bb0; have HB2 := hidP (HB1.out.trans (hb2.mono HB1.out.size)); have KX2 := hidP (KX1.out.below hb2 KX1.out.lt); have Hx2 := hidP hb2; have qX0 := (KX2.out.alloc (.cells #[.int .i64 U.1, .slice au U.2.length cu] 24)).cell 0 (v := .int .i64 rx.1) rfl; have qX1 := (KX2.out.alloc (.cells #[.int .i64 U.1, .slice au U.2.length cu] 24)).cell 1 (v := .slice a0x rx.2.length c0x) rfl; have qVx0 := (KVx2.out.alloc (.cells #[.int .i64 U.1, .slice au U.2.length cu] 24)).cell 0 (v := .int .i64 Mx.1) rfl; have qVx1 := (KVx2.out.alloc (.cells #[.int .i64 U.1, .slice au U.2.length cu] 24)).cell 1 (v := .slice ax Mx.2.length cx) rfl; clear hb hb2)
    | (go_at_call 11; (with_reducible refine (HBT.out _ _ (HMu.out.later ((Below.refl _ _).alloc (Nat.le_refl _) _) (Nat.le_refl _))).mono ?_); rintro e w3 ⟨rfl, hb⟩; obtain ⟨s3, bb0, hb3⟩ := boxed hb (by simp); have KVu3 := hidP bb0; clear bb0; have HB3 := hidP (HB2.out.trans (hb3.mono HB2.out.size)); have KX3 := hidP (KX2.out.below hb3 KX2.out.lt); have KVx3 := hidP (KVx2.out.below hb3 KVx2.out.lt); have Hx3 := hidP (Hx2.out.trans (hb3.mono Hx2.out.size)); have Hu3 := hidP hb3; have qX0 := (KX3.out.alloc (.cells #[.bool rA, .bool true, .bool rC, .bool true, .bool rP] 37)).cell 0 (v := .int .i64 rx.1) rfl; have qX1 := (KX3.out.alloc (.cells #[.bool rA, .bool true, .bool rC, .bool true, .bool rP] 37)).cell 1 (v := .slice a0x rx.2.length c0x) rfl; have qVx0 := (KVx3.out.alloc (.cells #[.bool rA, .bool true, .bool rC, .bool true, .bool rP] 37)).cell 0 (v := .int .i64 Mx.1) rfl; have qVx1 := (KVx3.out.alloc (.cells #[.bool rA, .bool true, .bool rC, .bool true, .bool rP] 37)).cell 1 (v := .slice ax Mx.2.length cx) rfl; have qVu0 := (KVu3.out.alloc (.cells #[.bool rA, .bool true, .bool rC, .bool true, .bool rP] 37)).cell 0 (v := .int .i64 U.1) rfl; have qVu1 := (KVu3.out.alloc (.cells #[.bool rA, .bool true, .bool rC, .bool true, .bool rP] 37)).cell 1 (v := .slice au U.2.length cu) rfl; clear hb hb3)
    | (go_at_call 12; (with_reducible refine (HWDv.out _ _ (HZv.out.later (HB3.out.alloc HB3.out.size _) (Nat.le_refl _))).mono ?_); rintro e w4 ⟨v4, rfl, hn, hb⟩; have HNv : Hid (Nums w4 v4 (Xv)) := hn; obtain ⟨awv, cwv, rfl, _⟩ := hn.get; obtain ⟨s4, bb0, hb4⟩ := boxed hb (by simp); have KP4 := hidP bb0; clear bb0; have HB4 := hidP (HB3.out.trans (hb4.mono HB3.out.size)); have KX4 := hidP (KX3.out.below hb4 KX3.out.lt); have KVx4 := hidP (KVx3.out.below hb4 KVx3.out.lt); have KVu4 := hidP (KVu3.out.below hb4 KVu3.out.lt); have Hx4 := hidP (Hx3.out.trans (hb4.mono Hx3.out.size)); have Hu4 := hidP (Hu3.out.trans (hb4.mono Hu3.out.size)); have qX0 := KX4.out.cell 0 (v := .int .i64 rx.1) rfl; have qX1 := KX4.out.cell 1 (v := .slice a0x rx.2.length c0x) rfl; have qVx0 := KVx4.out.cell 0 (v := .int .i64 Mx.1) rfl; have qVx1 := KVx4.out.cell 1 (v := .slice ax Mx.2.length cx) rfl; have qVu0 := KVu4.out.cell 0 (v := .int .i64 U.1) rfl; have qVu1 := KVu4.out.cell 1 (v := .slice au U.2.length cu) rfl; have qP0 := KP4.out.cell 0 (v := .bool rA) rfl; have qP1 := KP4.out.cell 1 (v := .bool true) rfl; have qP2 := KP4.out.cell 2 (v := .bool rC) rfl; have qP3 := KP4.out.cell 3 (v := .bool true) rfl; have qP4 := KP4.out.cell 4 (v := .bool rP) rfl; clear hb hb4)
    | (go_at_call 12; (with_reducible refine (HWDt.out _ _ (HZt.out.later HB4.out (Nat.le_refl _))).mono ?_); rintro e w5 ⟨v5, rfl, hn, hb⟩; have HNt : Hid (Nums w5 v5 (Xt)) := hn; obtain ⟨awt, cwt, rfl, _⟩ := hn.get; have hb5 := hb; have HB5 := hidP (HB4.out.trans (hb5.mono HB4.out.size)); have KX5 := hidP (KX4.out.below hb5 KX4.out.lt); have KVx5 := hidP (KVx4.out.below hb5 KVx4.out.lt); have KVu5 := hidP (KVu4.out.below hb5 KVu4.out.lt); have KP5 := hidP (KP4.out.below hb5 KP4.out.lt); have Hx5 := hidP (Hx4.out.trans (hb5.mono Hx4.out.size)); have Hu5 := hidP (Hu4.out.trans (hb5.mono Hu4.out.size)); have Hv5 := hidP hb5; have qX0 := KX5.out.cell 0 (v := .int .i64 rx.1) rfl; have qX1 := KX5.out.cell 1 (v := .slice a0x rx.2.length c0x) rfl; have qVx0 := KVx5.out.cell 0 (v := .int .i64 Mx.1) rfl; have qVx1 := KVx5.out.cell 1 (v := .slice ax Mx.2.length cx) rfl; have qVu0 := KVu5.out.cell 0 (v := .int .i64 U.1) rfl; have qVu1 := KVu5.out.cell 1 (v := .slice au U.2.length cu) rfl; have qP0 := KP5.out.cell 0 (v := .bool rA) rfl; have qP1 := KP5.out.cell 1 (v := .bool true) rfl; have qP2 := KP5.out.cell 2 (v := .bool rC) rfl; have qP3 := KP5.out.cell 3 (v := .bool true) rfl; have qP4 := KP5.out.cell 4 (v := .bool rP) rfl; clear hb hb5)
    | (go_at_call 13; (with_reducible refine (HCx.out _ _ _ _ (HMx.out.later Hx5.out (Nat.le_refl _)) (HNv.out.later Hv5.out (Nat.le_refl _)) (HNt.out.later (Below.refl _ _) (Nat.le_refl _))).mono ?_); rintro e w6 ⟨nx, rfl, hq, hb⟩; have hb6 := hb; have HB6 := hidP (HB5.out.trans (hb6.mono HB5.out.size)); have KX6 := hidP (KX5.out.below hb6 KX5.out.lt); have KVx6 := hidP (KVx5.out.below hb6 KVx5.out.lt); have KVu6 := hidP (KVu5.out.below hb6 KVu5.out.lt); have KP6 := hidP (KP5.out.below hb6 KP5.out.lt); have Hx6 := hidP (Hx5.out.trans (hb6.mono Hx5.out.size)); have Hu6 := hidP (Hu5.out.trans (hb6.mono Hu5.out.size)); have Hv6 := hidP (Hv5.out.trans (hb6.mono Hv5.out.size)); have Ht6 := hidP hb6; have qX0 := KX6.out.cell 0 (v := .int .i64 rx.1) rfl; have qX1 := KX6.out.cell 1 (v := .slice a0x rx.2.length c0x) rfl; have qVx0 := KVx6.out.cell 0 (v := .int .i64 Mx.1) rfl; have qVx1 := KVx6.out.cell 1 (v := .slice ax Mx.2.length cx) rfl; have qVu0 := KVu6.out.cell 0 (v := .int .i64 U.1) rfl; have qVu1 := KVu6.out.cell 1 (v := .slice au U.2.length cu) rfl; have qP0 := KP6.out.cell 0 (v := .bool rA) rfl; have qP1 := KP6.out.cell 1 (v := .bool true) rfl; have qP2 := KP6.out.cell 2 (v := .bool rC) rfl; have qP3 := KP6.out.cell 3 (v := .bool true) rfl; have qP4 := KP6.out.cell 4 (v := .bool rP) rfl; have HQx := hidP hq; have nnx := hq.nonneg; clear hq; clear hb hb6)
    | (go_at_call 13; (with_reducible refine (HCu.out _ _ _ _ (HMu.out.later Hu6.out (Nat.le_refl _)) (HNv.out.later Hv6.out (Nat.le_refl _)) (HNt.out.later Ht6.out (Nat.le_refl _))).mono ?_); rintro e w7 ⟨nu, rfl, hq, hb⟩; have hb7 := hb; have HB7 := hidP (HB6.out.trans (hb7.mono HB6.out.size)); have KX7 := hidP (KX6.out.below hb7 KX6.out.lt); have KVx7 := hidP (KVx6.out.below hb7 KVx6.out.lt); have KVu7 := hidP (KVu6.out.below hb7 KVu6.out.lt); have KP7 := hidP (KP6.out.below hb7 KP6.out.lt); have Hx7 := hidP (Hx6.out.trans (hb7.mono Hx6.out.size)); have Hu7 := hidP (Hu6.out.trans (hb7.mono Hu6.out.size)); have Hv7 := hidP (Hv6.out.trans (hb7.mono Hv6.out.size)); have Ht7 := hidP (Ht6.out.trans (hb7.mono Ht6.out.size)); have qX0 := KX7.out.cell 0 (v := .int .i64 rx.1) rfl; have qX1 := KX7.out.cell 1 (v := .slice a0x rx.2.length c0x) rfl; have qVx0 := KVx7.out.cell 0 (v := .int .i64 Mx.1) rfl; have qVx1 := KVx7.out.cell 1 (v := .slice ax Mx.2.length cx) rfl; have qVu0 := KVu7.out.cell 0 (v := .int .i64 U.1) rfl; have qVu1 := KVu7.out.cell 1 (v := .slice au U.2.length cu) rfl; have qP0 := KP7.out.cell 0 (v := .bool rA) rfl; have qP1 := KP7.out.cell 1 (v := .bool true) rfl; have qP2 := KP7.out.cell 2 (v := .bool rC) rfl; have qP3 := KP7.out.cell 3 (v := .bool true) rfl; have qP4 := KP7.out.cell 4 (v := .bool rP) rfl; have HQu := hidP hq; have nnu := hq.nonneg; clear hq; have g3 := HFC.out _ _ HQx.out HQu.out; have t3 : (nu == nx) = true := (by simpa using g3); clear g3; clear hb hb7))
  go_ret
  exact ⟨rfl, HB7.out⟩
theorem walk (vx : Value) (rx : Rw) (a1 : Option Addr) (len1 cap1 : Nat) (z1 : List Int) (a2 : Option Addr) (len2 cap2 : Nat) (z2 : List Int) (w : World) (hx : RawV w vx rx ∧ okR rx ∧ wfR rx) (w1 : IsRow .i64 w a1 len1 cap1 z1 ∧ cap1 * 8 ≤ 140737488351232) (w2 : IsRow .i64 w a2 len2 cap2 z2 ∧ cap2 * 8 ≤ 140737488351232) :
    Calls Try.prog 4 #[vx, .slice a1 len1 cap1, .slice a2 len2 cap2] w fun e w' => e = .returned (.bool true) ∧ Below w.heap.size w w' := by
  obtain ⟨p1, _, _⟩ := row_nums w1.1
  obtain ⟨p2, _, _⟩ := row_nums w2.1
  exact core vx rx _ _ _ _ w hx p1 (row_wf w1.1) p2 (row_wf w2.1)

set_option maxRecDepth 100000 in
theorem lifted (os : Os) (started : os.Started) (H : Type) (enc : TypeId × Value → H) :
    ReturnsInHanded {} Try.checked os 4 .any (Rows.removeKeepsSpec.pre6 enc Try.prog Try.f4 Rows.removeKeepsRow.domain false) (Rows.removeKeepsSpec.post enc Try.prog Try.f4 false true false false) := by
  refine returnsInHanded_of_change_sized (C := Try.checked) own started (by kernel_rfl) Try.func4
    (ChangeSpec.witness6 (enc := enc) (C := Try.checked) false ⟨#[], #[.agg #[.int .i64 0, .slice none 0 0], .slice none 0 0, .slice none 0 0], []⟩ 8 (by kernel_rfl) (by kernel_rfl) (by kernel_rfl) (by kernel_rfl)) ?_
  intro W base args ds gs before hval0 hW hcnd hsz0 _
  have hsz : (DataW.weightsEach Try.prog (Try.f4.params.toList ++ Rows.removeKeepsSpec.plain.varTypes Try.prog) (ds ++ gs)).all (· ≤ reachBytes) = true := hsz0
  have hval : ∀ (j : Nat) t v, Try.f4.params[j]? = some t → args[j]? = some v → Value.okWide Try.prog W .any base t v := hval0
  clear hval0 hsz0
  have hW' := hW
  obtain ⟨p, q, hA0, hV, rfl, hfz, hnd⟩ := hW
  have hA : DataW.TrodAll enc Try.prog W 0 (fun _ => true) true Try.f4.params.toList args.toList ds p := hA0
  rw [Try.params4] at hA hval hsz
  obtain ⟨v0, vs0, d0, ds0, p0, q0, hargs, rfl, rfl, h0, r0⟩ := trodAll_cons hA
  obtain ⟨v1, vs1, d1, ds1, p1, q1, rfl, rfl, rfl, h1, r1⟩ := trodAll_cons r0
  obtain ⟨v2, vs2, d2, ds2, p2, q2, rfl, rfl, rfl, h2, r2⟩ := trodAll_cons r1
  obtain ⟨rfl, rfl, rfl⟩ := trodAll_nil r2
  obtain rfl : args = #[v0, v1, v2] := by cases args; simp_all
  obtain ⟨rfl, rfl⟩ := trodVars_none hV
  have k0 := h0
  have lt0 : ∀ x ∈ p0, x.block < W.heap.size := by obtain ⟨m, hm⟩ := k0; exact DataW.trod_lt m _ _ _ hm
  obtain ⟨z0, w0⟩ : ∃ m : Rw, RawV W v0 m ∧ okR m ∧ wfR m := by
    obtain ⟨c0, c1, y0, y1, n, rfl, hd, hp, t0, t1⟩ := Go.Joins.open_agg2 Try.underlying33 (by kernel_rfl) (by kernel_rfl) (hval 0 33 v0 rfl rfl) h0
    subst hd
    exact open_raw t0 t1 ((Fits.arg hsz (j := 0) rfl rfl).field Try.underlying33 (f := 1) rfl rfl)
  obtain ⟨a1, len1, cap1, rfl⟩ := okWide_slice Try.underlying34 (hval 1 34 v1 rfl rfl)
  have k1 := h1
  have lt1 : ∀ x ∈ p1, x.block < W.heap.size := by obtain ⟨m, hm⟩ := k1; exact DataW.trod_lt m _ _ _ hm
  obtain ⟨z1, w1⟩ : ∃ zs, IsRow .i64 W a1 len1 cap1 zs ∧ cap1 * 8 ≤ 140737488351232 := by
    obtain ⟨fuel, hf⟩ := h1
    rcases open_ints Try.underlying34 Try.underlying3 (by kernel_rfl) hf with ⟨hcs, _⟩ | ⟨x, l, c, zs, hcs, _, hl, hm, hz, hx, hcell, hwz⟩
    · simp [Value.cells] at hcs
      obtain ⟨rfl, rfl, rfl⟩ := hcs
      exact ⟨[], .inl ⟨rfl, rfl, rfl, rfl⟩, by omega⟩
    · have hd := congrArg Prod.fst hx
      have hsw := sized_slice hsz (j := 1) (t := 34) (e := 3) rfl (congrArg some hd) Try.underlying34
      have hby : Try.prog.bytesOf 3 = 8 := by kernel_rfl
      rw [hby] at hsw
      simp [Value.cells] at hcs
      obtain ⟨rfl, rfl, rfl⟩ := hcs
      have hz' : zs.length = cap1 := by simpa using hz
      simp only [lits, List.length_map, List.length_take, List.length_drop, reachBytes] at hsw
      exact ⟨zs, .inr ⟨_, rfl, hl, hm, hz', hcell, hwz⟩, by omega⟩
  obtain ⟨a2, len2, cap2, rfl⟩ := okWide_slice Try.underlying34 (hval 2 34 v2 rfl rfl)
  have k2 := h2
  have lt2 : ∀ x ∈ p2, x.block < W.heap.size := by obtain ⟨m, hm⟩ := k2; exact DataW.trod_lt m _ _ _ hm
  obtain ⟨z2, w2⟩ : ∃ zs, IsRow .i64 W a2 len2 cap2 zs ∧ cap2 * 8 ≤ 140737488351232 := by
    obtain ⟨fuel, hf⟩ := h2
    rcases open_ints Try.underlying34 Try.underlying3 (by kernel_rfl) hf with ⟨hcs, _⟩ | ⟨x, l, c, zs, hcs, _, hl, hm, hz, hx, hcell, hwz⟩
    · simp [Value.cells] at hcs
      obtain ⟨rfl, rfl, rfl⟩ := hcs
      exact ⟨[], .inl ⟨rfl, rfl, rfl, rfl⟩, by omega⟩
    · have hd := congrArg Prod.fst hx
      have hsw := sized_slice hsz (j := 2) (t := 34) (e := 3) rfl (congrArg some hd) Try.underlying34
      have hby : Try.prog.bytesOf 3 = 8 := by kernel_rfl
      rw [hby] at hsw
      simp [Value.cells] at hcs
      obtain ⟨rfl, rfl, rfl⟩ := hcs
      have hz' : zs.length = cap2 := by simpa using hz
      simp only [lits, List.length_map, List.length_take, List.length_drop, reachBytes] at hsw
      exact ⟨zs, .inr ⟨_, rfl, hl, hm, hz', hcell, hwz⟩, by omega⟩
  refine (walk v0 z0 a1 len1 cap1 z1 a2 len2 cap2 z2 W w0 w1 w2).mono fun e W' ⟨he, bel⟩ => ?_
  subst he
  exact ⟨_, rfl, _, _, _, [], _, [], hW', trodAll_mk1 (shut_bool Try.underlying4 _), (trodAll_cons_mk (Below.trod laidOut (by kernel_rfl) (of_decide_eq_true (by kernel_rfl)) k0 bel lt0) (trodAll_cons_mk (Below.trod laidOut (by kernel_rfl) (of_decide_eq_true (by kernel_rfl)) k1 bel lt1) (trodAll_cons_mk (Below.trod laidOut (by kernel_rfl) (of_decide_eq_true (by kernel_rfl)) k2 bel lt2) trodAll_mk0))), rfl, bel.frame _, fun h => by cases h⟩
end Go.Proofs.Ytjpfpdbhdcopbaa.removeKeeps
namespace Go.Proofs.Ytjpfpdbhdcopbaa
theorem removeKeeps_holds : Rows.RemoveKeepsSaid :=
  OpenClaim.holds_of_wide 4 Try.f4 rfl rfl rfl rfl rfl rfl rfl ⟨rfl, rfl, rfl, rfl, rfl⟩ rfl rfl rfl rfl rfl (by kernel_rfl) Try.func4 (by kernel_rfl)
    (of_decide_eq_true (by kernel_rfl)) (by unfold Func.isWrapper; first | (rw [if_pos (by decide +kernel)]; kernel_rfl) | (rw [if_neg (by decide +kernel)]; exact ⟨rfl, rfl⟩))
    (fun os started H enc _ => removeKeeps.lifted os started H enc)
#print axioms removeKeeps_holds
end Go.Proofs.Ytjpfpdbhdcopbaa
