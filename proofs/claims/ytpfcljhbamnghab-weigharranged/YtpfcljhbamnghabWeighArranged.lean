/- The statement WeighArranged: whatever numbers a machine and two words are made of, arranged or trimmed it costs the same, for every input and without any condition. -/
import Derived.Test.YtpfcljhbamnghabMd
import Derived.Test.YtpfcljhbamnghabKi
import Derived.Test.YtpfcljhbamnghabKj
import Derived.Test.YtpfcljhbamnghabWy
import Derived.Test.YtpfcljhbamnghabKn
import Derived.Test.YtpfcljhbamnghabLo
import Derived.Lib.SmallJoins
import Derived.ChangeOld
import Derived.Below
namespace Go.Proofs.Ytpfcljhbamnghab.weighArranged
open Go.ChangeShapes Go.WideShapes Go.ChangeAt Go.RowKit
open Go.Proofs.Ytpfcljhbamnghab.Pl Go.Proofs.Ytpfcljhbamnghab.Wt
set_option linter.unusedVariables false
set_option linter.unusedSimpArgs false

theorem own : ownKnob Try.prog.godebug = none := by kernel_rfl
theorem laidOut : laidOutB Try.prog = true := by kernel_rfl
set_option maxRecDepth 100000 in
set_option maxHeartbeats 1600000 in
theorem core (vx : Value) (rx : Rw) (vv : Value) (zv : List Int) (vt : Value) (zt : List Int) (w : World) (hx : RawV w vx rx ∧ okR rx ∧ wfR rx) (hzv : Nums w vv zv) (hwv : ∀ n ∈ zv, (Lit.int .i64 n).wf = true) (hzt : Nums w vt zt) (hwt : ∀ n ∈ zt, (Lit.int .i64 n).wf = true) :
    Calls Try.prog 6 #[vx, vv, vt] w fun e w' => e = .returned (.bool true) ∧ Below w.heap.size w w' := by
  obtain ⟨hx, hokx, hwfx⟩ := hx
  have HIx : Hid (RawV w vx rx) := hx
  have HOKx : Hid (okR rx) := hokx
  have HWFx : Hid (wfR rx) := hwfx
  obtain ⟨hfx, hcx, hlx, hax, hpx⟩ := made_facts rx 5 (by omega) (by omega)
  have HEx : Hid (∀ v W, RawV W v rx → okR rx → wfR rx → Calls Try.prog 9 #[v, .int .i64 5, .bool false] W fun e w' => ∃ v', e = .returned v' ∧ Mach w' v' (madeM rx 5 false) ∧ Below W.heap.size W w') := fun v W h1 h2 h3 => made_any v rx 5 false W h1 h2 h3 (by omega) (by omega)
  obtain ⟨vs0x, rfl, hNx⟩ := hx
  obtain ⟨a0x, c0x, rfl, hNxx⟩ := hNx.get
  clear hNx hNxx hokx hwfx
  have HZv := hidP hzv
  have HWDv : Hid (∀ v W, Nums W v zv → Calls Try.prog 11 #[v, .int .i64 4] W fun e w' => ∃ v', e = .returned v' ∧ Nums w' v' (wdL zv 4) ∧ Below W.heap.size W w') := fun v W h1 => word_any v zv 4 W h1 hwv (by omega)
  have ewv : wrdE (wdL zv 4) = 0 := wdL_wrd (by omega)
  have lwv := wdL_len zv 4
  clear hzv hwv
  have HZt := hidP hzt
  have HWDt : Hid (∀ v W, Nums W v zt → Calls Try.prog 11 #[v, .int .i64 4] W fun e w' => ∃ v', e = .returned v' ∧ Nums w' v' (wdL zt 4) ∧ Below W.heap.size W w') := fun v W h1 => word_any v zt 4 W h1 hwt (by omega)
  have ewt : wrdE (wdL zt 4) = 0 := wdL_wrd (by omega)
  have lwt := wdL_len zt 4
  clear hzt hwt
  have fi : faultM (mapM (sortS false) (madeM rx 5 false)) = 0 := fault_map (fun l => by rw [sortS_length]; exact Nat.le_refl _) (fun l a h => (sortS_perm false l).mem_iff.1 h) hfx
  have fj : faultM (mapM (sortS true) (madeM rx 5 false)) = 0 := fault_map (fun l => by rw [sortS_length]; exact Nat.le_refl _) (fun l a h => (sortS_perm true l).mem_iff.1 h) hfx
  have fk : faultM (mapM (fun l => lightL (sortS false l)) (madeM rx 5 false)) = 0 := fault_map merge_le merge_sub hfx
  have hUl := mapM_len (sortS false) (madeM rx 5 false)
  have HUC : Hid (∀ W v, Mach W v (madeM rx 5 false) → Calls Try.prog 17 #[v] W fun e w' => RatRes (mapM (sortS false) (madeM rx 5 false)) 0 W e w') := fun W v h1 => sortedK_any v _ W h1 (right_ok hfx) hfx
  have HUJ : Hid (∀ W v, Mach W v (madeM rx 5 false) → Calls Try.prog 18 #[v] W fun e w' => RatRes (mapM (sortS true) (madeM rx 5 false)) 0 W e w') := fun W v h1 => byOutK_any v _ W h1 (right_ok hfx) hfx
  have HUK : Hid (∀ W v, Mach W v (madeM rx 5 false) → Calls Try.prog 19 #[v] W fun e w' => RatRes (mapM (fun l => lightL (sortS false l)) (madeM rx 5 false)) 0 W e w') := fun W v h1 => mergedK_any v _ W h1 (right_ok hfx) hfx
  have HUT : Hid (∀ W v, Mach W v (madeM rx 5 false) → Calls Try.prog 20 #[v] W fun e w' => ∃ T : Mc, (faultM T = 0 ∧ CheapL T.2 ∧ ∀ x y c, Costs T x y c ↔ Costs (madeM rx 5 false) x y c) ∧ RatRes T 0 W e w') := fun W v h1 => trimK_any v _ W h1 (right_ok hfx) hfx hcx
  have HCx : Hid (∀ W v s t, Mach W v (madeM rx 5 false) → Nums W s (wdL zv 4) → Nums W t (wdL zt 4) → Calls Try.prog 12 #[v, s, t] W fun e w' => ∃ n : Int, e = .returned (.int .i64 n) ∧ CstIs (Costs (madeM rx 5 false) (wdL zv 4) (wdL zt 4)) n ∧ Below W.heap.size W w') := fun W v s t h1 h2 h3 => cost_any v s t _ _ _ W h1 (right_ok hfx) hfx hcx h2 h3 ewv ewt
  have HCi : Hid (∀ W v s t, Mach W v (mapM (sortS false) (madeM rx 5 false)) → Nums W s (wdL zv 4) → Nums W t (wdL zt 4) → Calls Try.prog 12 #[v, s, t] W fun e w' => ∃ n : Int, e = .returned (.int .i64 n) ∧ (∀ a, CstIs (Costs (madeM rx 5 false) (wdL zv 4) (wdL zt 4)) a → n = a) ∧ Below W.heap.size W w') := fun W v s t h1 h2 h3 => (cost_any v s t _ _ _ W h1 (right_ok fi) fi (mapM_cheap (fun l a h => (sortS_perm false l).mem_iff.1 h) hcx) h2 h3 ewv ewt).mono fun e w' ⟨n, he, hc, hb⟩ => ⟨n, he, fun a ha => hc.eq ha (fun c => costs_sort false _ _ _ c), hb⟩
  have HCj : Hid (∀ W v s t, Mach W v (mapM (sortS true) (madeM rx 5 false)) → Nums W s (wdL zv 4) → Nums W t (wdL zt 4) → Calls Try.prog 12 #[v, s, t] W fun e w' => ∃ n : Int, e = .returned (.int .i64 n) ∧ (∀ a, CstIs (Costs (madeM rx 5 false) (wdL zv 4) (wdL zt 4)) a → n = a) ∧ Below W.heap.size W w') := fun W v s t h1 h2 h3 => (cost_any v s t _ _ _ W h1 (right_ok fj) fj (mapM_cheap (fun l a h => (sortS_perm true l).mem_iff.1 h) hcx) h2 h3 ewv ewt).mono fun e w' ⟨n, he, hc, hb⟩ => ⟨n, he, fun a ha => hc.eq ha (fun c => costs_sort true _ _ _ c), hb⟩
  have HCk : Hid (∀ W v s t, Mach W v (mapM (fun l => lightL (sortS false l)) (madeM rx 5 false)) → Nums W s (wdL zv 4) → Nums W t (wdL zt 4) → Calls Try.prog 12 #[v, s, t] W fun e w' => ∃ n : Int, e = .returned (.int .i64 n) ∧ (∀ a, CstIs (Costs (madeM rx 5 false) (wdL zv 4) (wdL zt 4)) a → n = a) ∧ Below W.heap.size W w') := fun W v s t h1 h2 h3 => (cost_any v s t _ _ _ W h1 (right_ok fk) fk (mapM_cheap merge_sub hcx) h2 h3 ewv ewt).mono fun e w' ⟨n, he, hc, hb⟩ => ⟨n, he, fun a ha => hc.sub ha (costs_merge _ _ _).1 (costs_merge _ _ _).2, hb⟩
  have HCr : Hid (∀ T : Mc, (faultM T = 0 ∧ CheapL T.2 ∧ ∀ x y c, Costs T x y c ↔ Costs (madeM rx 5 false) x y c) → ∀ W v s t, Mach W v T → Nums W s (wdL zv 4) → Nums W t (wdL zt 4) → Calls Try.prog 12 #[v, s, t] W fun e w' => ∃ n : Int, e = .returned (.int .i64 n) ∧ (∀ a, CstIs (Costs (madeM rx 5 false) (wdL zv 4) (wdL zt 4)) a → n = a) ∧ Below W.heap.size W w') := fun T hT W v s t h1 h2 h3 => (cost_any v s t _ _ _ W h1 (right_ok hT.1) hT.1 hT.2.1 h2 h3 ewv ewt).mono fun e w' ⟨n, he, hc, hb⟩ => ⟨n, he, fun a ha => hc.eq ha (fun c => hT.2.2 _ _ c), hb⟩
  clear hfx hcx fi fj fk ewv ewt lwv lwt hlx hax hpx
  generalize mapM (sortS false) (madeM rx 5 false) = Ui at *
  generalize mapM (sortS true) (madeM rx 5 false) = Uj at *
  generalize mapM (fun l => lightL (sortS false l)) (madeM rx 5 false) = Uk at *
  generalize (madeM rx 5 false) = Mx at *
  generalize wdL zv 4 = Xv at *
  generalize wdL zt 4 = Xt at *
  obtain ⟨avz, cvz, rfl, _⟩ := HZv.out.get
  obtain ⟨atz, ctz, rfl, _⟩ := HZt.out.get
  have t4 : ((Ui.2.length : Int) != (Mx.2.length : Int)) = false := by simp [hUl]
  have HB0 : Hid (∀ o1, Below w.heap.size w (w.alloc o1)) := fun o1 => (Below.refl _ _).alloc (Nat.le_refl _) _
  have HUL := hidP hUl
  clear hUl
  go_enter Try.func6, Try.ntmps6
  go_wp2_with (first
    | (go_at_call 9; (with_reducible refine (HEx.out _ _ (HIx.out.later (HB0.out _) (Nat.le_refl _)) HOKx.out HWFx.out).mono ?_); rintro e w1 ⟨v1, rfl, hm, hb⟩; have HMx : Hid (Mach w1 v1 (Mx)) := hm; obtain ⟨vsx, rfl, hSx⟩ := hm; obtain ⟨ax, cx, rfl⟩ := hSx.sl; clear hSx; obtain ⟨s1, bb0, hb1⟩ := boxed hb (by simp); have KX1 := hidP bb0; clear bb0; have HB1 := hidP hb1; have qX0 := (KX1.out.alloc (.cells #[.int .i64 Mx.1, .slice ax Mx.2.length cx] 28)).cell 0 (v := .int .i64 rx.1) rfl; have qX1 := (KX1.out.alloc (.cells #[.int .i64 Mx.1, .slice ax Mx.2.length cx] 28)).cell 1 (v := .slice a0x rx.2.length c0x) rfl; clear hb hb1)
    | (go_at_call 11; (with_reducible refine (HWDv.out _ _ (HZv.out.later (HB1.out.alloc HB1.out.size _) (Nat.le_refl _))).mono ?_); rintro e w2 ⟨v2, rfl, hn, hb⟩; have HNv : Hid (Nums w2 v2 (Xv)) := hn; obtain ⟨awv, cwv, rfl, _⟩ := hn.get; obtain ⟨s2, bb0, hb2⟩ := boxed hb (by simp); have KVx2 := hidP bb0; clear bb0; have HB2 := hidP (HB1.out.trans (hb2.mono HB1.out.size)); have KX2 := hidP (KX1.out.below hb2 KX1.out.lt); have Hx2 := hidP hb2; have qX0 := KX2.out.cell 0 (v := .int .i64 rx.1) rfl; have qX1 := KX2.out.cell 1 (v := .slice a0x rx.2.length c0x) rfl; have qVx0 := KVx2.out.cell 0 (v := .int .i64 Mx.1) rfl; have qVx1 := KVx2.out.cell 1 (v := .slice ax Mx.2.length cx) rfl; clear hb hb2)
    | (go_at_call 11; (with_reducible refine (HWDt.out _ _ (HZt.out.later HB2.out (Nat.le_refl _))).mono ?_); rintro e w3 ⟨v3, rfl, hn, hb⟩; have HNt : Hid (Nums w3 v3 (Xt)) := hn; obtain ⟨awt, cwt, rfl, _⟩ := hn.get; have hb3 := hb; have HB3 := hidP (HB2.out.trans (hb3.mono HB2.out.size)); have KX3 := hidP (KX2.out.below hb3 KX2.out.lt); have KVx3 := hidP (KVx2.out.below hb3 KVx2.out.lt); have Hx3 := hidP (Hx2.out.trans (hb3.mono Hx2.out.size)); have Hv3 := hidP hb3; have qX0 := KX3.out.cell 0 (v := .int .i64 rx.1) rfl; have qX1 := KX3.out.cell 1 (v := .slice a0x rx.2.length c0x) rfl; have qVx0 := KVx3.out.cell 0 (v := .int .i64 Mx.1) rfl; have qVx1 := KVx3.out.cell 1 (v := .slice ax Mx.2.length cx) rfl; clear hb hb3)
    | (go_at_call 12; (with_reducible refine (HCx.out _ _ _ _ (HMx.out.later Hx3.out (Nat.le_refl _)) (HNv.out.later Hv3.out (Nat.le_refl _)) (HNt.out.later (Below.refl _ _) (Nat.le_refl _))).mono ?_); rintro e w4 ⟨nx, rfl, hq, hb⟩; have hb4 := hb; have HB4 := hidP (HB3.out.trans (hb4.mono HB3.out.size)); have KX4 := hidP (KX3.out.below hb4 KX3.out.lt); have KVx4 := hidP (KVx3.out.below hb4 KVx3.out.lt); have Hx4 := hidP (Hx3.out.trans (hb4.mono Hx3.out.size)); have Hv4 := hidP (Hv3.out.trans (hb4.mono Hv3.out.size)); have Ht4 := hidP hb4; have qX0 := KX4.out.cell 0 (v := .int .i64 rx.1) rfl; have qX1 := KX4.out.cell 1 (v := .slice a0x rx.2.length c0x) rfl; have qVx0 := KVx4.out.cell 0 (v := .int .i64 Mx.1) rfl; have qVx1 := KVx4.out.cell 1 (v := .slice ax Mx.2.length cx) rfl; have HQx := hidP hq; have nnx := hq.nonneg; clear hq; clear hb hb4)
    | (go_at_call 17; (with_reducible refine (HUC.out _ _ (HMx.out.later Hx4.out (Nat.le_refl _))).mono ?_); rintro e w5 ⟨v5, rfl, hm, hb⟩; have HMi : Hid (Mach w5 v5 (Ui)) := hm; obtain ⟨vsi, rfl, hSi⟩ := hm; obtain ⟨ai, ci, rfl⟩ := hSi.sl; clear hSi; have hb5 := hb; have HB5 := hidP (HB4.out.trans (hb5.mono HB4.out.size)); have KX5 := hidP (KX4.out.below hb5 KX4.out.lt); have KVx5 := hidP (KVx4.out.below hb5 KVx4.out.lt); have Hx5 := hidP (Hx4.out.trans (hb5.mono Hx4.out.size)); have Hv5 := hidP (Hv4.out.trans (hb5.mono Hv4.out.size)); have Ht5 := hidP (Ht4.out.trans (hb5.mono Ht4.out.size)); have qX0 := (KX5.out.alloc (.cells #[.int .i64 Ui.1, .slice ai Ui.2.length ci] 28)).cell 0 (v := .int .i64 rx.1) rfl; have qX1 := (KX5.out.alloc (.cells #[.int .i64 Ui.1, .slice ai Ui.2.length ci] 28)).cell 1 (v := .slice a0x rx.2.length c0x) rfl; have qVx0 := (KVx5.out.alloc (.cells #[.int .i64 Ui.1, .slice ai Ui.2.length ci] 28)).cell 0 (v := .int .i64 Mx.1) rfl; have qVx1 := (KVx5.out.alloc (.cells #[.int .i64 Ui.1, .slice ai Ui.2.length ci] 28)).cell 1 (v := .slice ax Mx.2.length cx) rfl; clear hb hb5)
    | (go_at_call 18; (with_reducible refine (HUJ.out _ _ (HMx.out.later (Hx5.out.alloc Hx5.out.size _) (Nat.le_refl _))).mono ?_); rintro e w6 ⟨v6, rfl, hm, hb⟩; have HMj : Hid (Mach w6 v6 (Uj)) := hm; obtain ⟨vsj, rfl, hSj⟩ := hm; obtain ⟨aj, cj, rfl⟩ := hSj.sl; clear hSj; obtain ⟨s6, bb0, hb6⟩ := boxed hb (by simp); have KVi6 := hidP bb0; clear bb0; have HB6 := hidP (HB5.out.trans (hb6.mono HB5.out.size)); have KX6 := hidP (KX5.out.below hb6 KX5.out.lt); have KVx6 := hidP (KVx5.out.below hb6 KVx5.out.lt); have Hx6 := hidP (Hx5.out.trans (hb6.mono Hx5.out.size)); have Hv6 := hidP (Hv5.out.trans (hb6.mono Hv5.out.size)); have Ht6 := hidP (Ht5.out.trans (hb6.mono Ht5.out.size)); have Hi6 := hidP hb6; have qX0 := (KX6.out.alloc (.cells #[.int .i64 Uj.1, .slice aj Uj.2.length cj] 28)).cell 0 (v := .int .i64 rx.1) rfl; have qX1 := (KX6.out.alloc (.cells #[.int .i64 Uj.1, .slice aj Uj.2.length cj] 28)).cell 1 (v := .slice a0x rx.2.length c0x) rfl; have qVx0 := (KVx6.out.alloc (.cells #[.int .i64 Uj.1, .slice aj Uj.2.length cj] 28)).cell 0 (v := .int .i64 Mx.1) rfl; have qVx1 := (KVx6.out.alloc (.cells #[.int .i64 Uj.1, .slice aj Uj.2.length cj] 28)).cell 1 (v := .slice ax Mx.2.length cx) rfl; have qVi0 := (KVi6.out.alloc (.cells #[.int .i64 Uj.1, .slice aj Uj.2.length cj] 28)).cell 0 (v := .int .i64 Ui.1) rfl; have qVi1 := (KVi6.out.alloc (.cells #[.int .i64 Uj.1, .slice aj Uj.2.length cj] 28)).cell 1 (v := .slice ai Ui.2.length ci) rfl; clear hb hb6)
    | (go_at_call 19; (with_reducible refine (HUK.out _ _ (HMx.out.later (Hx6.out.alloc Hx6.out.size _) (Nat.le_refl _))).mono ?_); rintro e w7 ⟨v7, rfl, hm, hb⟩; have HMk : Hid (Mach w7 v7 (Uk)) := hm; obtain ⟨vsk, rfl, hSk⟩ := hm; obtain ⟨ak, ck, rfl⟩ := hSk.sl; clear hSk; obtain ⟨s7, bb0, hb7⟩ := boxed hb (by simp); have KVj7 := hidP bb0; clear bb0; have HB7 := hidP (HB6.out.trans (hb7.mono HB6.out.size)); have KX7 := hidP (KX6.out.below hb7 KX6.out.lt); have KVx7 := hidP (KVx6.out.below hb7 KVx6.out.lt); have KVi7 := hidP (KVi6.out.below hb7 KVi6.out.lt); have Hx7 := hidP (Hx6.out.trans (hb7.mono Hx6.out.size)); have Hv7 := hidP (Hv6.out.trans (hb7.mono Hv6.out.size)); have Ht7 := hidP (Ht6.out.trans (hb7.mono Ht6.out.size)); have Hi7 := hidP (Hi6.out.trans (hb7.mono Hi6.out.size)); have Hj7 := hidP hb7; have qX0 := (KX7.out.alloc (.cells #[.int .i64 Uk.1, .slice ak Uk.2.length ck] 28)).cell 0 (v := .int .i64 rx.1) rfl; have qX1 := (KX7.out.alloc (.cells #[.int .i64 Uk.1, .slice ak Uk.2.length ck] 28)).cell 1 (v := .slice a0x rx.2.length c0x) rfl; have qVx0 := (KVx7.out.alloc (.cells #[.int .i64 Uk.1, .slice ak Uk.2.length ck] 28)).cell 0 (v := .int .i64 Mx.1) rfl; have qVx1 := (KVx7.out.alloc (.cells #[.int .i64 Uk.1, .slice ak Uk.2.length ck] 28)).cell 1 (v := .slice ax Mx.2.length cx) rfl; have qVi0 := (KVi7.out.alloc (.cells #[.int .i64 Uk.1, .slice ak Uk.2.length ck] 28)).cell 0 (v := .int .i64 Ui.1) rfl; have qVi1 := (KVi7.out.alloc (.cells #[.int .i64 Uk.1, .slice ak Uk.2.length ck] 28)).cell 1 (v := .slice ai Ui.2.length ci) rfl; have qVj0 := (KVj7.out.alloc (.cells #[.int .i64 Uk.1, .slice ak Uk.2.length ck] 28)).cell 0 (v := .int .i64 Uj.1) rfl; have qVj1 := (KVj7.out.alloc (.cells #[.int .i64 Uk.1, .slice ak Uk.2.length ck] 28)).cell 1 (v := .slice aj Uj.2.length cj) rfl; clear hb hb7)
    | (go_at_call 20; (with_reducible refine (HUT.out _ _ (HMx.out.later (Hx7.out.alloc Hx7.out.size _) (Nat.le_refl _))).mono ?_); rintro e w8 ⟨T, hT, v8, rfl, hm, hb⟩; have HMr : Hid (Mach w8 v8 (T)) := hm; obtain ⟨vsr, rfl, hSr⟩ := hm; obtain ⟨ar, cr, rfl⟩ := hSr.sl; clear hSr; obtain ⟨s8, bb0, hb8⟩ := boxed hb (by simp); have KVk8 := hidP bb0; clear bb0; have HB8 := hidP (HB7.out.trans (hb8.mono HB7.out.size)); have KX8 := hidP (KX7.out.below hb8 KX7.out.lt); have KVx8 := hidP (KVx7.out.below hb8 KVx7.out.lt); have KVi8 := hidP (KVi7.out.below hb8 KVi7.out.lt); have KVj8 := hidP (KVj7.out.below hb8 KVj7.out.lt); have Hx8 := hidP (Hx7.out.trans (hb8.mono Hx7.out.size)); have Hv8 := hidP (Hv7.out.trans (hb8.mono Hv7.out.size)); have Ht8 := hidP (Ht7.out.trans (hb8.mono Ht7.out.size)); have Hi8 := hidP (Hi7.out.trans (hb8.mono Hi7.out.size)); have Hj8 := hidP (Hj7.out.trans (hb8.mono Hj7.out.size)); have Hk8 := hidP hb8; have qX0 := (KX8.out.alloc (.cells #[.int .i64 T.1, .slice ar T.2.length cr] 28)).cell 0 (v := .int .i64 rx.1) rfl; have qX1 := (KX8.out.alloc (.cells #[.int .i64 T.1, .slice ar T.2.length cr] 28)).cell 1 (v := .slice a0x rx.2.length c0x) rfl; have qVx0 := (KVx8.out.alloc (.cells #[.int .i64 T.1, .slice ar T.2.length cr] 28)).cell 0 (v := .int .i64 Mx.1) rfl; have qVx1 := (KVx8.out.alloc (.cells #[.int .i64 T.1, .slice ar T.2.length cr] 28)).cell 1 (v := .slice ax Mx.2.length cx) rfl; have qVi0 := (KVi8.out.alloc (.cells #[.int .i64 T.1, .slice ar T.2.length cr] 28)).cell 0 (v := .int .i64 Ui.1) rfl; have qVi1 := (KVi8.out.alloc (.cells #[.int .i64 T.1, .slice ar T.2.length cr] 28)).cell 1 (v := .slice ai Ui.2.length ci) rfl; have qVj0 := (KVj8.out.alloc (.cells #[.int .i64 T.1, .slice ar T.2.length cr] 28)).cell 0 (v := .int .i64 Uj.1) rfl; have qVj1 := (KVj8.out.alloc (.cells #[.int .i64 T.1, .slice ar T.2.length cr] 28)).cell 1 (v := .slice aj Uj.2.length cj) rfl; have qVk0 := (KVk8.out.alloc (.cells #[.int .i64 T.1, .slice ar T.2.length cr] 28)).cell 0 (v := .int .i64 Uk.1) rfl; have qVk1 := (KVk8.out.alloc (.cells #[.int .i64 T.1, .slice ar T.2.length cr] 28)).cell 1 (v := .slice ak Uk.2.length ck) rfl; have HT := hidP hT; clear hT; clear hb hb8)
    | (go_at_call 12; (with_reducible refine (HCi.out _ _ _ _ (HMi.out.later (Hi8.out.alloc Hi8.out.size _) (Nat.le_refl _)) (HNv.out.later (Hv8.out.alloc Hv8.out.size _) (Nat.le_refl _)) (HNt.out.later (Ht8.out.alloc Ht8.out.size _) (Nat.le_refl _))).mono ?_); rintro e w9 ⟨ni, rfl, hq, hb⟩; obtain ⟨s9, bb0, hb9⟩ := boxed hb (by simp); have KVr9 := hidP bb0; clear bb0; have HB9 := hidP (HB8.out.trans (hb9.mono HB8.out.size)); have KX9 := hidP (KX8.out.below hb9 KX8.out.lt); have KVx9 := hidP (KVx8.out.below hb9 KVx8.out.lt); have KVi9 := hidP (KVi8.out.below hb9 KVi8.out.lt); have KVj9 := hidP (KVj8.out.below hb9 KVj8.out.lt); have KVk9 := hidP (KVk8.out.below hb9 KVk8.out.lt); have Hx9 := hidP (Hx8.out.trans (hb9.mono Hx8.out.size)); have Hv9 := hidP (Hv8.out.trans (hb9.mono Hv8.out.size)); have Ht9 := hidP (Ht8.out.trans (hb9.mono Ht8.out.size)); have Hi9 := hidP (Hi8.out.trans (hb9.mono Hi8.out.size)); have Hj9 := hidP (Hj8.out.trans (hb9.mono Hj8.out.size)); have Hk9 := hidP (Hk8.out.trans (hb9.mono Hk8.out.size)); have Hr9 := hidP hb9; have qX0 := KX9.out.cell 0 (v := .int .i64 rx.1) rfl; have qX1 := KX9.out.cell 1 (v := .slice a0x rx.2.length c0x) rfl; have qVx0 := KVx9.out.cell 0 (v := .int .i64 Mx.1) rfl; have qVx1 := KVx9.out.cell 1 (v := .slice ax Mx.2.length cx) rfl; have qVi0 := KVi9.out.cell 0 (v := .int .i64 Ui.1) rfl; have qVi1 := KVi9.out.cell 1 (v := .slice ai Ui.2.length ci) rfl; have qVj0 := KVj9.out.cell 0 (v := .int .i64 Uj.1) rfl; have qVj1 := KVj9.out.cell 1 (v := .slice aj Uj.2.length cj) rfl; have qVk0 := KVk9.out.cell 0 (v := .int .i64 Uk.1) rfl; have qVk1 := KVk9.out.cell 1 (v := .slice ak Uk.2.length ck) rfl; have qVr0 := KVr9.out.cell 0 (v := .int .i64 T.1) rfl; have qVr1 := KVr9.out.cell 1 (v := .slice ar T.2.length cr) rfl; have ti : (ni == nx) = true := (by simpa using hq _ HQx.out); clear hq; clear hb hb9)
    | (go_at_call 12; (with_reducible refine (HCj.out _ _ _ _ (HMj.out.later Hj9.out (Nat.le_refl _)) (HNv.out.later Hv9.out (Nat.le_refl _)) (HNt.out.later Ht9.out (Nat.le_refl _))).mono ?_); rintro e w10 ⟨nj, rfl, hq, hb⟩; have hb10 := hb; have HB10 := hidP (HB9.out.trans (hb10.mono HB9.out.size)); have KX10 := hidP (KX9.out.below hb10 KX9.out.lt); have KVx10 := hidP (KVx9.out.below hb10 KVx9.out.lt); have KVi10 := hidP (KVi9.out.below hb10 KVi9.out.lt); have KVj10 := hidP (KVj9.out.below hb10 KVj9.out.lt); have KVk10 := hidP (KVk9.out.below hb10 KVk9.out.lt); have KVr10 := hidP (KVr9.out.below hb10 KVr9.out.lt); have Hx10 := hidP (Hx9.out.trans (hb10.mono Hx9.out.size)); have Hv10 := hidP (Hv9.out.trans (hb10.mono Hv9.out.size)); have Ht10 := hidP (Ht9.out.trans (hb10.mono Ht9.out.size)); have Hi10 := hidP (Hi9.out.trans (hb10.mono Hi9.out.size)); have Hj10 := hidP (Hj9.out.trans (hb10.mono Hj9.out.size)); have Hk10 := hidP (Hk9.out.trans (hb10.mono Hk9.out.size)); have Hr10 := hidP (Hr9.out.trans (hb10.mono Hr9.out.size)); have qX0 := KX10.out.cell 0 (v := .int .i64 rx.1) rfl; have qX1 := KX10.out.cell 1 (v := .slice a0x rx.2.length c0x) rfl; have qVx0 := KVx10.out.cell 0 (v := .int .i64 Mx.1) rfl; have qVx1 := KVx10.out.cell 1 (v := .slice ax Mx.2.length cx) rfl; have qVi0 := KVi10.out.cell 0 (v := .int .i64 Ui.1) rfl; have qVi1 := KVi10.out.cell 1 (v := .slice ai Ui.2.length ci) rfl; have qVj0 := KVj10.out.cell 0 (v := .int .i64 Uj.1) rfl; have qVj1 := KVj10.out.cell 1 (v := .slice aj Uj.2.length cj) rfl; have qVk0 := KVk10.out.cell 0 (v := .int .i64 Uk.1) rfl; have qVk1 := KVk10.out.cell 1 (v := .slice ak Uk.2.length ck) rfl; have qVr0 := KVr10.out.cell 0 (v := .int .i64 T.1) rfl; have qVr1 := KVr10.out.cell 1 (v := .slice ar T.2.length cr) rfl; have tj : (nj == nx) = true := (by simpa using hq _ HQx.out); clear hq; clear hb hb10)
    | (go_at_call 12; (with_reducible refine (HCk.out _ _ _ _ (HMk.out.later Hk10.out (Nat.le_refl _)) (HNv.out.later Hv10.out (Nat.le_refl _)) (HNt.out.later Ht10.out (Nat.le_refl _))).mono ?_); rintro e w11 ⟨nk, rfl, hq, hb⟩; have hb11 := hb; have HB11 := hidP (HB10.out.trans (hb11.mono HB10.out.size)); have KX11 := hidP (KX10.out.below hb11 KX10.out.lt); have KVx11 := hidP (KVx10.out.below hb11 KVx10.out.lt); have KVi11 := hidP (KVi10.out.below hb11 KVi10.out.lt); have KVj11 := hidP (KVj10.out.below hb11 KVj10.out.lt); have KVk11 := hidP (KVk10.out.below hb11 KVk10.out.lt); have KVr11 := hidP (KVr10.out.below hb11 KVr10.out.lt); have Hx11 := hidP (Hx10.out.trans (hb11.mono Hx10.out.size)); have Hv11 := hidP (Hv10.out.trans (hb11.mono Hv10.out.size)); have Ht11 := hidP (Ht10.out.trans (hb11.mono Ht10.out.size)); have Hi11 := hidP (Hi10.out.trans (hb11.mono Hi10.out.size)); have Hj11 := hidP (Hj10.out.trans (hb11.mono Hj10.out.size)); have Hk11 := hidP (Hk10.out.trans (hb11.mono Hk10.out.size)); have Hr11 := hidP (Hr10.out.trans (hb11.mono Hr10.out.size)); have qX0 := KX11.out.cell 0 (v := .int .i64 rx.1) rfl; have qX1 := KX11.out.cell 1 (v := .slice a0x rx.2.length c0x) rfl; have qVx0 := KVx11.out.cell 0 (v := .int .i64 Mx.1) rfl; have qVx1 := KVx11.out.cell 1 (v := .slice ax Mx.2.length cx) rfl; have qVi0 := KVi11.out.cell 0 (v := .int .i64 Ui.1) rfl; have qVi1 := KVi11.out.cell 1 (v := .slice ai Ui.2.length ci) rfl; have qVj0 := KVj11.out.cell 0 (v := .int .i64 Uj.1) rfl; have qVj1 := KVj11.out.cell 1 (v := .slice aj Uj.2.length cj) rfl; have qVk0 := KVk11.out.cell 0 (v := .int .i64 Uk.1) rfl; have qVk1 := KVk11.out.cell 1 (v := .slice ak Uk.2.length ck) rfl; have qVr0 := KVr11.out.cell 0 (v := .int .i64 T.1) rfl; have qVr1 := KVr11.out.cell 1 (v := .slice ar T.2.length cr) rfl; have tk : (nk == nx) = true := (by simpa using hq _ HQx.out); clear hq; clear hb hb11)
    | (go_at_call 12; (with_reducible refine (HCr.out _ HT.out _ _ _ _ (HMr.out.later Hr11.out (Nat.le_refl _)) (HNv.out.later Hv11.out (Nat.le_refl _)) (HNt.out.later Ht11.out (Nat.le_refl _))).mono ?_); rintro e w12 ⟨nr, rfl, hq, hb⟩; have hb12 := hb; have HB12 := hidP (HB11.out.trans (hb12.mono HB11.out.size)); have KX12 := hidP (KX11.out.below hb12 KX11.out.lt); have KVx12 := hidP (KVx11.out.below hb12 KVx11.out.lt); have KVi12 := hidP (KVi11.out.below hb12 KVi11.out.lt); have KVj12 := hidP (KVj11.out.below hb12 KVj11.out.lt); have KVk12 := hidP (KVk11.out.below hb12 KVk11.out.lt); have KVr12 := hidP (KVr11.out.below hb12 KVr11.out.lt); have Hx12 := hidP (Hx11.out.trans (hb12.mono Hx11.out.size)); have Hv12 := hidP (Hv11.out.trans (hb12.mono Hv11.out.size)); have Ht12 := hidP (Ht11.out.trans (hb12.mono Ht11.out.size)); have Hi12 := hidP (Hi11.out.trans (hb12.mono Hi11.out.size)); have Hj12 := hidP (Hj11.out.trans (hb12.mono Hj11.out.size)); have Hk12 := hidP (Hk11.out.trans (hb12.mono Hk11.out.size)); have Hr12 := hidP (Hr11.out.trans (hb12.mono Hr11.out.size)); have qX0 := KX12.out.cell 0 (v := .int .i64 rx.1) rfl; have qX1 := KX12.out.cell 1 (v := .slice a0x rx.2.length c0x) rfl; have qVx0 := KVx12.out.cell 0 (v := .int .i64 Mx.1) rfl; have qVx1 := KVx12.out.cell 1 (v := .slice ax Mx.2.length cx) rfl; have qVi0 := KVi12.out.cell 0 (v := .int .i64 Ui.1) rfl; have qVi1 := KVi12.out.cell 1 (v := .slice ai Ui.2.length ci) rfl; have qVj0 := KVj12.out.cell 0 (v := .int .i64 Uj.1) rfl; have qVj1 := KVj12.out.cell 1 (v := .slice aj Uj.2.length cj) rfl; have qVk0 := KVk12.out.cell 0 (v := .int .i64 Uk.1) rfl; have qVk1 := KVk12.out.cell 1 (v := .slice ak Uk.2.length ck) rfl; have qVr0 := KVr12.out.cell 0 (v := .int .i64 T.1) rfl; have qVr1 := KVr12.out.cell 1 (v := .slice ar T.2.length cr) rfl; have tr : (nr == nx) = true := (by simpa using hq _ HQx.out); clear hq; clear hb hb12))
  go_ret
  exact ⟨rfl, HB12.out⟩
theorem walk (vx : Value) (rx : Rw) (a1 : Option Addr) (len1 cap1 : Nat) (z1 : List Int) (a2 : Option Addr) (len2 cap2 : Nat) (z2 : List Int) (w : World) (hx : RawV w vx rx ∧ okR rx ∧ wfR rx) (w1 : IsRow .i64 w a1 len1 cap1 z1 ∧ cap1 * 8 ≤ 140737488351232) (w2 : IsRow .i64 w a2 len2 cap2 z2 ∧ cap2 * 8 ≤ 140737488351232) :
    Calls Try.prog 6 #[vx, .slice a1 len1 cap1, .slice a2 len2 cap2] w fun e w' => e = .returned (.bool true) ∧ Below w.heap.size w w' := by
  obtain ⟨p1, _, _⟩ := row_nums w1.1
  obtain ⟨p2, _, _⟩ := row_nums w2.1
  exact core vx rx _ _ _ _ w hx p1 (row_wf w1.1) p2 (row_wf w2.1)

set_option maxRecDepth 100000 in
theorem lifted (os : Os) (started : os.Started) (H : Type) (enc : TypeId × Value → H) :
    ReturnsInHanded {} Try.checked os 6 .any (Rows.weighArrangedSpec.pre6 enc Try.prog Try.f6 Rows.weighArrangedRow.domain false) (Rows.weighArrangedSpec.post enc Try.prog Try.f6 false true false false) := by
  refine returnsInHanded_of_change_sized (C := Try.checked) own started (by kernel_rfl) Try.func6
    (ChangeSpec.witness6 (enc := enc) (C := Try.checked) false ⟨#[], #[.agg #[.int .i64 0, .slice none 0 0], .slice none 0 0, .slice none 0 0], []⟩ 8 (by kernel_rfl) (by kernel_rfl) (by kernel_rfl) (by kernel_rfl)) ?_
  intro W base args ds gs before hval0 hW hcnd hsz0 _
  have hsz : (DataW.weightsEach Try.prog (Try.f6.params.toList ++ Rows.weighArrangedSpec.plain.varTypes Try.prog) (ds ++ gs)).all (· ≤ reachBytes) = true := hsz0
  have hval : ∀ (j : Nat) t v, Try.f6.params[j]? = some t → args[j]? = some v → Value.okWide Try.prog W .any base t v := hval0
  clear hval0 hsz0
  have hW' := hW
  obtain ⟨p, q, hA0, hV, rfl, hfz, hnd⟩ := hW
  have hA : DataW.TrodAll enc Try.prog W 0 (fun _ => true) true Try.f6.params.toList args.toList ds p := hA0
  rw [Try.params6] at hA hval hsz
  obtain ⟨v0, vs0, d0, ds0, p0, q0, hargs, rfl, rfl, h0, r0⟩ := trodAll_cons hA
  obtain ⟨v1, vs1, d1, ds1, p1, q1, rfl, rfl, rfl, h1, r1⟩ := trodAll_cons r0
  obtain ⟨v2, vs2, d2, ds2, p2, q2, rfl, rfl, rfl, h2, r2⟩ := trodAll_cons r1
  obtain ⟨rfl, rfl, rfl⟩ := trodAll_nil r2
  obtain rfl : args = #[v0, v1, v2] := by cases args; simp_all
  obtain ⟨rfl, rfl⟩ := trodVars_none hV
  have k0 := h0
  have lt0 : ∀ x ∈ p0, x.block < W.heap.size := by obtain ⟨m, hm⟩ := k0; exact DataW.trod_lt m _ _ _ hm
  obtain ⟨z0, w0⟩ : ∃ m : Rw, RawV W v0 m ∧ okR m ∧ wfR m := by
    obtain ⟨c0, c1, y0, y1, n, rfl, hd, hp, t0, t1⟩ := Go.Joins.open_agg2 Try.underlying24 (by kernel_rfl) (by kernel_rfl) (hval 0 24 v0 rfl rfl) h0
    subst hd
    exact open_raw t0 t1 ((Fits.arg hsz (j := 0) rfl rfl).field Try.underlying24 (f := 1) rfl rfl)
  obtain ⟨a1, len1, cap1, rfl⟩ := okWide_slice Try.underlying25 (hval 1 25 v1 rfl rfl)
  have k1 := h1
  have lt1 : ∀ x ∈ p1, x.block < W.heap.size := by obtain ⟨m, hm⟩ := k1; exact DataW.trod_lt m _ _ _ hm
  obtain ⟨z1, w1⟩ : ∃ zs, IsRow .i64 W a1 len1 cap1 zs ∧ cap1 * 8 ≤ 140737488351232 := by
    obtain ⟨fuel, hf⟩ := h1
    rcases open_ints Try.underlying25 Try.underlying3 (by kernel_rfl) hf with ⟨hcs, _⟩ | ⟨x, l, c, zs, hcs, _, hl, hm, hz, hx, hcell, hwz⟩
    · simp [Value.cells] at hcs
      obtain ⟨rfl, rfl, rfl⟩ := hcs
      exact ⟨[], .inl ⟨rfl, rfl, rfl, rfl⟩, by omega⟩
    · have hd := congrArg Prod.fst hx
      have hsw := sized_slice hsz (j := 1) (t := 25) (e := 3) rfl (congrArg some hd) Try.underlying25
      have hby : Try.prog.bytesOf 3 = 8 := by kernel_rfl
      rw [hby] at hsw
      simp [Value.cells] at hcs
      obtain ⟨rfl, rfl, rfl⟩ := hcs
      have hz' : zs.length = cap1 := by simpa using hz
      simp only [lits, List.length_map, List.length_take, List.length_drop, reachBytes] at hsw
      exact ⟨zs, .inr ⟨_, rfl, hl, hm, hz', hcell, hwz⟩, by omega⟩
  obtain ⟨a2, len2, cap2, rfl⟩ := okWide_slice Try.underlying25 (hval 2 25 v2 rfl rfl)
  have k2 := h2
  have lt2 : ∀ x ∈ p2, x.block < W.heap.size := by obtain ⟨m, hm⟩ := k2; exact DataW.trod_lt m _ _ _ hm
  obtain ⟨z2, w2⟩ : ∃ zs, IsRow .i64 W a2 len2 cap2 zs ∧ cap2 * 8 ≤ 140737488351232 := by
    obtain ⟨fuel, hf⟩ := h2
    rcases open_ints Try.underlying25 Try.underlying3 (by kernel_rfl) hf with ⟨hcs, _⟩ | ⟨x, l, c, zs, hcs, _, hl, hm, hz, hx, hcell, hwz⟩
    · simp [Value.cells] at hcs
      obtain ⟨rfl, rfl, rfl⟩ := hcs
      exact ⟨[], .inl ⟨rfl, rfl, rfl, rfl⟩, by omega⟩
    · have hd := congrArg Prod.fst hx
      have hsw := sized_slice hsz (j := 2) (t := 25) (e := 3) rfl (congrArg some hd) Try.underlying25
      have hby : Try.prog.bytesOf 3 = 8 := by kernel_rfl
      rw [hby] at hsw
      simp [Value.cells] at hcs
      obtain ⟨rfl, rfl, rfl⟩ := hcs
      have hz' : zs.length = cap2 := by simpa using hz
      simp only [lits, List.length_map, List.length_take, List.length_drop, reachBytes] at hsw
      exact ⟨zs, .inr ⟨_, rfl, hl, hm, hz', hcell, hwz⟩, by omega⟩
  refine (walk v0 z0 a1 len1 cap1 z1 a2 len2 cap2 z2 W w0 w1 w2).mono fun e W' ⟨he, bel⟩ => ?_
  subst he
  exact ⟨_, rfl, _, _, _, [], _, [], hW', trodAll_mk1 (shut_bool Try.underlying4 _), (trodAll_cons_mk (Below.trod laidOut (by kernel_rfl) (of_decide_eq_true (by kernel_rfl)) k0 bel lt0) (trodAll_cons_mk (Below.trod laidOut (by kernel_rfl) (of_decide_eq_true (by kernel_rfl)) k1 bel lt1) (trodAll_cons_mk (Below.trod laidOut (by kernel_rfl) (of_decide_eq_true (by kernel_rfl)) k2 bel lt2) trodAll_mk0))), rfl, bel.frame _, fun h => by cases h⟩
end Go.Proofs.Ytpfcljhbamnghab.weighArranged
namespace Go.Proofs.Ytpfcljhbamnghab
theorem weighArranged_holds : Rows.WeighArrangedSaid :=
  OpenClaim.holds_of_wide 6 Try.f6 rfl rfl rfl rfl rfl rfl rfl ⟨rfl, rfl, rfl, rfl, rfl⟩ rfl rfl rfl rfl rfl (by kernel_rfl) Try.func6 (by kernel_rfl)
    (of_decide_eq_true (by kernel_rfl)) (by unfold Func.isWrapper; first | (rw [if_pos (by decide +kernel)]; kernel_rfl) | (rw [if_neg (by decide +kernel)]; exact ⟨rfl, rfl⟩))
    (fun os started H enc _ => weighArranged.lifted os started H enc)
#print axioms weighArranged_holds
end Go.Proofs.Ytpfcljhbamnghab
