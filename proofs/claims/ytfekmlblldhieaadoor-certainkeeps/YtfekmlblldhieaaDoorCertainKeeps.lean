/- The statement CertainKeeps: whatever numbers a machine and two words are made of, made certain it costs the same, or it is too large, for every input and without any condition (where the table of powers of ten that the standard library reads is as its text lays it: that is the card's tie). -/
import Derived.Test.YtfekmlblldhieaaDoorCards
import Derived.Test.YtfekmlblldhieaaDoorTie
import Derived.Test.YtfekmlblldhieaaDoorMd
import Derived.Test.YtfekmlblldhieaaDoorJ17p
import Derived.Test.YtfekmlblldhieaaDoorKj
import Derived.Test.YtfekmlblldhieaaDoorJ17q
import Derived.Test.YtfekmlblldhieaaDoorJ17I
import Derived.Test.YtfekmlblldhieaaDoorMcX
import Derived.Test.YtfekmlblldhieaaDoorJ17e
import Derived.Test.YtfekmlblldhieaaDoorLo
import Derived.Lib.SmallJoins
import Derived.ChangeOld
import Derived.Below
import Derived.Deep.DeepHandedRow
import Derived.Stop.LaidErr
namespace Go.Proofs.YtfekmlblldhieaaDoor.certainKeeps
open Go.ChangeShapes Go.WideShapes Go.ChangeAt Go.RowKit
open Go.Proofs.YtfekmlblldhieaaDoor.Pl Go.Proofs.YtfekmlblldhieaaDoor.Wt
set_option linter.unusedVariables false
set_option linter.unusedSimpArgs false

theorem own : ownKnob Tryd.prog.godebug = none := by kernel_rfl
theorem laidOut : laidOutB Tryd.prog = true := by kernel_rfl
set_option maxRecDepth 100000 in
set_option maxHeartbeats 1600000 in
theorem core (vx : Value) (rx : Rw) (vv : Value) (zv : List Int) (vt : Value) (zt : List Int) (w : World) (hx : RawV w vx rx ∧ okR rx ∧ wfR rx) (hzv : Nums w vv zv) (hwv : ∀ n ∈ zv, (Lit.int .i64 n).wf = true) (hzt : Nums w vt zt) (hwt : ∀ n ∈ zt, (Lit.int .i64 n).wf = true) (htab : Tab w) :
    Calls Tryd.prog 4 #[vx, vv, vt] w fun e w' => e = .returned (.bool true) ∧ Below w.heap.size w w' := by
  have HTB : Hid (Tab w) := htab
  clear htab
  obtain ⟨hx, hokx, hwfx⟩ := hx
  have HIx : Hid (RawV w vx rx) := hx
  have HOKx : Hid (okR rx) := hokx
  have HWFx : Hid (wfR rx) := hwfx
  have hfx : faultM (madeM rx 5 true) = 0 := madeM_right rx 5 (by omega) (by omega) true
  have hlow : LowL 9 (madeM rx 5 true).2 := made_nine rx 5 true
  have hcx : CheapL (madeM rx 5 true).2 := hlow.cheap (by omega)
  have hzx : 0 ≤ (madeM rx 5 true).1 := made_ge rx 5 true (by omega)
  have hex : empB (madeM rx 5 true).2 = false := noEmp_empB (made_noEmp rx 5)
  have htwo := cer_two hfx hzx hex (W := 9) (by omega) hlow
  have HEx : Hid (∀ v W, RawV W v rx → okR rx → wfR rx → Calls Tryd.prog 10 #[v, .int .i64 5, .bool true] W fun e w' => ∃ v', e = .returned v' ∧ Mach w' v' (madeM rx 5 true) ∧ Below W.heap.size W w') := fun v W h1 h2 h3 => made_any v rx 5 true W h1 h2 h3 (by omega) (by omega)
  obtain ⟨vs0x, rfl, hNx⟩ := hx
  obtain ⟨a0x, c0x, rfl, hNxx⟩ := hNx.get
  clear hNx hNxx hokx hwfx
  have HZv := hidP hzv
  have HWDv : Hid (∀ v W, Nums W v zv → Calls Tryd.prog 12 #[v, .int .i64 4] W fun e w' => ∃ v', e = .returned v' ∧ Nums w' v' (wdL zv 4) ∧ Below W.heap.size W w') := fun v W h1 => word_any v zv 4 W h1 hwv (by omega)
  have ewv : wrdE (wdL zv 4) = 0 := wdL_wrd (by omega)
  have lwv := wdL_len zv 4
  clear hzv hwv
  have HZt := hidP hzt
  have HWDt : Hid (∀ v W, Nums W v zt → Calls Tryd.prog 12 #[v, .int .i64 4] W fun e w' => ∃ v', e = .returned v' ∧ Nums w' v' (wdL zt 4) ∧ Below W.heap.size W w') := fun v W h1 => word_any v zt 4 W h1 hwt (by omega)
  have ewt : wrdE (wdL zt 4) = 0 := wdL_wrd (by omega)
  have lwt := wdL_len zt 4
  clear hzt hwt
  rcases htwo with hE | ⟨U, hE, hcu⟩
  · have HUu : Hid (∀ W v, Tab W → Mach W v (madeM rx 5 true) → Calls Tryd.prog 7 #[v] W fun e w' => RatRes ((0, [])) 5 W e w') := fun W v hT h1 => by
      have := certP_any v _ W h1 (right_ok hfx) hT
      rw [hE] at this
      exact this
    clear hfx hcx hlow hzx hex hE ewv ewt lwv lwt
    have hU : ((0 : Int), ([] : List St)).2.length = 0 := rfl
    generalize ((0 : Int), ([] : List St)) = U at *
    have HUL := hidP hU
    have t4 : ((U.2.length : Int) == 0) = true := by rw [hU]; rfl
    clear hU
    generalize madeM rx 5 true = Mx at *
    have HB0 : Hid (∀ o1, Below w.heap.size w (w.alloc o1)) := fun o1 => (Below.refl _ _).alloc (Nat.le_refl _) _
    obtain ⟨avz, cvz, rfl, _⟩ := HZv.out.get
    obtain ⟨atz, ctz, rfl, _⟩ := HZt.out.get
    go_enter Tryd.func4, Tryd.ntmps4
    go_wp2_with (first
      | (go_at_call 10; (with_reducible refine (HEx.out _ _ (HIx.out.later (HB0.out _) (Nat.le_refl _)) HOKx.out HWFx.out).mono ?_); rintro e w1 ⟨v1, rfl, hm, hb⟩; have HMx : Hid (Mach w1 v1 (Mx)) := hm; obtain ⟨vsx, rfl, hSx⟩ := hm; obtain ⟨ax, cx, rfl⟩ := hSx.sl; clear hSx; obtain ⟨s1, bb0, hb1⟩ := boxed hb (by simp); have KX1 := hidP bb0; clear bb0; have HB1 := hidP hb1; have qX0 := (KX1.out.alloc (.cells #[.int .i64 Mx.1, .slice ax Mx.2.length cx] 24)).cell 0 (v := .int .i64 rx.1) rfl; have qX1 := (KX1.out.alloc (.cells #[.int .i64 Mx.1, .slice ax Mx.2.length cx] 24)).cell 1 (v := .slice a0x rx.2.length c0x) rfl; clear hb hb1)
      | (go_at_call 7; (with_reducible refine (HUu.out _ _ (HTB.out.later (HB1.out.alloc HB1.out.size _)) (HMx.out.later ((Below.refl _ _).alloc (Nat.le_refl _) _) (Nat.le_refl _))).mono ?_); rintro e w2 ⟨v2, rfl, hm, hb⟩; have HMu : Hid (Mach w2 v2 (U)) := hm; obtain ⟨vsu, rfl, hSu⟩ := hm; obtain ⟨au, cu, rfl⟩ := hSu.sl; clear hSu; obtain ⟨s2, bb0, hb2⟩ := boxed hb (by simp); have KVx2 := hidP bb0; clear bb0; have HB2 := hidP (HB1.out.trans (hb2.mono HB1.out.size)); have KX2 := hidP (KX1.out.below hb2 KX1.out.lt); have Hx2 := hidP hb2; have qX0 := (KX2.out.alloc (.cells #[.int .i64 U.1, .slice au U.2.length cu] 24)).cell 0 (v := .int .i64 rx.1) rfl; have qX1 := (KX2.out.alloc (.cells #[.int .i64 U.1, .slice au U.2.length cu] 24)).cell 1 (v := .slice a0x rx.2.length c0x) rfl; have qVx0 := (KVx2.out.alloc (.cells #[.int .i64 U.1, .slice au U.2.length cu] 24)).cell 0 (v := .int .i64 Mx.1) rfl; have qVx1 := (KVx2.out.alloc (.cells #[.int .i64 U.1, .slice au U.2.length cu] 24)).cell 1 (v := .slice ax Mx.2.length cx) rfl; clear hb hb2))
    go_ret
    exact ⟨rfl, HB2.out.alloc HB2.out.size _⟩
  · obtain ⟨hfu, hup, hu0⟩ := cer_right hfx hzx hE
    have HUu : Hid (∀ W v, Tab W → Mach W v (madeM rx 5 true) → Calls Tryd.prog 7 #[v] W fun e w' => RatRes (U) 0 W e w') := fun W v hT h1 => by
      have := certP_any v _ W h1 (right_ok hfx) hT
      rw [hE] at this
      exact this
    have hful : U.2.all (fun s => s.2.all fullA) = true := empB_full (cer_full hfx hzx hE)
    have hbb : (∀ s ∈ U.2, onceB s.2 = true ∧ sortB s.2 = true) := fun s hs => by
      obtain ⟨q, hq, rfl⟩ := mem_el hs
      exact ltP_once (cer_pairs hfx hzx hE hq)
    have honce : U.2.all (fun s => onceB s.2) = true := List.all_eq_true.2 fun s hs => (hbb s hs).1
    have hsor : U.2.all (fun s => sortB s.2) = true := List.all_eq_true.2 fun s hs => (hbb s hs).2
    obtain ⟨rA, rP, hBT⟩ : ∃ rA rP : Bool, ∀ W v, Mach W v U → Calls Tryd.prog 11 #[v] W fun e w' => e = .returned (.tuple #[.agg #[.bool rA, .bool true, .bool true, .bool true, .bool rP], .int .i64 0]) ∧ Below W.heap.size W w' := by
      refine ⟨U.2.all (fun s => s.2.all accA), (U.2.all (fun s => s.2.all freeA) && U.2.all freeS), fun W v h1 => ?_⟩
      have h2 := h1
      obtain ⟨vs, rfl, hS⟩ := h2
      obtain ⟨a, cap, rfl⟩ := hS.sl
      exact bits_ok _ a cap _ W h1 (right_ok hfu) hfu _ _ _ _ _ _ rfl hful honce hsor rfl rfl
    have HBT := hidP hBT
    clear hBT hful honce hsor hbb
    have HCx : Hid (∀ W v s t, Mach W v (madeM rx 5 true) → Nums W s (wdL zv 4) → Nums W t (wdL zt 4) → Calls Tryd.prog 13 #[v, s, t] W fun e w' => ∃ n : Int, e = .returned (.int .i64 n) ∧ CstIs (Costs (madeM rx 5 true) (wdL zv 4) (wdL zt 4)) n ∧ Below W.heap.size W w') := fun W v s t h1 h2 h3 => cost_any v s t _ _ _ W h1 (right_ok hfx) hfx hcx h2 h3 ewv ewt
    have HCu : Hid (∀ W v s t, Mach W v U → Nums W s (wdL zv 4) → Nums W t (wdL zt 4) → Calls Tryd.prog 13 #[v, s, t] W fun e w' => ∃ n : Int, e = .returned (.int .i64 n) ∧ CstIs (Costs U (wdL zv 4) (wdL zt 4)) n ∧ Below W.heap.size W w') := fun W v s t h1 h2 h3 => cost_any v s t _ _ _ W h1 (right_ok hfu) hfu hcu h2 h3 ewv ewt
    have HFC : Hid (∀ a u, CstIs (Costs (madeM rx 5 true) (wdL zv 4) (wdL zt 4)) a → CstIs (Costs U (wdL zv 4) (wdL zt 4)) u → u = a) := fun a u h1 h3 => CstIs.sub h3 h1 (cer_costs hfx hzx hE _ _).1 (cer_costs hfx hzx hE _ _).2
    have t4 : (U.1 == 0) = true := by rw [hu0]; rfl
    clear hfx hcx hlow hzx hex hE hcu hfu hup hu0 ewv ewt lwv lwt
    generalize madeM rx 5 true = Mx at *
    generalize wdL zv 4 = Xv at *
    generalize wdL zt 4 = Xt at *
    generalize (fun n => CstIs (Costs Mx Xv Xt) n) = Qx at *
    generalize (fun n => CstIs (Costs U Xv Xt) n) = Qu at *
    obtain ⟨avz, cvz, rfl, _⟩ := HZv.out.get
    obtain ⟨atz, ctz, rfl, _⟩ := HZt.out.get
    have HB0 : Hid (∀ o1, Below w.heap.size w (w.alloc o1)) := fun o1 => (Below.refl _ _).alloc (Nat.le_refl _) _
    go_enter Tryd.func4, Tryd.ntmps4
    go_wp2_with (first
      | (go_at_call 10; (with_reducible refine (HEx.out _ _ (HIx.out.later (HB0.out _) (Nat.le_refl _)) HOKx.out HWFx.out).mono ?_); rintro e w1 ⟨v1, rfl, hm, hb⟩; have HMx : Hid (Mach w1 v1 (Mx)) := hm; obtain ⟨vsx, rfl, hSx⟩ := hm; obtain ⟨ax, cx, rfl⟩ := hSx.sl; clear hSx; obtain ⟨s1, bb0, hb1⟩ := boxed hb (by simp); have KX1 := hidP bb0; clear bb0; have HB1 := hidP hb1; have qX0 := (KX1.out.alloc (.cells #[.int .i64 Mx.1, .slice ax Mx.2.length cx] 24)).cell 0 (v := .int .i64 rx.1) rfl; have qX1 := (KX1.out.alloc (.cells #[.int .i64 Mx.1, .slice ax Mx.2.length cx] 24)).cell 1 (v := .slice a0x rx.2.length c0x) rfl; clear hb hb1)
      | (go_at_call 7; (with_reducible refine (HUu.out _ _ (HTB.out.later (HB1.out.alloc HB1.out.size _)) (HMx.out.later ((Below.refl _ _).alloc (Nat.le_refl _) _) (Nat.le_refl _))).mono ?_); rintro e w2 ⟨v2, rfl, hm, hb⟩; have HMu : Hid (Mach w2 v2 (U)) := hm; obtain ⟨vsu, rfl, hSu⟩ := hm; obtain ⟨au, cu, rfl⟩ := hSu.sl; clear hSu; obtain ⟨s2, bb0, hb2⟩ := boxed hb (by simp); have KVx2 := hidP bb0; clear bb0; have HB2 := hidP (HB1.out.trans (hb2.mono HB1.out.size)); have KX2 := hidP (KX1.out.below hb2 KX1.out.lt); have Hx2 := hidP hb2; have qX0 := (KX2.out.alloc (.cells #[.int .i64 U.1, .slice au U.2.length cu] 24)).cell 0 (v := .int .i64 rx.1) rfl; have qX1 := (KX2.out.alloc (.cells #[.int .i64 U.1, .slice au U.2.length cu] 24)).cell 1 (v := .slice a0x rx.2.length c0x) rfl; have qVx0 := (KVx2.out.alloc (.cells #[.int .i64 U.1, .slice au U.2.length cu] 24)).cell 0 (v := .int .i64 Mx.1) rfl; have qVx1 := (KVx2.out.alloc (.cells #[.int .i64 U.1, .slice au U.2.length cu] 24)).cell 1 (v := .slice ax Mx.2.length cx) rfl; clear hb hb2)
      | (go_at_call 11; (with_reducible refine (HBT.out _ _ (HMu.out.later ((Below.refl _ _).alloc (Nat.le_refl _) _) (Nat.le_refl _))).mono ?_); rintro e w3 ⟨rfl, hb⟩; obtain ⟨s3, bb0, hb3⟩ := boxed hb (by simp); have KVu3 := hidP bb0; clear bb0; have HB3 := hidP (HB2.out.trans (hb3.mono HB2.out.size)); have KX3 := hidP (KX2.out.below hb3 KX2.out.lt); have KVx3 := hidP (KVx2.out.below hb3 KVx2.out.lt); have Hx3 := hidP (Hx2.out.trans (hb3.mono Hx2.out.size)); have Hu3 := hidP hb3; have qX0 := (KX3.out.alloc (.cells #[.bool rA, .bool true, .bool true, .bool true, .bool rP] 37)).cell 0 (v := .int .i64 rx.1) rfl; have qX1 := (KX3.out.alloc (.cells #[.bool rA, .bool true, .bool true, .bool true, .bool rP] 37)).cell 1 (v := .slice a0x rx.2.length c0x) rfl; have qVx0 := (KVx3.out.alloc (.cells #[.bool rA, .bool true, .bool true, .bool true, .bool rP] 37)).cell 0 (v := .int .i64 Mx.1) rfl; have qVx1 := (KVx3.out.alloc (.cells #[.bool rA, .bool true, .bool true, .bool true, .bool rP] 37)).cell 1 (v := .slice ax Mx.2.length cx) rfl; have qVu0 := (KVu3.out.alloc (.cells #[.bool rA, .bool true, .bool true, .bool true, .bool rP] 37)).cell 0 (v := .int .i64 U.1) rfl; have qVu1 := (KVu3.out.alloc (.cells #[.bool rA, .bool true, .bool true, .bool true, .bool rP] 37)).cell 1 (v := .slice au U.2.length cu) rfl; clear hb hb3)
      | (go_at_call 12; (with_reducible refine (HWDv.out _ _ (HZv.out.later (HB3.out.alloc HB3.out.size _) (Nat.le_refl _))).mono ?_); rintro e w4 ⟨v4, rfl, hn, hb⟩; have HNv : Hid (Nums w4 v4 (Xv)) := hn; obtain ⟨awv, cwv, rfl, _⟩ := hn.get; obtain ⟨s4, bb0, hb4⟩ := boxed hb (by simp); have KP4 := hidP bb0; clear bb0; have HB4 := hidP (HB3.out.trans (hb4.mono HB3.out.size)); have KX4 := hidP (KX3.out.below hb4 KX3.out.lt); have KVx4 := hidP (KVx3.out.below hb4 KVx3.out.lt); have KVu4 := hidP (KVu3.out.below hb4 KVu3.out.lt); have Hx4 := hidP (Hx3.out.trans (hb4.mono Hx3.out.size)); have Hu4 := hidP (Hu3.out.trans (hb4.mono Hu3.out.size)); have qX0 := KX4.out.cell 0 (v := .int .i64 rx.1) rfl; have qX1 := KX4.out.cell 1 (v := .slice a0x rx.2.length c0x) rfl; have qVx0 := KVx4.out.cell 0 (v := .int .i64 Mx.1) rfl; have qVx1 := KVx4.out.cell 1 (v := .slice ax Mx.2.length cx) rfl; have qVu0 := KVu4.out.cell 0 (v := .int .i64 U.1) rfl; have qVu1 := KVu4.out.cell 1 (v := .slice au U.2.length cu) rfl; have qP0 := KP4.out.cell 0 (v := .bool rA) rfl; have qP1 := KP4.out.cell 1 (v := .bool true) rfl; have qP2 := KP4.out.cell 2 (v := .bool true) rfl; have qP3 := KP4.out.cell 3 (v := .bool true) rfl; have qP4 := KP4.out.cell 4 (v := .bool rP) rfl; clear hb hb4)
      | (go_at_call 12; (with_reducible refine (HWDt.out _ _ (HZt.out.later HB4.out (Nat.le_refl _))).mono ?_); rintro e w5 ⟨v5, rfl, hn, hb⟩; have HNt : Hid (Nums w5 v5 (Xt)) := hn; obtain ⟨awt, cwt, rfl, _⟩ := hn.get; have hb5 := hb; have HB5 := hidP (HB4.out.trans (hb5.mono HB4.out.size)); have KX5 := hidP (KX4.out.below hb5 KX4.out.lt); have KVx5 := hidP (KVx4.out.below hb5 KVx4.out.lt); have KVu5 := hidP (KVu4.out.below hb5 KVu4.out.lt); have KP5 := hidP (KP4.out.below hb5 KP4.out.lt); have Hx5 := hidP (Hx4.out.trans (hb5.mono Hx4.out.size)); have Hu5 := hidP (Hu4.out.trans (hb5.mono Hu4.out.size)); have Hv5 := hidP hb5; have qX0 := KX5.out.cell 0 (v := .int .i64 rx.1) rfl; have qX1 := KX5.out.cell 1 (v := .slice a0x rx.2.length c0x) rfl; have qVx0 := KVx5.out.cell 0 (v := .int .i64 Mx.1) rfl; have qVx1 := KVx5.out.cell 1 (v := .slice ax Mx.2.length cx) rfl; have qVu0 := KVu5.out.cell 0 (v := .int .i64 U.1) rfl; have qVu1 := KVu5.out.cell 1 (v := .slice au U.2.length cu) rfl; have qP0 := KP5.out.cell 0 (v := .bool rA) rfl; have qP1 := KP5.out.cell 1 (v := .bool true) rfl; have qP2 := KP5.out.cell 2 (v := .bool true) rfl; have qP3 := KP5.out.cell 3 (v := .bool true) rfl; have qP4 := KP5.out.cell 4 (v := .bool rP) rfl; clear hb hb5)
      | (go_at_call 13; (with_reducible refine (HCx.out _ _ _ _ (HMx.out.later Hx5.out (Nat.le_refl _)) (HNv.out.later Hv5.out (Nat.le_refl _)) (HNt.out.later (Below.refl _ _) (Nat.le_refl _))).mono ?_); rintro e w6 ⟨nx, rfl, hq, hb⟩; have hb6 := hb; have HB6 := hidP (HB5.out.trans (hb6.mono HB5.out.size)); have KX6 := hidP (KX5.out.below hb6 KX5.out.lt); have KVx6 := hidP (KVx5.out.below hb6 KVx5.out.lt); have KVu6 := hidP (KVu5.out.below hb6 KVu5.out.lt); have KP6 := hidP (KP5.out.below hb6 KP5.out.lt); have Hx6 := hidP (Hx5.out.trans (hb6.mono Hx5.out.size)); have Hu6 := hidP (Hu5.out.trans (hb6.mono Hu5.out.size)); have Hv6 := hidP (Hv5.out.trans (hb6.mono Hv5.out.size)); have Ht6 := hidP hb6; have qX0 := KX6.out.cell 0 (v := .int .i64 rx.1) rfl; have qX1 := KX6.out.cell 1 (v := .slice a0x rx.2.length c0x) rfl; have qVx0 := KVx6.out.cell 0 (v := .int .i64 Mx.1) rfl; have qVx1 := KVx6.out.cell 1 (v := .slice ax Mx.2.length cx) rfl; have qVu0 := KVu6.out.cell 0 (v := .int .i64 U.1) rfl; have qVu1 := KVu6.out.cell 1 (v := .slice au U.2.length cu) rfl; have qP0 := KP6.out.cell 0 (v := .bool rA) rfl; have qP1 := KP6.out.cell 1 (v := .bool true) rfl; have qP2 := KP6.out.cell 2 (v := .bool true) rfl; have qP3 := KP6.out.cell 3 (v := .bool true) rfl; have qP4 := KP6.out.cell 4 (v := .bool rP) rfl; have HQx := hidP hq; have nnx := hq.nonneg; clear hq; clear hb hb6)
      | (go_at_call 13; (with_reducible refine (HCu.out _ _ _ _ (HMu.out.later Hu6.out (Nat.le_refl _)) (HNv.out.later Hv6.out (Nat.le_refl _)) (HNt.out.later Ht6.out (Nat.le_refl _))).mono ?_); rintro e w7 ⟨nu, rfl, hq, hb⟩; have hb7 := hb; have HB7 := hidP (HB6.out.trans (hb7.mono HB6.out.size)); have KX7 := hidP (KX6.out.below hb7 KX6.out.lt); have KVx7 := hidP (KVx6.out.below hb7 KVx6.out.lt); have KVu7 := hidP (KVu6.out.below hb7 KVu6.out.lt); have KP7 := hidP (KP6.out.below hb7 KP6.out.lt); have Hx7 := hidP (Hx6.out.trans (hb7.mono Hx6.out.size)); have Hu7 := hidP (Hu6.out.trans (hb7.mono Hu6.out.size)); have Hv7 := hidP (Hv6.out.trans (hb7.mono Hv6.out.size)); have Ht7 := hidP (Ht6.out.trans (hb7.mono Ht6.out.size)); have qX0 := KX7.out.cell 0 (v := .int .i64 rx.1) rfl; have qX1 := KX7.out.cell 1 (v := .slice a0x rx.2.length c0x) rfl; have qVx0 := KVx7.out.cell 0 (v := .int .i64 Mx.1) rfl; have qVx1 := KVx7.out.cell 1 (v := .slice ax Mx.2.length cx) rfl; have qVu0 := KVu7.out.cell 0 (v := .int .i64 U.1) rfl; have qVu1 := KVu7.out.cell 1 (v := .slice au U.2.length cu) rfl; have qP0 := KP7.out.cell 0 (v := .bool rA) rfl; have qP1 := KP7.out.cell 1 (v := .bool true) rfl; have qP2 := KP7.out.cell 2 (v := .bool true) rfl; have qP3 := KP7.out.cell 3 (v := .bool true) rfl; have qP4 := KP7.out.cell 4 (v := .bool rP) rfl; have HQu := hidP hq; have nnu := hq.nonneg; clear hq; have g3 := HFC.out _ _ HQx.out HQu.out; have t3 : (nu == nx) = true := (by simpa using g3); clear g3; clear hb hb7))
    go_ret
    exact ⟨rfl, HB7.out⟩
theorem walk (vx : Value) (rx : Rw) (a1 : Option Addr) (len1 cap1 : Nat) (z1 : List Int) (a2 : Option Addr) (len2 cap2 : Nat) (z2 : List Int) (w : World) (hx : RawV w vx rx ∧ okR rx ∧ wfR rx) (w1 : IsRow .i64 w a1 len1 cap1 z1 ∧ cap1 * 8 ≤ 140737488351232) (w2 : IsRow .i64 w a2 len2 cap2 z2 ∧ cap2 * 8 ≤ 140737488351232) (htab : Tab w) :
    Calls Tryd.prog 4 #[vx, .slice a1 len1 cap1, .slice a2 len2 cap2] w fun e w' => e = .returned (.bool true) ∧ Below w.heap.size w w' := by
  have HTB : Hid (Tab w) := htab
  clear htab
  obtain ⟨p1, _, _⟩ := row_nums w1.1
  obtain ⟨p2, _, _⟩ := row_nums w2.1
  exact core vx rx _ _ _ _ w hx p1 (row_wf w1.1) p2 (row_wf w2.1) HTB.out

theorem gTab : Tryd.prog.globalNamed "internal/strconv.uint64pow10" = some 0 := by kernel_rfl
theorem gTabType : (Tryd.prog.globals[0]?).map (·.type) = some 176 := by kernel_rfl
theorem cellsT : Tryd.prog.cellsOf 176 = 20 := by kernel_rfl
theorem cellsE : Tryd.prog.cellsOf 137 = 1 := by kernel_rfl
theorem tabEq : (Rows.laid_internal_strconv_uint64pow10 : DataW Unit) = Lib.tabData .u64 Lib.pow10Tab := by kernel_rfl
theorem tabOf {W : World} (h : laidMetH Tryd.prog Rows.certainKeepsRow.laid W) : Tab W := by
  have h1 : laidMet Tryd.prog [("math/bits.deBruijn32tab", Rows.laid_math_bits_deBruijn32tab), ("math/bits.deBruijn64tab", Rows.laid_math_bits_deBruijn64tab), ("internal/strconv.uint64pow10", Rows.laid_internal_strconv_uint64pow10)] W := h
  have h2 : laidMet Tryd.prog [("internal/strconv.uint64pow10", Rows.laid_internal_strconv_uint64pow10)] W := h1.tail.tail
  rw [tabEq] at h2
  exact Lib.tabIs_of_head gTab gTabType Tryd.underlying176 Tryd.underlying137 cellsE cellsT h2
set_option maxRecDepth 100000 in
theorem contract (H : Type) (enc : TypeId × Value → H) (W : World) (base : Nat) (args : Array Value) (ds gs : List (DataW H)) (before : List MemPlace)
    (hval : ∀ (j : Nat) t v, Tryd.f4.params[j]? = some t → args[j]? = some v → Value.okWide Tryd.prog W .any base t v)
    (hW : DataW.Whole enc Tryd.prog Tryd.f4.params.toList Rows.certainKeepsSpec.vars false W args.toList ds gs before)
    (hsz : (DataW.weightsEach Tryd.prog (Tryd.f4.params.toList ++ (OpenSpec.ofChange Rows.certainKeepsSpec).bare.plain.varTypes Tryd.prog) (ds ++ gs)).all (· ≤ reachBytes) = true)
    (hL : laidMetH Tryd.prog Rows.certainKeepsRow.laid W) :
    Calls Tryd.prog 4 args W fun e W' => ∃ v, e = .returned v ∧ Rows.certainKeepsSpec.post enc Tryd.prog Tryd.f4 false true false false W args v W' := by
  have hW' := hW
  obtain ⟨p, q, hA0, hV, rfl, hfz, hnd⟩ := hW
  have hA : DataW.TrodAll enc Tryd.prog W 0 (fun _ => true) true Tryd.f4.params.toList args.toList ds p := hA0
  rw [Tryd.params4] at hA hval hsz
  obtain ⟨v0, vs0, d0, ds0, p0, q0, hargs, rfl, rfl, h0, r0⟩ := trodAll_cons hA
  obtain ⟨v1, vs1, d1, ds1, p1, q1, rfl, rfl, rfl, h1, r1⟩ := trodAll_cons r0
  obtain ⟨v2, vs2, d2, ds2, p2, q2, rfl, rfl, rfl, h2, r2⟩ := trodAll_cons r1
  obtain ⟨rfl, rfl, rfl⟩ := trodAll_nil r2
  obtain rfl : args = #[v0, v1, v2] := by cases args; simp_all
  obtain ⟨rfl, rfl⟩ := trodVars_none hV
  have k0 := h0
  have lt0 : ∀ x ∈ p0, x.block < W.heap.size := by obtain ⟨m, hm⟩ := k0; exact DataW.trod_lt m _ _ _ hm
  obtain ⟨z0, w0⟩ : ∃ m : Rw, RawV W v0 m ∧ okR m ∧ wfR m := by
    obtain ⟨c0, c1, y0, y1, n, rfl, hd, hp, t0, t1⟩ := Go.Joins.open_agg2 Tryd.underlying33 (by kernel_rfl) (by kernel_rfl) (hval 0 33 v0 rfl rfl) h0
    subst hd
    exact open_raw t0 t1 ((Fits.arg hsz (j := 0) rfl rfl).field Tryd.underlying33 (f := 1) rfl rfl)
  obtain ⟨a1, len1, cap1, rfl⟩ := okWide_slice Tryd.underlying34 (hval 1 34 v1 rfl rfl)
  have k1 := h1
  have lt1 : ∀ x ∈ p1, x.block < W.heap.size := by obtain ⟨m, hm⟩ := k1; exact DataW.trod_lt m _ _ _ hm
  obtain ⟨z1, w1⟩ : ∃ zs, IsRow .i64 W a1 len1 cap1 zs ∧ cap1 * 8 ≤ 140737488351232 := by
    obtain ⟨fuel, hf⟩ := h1
    rcases open_ints Tryd.underlying34 Tryd.underlying3 (by kernel_rfl) hf with ⟨hcs, _⟩ | ⟨x, l, c, zs, hcs, _, hl, hm, hz, hx, hcell, hwz⟩
    · simp [Value.cells] at hcs
      obtain ⟨rfl, rfl, rfl⟩ := hcs
      exact ⟨[], .inl ⟨rfl, rfl, rfl, rfl⟩, by omega⟩
    · have hd := congrArg Prod.fst hx
      have hsw := sized_slice hsz (j := 1) (t := 34) (e := 3) rfl (congrArg some hd) Tryd.underlying34
      have hby : Tryd.prog.bytesOf 3 = 8 := by kernel_rfl
      rw [hby] at hsw
      simp [Value.cells] at hcs
      obtain ⟨rfl, rfl, rfl⟩ := hcs
      have hz' : zs.length = cap1 := by simpa using hz
      simp only [lits, List.length_map, List.length_take, List.length_drop, reachBytes] at hsw
      exact ⟨zs, .inr ⟨_, rfl, hl, hm, hz', hcell, hwz⟩, by omega⟩
  obtain ⟨a2, len2, cap2, rfl⟩ := okWide_slice Tryd.underlying34 (hval 2 34 v2 rfl rfl)
  have k2 := h2
  have lt2 : ∀ x ∈ p2, x.block < W.heap.size := by obtain ⟨m, hm⟩ := k2; exact DataW.trod_lt m _ _ _ hm
  obtain ⟨z2, w2⟩ : ∃ zs, IsRow .i64 W a2 len2 cap2 zs ∧ cap2 * 8 ≤ 140737488351232 := by
    obtain ⟨fuel, hf⟩ := h2
    rcases open_ints Tryd.underlying34 Tryd.underlying3 (by kernel_rfl) hf with ⟨hcs, _⟩ | ⟨x, l, c, zs, hcs, _, hl, hm, hz, hx, hcell, hwz⟩
    · simp [Value.cells] at hcs
      obtain ⟨rfl, rfl, rfl⟩ := hcs
      exact ⟨[], .inl ⟨rfl, rfl, rfl, rfl⟩, by omega⟩
    · have hd := congrArg Prod.fst hx
      have hsw := sized_slice hsz (j := 2) (t := 34) (e := 3) rfl (congrArg some hd) Tryd.underlying34
      have hby : Tryd.prog.bytesOf 3 = 8 := by kernel_rfl
      rw [hby] at hsw
      simp [Value.cells] at hcs
      obtain ⟨rfl, rfl, rfl⟩ := hcs
      have hz' : zs.length = cap2 := by simpa using hz
      simp only [lits, List.length_map, List.length_take, List.length_drop, reachBytes] at hsw
      exact ⟨zs, .inr ⟨_, rfl, hl, hm, hz', hcell, hwz⟩, by omega⟩
  refine (walk v0 z0 a1 len1 cap1 z1 a2 len2 cap2 z2 W w0 w1 w2 (tabOf hL)).mono fun e W' ⟨he, bel⟩ => ?_
  subst he
  exact ⟨_, rfl, _, _, _, [], _, [], hW', trodAll_mk1 (shut_bool Tryd.underlying4 _), (trodAll_cons_mk (Below.trod laidOut (by kernel_rfl) (of_decide_eq_true (by kernel_rfl)) k0 bel lt0) (trodAll_cons_mk (Below.trod laidOut (by kernel_rfl) (of_decide_eq_true (by kernel_rfl)) k1 bel lt1) (trodAll_cons_mk (Below.trod laidOut (by kernel_rfl) (of_decide_eq_true (by kernel_rfl)) k2 bel lt2) trodAll_mk0))), rfl, bel.frame _, fun h => by cases h⟩
def cells_laid_math_bits_deBruijn32tab : Array Value := #[.int .u8 0, .int .u8 1, .int .u8 28, .int .u8 2, .int .u8 29, .int .u8 14, .int .u8 24, .int .u8 3, .int .u8 30, .int .u8 22, .int .u8 20, .int .u8 15, .int .u8 25, .int .u8 17, .int .u8 4, .int .u8 8, .int .u8 31, .int .u8 27, .int .u8 13, .int .u8 23, .int .u8 21, .int .u8 19, .int .u8 16, .int .u8 7, .int .u8 26, .int .u8 12, .int .u8 18, .int .u8 6, .int .u8 11, .int .u8 5, .int .u8 10, .int .u8 9]
def cells_laid_math_bits_deBruijn64tab : Array Value := #[.int .u8 0, .int .u8 1, .int .u8 56, .int .u8 2, .int .u8 57, .int .u8 49, .int .u8 28, .int .u8 3, .int .u8 61, .int .u8 58, .int .u8 42, .int .u8 50, .int .u8 38, .int .u8 29, .int .u8 17, .int .u8 4, .int .u8 62, .int .u8 47, .int .u8 59, .int .u8 36, .int .u8 45, .int .u8 43, .int .u8 51, .int .u8 22, .int .u8 53, .int .u8 39, .int .u8 33, .int .u8 30, .int .u8 24, .int .u8 18, .int .u8 12, .int .u8 5, .int .u8 63, .int .u8 55, .int .u8 48, .int .u8 27, .int .u8 60, .int .u8 41, .int .u8 37, .int .u8 16, .int .u8 46, .int .u8 35, .int .u8 44, .int .u8 21, .int .u8 52, .int .u8 32, .int .u8 23, .int .u8 11, .int .u8 54, .int .u8 26, .int .u8 40, .int .u8 15, .int .u8 34, .int .u8 20, .int .u8 31, .int .u8 10, .int .u8 25, .int .u8 14, .int .u8 19, .int .u8 9, .int .u8 13, .int .u8 8, .int .u8 7, .int .u8 6]
def cells_laid_internal_strconv_uint64pow10 : Array Value := #[.int .u64 1, .int .u64 10, .int .u64 100, .int .u64 1000, .int .u64 10000, .int .u64 100000, .int .u64 1000000, .int .u64 10000000, .int .u64 100000000, .int .u64 1000000000, .int .u64 10000000000, .int .u64 100000000000, .int .u64 1000000000000, .int .u64 10000000000000, .int .u64 100000000000000, .int .u64 1000000000000000, .int .u64 10000000000000000, .int .u64 100000000000000000, .int .u64 1000000000000000000, .int .u64 10000000000000000000]
def layOne (c : Array Value) : Obj → Obj
  | .cells _ t frozen => .cells c t frozen
  | o => o
theorem laid_met (os : Os) : laidMet Tryd.prog Rows.certainKeepsRow.laid (World.forCall ({ World.holding Tryd.prog os ⟨#[], #[], []⟩ with heap := ((((World.holding Tryd.prog os ⟨#[], #[], []⟩).heap.modify 1 (layOne cells_laid_math_bits_deBruijn32tab)).modify 2 (layOne cells_laid_math_bits_deBruijn64tab)).modify 0 (layOne cells_laid_internal_strconv_uint64pow10)) }) (fun _ _ => 0) ⟨#[], #[.agg #[.int .i64 0, .slice none 0 0], .slice none 0 0, .slice none 0 0], []⟩).memory :=
  laidMet_of_run' 8 (by kernel_rfl) (by kernel_rfl)
theorem reads (os : Os) {H : Type} (enc : TypeId × Value → H) : ∃ places, DataW.whole enc Tryd.prog (World.forCall ({ World.holding Tryd.prog os ⟨#[], #[], []⟩ with heap := ((((World.holding Tryd.prog os ⟨#[], #[], []⟩).heap.modify 1 (layOne cells_laid_math_bits_deBruijn32tab)).modify 2 (layOne cells_laid_math_bits_deBruijn64tab)).modify 0 (layOne cells_laid_internal_strconv_uint64pow10)) }) (fun _ _ => 0) ⟨#[], #[.agg #[.int .i64 0, .slice none 0 0], .slice none 0 0, .slice none 0 0], []⟩).memory Tryd.f4.params.toList Rows.certainKeepsSpec.vars false (#[.agg #[.int .i64 0, .slice none 0 0], .slice none 0 0, .slice none 0 0] : Array Value).toList 8 = some ([.agg [.lit (.int .i64 0), .nil], .nil, .nil], [], places) :=
  ⟨[], by kernel_rfl⟩
set_option maxRecDepth 100000 in
theorem lifted (os : Os) (started : os.Started) (H : Type) (enc : TypeId × Value → H) (F : Stop.Interp) :
    ReturnsInHanded {} Tryd.checked os 4 .any ((OpenSpec.ofChange Rows.certainKeepsSpec).preRow enc Tryd.prog Tryd.f4 Rows.certainKeepsRow.domain false Rows.certainKeepsRow.laid) (((OpenSpec.ofChange Rows.certainKeepsSpec).at F).post enc Tryd.prog Tryd.f4 false true false false) := by
  obtain ⟨places, hx⟩ := reads os enc
  refine returnsInHanded_of_row (C := Tryd.checked) (s := OpenSpec.ofChange Rows.certainKeepsSpec) own started (by kernel_rfl) Tryd.func4
    (witness_row_at (enc := enc) (C := Tryd.checked) false ({ World.holding Tryd.prog os ⟨#[], #[], []⟩ with heap := ((((World.holding Tryd.prog os ⟨#[], #[], []⟩).heap.modify 1 (layOne cells_laid_math_bits_deBruijn32tab)).modify 2 (layOne cells_laid_math_bits_deBruijn64tab)).modify 0 (layOne cells_laid_internal_strconv_uint64pow10)) }) #[.agg #[.int .i64 0, .slice none 0 0], .slice none 0 0, .slice none 0 0] rfl (by kernel_rfl) (by kernel_rfl) (by kernel_rfl)
      (OpenSpec.preRow_of_cond 8 hx (by kernel_rfl) (fun k hk => by cases hk) (by kernel_rfl) (laid_met os))) ?_
  intro W base args ds gs before hval hW _ _ hsz hL _ _
  exact contract H enc W base args ds gs before hval hW hsz hL
theorem said : Rows.CertainKeepsSaid :=
  OpenClaim.holds_of_cond 4 Tryd.f4 rfl rfl rfl rfl rfl rfl rfl ⟨rfl, rfl, rfl, rfl, rfl⟩ rfl rfl rfl rfl rfl (by kernel_rfl) Tryd.func4 (by kernel_rfl)
    (of_decide_eq_true (by kernel_rfl)) (by unfold Func.isWrapper; first | (rw [if_pos (by decide +kernel)]; kernel_rfl) | (rw [if_neg (by decide +kernel)]; exact ⟨rfl, rfl⟩))
    (fun os started H enc _ F => by rw [OpenClaim.pre_eq_preRow]; exact lifted os started H enc F)
theorem plain (f : FuncId) (fn : Func) (hf : Tryd.pinned.checked.prog.funcNamed "tropica/tropicakeep.CertainKeeps" = some f) (hfn : Tryd.pinned.checked.prog.funcs[f]? = some fn) :
    true = Tryd.pinned.checked.prog.looks [] ∧ ∀ (j : Nat) t, fn.params[j]? = some t → Tryd.pinned.checked.prog.wantsStandIn t = false := by
  obtain rfl : f = 4 := Option.some.inj ((show Tryd.prog.funcNamed "tropica/tropicakeep.CertainKeeps" = some 4 by kernel_rfl).symm.trans hf) |>.symm
  obtain rfl : fn = Tryd.f4 := (Option.some.inj (Tryd.func4.symm.trans hfn)).symm
  refine ⟨by kernel_rfl, fun j t ht => ?_⟩
  rw [Tryd.params4] at ht
  have h9 : t = 33 ∨ t = 34 := by simpa using Array.mem_of_getElem? ht
  rcases h9 with rfl | rfl
  · exact (show Tryd.prog.wantsStandIn 33 = false by kernel_rfl)
  · exact (show Tryd.prog.wantsStandIn 34 = false by kernel_rfl)
end Go.Proofs.YtfekmlblldhieaaDoor.certainKeeps
namespace Go.Proofs.YtfekmlblldhieaaDoor
theorem certainKeeps_card : Rows.CertainKeepsCardSaid :=
  Claim7.holds_tied_plain_at .later [] _ _ _ _ certainKeeps.said (fun _ h => by cases h) (by kernel_rfl) (fun _ h => by cases h) certainKeeps_row_tie rfl ⟨rfl, rfl⟩ (by kernel_rfl) rfl certainKeeps.plain (by kernel_rfl)
#print axioms certainKeeps_card
end Go.Proofs.YtfekmlblldhieaaDoor
