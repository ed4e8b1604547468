/- best.Follow, and what it answers. -/
import Derived.Test.YtfpibdaedfilaaaEaA
import Derived.Deep.QuietTactic
import Derived.BigQuiet
namespace Go.Proofs.Ytfpibdaedfilaaa.Bw
open Go.ChangeShapes Go.WideShapes Go.ChangeAt Go.RowKit
open Go.Proofs.Ytfpibdaedfilaaa.Pl Go.Proofs.Ytfpibdaedfilaaa.Wt
set_option linter.unusedVariables false
set_option linter.unusedSimpArgs false
def FlwRes (m : Mc) (ks : List Int) (w : World) (e : Ending) (w' : World) : Prop := ∃ (vx vy : Value) (x y : List Int) (c ec : Int), e = .returned (.tuple #[vx, vy, .int .i64 c, .int .i64 ec]) ∧ flwA m ks = ((x, y, c), ec) ∧ Nums w' vx x ∧ Nums w' vy y ∧ Below w.heap.size w w'
theorem below_dNb {B : Nat} {w w' : World} (h : Below B w w') (n : Nat) : Below B w (w'.drewN n) := ⟨h.os, h.tape, h.output, h.size, h.block⟩
theorem FlwRes.err {m : Mc} {ks : List Int} {w w' : World} {ec : Int} (h : flwA m ks = (([], [], 0), ec)) (hb : Below w.heap.size w w') : FlwRes m ks w (.returned (.tuple #[.slice none 0 0, .slice none 0 0, .int .i64 0, .int .i64 ec])) w' := ⟨_, _, [], [], 0, ec, rfl, h, .inl ⟨rfl, rfl⟩, .inl ⟨rfl, rfl⟩, hb⟩
theorem labels_of {m : Mc} (hr : faultM m = 0) : ∀ q, q < m.2.length → ∀ a ∈ (el m.2 q).2, 0 ≤ a.1 ∧ 0 ≤ a.2.1 := fun q hq a ha => by
 have h1 := (right_parts hr).2 _ (el_mem hq)
 simp only [stB, Bool.and_eq_true, List.all_eq_true] at h1
 have h2 := h1.2 _ ha
 simp only [arcB, inB, Bool.and_eq_true, decide_eq_true_eq] at h2
 omega
theorem res_four (tm : Array Value) (W : World) (v4 v5 v6 v7 : Value) (h4 : tm.getD 4 undef = v4) (h5 : tm.getD 5 undef = v5) (h6 : tm.getD 6 undef = v6) (h7 : tm.getD 7 undef = v7) : (results Try.f15 tm).run Try.prog W = .ok (.tuple #[v4, v5, v6, v7]) W := by
 simp only [Array.getD_eq_getD_getElem?] at h4 h5 h6 h7
 simp [results, Try.results15, go_sem, h4, h5, h6, h7]
set_option maxRecDepth 100000 in
set_option maxHeartbeats 6400000 in
theorem followP_any (v : Value) (m : Mc) (vk : Value) (ks : List Int) (w : World) (h : Mach w v m) (hok : okM m) (hk : Nums w vk ks) :
  Calls Try.prog 15 #[v, vk] w fun e w' => FlwRes m ks w e w' := by
 obtain ⟨z, l⟩ := m
 have HM : Hid (Mach w v (z, l)) := h
 have HKN := hidP hk
 obtain ⟨vs, rfl, hS⟩ := h
 obtain ⟨a, cap, rfl⟩ := hS.sl
 obtain ⟨ka, kc, rfl⟩ := Row.sl hk
 generalize hl : l.length = N at *
 generalize hn : ks.length = n at *
 have HL := hidP hl
 have HN := hidP hn
 have HK := hidP hok
 have HX : Hid (∀ W, Below w.heap.size w W → Mach W (.agg #[.int .i64 z, .slice a N cap]) (z, l)) := fun W hW => HM.out.later hW (Nat.le_refl _)
 have HCK : Hid (∀ W, Below w.heap.size w W → Calls Try.prog 30 #[.agg #[.int .i64 z, .slice a N cap]] W fun e w' => e = .returned (.int .i64 (faultM (z, l))) ∧ Below W.heap.size W w') := fun W hW => coreCheck_any _ (z, l) W (HX.out W hW) HK.out _ rfl
 by_cases hr : faultM (z, l) = 0
 ·have HR := hidP hr
  rw [hr] at HCK
  by_cases hlong : 400 < n
  ·have HA := hidP (flwA_long (ks := ks) hr (by rw [hn]; exact hlong))
   have hlz : (400 : Int) < (n : Int) := by omega
   clear hS hok hr hk hl hn
   go_enter Try.func15, Try.ntmps15
   go_wp2_with (first
    | (go_at_call 30; (with_reducible refine (HCK.out _ (by go_grown)).mono ?_); rintro e w1 ⟨rfl, hb⟩; obtain ⟨s1, b1, hb1⟩ := boxed hb (by simp); have HB1 := hidP hb1; clear hb b1 hb1))
   exact bodyPost_ret (res_four _ _ _ _ _ _ rfl rfl rfl rfl) rfl (FlwRes.err HA.out HB1.out)
  ·have hlz : ¬ (400 : Int) < (n : Int) := by omega
   have HFD : Hid (∀ W, Below w.heap.size w W → Calls Try.prog 34 #[.agg #[.int .i64 z, .slice a N cap], .slice ka n kc] W fun e w' => FldRes (flwL l ks z) W e w') := fun W hW => followed_any z _ l _ ks W (HX.out W hW) (RgtM.of (m := (z, l)) hr) (labels_of (m := (z, l)) hr) (HKN.out.later hW (Nat.le_refl _)) (by rw [hn]; omega)
   have HKL : Hid (ks.length ≤ 400) := by show _ ≤ _; rw [hn]; omega
   clear hS hok hr hk hl hn
   go_enter Try.func15, Try.ntmps15
   go_wp2_with (first
    | (go_at_call 30; (with_reducible refine (HCK.out _ (by go_grown)).mono ?_); rintro e w1 ⟨rfl, hb⟩; obtain ⟨s1, b1, hb1⟩ := boxed hb (by simp); have HB1 := hidP hb1; have c0 := b1.cell 0 (v := .int .i64 z) rfl; have c1 := b1.cell 1 (v := .slice a N cap) rfl; clear hb b1 hb1)
    | (go_at_call 34; ((with_reducible refine (HFD.out _ HB1.out).mono ?_); rintro e w2 ⟨vx, vy, x, y, c, b, rfl, hx, hy, hO, hb⟩; have HXX := hidP hx; have HYY := hidP hy; have HB2 := hidP (HB1.out.trans (hb.mono HB1.out.size)); obtain ⟨ax, cx, hvx⟩ := Row.sl hx; obtain ⟨ay, cy, hvy⟩ := Row.sl hy; subst hvx; subst hvy; clear hx hy hb; rcases hO with ⟨rfl, hO⟩ | ⟨rfl, hO⟩; case' inr => (by_cases hov : (1000000000 : Int) < c))))
   ·have HA := hidP (flwA_over HR.out HKL.out hO hov)
    exact bodyPost_ret (res_four _ _ _ _ _ _ rfl rfl rfl rfl) rfl (FlwRes.err HA.out (HB2.out.alloc HB2.out.size _))
   ·have HA := hidP (flwA_ok HR.out HKL.out hO (show ¬ (1000000000 : Int) < c by omega))
    go_quiet (fail)
    go_wp2
    exact bodyPost_ret (res_four _ _ _ _ _ _ rfl rfl rfl rfl) rfl ⟨_, _, x, y, c, 0, rfl, HA.out, HXX.out.later (B := w2.heap.size) (below_dNb ((Below.refl _ _).alloc (Nat.le_refl _) _) _) (Nat.le_refl _), HYY.out.later (B := w2.heap.size) (below_dNb ((Below.refl _ _).alloc (Nat.le_refl _) _) _) (Nat.le_refl _), below_dNb (HB2.out.alloc HB2.out.size _) _⟩
   ·have HA := hidP (flwA_none HR.out HKL.out hO)
    exact bodyPost_ret (res_four _ _ _ _ _ _ rfl rfl rfl rfl) rfl (FlwRes.err HA.out (HB2.out.alloc HB2.out.size _))
 ·have HA := hidP (flwA_bad (ks := ks) hr)
  generalize faultM (z, l) = r at *
  clear hS hok hk hl hn
  go_enter Try.func15, Try.ntmps15
  go_wp2_with (first
   | (go_at_call 30; (with_reducible refine (HCK.out _ (by go_grown)).mono ?_); rintro e w1 ⟨rfl, hb⟩; obtain ⟨s1, b1, hb1⟩ := boxed hb (by simp); have HB1 := hidP hb1; clear hb b1 hb1))
  exact bodyPost_ret (res_four _ _ _ _ _ _ rfl rfl rfl rfl) rfl (FlwRes.err HA.out HB1.out)
end Go.Proofs.Ytfpibdaedfilaaa.Bw
