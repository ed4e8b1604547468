/- The reference: a path arc by arc. -/
import Derived.Test.YtobhjhjfannnnaaVag
import Derived.Test.YtobhjhjfannnnaaVab
import Derived.Test.YtobhjhjfannnnaaVac
import Derived.WalkKit
import Derived.ProofKit
import Derived.OpenShut
import Derived.Below
import Derived.SizedLaws
import Derived.Laws.AppendOwnNone
import Derived.BigQuiet
import Derived.Deep.QuietTactic
namespace Go.Proofs.Ytobhjhjfannnnaa.Bw
open Go.ChangeShapes Go.WideShapes Go.ChangeAt Go.RowKit
open Go.Proofs.Ytobhjhjfannnnaa.Pl Go.Proofs.Ytobhjhjfannnnaa.Wt
set_option linter.unusedVariables false
set_option linter.unusedSimpArgs false
theorem res_fourR (tm : Array Value) (W : World) (v4 v5 v6 v7 : Value) (h4 : tm.getD 4 undef = v4) (h5 : tm.getD 5 undef = v5) (h6 : tm.getD 6 undef = v6) (h7 : tm.getD 7 undef = v7) : (results Try.f18 tm).run Try.prog W = .ok (.tuple #[v4, v5, v6, v7]) W := by
 simp only [Array.getD_eq_getD_getElem?] at h4 h5 h6 h7
 simp [results, Try.results18, go_sem, h4, h5, h6, h7]
theorem stepX {W : World} {base : Nat} {vx vy : Value} {x y : List Int} (h : TwoI W base vx vy x y) {b : Int} (h0 : 0 < b) (hl : x.length ≤ 100000) (hbase : base ≤ W.heap.size) :
  ∃ xa xc a k w', vx = .slice xa x.length xc ∧ (Builtin.append_ #[26, 26] 26 #[.slice xa x.length xc, .slice (some ⟨W.heap.size, 0, none⟩) 1 1]).run Try.prog (W.alloc (.cells #[.int .i64 b] 3)) = .ok (.slice a (x.length + 1) k) w' ∧ TwoI w' base (.slice a (x.length + 1) k) vy (putL x b) y ∧ (∀ (c : Nat) (cs : Array Value) (t : TypeId), 3 ≠ t → Blk W c cs t → Blk w' c cs t) ∧ Below base W w' := by
 obtain ⟨xa, xc, a, k, w', hx, r, o, g, n⟩ := pushN h.hx b hl hbase
 have hp : putL x b = x ++ [b] := by unfold putL; rw [if_pos h0]
 refine ⟨xa, xc, a, k, w', hx, r, by rw [hp]; exact h.keepY o g n, fun c cs t ht hB => hB.grown g (own_ne h.hx hB ht), gBelow g (fun k hk => (h.hx.lt k hk).1) hbase⟩
theorem putL_no {x : List Int} {b : Int} (h : ¬ 0 < b) : putL x b = x := by unfold putL; rw [if_neg h]
def HeldFr (M : Nat) (u : Value) (b0 o0 : Nat) (va : Value) (b4 o4 : Nat) (k : Int) (b3 o3 : Nat) (x0 x1 x2 x3 : Int) (w : World) : Prop := w.cell? ⟨M, 1, none⟩ = some u ∧ w.cell? ⟨b0, o0, none⟩ = some va ∧ w.cell? ⟨b4, o4, none⟩ = some (.int .i64 k) ∧ w.cell? ⟨b3, o3, none⟩ = some (.int .i64 x0) ∧ w.cell? ⟨b3, o3 + 1, none⟩ = some (.int .i64 x1) ∧ w.cell? ⟨b3, o3 + 2, none⟩ = some (.int .i64 x2) ∧ w.cell? ⟨b3, o3 + 3, none⟩ = some (.int .i64 x3)
set_option maxRecDepth 100000 in
set_option maxHeartbeats 9600000 in
theorem followR_any (v : Value) (m : Mc) (vk : Value) (ks : List Int) (w : World) (h : Mach w v m) (hok : okM m) (hk : Nums w vk ks) :
  Calls Try.prog 18 #[v, vk] w fun e w' => FlwRes m ks w e w' := by
 obtain ⟨z, l⟩ := m
 have HM : Hid (Mach w v (z, l)) := h
 obtain ⟨vs, rfl, hS⟩ := h
 obtain ⟨a, cap, rfl, hc⟩ := hS.get
 have HC : Hid (∀ j, j < l.length → ∃ b off va, a = some ⟨b, off, none⟩ ∧ b < w.heap.size ∧ w.cell? ⟨b, off + j * 2, none⟩ = some (.int .i64 (el l j).1) ∧ w.cell? ⟨b, off + j * 2 + 1, none⟩ = some va ∧ Arcs w va (el l j).2) := hc
 obtain ⟨ka, kc, rfl, hkg⟩ := Nums.get hk
 have HKG := hidP hkg
 generalize hl : l.length = N at *
 generalize hn : ks.length = n at *
 have HN := hidP hl
 have HKN := hidP hn
 have HK := hidP hok
 have HX : Hid (∀ W, Below w.heap.size w W → Mach W (.agg #[.int .i64 z, .slice a N cap]) (z, l)) := fun W hW => HM.out.later hW (Nat.le_refl _)
 have HCK : Hid (∀ W, Below w.heap.size w W → Calls Try.prog 35 #[.agg #[.int .i64 z, .slice a N cap]] W fun e w' => e = .returned (.int .i64 (faultM (z, l))) ∧ Below W.heap.size W w') := fun W hW => fault_any _ (z, l) W (HX.out W hW) HK.out _ rfl
 by_cases hr : faultM (z, l) = 0
 ·have HRF := hidP hr
  rw [hr] at HCK
  by_cases hlong : 400 < n
  ·have HA := hidP (flwA_long (ks := ks) hr (by rw [hn]; exact hlong))
   have hlz : (400 : Int) < (n : Int) := by omega
   clear hS hok hr hk hl hn hc hkg
   go_enter Try.func18, Try.ntmps18
   go_wp2_with (first
    | (go_at_call 35; (with_reducible refine (HCK.out _ (by go_grown)).mono ?_); rintro e w1 ⟨rfl, hb⟩; obtain ⟨s1, b1, hb1⟩ := boxed hb (by simp); have HB1 := hidP hb1; clear hb b1 hb1))
   exact bodyPost_ret (res_fourR _ _ _ _ _ _ rfl rfl rfl rfl) rfl (FlwRes.err HA.out HB1.out)
  ·have hlz : ¬ (400 : Int) < (n : Int) := by omega
   have hn400 : n ≤ 400 := by omega
   have HR := hidP (RgtM.of (m := (z, l)) hr)
   have HLB := hidP (labels_of (m := (z, l)) hr)
   have HKL : Hid (ks.length ≤ 400) := by show _ ≤ _; rw [hn]; omega
   have HF0 := hidP (FlwI.start l ks z)
   have hz0 : -1 ≤ z := HR.out.lo
   have hz1 : z < (N : Int) := by have := HR.out.hi; simp only at this; rw [hl] at this; exact this
   clear hS hok hr hk hl hn hc hkg
   go_enter Try.func18, Try.ntmps18
   go_wp2_with (first
    | (go_at_call 35; (with_reducible refine (HCK.out _ (by go_grown)).mono ?_); rintro e w1 ⟨rfl, hb⟩; obtain ⟨s1, b1, hb1⟩ := boxed hb (by simp); have M1 := hidP b1; have HB1 := hidP hb1; have c0 := b1.cell 0 (v := .int .i64 z) rfl; have c1 := b1.cell 1 (v := .slice a N cap) rfl; clear hb b1 hb1))
   clear c0 c1
   go_loopw [9, 10, 11, 12, 13] (fun s9 s10 s11 s12 s13 wr => ∃ (j : Nat) (q : Int) (x y : List Int) (c : Int) (vx vy : Value), vx = s9 ∧ vy = s10 ∧ s11 = .int .i64 c ∧ s12 = .int .i64 q ∧ s13 = .int .i64 (j : Int) ∧ j ≤ n ∧ -1 ≤ q ∧ q < (N : Int) ∧ 0 ≤ c ∧ c ≤ (j : Int) * 1000000000 ∧ x.length ≤ j ∧ y.length ≤ j ∧ Hid (FlwI l ks z j x y c q) ∧ Hid (TwoI wr w.heap.size vx vy x y) ∧ Hid (Blk wr w.heap.size #[.int .i64 z, .slice a N cap] 24) ∧ Hid (Below w.heap.size w wr)) (fun _ _ _ _ s13 _ => n - (intOf s13).toNat)
   case atStart => exact ⟨0, z, [], [], 0, _, _, rfl, rfl, rfl, rfl, by go_num, Nat.zero_le _, hz0, hz1, by omega, by omega, Nat.le_refl _, Nat.le_refl _, HF0, ⟨OwnI.nil _ _, OwnI.nil _ _, .inl rfl⟩, M1, HB1⟩
   case round =>
    clear M1 HB1 HF0 hz0 hz1
    obtain ⟨j, q, x, y, c, vx, vy, rfl, rfl, rfl, rfl, rfl, hj, hq0, hq1, hc0, hc1, hxl, hyl, hI, hO, hM, hb⟩ := hrel
    have m1 := hM.out.cell 1 (v := .slice a N cap) rfl
    by_cases hjn : j < n
    ·have hj0 : (0 : Int) ≤ (j : Int) := Int.natCast_nonneg _
     have hj1 : (j : Int) < (n : Int) := by omega
     by_cases hqn : q < 0
     ·have HNO := hidP (flwA_none HRF.out HKL.out (hI.out.stop (by rw [HKN.out]; exact hjn) (.inl hqn)))
      have hdq : decide (q < 0) = true := decide_eq_true hqn
      go_wp2
      go_quiet (fail)
      go_wp2
      exact bodyPost_ret (res_fourR _ _ _ _ _ _ rfl rfl rfl rfl) rfl (FlwRes.err HNO.out (below_dNb hb.out _))
     ·obtain ⟨t, rfl⟩ : ∃ t : Nat, q = (t : Int) := ⟨q.toNat, by omega⟩
      have htN : t < N := by omega
      have hdq : decide ((t : Int) < 0) = false := decide_eq_false hqn
      obtain ⟨b0, off0, va, rfl, hb0l, g0, g1, gA⟩ := HC.out t htN
      obtain ⟨a2, cap2, hva, hga⟩ := gA.get
      subst hva
      have g1 := (hb.out.cell (p := ⟨b0, off0 + t * 2 + 1, none⟩) hb0l).trans g1
      obtain ⟨b4, off4, rfl, hb4l, k0⟩ := HKG.out j hjn
      have k0 := (hb.out.cell (p := ⟨b4, off4 + j, none⟩) hb4l).trans k0
      have hL400 : (el l t).2.length ≤ 400 := HR.out.arcs t (show t < l.length by rw [HN.out]; exact htN)
      have hq0z : (0 : Int) ≤ (t : Int) := Int.natCast_nonneg _
      clear g0 gA
      by_cases hin : 0 ≤ el ks j ∧ el ks j < ((el l t).2.length : Int)
      ·obtain ⟨k, hk⟩ : ∃ k : Nat, el ks j = (k : Int) := ⟨(el ks j).toNat, by omega⟩
       have hkL : k < (el l t).2.length := by omega
       have HIN := hidP (fun W => (refIn (el ks j) 0 (((el l t).2.length : Int) - 1) true W (by unfold inB; simp; omega)).mono (R' := fun e w' => e = .returned (.bool true) ∧ w' = W) fun _ _ h9 => ⟨h9.1, h9.2.symm⟩)
       have HST := hidP (hI.out.step (by rw [HKN.out]; exact hjn) hq0z (by rw [hk]; omega) (by rw [Int.toNat_natCast]; omega))
       rw [hk, Int.toNat_natCast, Int.toNat_natCast] at HST
       rw [hk] at k0 HIN
       have hma := el_mem hkL
       obtain ⟨w0, w1, u, hu, hun⟩ := HR.out.rgt.arc t (show t < l.length by rw [HN.out]; exact htN) _ hma
       obtain ⟨la0, la1⟩ := HLB.out t (show t < l.length by rw [HN.out]; exact htN) _ hma
       obtain ⟨b3, off3, rfl, hb3l, e0, e1, e2, e3⟩ := hga k hkL
       have e0 := (hb.out.cell (p := ⟨b3, off3 + k * 4, none⟩) hb3l).trans e0
       have e1 := (hb.out.cell (p := ⟨b3, off3 + k * 4 + 1, none⟩) hb3l).trans e1
       have e2 := (hb.out.cell (p := ⟨b3, off3 + k * 4 + 2, none⟩) hb3l).trans e2
       have e3 := (hb.out.cell (p := ⟨b3, off3 + k * 4 + 3, none⟩) hb3l).trans e3
       rw [hu] at e3 HST
       clear hga hu hma hk hin
       generalize (el (el l t).2 k).1 = x0 at *
       generalize (el (el l t).2 k).2.1 = x1 at *
       generalize (el (el l t).2 k).2.2.1 = x2 at *
       generalize (el l t).2.length = L at *
       have hk0 : (0 : Int) ≤ (k : Int) := Int.natCast_nonneg _
       have hk1 : (k : Int) < (L : Int) := by omega
       have ht1 : (t : Int) < (N : Int) := by omega
       go_wp2
       go_quiet (first | (go_at_call 36; (with_reducible refine Calls.quiet_of_same (HIN.out _))))
       have O1 := hidP (hO.out.later (below_dNb (Below.refl _ _) nq))
       have M1 := hidP (hM.out.drewN nq)
       have B1 := hidP (below_dNb hb.out nq)
       have H1 : Hid (HeldFr w.heap.size (.slice (some ⟨b0, off0, none⟩) N cap) b0 (off0 + t * 2 + 1) (.slice (some ⟨b3, off3, none⟩) L cap2) b4 (off4 + j) k b3 (off3 + k * 4) x0 x1 x2 u (wr.drewN nq)) := ⟨hM.out.cell 1 rfl, g1, k0, e0, e1, e2, e3⟩
       clear hO hM hb hI g1 k0 e0 e1 e2 e3 m1 HIN
       generalize wr.drewN nq = W1 at *
       go_wp2
       have HS : HeldFr w.heap.size (.slice (some ⟨b0, off0, none⟩) N cap) b0 (off0 + t * 2 + 1) (.slice (some ⟨b3, off3, none⟩) L cap2) b4 (off4 + j) k b3 (off3 + k * 4) x0 x1 x2 u W1.drew := H1.out
       refine region_anyL (HeldFr w.heap.size (.slice (some ⟨b0, off0, none⟩) N cap) b0 (off0 + t * 2 + 1) (.slice (some ⟨b3, off3, none⟩) L cap2) b4 (off4 + j) k b3 (off3 + k * 4) x0 x1 x2 u) 13 (by kernel_rfl) ?_
       refine anyL_tk (i := 0) (v := ?v0_1) aZ0 (by kernel_rfl) ?y0_1 HS ?r0_1
       case y0_1 => intro wx hx; obtain ⟨h0, h1, h2, h3, h4, h5, h6⟩ := hx; go_simp; try (with_reducible rfl)
       simp only [Act.put, List.setIfInBounds_toArray, List.set_cons_zero, List.set_cons_succ]
       refine anyL_tk (i := 1) (v := ?v1_2) aZ1 (by kernel_rfl) ?y1_2 HS ?r1_2
       case y1_2 => intro wx hx; obtain ⟨h0, h1, h2, h3, h4, h5, h6⟩ := hx; go_simp; try (with_reducible rfl)
       simp only [Act.put, List.setIfInBounds_toArray, List.set_cons_zero, List.set_cons_succ]
       refine anyL_tk (i := 2) (v := ?v2_3) aZ2 (by kernel_rfl) ?y2_3 HS ?r2_3
       case y2_3 => intro wx hx; obtain ⟨h0, h1, h2, h3, h4, h5, h6⟩ := hx; go_simp; try (with_reducible rfl)
       simp only [Act.put, List.setIfInBounds_toArray, List.set_cons_zero, List.set_cons_succ]
       refine anyL_tk (i := 3) (v := ?v3_4) aZ3 (by kernel_rfl) ?y3_4 HS ?r3_4
       case y3_4 => intro wx hx; obtain ⟨h0, h1, h2, h3, h4, h5, h6⟩ := hx; go_simp; try (with_reducible rfl)
       simp only [Act.put, List.setIfInBounds_toArray, List.set_cons_zero, List.set_cons_succ]
       refine anyL_tk (i := 4) (v := ?v4_5) aZ4 (by kernel_rfl) ?y4_5 HS ?r4_5
       case y4_5 => intro wx hx; obtain ⟨h0, h1, h2, h3, h4, h5, h6⟩ := hx; go_simp; try (with_reducible rfl)
       simp only [Act.put, List.setIfInBounds_toArray, List.set_cons_zero, List.set_cons_succ]
       refine anyL_tk (i := 5) (v := ?v5_6) aZ5 (by kernel_rfl) ?y5_6 HS ?r5_6
       case y5_6 => intro wx hx; obtain ⟨h0, h1, h2, h3, h4, h5, h6⟩ := hx; go_simp; try (with_reducible rfl)
       simp only [Act.put, List.setIfInBounds_toArray, List.set_cons_zero, List.set_cons_succ]
       refine anyL_tk (i := 6) (v := ?v6_7) aZ6 (by kernel_rfl) ?y6_7 HS ?r6_7
       case y6_7 => intro wx hx; obtain ⟨h0, h1, h2, h3, h4, h5, h6⟩ := hx; go_simp; try (with_reducible rfl)
       simp only [Act.put, List.setIfInBounds_toArray, List.set_cons_zero, List.set_cons_succ]
       refine anyL_tk (i := 7) (v := ?v7_8) aZ7 (by kernel_rfl) ?y7_8 HS ?r7_8
       case y7_8 => intro wx hx; obtain ⟨h0, h1, h2, h3, h4, h5, h6⟩ := hx; go_simp; try (with_reducible rfl)
       simp only [Act.put, List.setIfInBounds_toArray, List.set_cons_zero, List.set_cons_succ]
       refine anyL_tk (i := 8) (v := ?v8_9) aZ8 (by kernel_rfl) ?y8_9 HS ?r8_9
       case y8_9 => intro wx hx; obtain ⟨h0, h1, h2, h3, h4, h5, h6⟩ := hx; go_simp; try (with_reducible rfl)
       simp only [Act.put, List.setIfInBounds_toArray, List.set_cons_zero, List.set_cons_succ]
       refine anyL_tk (i := 9) (v := ?v9_10) aZ9 (by kernel_rfl) ?y9_10 HS ?r9_10
       case y9_10 => intro wx hx; obtain ⟨h0, h1, h2, h3, h4, h5, h6⟩ := hx; go_simp; try (with_reducible rfl)
       simp only [Act.put, List.setIfInBounds_toArray, List.set_cons_zero, List.set_cons_succ]
       refine anyL_tk (i := 10) (v := ?v10_11) aZ10 (by kernel_rfl) ?y10_11 HS ?r10_11
       case y10_11 => intro wx hx; obtain ⟨h0, h1, h2, h3, h4, h5, h6⟩ := hx; go_simp; try (with_reducible rfl)
       simp only [Act.put, List.setIfInBounds_toArray, List.set_cons_zero, List.set_cons_succ]
       refine anyL_tk (i := 11) (v := ?v11_12) aZ11 (by kernel_rfl) ?y11_12 HS ?r11_12
       case y11_12 => intro wx hx; obtain ⟨h0, h1, h2, h3, h4, h5, h6⟩ := hx; go_simp; try (with_reducible rfl)
       simp only [Act.put, List.setIfInBounds_toArray, List.set_cons_zero, List.set_cons_succ]
       have HSA : HeldFr w.heap.size (.slice (some ⟨b0, off0, none⟩) N cap) b0 (off0 + t * 2 + 1) (.slice (some ⟨b3, off3, none⟩) L cap2) b4 (off4 + j) k b3 (off3 + k * 4) x0 x1 x2 u (W1.drew.alloc (.cells #[.int .i64 0, .int .i64 0, .int .i64 0, .int .i64 0] 64)) := ⟨low HS.1 ((Below.refl _ _).alloc (Nat.le_refl _) _), low HS.2.1 ((Below.refl _ _).alloc (Nat.le_refl _) _), low HS.2.2.1 ((Below.refl _ _).alloc (Nat.le_refl _) _), low HS.2.2.2.1 ((Below.refl _ _).alloc (Nat.le_refl _) _), low HS.2.2.2.2.1 ((Below.refl _ _).alloc (Nat.le_refl _) _), low HS.2.2.2.2.2.1 ((Below.refl _ _).alloc (Nat.le_refl _) _), low HS.2.2.2.2.2.2 ((Below.refl _ _).alloc (Nat.le_refl _) _)⟩
       refine anyL_one (i := 12) aZ12 (by kernel_rfl) rfl (fun K hK => ?_)
       go_simp
       refine hK _ _ (.inr HSA) ?_
       try simp only [Act.put, List.setIfInBounds_toArray, List.set_cons_zero, List.set_cons_succ]
       refine anyL_one (i := 13) aZ13 (by kernel_rfl) rfl (fun K hK => ?_)
       go_simp
       refine hK _ _ (.inl rfl) (anyL_done (by kernel_rfl) (NoPanic.normal ?_))
       try simp only [Act.put, List.setIfInBounds_toArray, List.set_cons_zero, List.set_cons_succ]
       have O2 := hidP (O1.out.later (w' := (W1.alloc (.cells #[.int .i64 x0, .int .i64 x1, .int .i64 x2, .int .i64 (u : Int)] 64)).drew) (((Below.refl _ _).alloc (Nat.le_refl _) _).drew))
       have M2 := hidP (M1.out.alloc (.cells #[.int .i64 x0, .int .i64 x1, .int .i64 x2, .int .i64 (u : Int)] 64)).drew
       have A2 := hidP (Blk.made W1 #[.int .i64 x0, .int .i64 x1, .int .i64 x2, .int .i64 (u : Int)] 64).drew
       have B2 := hidP (B1.out.alloc B1.out.size (.cells #[.int .i64 x0, .int .i64 x1, .int .i64 x2, .int .i64 (u : Int)] 64)).drew
       clear HS HSA O1 M1 B1 H1
       generalize (W1.alloc (.cells #[.int .i64 x0, .int .i64 x1, .int .i64 x2, .int .i64 (u : Int)] 64)).drew = W2 at *
       generalize W1.heap.size = X at *
       rw [HN.out] at hun
       have hcs0 : 0 ≤ c + x2 := by omega
       have hcs1 : c + x2 ≤ 401000000000 := by omega
       have hcs2 : c + x2 ≤ ((j + 1 : Nat) : Int) * 1000000000 := by omega
       have hu0 : (0 : Int) ≤ (u : Int) := Int.natCast_nonneg _
       have hu1 : (u : Int) < (N : Int) := by omega
       have hum : (-1 : Int) ≤ (u : Int) := by omega
       have HLX : Hid ((putL x x0).length ≤ j + 1) := by have := putL_len x x0; show _ ≤ _; omega
       have HLY : Hid ((putL y x1).length ≤ j + 1) := by have := putL_len y x1; show _ ≤ _; omega
       have a0 := A2.out.cell 0 (v := .int .i64 x0) rfl
       have a1 := A2.out.cell 1 (v := .int .i64 x1) rfl
       have a2' := A2.out.cell 2 (v := .int .i64 x2) rfl
       have a3 := A2.out.cell 3 (v := .int .i64 (u : Int)) rfl
       by_cases hx0 : 0 < x0
       ·obtain ⟨xa, xc, va, vc, w3, hvx, r3, o3, k3, b3b⟩ := stepX O2.out hx0 (by omega) B2.out.size
        subst hvx
        have R3 := hidP r3
        have O3 := hidP o3
        have M3 := hidP (k3 _ _ _ (by decide) M2.out)
        have A3 := hidP (k3 _ _ _ (by decide) A2.out)
        have B3 := hidP (B2.out.trans b3b)
        have q1 := A3.out.cell 1 (v := .int .i64 x1) rfl
        have q2 := A3.out.cell 2 (v := .int .i64 x2) rfl
        have q3 := A3.out.cell 3 (v := .int .i64 (u : Int)) rfl
        clear r3 o3 k3 b3b
        by_cases hx1 : 0 < x1
        ·obtain ⟨ya, yc, wa, wc, w5, hvy, r5, o5, k5, b5b⟩ := stepX O3.out.swap hx1 (by omega) B3.out.size
         subst hvy
         have R5 := hidP r5
         have O5 := hidP o5.swap
         have M5 := hidP (k5 _ _ _ (by decide) M3.out)
         have A5 := hidP (k5 _ _ _ (by decide) A3.out)
         have B5 := hidP (B3.out.trans b5b)
         have p2 := A5.out.cell 2 (v := .int .i64 x2) rfl
         have p3 := A5.out.cell 3 (v := .int .i64 (u : Int)) rfl
         clear r5 o5 k5 b5b
         generalize putL x x0 = x' at *
         generalize putL y x1 = y' at *
         go_wp2_with (first | (at_builtin; refine wpListAppendRun rfl _ _ 26 rfl rfl rfl R3.out ?_; clear R3) | (at_builtin; refine wpListAppendRun rfl _ _ 26 rfl rfl rfl R5.out ?_; clear R5))
         go_roundw
         case rel => exact ⟨j + 1, u, x', y', c + x2, _, _, rfl, rfl, rfl, rfl, by go_num, by omega, hum, hu1, by omega, hcs2, HLX.out, HLY.out, HST, O5, M5, B5⟩
         case measure => simp [intOf]; omega
        ·have O5 := hidP (by have h9 := O3.out; rw [← putL_no (x := y) hx1] at h9; exact h9)
         have M5 := M3
         have B5 := B3
         generalize putL x x0 = x' at *
         generalize putL y x1 = y' at *
         go_wp2_with (first | (at_builtin; refine wpListAppendRun rfl _ _ 26 rfl rfl rfl R3.out ?_; clear R3))
         go_roundw
         case rel => exact ⟨j + 1, u, x', y', c + x2, _, _, rfl, rfl, rfl, rfl, by go_num, by omega, hum, hu1, by omega, hcs2, HLX.out, HLY.out, HST, O5, M5, B5⟩
         case measure => simp [intOf]; omega
       ·have O3 := hidP (by have h9 := O2.out; rw [← putL_no (x := x) hx0] at h9; exact h9)
        have M3 := M2
        have A3 := A2
        have B3 := B2
        by_cases hx1 : 0 < x1
        ·obtain ⟨ya, yc, wa, wc, w5, hvy, r5, o5, k5, b5b⟩ := stepX O3.out.swap hx1 (by omega) B3.out.size
         subst hvy
         have R5 := hidP r5
         have O5 := hidP o5.swap
         have M5 := hidP (k5 _ _ _ (by decide) M3.out)
         have A5 := hidP (k5 _ _ _ (by decide) A3.out)
         have B5 := hidP (B3.out.trans b5b)
         have p2 := A5.out.cell 2 (v := .int .i64 x2) rfl
         have p3 := A5.out.cell 3 (v := .int .i64 (u : Int)) rfl
         clear r5 o5 k5 b5b
         generalize putL x x0 = x' at *
         generalize putL y x1 = y' at *
         go_wp2_with (first | (at_builtin; refine wpListAppendRun rfl _ _ 26 rfl rfl rfl R5.out ?_; clear R5))
         go_roundw
         case rel => exact ⟨j + 1, u, x', y', c + x2, _, _, rfl, rfl, rfl, rfl, by go_num, by omega, hum, hu1, by omega, hcs2, HLX.out, HLY.out, HST, O5, M5, B5⟩
         case measure => simp [intOf]; omega
        ·have O5 := hidP (by have h9 := O3.out; rw [← putL_no (x := y) hx1] at h9; exact h9)
         have M5 := M3
         have B5 := B3
         generalize putL x x0 = x' at *
         generalize putL y x1 = y' at *
         go_wp2
         go_roundw
         case rel => exact ⟨j + 1, u, x', y', c + x2, _, _, rfl, rfl, rfl, rfl, by go_num, by omega, hum, hu1, by omega, hcs2, HLX.out, HLY.out, HST, O5, M5, B5⟩
         case measure => simp [intOf]; omega
      ·have HIN := hidP (fun W => (refIn (el ks j) 0 (((el l t).2.length : Int) - 1) false W (by unfold inB; simp; omega)).mono (R' := fun e w' => e = .returned (.bool false) ∧ w' = W) fun _ _ h9 => ⟨h9.1, h9.2.symm⟩)
       have HNO := hidP (flwA_none HRF.out HKL.out (hI.out.stop (by rw [HKN.out]; exact hjn) (by rw [Int.toNat_natCast]; omega)))
       generalize el ks j = kk at *
       generalize (el l t).2.length = L at *
       go_wp2
       go_quiet (first | (go_at_call 36; (with_reducible refine Calls.quiet_of_same (HIN.out _))))
       go_wp2
       exact bodyPost_ret (res_fourR _ _ _ _ _ _ rfl rfl rfl rfl) rfl (FlwRes.err HNO.out (below_dNb hb.out _))
    ·have hnl : ¬ (j : Int) < (n : Int) := by omega
     obtain rfl : j = n := by omega
     have HFI := hidP (by have h9 := hI.out; rw [← HKN.out] at h9; exact h9.fin)
     by_cases hqn : q < 0
     ·have HNO := hidP (flwA_none HRF.out HKL.out (by rw [HFI.out, if_pos (.inl hqn)]))
      have hdq : decide (q < 0) = true := decide_eq_true hqn
      go_wp2
      exact bodyPost_ret (res_fourR _ _ _ _ _ _ rfl rfl rfl rfl) rfl (FlwRes.err HNO.out hb.out)
     ·obtain ⟨t, rfl⟩ : ∃ t : Nat, q = (t : Int) := ⟨q.toNat, by omega⟩
      have htN : t < N := by omega
      have hdq : decide ((t : Int) < 0) = false := decide_eq_false hqn
      obtain ⟨b0, off0, va, rfl, hb0l, g0, g1, gA⟩ := HC.out t htN
      have g0 := (hb.out.cell (p := ⟨b0, off0 + t * 2, none⟩) hb0l).trans g0
      have hf : 0 ≤ (el l t).1 ∧ (el l t).1 ≤ 1000000001 := HR.out.rgt.fin t (show t < l.length by rw [HN.out]; exact htN)
      rw [Int.toNat_natCast] at HFI
      clear g1 gA
      generalize (el l t).1 = fq at *
      by_cases hfi : fq = 1000000001
      ·have HNO := hidP (flwA_none HRF.out HKL.out (by rw [HFI.out, if_pos (.inr hfi)]))
       subst hfi
       go_wp2
       exact bodyPost_ret (res_fourR _ _ _ _ _ _ rfl rfl rfl rfl) rfl (FlwRes.err HNO.out hb.out)
      ·have hfb : (fq == 1000000001) = false := by simpa using hfi
       have HSM := hidP (HFI.out.trans (if_neg (by rintro (h9 | h9); exact hqn h9; exact hfi h9)))
       have hcc0 : 0 ≤ c + fq := by omega
       have hcc1 : c + fq ≤ 500000000000 := by omega
       by_cases hov : (1000000000 : Int) < c + fq
       ·have HNO := hidP (flwA_over HRF.out HKL.out HSM.out hov)
        go_wp2
        exact bodyPost_ret (res_fourR _ _ _ _ _ _ rfl rfl rfl rfl) rfl (FlwRes.err HNO.out hb.out)
       ·have HOK := hidP (flwA_ok HRF.out HKL.out HSM.out hov)
        go_wp2
        exact bodyPost_ret (res_fourR _ _ _ _ _ _ rfl rfl rfl rfl) rfl ⟨_, _, x, y, c + fq, 0, rfl, HOK.out, Row.ofOwn encI1_len hO.out.hx rfl, Row.ofOwn encI1_len hO.out.hy rfl, hb.out⟩
 ·have HA := hidP (flwA_bad (ks := ks) hr)
  generalize faultM (z, l) = r at *
  clear hS hok hk hl hn hc hkg
  go_enter Try.func18, Try.ntmps18
  go_wp2_with (first
   | (go_at_call 35; (with_reducible refine (HCK.out _ (by go_grown)).mono ?_); rintro e w1 ⟨rfl, hb⟩; obtain ⟨s1, b1, hb1⟩ := boxed hb (by simp); have HB1 := hidP hb1; clear hb b1 hb1))
  exact bodyPost_ret (res_fourR _ _ _ _ _ _ rfl rfl rfl rfl) rfl (FlwRes.err HA.out HB1.out)
end Go.Proofs.Ytobhjhjfannnnaa.Bw
namespace Go.Proofs.Ytobhjhjfannnnaa.Wt
open Go.ChangeShapes Go.WideShapes Go.ChangeAt Go.RowKit
open Go.Proofs.Ytobhjhjfannnnaa.Pl
set_option linter.unusedVariables false
set_option linter.unusedSimpArgs false
theorem sameNums_any (v1 v2 : Value) (l : List Int) (w : World) (h1 : Nums w v1 l) (h2 : Nums w v2 l) (hl : l.length ≤ 17592186044416) :
  Calls Try.prog 12 #[v1, v2] w fun e w' => e = .returned (.bool true) ∧ Below w.heap.size w w' := by
 obtain ⟨a, cap, rfl, hc⟩ := h1.get
 obtain ⟨a2, cap2, rfl, hc2⟩ := h2.get
 have HC : Hid (∀ j, j < l.length → ∃ b off, a = some ⟨b, off, none⟩ ∧ b < w.heap.size ∧ w.cell? ⟨b, off + j, none⟩ = some (.int .i64 (el l j))) := hc
 have HC2 : Hid (∀ j, j < l.length → ∃ b off, a2 = some ⟨b, off, none⟩ ∧ b < w.heap.size ∧ w.cell? ⟨b, off + j, none⟩ = some (.int .i64 (el l j))) := hc2
 clear h1 h2 hc hc2
 generalize l.length = n at *
 go_enter Try.func12, Try.ntmps12
 go_wp2
 go_loopw [5] (fun i wr => ∃ k q : Nat, k ≤ n ∧ i = .int .i64 k ∧ wr = w.drewN q) (fun i _ => n - (intOf i).toNat)
 case atStart => exact ⟨0, 0, Nat.zero_le _, rfl, (World.drewN_zero w).symm⟩
 case round =>
  obtain ⟨k, q, hk, rfl, rfl⟩ := hrel
  by_cases hlt : k < n
  ·obtain ⟨b, off, rfl, _, g0⟩ := HC.out k hlt
   obtain ⟨b2, off2, rfl, _, r0⟩ := HC2.out k hlt
   have hk0 : (0 : Int) ≤ (k : Int) := by omega
   have hk1 : (k : Int) < (n : Int) := by omega
   generalize el l k = x at *
   go_wp2
   go_quiet (fail)
   go_wp2
   go_roundw
   case rel => exact ⟨k + 1, q + nq, by omega, by go_num, by first | rfl | rw [World.drewN_drewN]⟩
   case measure => simp [intOf]; omega
  ·have hnl : ¬ (k : Int) < (n : Int) := by omega
   go_wp2
   go_ret
   exact ⟨rfl, below_drewN (Below.refl _ _) q⟩
end Go.Proofs.Ytobhjhjfannnnaa.Wt
namespace Go.Proofs.Ytobhjhjfannnnaa.Wt
open Go.ChangeShapes Go.WideShapes Go.ChangeAt Go.RowKit
open Go.Proofs.Ytobhjhjfannnnaa.Pl
set_option linter.unusedVariables false
def IsRow (k : IntKind) (w : World) (a : Option Addr) (len cap : Nat) (zs : List Int) : Prop :=
 (a = none ∧ len = 0 ∧ cap = 0 ∧ zs = []) ∨
 ∃ x, a = some x ∧ len ≤ cap ∧ cap ≤ maxLen ∧ zs.length = cap ∧ (∀ i, i < zs.length → w.cell? (x.add i) = some (.int k (zs.getD i 0))) ∧ ∀ n ∈ zs, (Lit.int k n).wf = true
end Go.Proofs.Ytobhjhjfannnnaa.Wt
namespace Go.Proofs.Ytobhjhjfannnnaa.Wt
open Go.ChangeShapes Go.WideShapes Go.ChangeAt Go.RowKit
open Go.Proofs.Ytobhjhjfannnnaa.Pl
set_option linter.unusedVariables false
set_option linter.unusedSimpArgs false
theorem row_nums {w : World} {a : Option Addr} {len cap : Nat} {zs : List Int} (h : IsRow .i64 w a len cap zs) : Nums w (.slice a len cap) (zs.take len) ∧ (zs.take len).length = len ∧ len ≤ cap := by
  rcases h with ⟨rfl, rfl, rfl, rfl⟩ | ⟨x, rfl, h1, h2, h3, h4, h5⟩
  · exact ⟨.inl ⟨rfl, rfl⟩, rfl, Nat.le_refl _⟩
  · have hl : (zs.take len).length = len := by rw [List.length_take]; omega
    refine ⟨.inr ⟨x, cap, by rw [hl], fun j hj i u hu => ?_⟩, hl, h1⟩
    match i, hu with
    | 0, hu =>
      simp [encI1] at hu
      subst hu
      rw [hl] at hj
      rw [Nat.mul_one, Nat.add_zero, h4 j (by omega)]
      have h6 : j < zs.length := by omega
      simp [el, List.getElem?_take, hj, h6, List.getD_eq_getElem?_getD]
    | i + 1, hu => simp [encI1] at hu
theorem ints_nums (v : Value) (l : List Int) (w : World) (h : Nums w v l) (hok : l.length * 8 ≤ 140737488351232) :
  Calls Try.prog 16 #[v] w fun e w' => ∃ v', e = .returned v' ∧ Nums w' v' l ∧ Below w.heap.size w w' := by
 obtain ⟨i0, hi0, hz0, hz1, hz2⟩ := info_parts infoIntU
 obtain ⟨v1, w1, r1, ho1, hg1⟩ := run_append_rows (P := Try.prog) (w := w) encI1_len (by decide) encI1_one 26 26 w.heap.size 3 i0 _ 8 Try.underlying26 hi0 hz0 hz1 hz2 rfl (.slice none 0 0) 0 [] (World.ownsRow_nil _ _ _ _) v l h (by unfold maxLen; omega) (by omega) (Nat.le_refl _)
 have HR1 := hidP r1
 have HX : Hid (Nums w1 v1 l) := Row.ofOwn encI1_len (own_zero ho1) rfl
 have HB : Hid (Below w.heap.size w w1) := below_new (Nat.le_refl _) hg1
 clear r1 ho1 hg1 h
 go_enter Try.func16, Try.ntmps16
 go_wp2_with (first
  | (at_builtin; refine wpListAppendRun rfl _ _ 26 rfl rfl rfl HR1.out ?_; clear HR1))
 go_ret
 exact ⟨_, rfl, HX.out, HB.out⟩
end Go.Proofs.Ytobhjhjfannnnaa.Wt
