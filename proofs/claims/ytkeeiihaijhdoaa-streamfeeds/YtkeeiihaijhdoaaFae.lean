/- The reference's bestOf; the program's areLabels, mayBe, risesWithin. -/
import Derived.Test.YtkeeiihaijhdoaaFad
import Derived.Test.YtkeeiihaijhdoaaFab
namespace Go.Proofs.Ytkeeiihaijhdoaa.Sm
open Go.ChangeShapes Go.WideShapes Go.ChangeAt Go.RowKit
open Go.Proofs.Ytkeeiihaijhdoaa.Pl Go.Proofs.Ytkeeiihaijhdoaa.Wt
set_option linter.unusedVariables false
set_option linter.unusedSimpArgs false
set_option maxRecDepth 100000 in
theorem bestOf_any (va vb : Value) (ka kb : Mk) (w : World) (ha : MkIs w va ka) (hb : MkIs w vb kb) (hs : kb.2.2.length ≤ 17592186044000) :
  Calls Try.prog 42 #[va, vb] w fun e w' => e = .returned (if ka.1 < 0 ∨ (0 ≤ kb.1 ∧ betB kb.2 ka.2 = true) then vb else va) ∧ Below w.heap.size w w' := by
 have HA0 : Hid (MkIs w va ka) := ha
 have HB0 : Hid (MkIs w vb kb) := hb
 obtain ⟨qa, xa, la⟩ := ka
 obtain ⟨qb, xb, lb⟩ := kb
 obtain ⟨voa, rfl, na⟩ := ha
 obtain ⟨vob, rfl, nb⟩ := hb
 simp only at na nb hs ⊢
 obtain ⟨aa, ca, rfl⟩ := Row.sl na
 obtain ⟨ab, cb, rfl⟩ := Row.sl nb
 generalize hR : (if qa < 0 ∨ (0 ≤ qb ∧ betB (xb, lb) (xa, la) = true) then (.agg #[.int .i64 qb, .int .i64 xb, .slice ab lb.length cb] : Value) else .agg #[.int .i64 qa, .int .i64 xa, .slice aa la.length ca]) = R
 have HQ := hidP hR
 clear na nb hR
 have hB : Below w.heap.size w (((w.alloc (.cells #[.int .i64 qa, .int .i64 xa, .slice aa la.length ca] 67)).alloc (.cells #[.int .i64 qb, .int .i64 xb, .slice ab lb.length cb] 67)).alloc (.cells #[.int .i64 0, .int .i64 0, .slice none 0 0] 67)) := by go_grown
 have HA : Hid (MkIs (((w.alloc (.cells #[.int .i64 qa, .int .i64 xa, .slice aa la.length ca] 67)).alloc (.cells #[.int .i64 qb, .int .i64 xb, .slice ab lb.length cb] 67)).alloc (.cells #[.int .i64 0, .int .i64 0, .slice none 0 0] 67)) (.agg #[.int .i64 qa, .int .i64 xa, .slice aa la.length ca]) (qa, xa, la)) := HA0.out.later hB (Nat.le_refl _)
 have HB : Hid (MkIs (((w.alloc (.cells #[.int .i64 qa, .int .i64 xa, .slice aa la.length ca] 67)).alloc (.cells #[.int .i64 qb, .int .i64 xb, .slice ab lb.length cb] 67)).alloc (.cells #[.int .i64 0, .int .i64 0, .slice none 0 0] 67)) (.agg #[.int .i64 qb, .int .i64 xb, .slice ab lb.length cb]) (qb, xb, lb)) := HB0.out.later hB (Nat.le_refl _)
 have HU := hidP hB
 clear hB HA0 HB0
 by_cases h1 : qa < 0
 ·have HR : Hid (R = .agg #[.int .i64 qb, .int .i64 xb, .slice ab lb.length cb]) := by show _ = _; rw [← HQ.out, if_pos (.inl h1)]
  clear HA HB
  go_enter Try.func42, Try.ntmps42
  go_wp2
  exact bodyPost_ret (v := .agg #[.int .i64 qb, .int .i64 xb, .slice ab lb.length cb]) (by simp [results, Try.results42, go_sem, *]) rfl ⟨by rw [HR.out], by have h9 := HU.out; go_grown⟩
 ·by_cases h2 : 0 ≤ qb
  ·by_cases h3 : betB (xb, lb) (xa, la) = true
   ·have HR : Hid (R = .agg #[.int .i64 qb, .int .i64 xb, .slice ab lb.length cb]) := by show _ = _; rw [← HQ.out, if_pos (.inr ⟨h2, h3⟩)]
    have H3 := hidP h3
    clear h3
    go_enter Try.func42, Try.ntmps42
    go_wp2_with (first
     | (go_at_call 61; (with_reducible refine (better_any _ _ (qb, xb, lb) (qa, xa, la) _ HB.out HA.out hs).mono ?_); rintro e w1 ⟨rfl, hb⟩; obtain ⟨s1, b1, b2, b3, hb1⟩ := boxedThree hb (by simp); have HB1 : Hid (Below w.heap.size w w1) := hb1; have e0 := b2.cell 0 (v := .int .i64 qb) rfl; have e1 := b2.cell 1 (v := .int .i64 xb) rfl; have e2 := b2.cell 2 (v := .slice ab lb.length cb) rfl; have d0 := b3.cell 0 (v := .int .i64 0) rfl; have d1 := b3.cell 1 (v := .int .i64 0) rfl; have d2 := b3.cell 2 (v := .slice none 0 0) rfl; have g0 := b3.fz 0; have g1 := b3.fz 1; have g2 := b3.fz 2; rw [H3.out]; clear b1 b2 b3 hb1 hb))
    exact bodyPost_ret (v := .agg #[.int .i64 qb, .int .i64 xb, .slice ab lb.length cb]) (by simp [results, Try.results42, go_sem, *]) rfl ⟨by rw [HR.out], by have h9 := HB1.out; go_grown⟩
   ·have HR : Hid (R = .agg #[.int .i64 qa, .int .i64 xa, .slice aa la.length ca]) := by show _ = _; rw [← HQ.out, if_neg (by rintro (h | ⟨_, h⟩) <;> contradiction)]
    have H3 : Hid (betB (xb, lb) (xa, la) = false) := by show _ = _; simpa using h3
    clear h3
    go_enter Try.func42, Try.ntmps42
    go_wp2_with (first
     | (go_at_call 61; (with_reducible refine (better_any _ _ (qb, xb, lb) (qa, xa, la) _ HB.out HA.out hs).mono ?_); rintro e w1 ⟨rfl, hb⟩; obtain ⟨s1, b1, b2, b3, hb1⟩ := boxedThree hb (by simp); have HB1 : Hid (Below w.heap.size w w1) := hb1; have e0 := b1.cell 0 (v := .int .i64 qa) rfl; have e1 := b1.cell 1 (v := .int .i64 xa) rfl; have e2 := b1.cell 2 (v := .slice aa la.length ca) rfl; have d0 := b3.cell 0 (v := .int .i64 0) rfl; have d1 := b3.cell 1 (v := .int .i64 0) rfl; have d2 := b3.cell 2 (v := .slice none 0 0) rfl; have g0 := b3.fz 0; have g1 := b3.fz 1; have g2 := b3.fz 2; rw [H3.out]; clear b1 b2 b3 hb1 hb))
    exact bodyPost_ret (v := .agg #[.int .i64 qa, .int .i64 xa, .slice aa la.length ca]) (by simp [results, Try.results42, go_sem, *]) rfl ⟨by rw [HR.out], by have h9 := HB1.out; go_grown⟩
  ·have HR : Hid (R = .agg #[.int .i64 qa, .int .i64 xa, .slice aa la.length ca]) := by show _ = _; rw [← HQ.out, if_neg (by rintro (h | ⟨h, _⟩) <;> contradiction)]
   clear HA HB
   go_enter Try.func42, Try.ntmps42
   go_wp2
   exact bodyPost_ret (v := .agg #[.int .i64 qa, .int .i64 xa, .slice aa la.length ca]) (by simp [results, Try.results42, go_sem, *]) rfl ⟨by rw [HR.out], by have h9 := HU.out; go_grown⟩
set_option maxRecDepth 100000 in
theorem areLabels_any (v : Value) (l : List Int) (w : World) (h : Nums w v l) (hl : l.length ≤ 17592186044000) :
  Calls Try.prog 36 #[v] w fun e w' => e = .returned (.bool (labB l)) ∧ w = w' := by
 obtain ⟨a, cap, rfl, hc⟩ := h.get
 have HC : Hid (∀ j, j < l.length → ∃ b off, a = some ⟨b, off, none⟩ ∧ b < w.heap.size ∧ w.cell? ⟨b, off + j, none⟩ = some (.int .i64 (el l j))) := hc
 have HS : Hid (∀ k, k < l.length → labB (l.drop k) = (inB (el l k) 1 1000 && labB (l.drop (k + 1)))) := fun k hk => labB_drop hk
 have HE : Hid (labB (l.drop l.length) = true) := by rw [List.drop_length]; rfl
 have HG : Hid (labB l = labB (l.drop 0)) := rfl
 clear h hc
 generalize labB l = r at *
 generalize l.length = n at *
 go_enter Try.func36, Try.ntmps36
 go_wp2
 go_loop [7] (fun i => ∃ k : Nat, k ≤ n ∧ i = .int .i64 k ∧ Hid (r = labB (l.drop k))) (fun i => n - (intOf i).toNat)
 case atStart => exact ⟨0, Nat.zero_le _, rfl, HG⟩
 case round =>
  clear HG
  obtain ⟨k, hk, rfl, hg⟩ := hrel
  by_cases hlt : k < n
  ·have hlt' : (k : Int) < (n : Int) := by omega
   have hk0 : (0 : Int) ≤ (k : Int) := by omega
   obtain ⟨b, off, rfl, hb, g0⟩ := HC.out k hlt
   have HN : Hid (r = (inB (el l k) 1 1000 && labB (l.drop (k + 1)))) := by show r = _; rw [hg.out, HS.out k hlt]
   clear hg
   generalize el l k = p at *
   have ways : p ≤ 0 ∨ (¬ p ≤ 0 ∧ (1000 : Int) < p) ∨ (¬ p ≤ 0 ∧ ¬ (1000 : Int) < p) := by omega
   rcases ways with h1 | ⟨h1, h2⟩ | ⟨h1, h2⟩
   ·have hr : r = false := by rw [HN.out]; simp [inB]; omega
    subst hr
    clear HN
    go_wp2
    go_ret
    exact ⟨rfl, rfl⟩
   ·have hr : r = false := by rw [HN.out]; simp [inB]; omega
    subst hr
    clear HN
    go_wp2
    go_ret
    exact ⟨rfl, rfl⟩
   ·have HN' : Hid (r = labB (l.drop (k + 1))) := by
     show r = _
     rw [HN.out, show inB p 1 1000 = true by simp [inB]; omega, Bool.true_and]
    clear HN
    go_wp2
    go_round
    case rel => exact ⟨k + 1, by omega, by go_num, HN'⟩
    case measure => simp [intOf]; omega
  ·have hnl : ¬ (k : Int) < (n : Int) := by omega
   have hkn : k = n := by omega
   have hr : r = true := by rw [hg.out, hkn, HE.out]
   subst hr
   clear hg
   go_wp2
   go_ret
   exact ⟨rfl, rfl⟩
set_option maxRecDepth 100000 in
theorem mayBe_any (v : Value) (k : Mk) (w : World) (h : MkIs w v k) :
  Calls Try.prog 59 #[v] w fun e w' => e = .returned (.bool (mkB k)) ∧ Below w.heap.size w w' := by
 obtain ⟨q, x, l⟩ := k
 obtain ⟨vo, rfl, hn⟩ := h
 simp only at hn ⊢
 have HN : Hid (Nums w vo l) := hn
 obtain ⟨a, c, rfl⟩ := Row.sl hn
 clear hn
 have HU : Hid (Below w.heap.size w (w.alloc (.cells #[.int .i64 q, .int .i64 x, .slice a l.length c] 67))) := by show Below _ _ _; go_grown
 have HM : Hid (mkB (q, x, l) = (inB x 0 1000000000 && decide (l.length ≤ 800) && labB l)) := rfl
 generalize mkB (q, x, l) = r at *
 have ways : x < 0 ∨ (0 ≤ x ∧ (1000000000 : Int) < x) ∨ (0 ≤ x ∧ x ≤ 1000000000) := by omega
 rcases ways with h1 | ⟨h1, h2⟩ | ⟨h1, h2⟩
 ·have hr : r = false := by rw [HM.out]; simp [inB]; omega
  subst hr
  have h1' : ¬ (0 : Int) ≤ x := by omega
  clear HM
  go_enter Try.func59, Try.ntmps59
  go_wp2
  go_ret
  exact ⟨rfl, HU.out⟩
 ·have hr : r = false := by rw [HM.out]; simp [inB]; omega
  subst hr
  have h2' : ¬ x ≤ 1000000000 := by omega
  clear HM
  go_enter Try.func59, Try.ntmps59
  go_wp2
  go_ret
  exact ⟨rfl, HU.out⟩
 ·by_cases h3 : l.length ≤ 800
  ·have hr : r = labB l := by rw [HM.out]; simp [inB, h1, h2, h3]
   subst hr
   have h3' : (l.length : Int) ≤ 800 := by omega
   clear HM
   go_enter Try.func59, Try.ntmps59
   go_wp2_with (first
    | (go_at_call 36; (with_reducible refine (areLabels_any _ l _ (HN.out.later HU.out (Nat.le_refl _)) (by omega)).mono ?_); rintro e w1 ⟨rfl, rfl⟩))
   go_ret
   exact ⟨rfl, HU.out⟩
  ·have hr : r = false := by rw [HM.out]; simp [h3]
   subst hr
   have h3' : ¬ (l.length : Int) ≤ 800 := by omega
   clear HM
   go_enter Try.func59, Try.ntmps59
   go_wp2
   go_ret
   exact ⟨rfl, HU.out⟩
set_option maxRecDepth 100000 in
set_option maxHeartbeats 1600000 in
theorem rises_any (z : Int) (vs v : Value) (n : Nat) (l : List Mk) (w : World) (a0 : Option Addr) (cap0 : Nat) (hv : vs = .slice a0 n cap0) (h : Marks w v l) (hs : l.length * 40 ≤ 140737488351232) (hn : n ≤ 1000) :
  Calls Try.prog 58 #[.agg #[.int .i64 z, vs], v] w fun e w' => e = .returned (.bool (risB n 0 l)) ∧ Below w.heap.size w w' := by
 subst hv
 obtain ⟨a, cap, rfl, hc⟩ := h.get
 have HC : Hid (∀ j, j < l.length → ∃ b off vo, a = some ⟨b, off, none⟩ ∧ b < w.heap.size ∧ w.cell? ⟨b, off + j * 3, none⟩ = some (.int .i64 (el l j).1) ∧ w.cell? ⟨b, off + j * 3 + 1, none⟩ = some (.int .i64 (el l j).2.1) ∧ w.cell? ⟨b, off + j * 3 + 2, none⟩ = some vo ∧ Nums w vo (el l j).2.2) := hc
 have HS : Hid (∀ k (b : Int), k < l.length → risB n b (l.drop k) = (decide (b ≤ (el l k).1) && decide ((el l k).1 < n) && risB n ((el l k).1 + 1) (l.drop (k + 1)))) := fun k b hk => risB_drop hk
 have HE : Hid (∀ b : Int, risB n b (l.drop l.length) = true) := fun b => by rw [List.drop_length]; rfl
 have HG : Hid (risB n 0 l = risB n 0 (l.drop 0)) := rfl
 clear h hc
 generalize risB n 0 l = r at *
 generalize l.length = L at *
 go_enter Try.func58, Try.ntmps58
 go_wp2
 go_loopw [5, 10] (fun s5 i wr => ∃ (k : Nat) (b : Int), k ≤ L ∧ s5 = .int .i64 b ∧ i = .int .i64 k ∧ 0 ≤ b ∧ b ≤ 1000 ∧ Hid (r = risB n b (l.drop k)) ∧ wr.cell? ⟨w.heap.size, 1, none⟩ = some (.slice a0 n cap0) ∧ w.heap.size + 1 ≤ wr.heap.size ∧ Hid (Below w.heap.size w wr)) (fun _ i _ => L - (intOf i).toNat)
 case atStart => exact ⟨0, 0, Nat.zero_le _, rfl, rfl, by omega, by omega, HG, by go_cell, by simp, by show Below _ _ _; go_grown⟩
 case round =>
  clear HG
  obtain ⟨k, b, hk, rfl, rfl, hb0, hb1, hg, c0, hsz, hbw⟩ := hrel
  by_cases hlt : k < L
  ·have hlt' : (k : Int) < (L : Int) := by omega
   have hk0 : (0 : Int) ≤ (k : Int) := by omega
   obtain ⟨bb, off, vo, rfl, hbl, g0, g1, g2, hno⟩ := HC.out k hlt
   obtain ⟨ao, co, rfl⟩ := Row.sl hno
   clear hno
   have g0 := (hbw.out.cell (p := ⟨bb, off + k * 3, none⟩) hbl).trans g0
   have g1 := (hbw.out.cell (p := ⟨bb, off + k * 3 + 1, none⟩) hbl).trans g1
   have g2 := (hbw.out.cell (p := ⟨bb, off + k * 3 + 2, none⟩) hbl).trans g2
   have HN : Hid (r = (decide (b ≤ (el l k).1) && decide ((el l k).1 < n) && risB n ((el l k).1 + 1) (l.drop (k + 1)))) := by show r = _; rw [hg.out, HS.out k b hlt]
   clear hg
   generalize (el l k).1 = p at *
   generalize (el l k).2.1 = p1 at *
   have z0 : w.heap.size < wr.heap.size := by omega
   have z1 : ¬ w.heap.size = wr.heap.size := by omega
   have ways : p < b ∨ (¬ p < b ∧ (n : Int) ≤ p) ∨ (¬ p < b ∧ ¬ (n : Int) ≤ p) := by omega
   rcases ways with h1 | ⟨h1, h2⟩ | ⟨h1, h2⟩
   ·have hr : r = false := by rw [HN.out]; simp; omega
    subst hr
    clear HN
    go_wp2
    go_ret
    exact ⟨rfl, by have h9 := hbw.out; go_grown⟩
   ·have hr : r = false := by rw [HN.out]; simp; omega
    subst hr
    clear HN
    go_wp2
    go_ret
    exact ⟨rfl, by have h9 := hbw.out; go_grown⟩
   ·have HN' : Hid (r = risB n (p + 1) (l.drop (k + 1))) := by
     show r = _
     rw [HN.out, show decide (b ≤ p) = true by simp; omega, show decide (p < (n : Int)) = true by simp; omega, Bool.true_and, Bool.true_and]
    clear HN
    go_wp2
    go_roundw
    case rel => exact ⟨k + 1, p + 1, by omega, by go_num, by go_num, by omega, by omega, HN', by go_cell, by simp; omega, by show Below _ _ _; have h9 := hbw.out; go_grown⟩
    case measure => simp [intOf]; omega
  ·have hnl : ¬ (k : Int) < (L : Int) := by omega
   have hkn : k = L := by omega
   have hr : r = true := by rw [hg.out, hkn, HE.out]
   subst hr
   clear hg
   go_wp2
   go_ret
   exact ⟨rfl, hbw.out⟩
end Go.Proofs.Ytkeeiihaijhdoaa.Sm
namespace Go.Proofs.Ytkeeiihaijhdoaa.Wt
open Go.ChangeShapes Go.WideShapes Go.ChangeAt Go.RowKit
open Go.Proofs.Ytkeeiihaijhdoaa.Pl
set_option linter.unusedVariables false
set_option linter.unusedSimpArgs false
theorem sameNums_any (v1 v2 : Value) (l : List Int) (w : World) (h1 : Nums w v1 l) (h2 : Nums w v2 l) (hl : l.length ≤ 17592186044416) :
  Calls Try.prog 18 #[v1, v2] w fun e w' => e = .returned (.bool true) ∧ Below w.heap.size w w' := by
 obtain ⟨a, cap, rfl, hc⟩ := h1.get
 obtain ⟨a2, cap2, rfl, hc2⟩ := h2.get
 have HC : Hid (∀ j, j < l.length → ∃ b off, a = some ⟨b, off, none⟩ ∧ b < w.heap.size ∧ w.cell? ⟨b, off + j, none⟩ = some (.int .i64 (el l j))) := hc
 have HC2 : Hid (∀ j, j < l.length → ∃ b off, a2 = some ⟨b, off, none⟩ ∧ b < w.heap.size ∧ w.cell? ⟨b, off + j, none⟩ = some (.int .i64 (el l j))) := hc2
 clear h1 h2 hc hc2
 generalize l.length = n at *
 go_enter Try.func18, Try.ntmps18
 go_wp2
 go_loopw [5] (fun i wr => ∃ k q : Nat, k ≤ n ∧ i = .int .i64 k ∧ wr = w.drewN q) (fun i _ => n - (intOf i).toNat)
 case atStart => exact ⟨0, 0, Nat.zero_le _, rfl, (World.drewN_zero w).symm⟩
 case round =>
  obtain ⟨k, q, hk, rfl, rfl⟩ := hrel
  by_cases hlt : k < n
  ·obtain ⟨b, off, rfl, _, g0⟩ := HC.out k hlt
   obtain ⟨b2, off2, rfl, _, r0⟩ := HC2.out k hlt
   have hk0 : (0 : Int) ≤ (k : Int) := by omega
   have hk1 : (k : Int) < (n : Int) := by omega
   generalize el l k = x at *
   go_wp2
   go_quiet (fail)
   go_wp2
   go_roundw
   case rel => exact ⟨k + 1, q + nq, by omega, by go_num, by first | rfl | rw [World.drewN_drewN]⟩
   case measure => simp [intOf]; omega
  ·have hnl : ¬ (k : Int) < (n : Int) := by omega
   go_wp2
   go_ret
   exact ⟨rfl, below_drewN (Below.refl _ _) q⟩
end Go.Proofs.Ytkeeiihaijhdoaa.Wt
namespace Go.Proofs.Ytkeeiihaijhdoaa.Wt
open Go.ChangeShapes Go.WideShapes Go.ChangeAt Go.RowKit
set_option linter.unusedVariables false
theorem low {w w' : World} {a : Addr} {v : Value} (h : w.cell? a = some v) (hb : Below w.heap.size w w') : w'.cell? a = some v := (hb.cell (World.block_lt_of_cell? _ _ h)).trans h
theorem lowA {w w' : World} {o : Obj} {a : Addr} {v : Value} (h : w.cell? a = some v) (hb : Below (w.alloc o).heap.size (w.alloc o) w') : w'.cell? a = some v := low (low h ((Below.refl _ _).alloc (Nat.le_refl _) o)) hb
theorem lowN {w w' : World} {c : Value} {t : TypeId} (hb : Below (w.alloc (.cells #[c] t)).heap.size (w.alloc (.cells #[c] t)) w') : w'.cell? ⟨w.heap.size, 0, none⟩ = some c := low ((Blk.made w #[c] t).cell 0 rfl) hb
end Go.Proofs.Ytkeeiihaijhdoaa.Wt
namespace Go.Proofs.Ytkeeiihaijhdoaa.Sm
open Go.ChangeShapes Go.WideShapes Go.ChangeAt Go.RowKit
open Go.Proofs.Ytkeeiihaijhdoaa.Pl Go.Proofs.Ytkeeiihaijhdoaa.Wt
set_option linter.unusedVariables false
set_option linter.unusedSimpArgs false
def OwnM (w : World) (base : Nat) (v : Value) (l : List Mk) : Prop :=
 ∃ vs : List MkV, w.ownsRow base 67 3 v vs.length (vs.flatMap encM) ∧ vs.length = l.length ∧ ∀ j, j < l.length → (el vs j).1 = (el l j).1 ∧ (el vs j).2.1 = (el l j).2.1 ∧ OwnN w base (el vs j).2.2 (el l j).2.2
theorem OwnM.nil (w : World) (base : Nat) : OwnM w base (.slice none 0 0) [] := ⟨[], World.ownsRow_nil _ _ _ _, rfl, by simp⟩
theorem OwnM.marks {w : World} {base : Nat} {v : Value} {l : List Mk} (h : OwnM w base v l) : Marks w v l := by
 obtain ⟨vs, h1, h2, h3⟩ := h
 exact ⟨vs, Row.ofOwn encM_len h1 rfl, h2, fun j hj => ⟨(h3 j hj).1, (h3 j hj).2.1, (h3 j hj).2.2.nums⟩⟩
theorem OwnM.sl {w : World} {base : Nat} {v : Value} {l : List Mk} (h : OwnM w base v l) : ∃ a c, v = .slice a l.length c := h.marks.sl
theorem OwnM.later {w w' : World} {base : Nat} {v : Value} {l : List Mk} (h : OwnM w base v l) (hb : Below w.heap.size w w') : OwnM w' base v l := by
 obtain ⟨vs, h1, h2, h3⟩ := h
 exact ⟨vs, ownBelow h1 hb, h2, fun j hj => ⟨(h3 j hj).1, (h3 j hj).2.1, (h3 j hj).2.2.later hb⟩⟩
theorem OwnM.mono {w : World} {base base' : Nat} {v : Value} {l : List Mk} (h : OwnM w base v l) (hb : base' ≤ base) : OwnM w base' v l := by
 obtain ⟨vs, h1, h2, h3⟩ := h
 exact ⟨vs, ownMono h1 hb, h2, fun j hj => ⟨(h3 j hj).1, (h3 j hj).2.1, (h3 j hj).2.2.mono hb⟩⟩
theorem OwnM.set {w : World} {base : Nat} {v : Value} {l : List Mk} (h : OwnM w base v l) {a : Addr} (ha : a.block < base) (u : Value) : OwnM (w.setCell a u) base v l := by
 obtain ⟨vs, h1, h2, h3⟩ := h
 exact ⟨vs, ownsRow_setCell_below h1 ha u, h2, fun j hj => ⟨(h3 j hj).1, (h3 j hj).2.1, (h3 j hj).2.2.set ha u⟩⟩
theorem OwnM.push {W : World} {base : Nat} {vo va : Value} {l : List Mk} (hown : OwnM W base vo l) (k : Mk) (hva : OwnN W base va k.2.2) (hl : (l.length + 1) * 40 ≤ 140737488355328) (hbase : base ≤ W.heap.size) :
  ∃ a c w3, (Builtin.append_ #[26, 26] 26 #[vo, .slice (some ⟨W.heap.size, 0, none⟩) 1 1]).run Try.prog (W.alloc (.cells #[.int .i64 k.1, .int .i64 k.2.1, va] 67)) = .ok (.slice a (l.length + 1) c) w3 ∧ OwnM w3 base (.slice a (l.length + 1) c) (l ++ [k]) ∧ Below base W w3 := by
 obtain ⟨i1, hi1, hy0, hy1, hy2⟩ := info_parts infoMark
 obtain ⟨vs, q1, q2, q3⟩ := hown
 have hg : W.grownBy (W.alloc (.cells #[.int .i64 k.1, .int .i64 k.2.1, va] 67)) none := ⟨rfl, rfl, rfl, by simp, fun k hk _ => Below.heap_alloc W _ k hk⟩
 have e0 : (W.alloc (.cells #[.int .i64 k.1, .int .i64 k.2.1, va] 67)).heap[W.heap.size]? = some (.cells #[.int .i64 k.1, .int .i64 k.2.1, va] 67 (0, 0)) := Blk.made W _ _
 have kn : ∀ v : Value, v.ownBlock = none ∨ v.ownBlock ≠ none := fun v => by rcases v.ownBlock with _ | _ <;> simp
 have hvo := q1.kept hg (kn _)
 obtain ⟨v3, w3, hr, h1, h2, _⟩ := run_append_own (P := Try.prog) (W.alloc (.cells #[.int .i64 k.1, .int .i64 k.2.1, va] 67)) base 26 26 67 i1 _ 3 40 Try.underlying26 hi1 hy0 hy1 hy2 rfl (by omega) vo vs.length (vs.flatMap encM) hvo ⟨W.heap.size, 0, none⟩ 1 1 [.int .i64 k.1, .int .i64 k.2.1, va] rfl (World.news_of_block (cs := #[.int .i64 k.1, .int .i64 k.2.1, va]) e0) (by
  intro u hu
  simp at hu
  rcases hu with rfl | rfl | rfl
  ·rfl
  ·rfl
  ·exact own_one hva) (by rw [q2]; unfold maxLen; omega) (by rw [q2]; exact hl) (by simp; omega)
 have hO : OwnM w3 base v3 (l ++ [k]) := by
  refine ⟨vs ++ [(k.1, k.2.1, va)], by simpa [encM] using h1, by simp [q2], ?_⟩
  intro j hj
  have hj' : j < l.length ∨ j = l.length := by simp at hj; omega
  rcases hj' with hj' | rfl
  ·rw [el_left (by omega), el_left hj']
   have := World.ownsRow.kept (q3 j hj').2.2 hg (kn _)
   exact ⟨(q3 j hj').1, (q3 j hj').2.1, World.ownsRow.kept this h2 (own_apart this hvo (by decide))⟩
  ·rw [el_last, ← q2, el_last]
   have := World.ownsRow.kept hva hg (kn _)
   exact ⟨rfl, rfl, World.ownsRow.kept this h2 (own_apart this hvo (by decide))⟩
 obtain ⟨a, c, hv⟩ := hO.sl
 rw [List.length_append, List.length_singleton] at hv
 subst hv
 exact ⟨a, c, w3, hr, hO, ((Below.refl _ _).grown hg hbase (by simp)).grown h2 (by simp; omega) (own_geK hvo)⟩
theorem ints_own (v : Value) (l : List Int) (w : World) (h : Nums w v l) (hok : l.length * 8 ≤ 140737488351232) :
  Calls Try.prog 15 #[v] w fun e w' => ∃ v', e = .returned v' ∧ OwnN w' w.heap.size v' l ∧ Below w.heap.size w w' := by
 obtain ⟨i0, hi0, hz0, hz1, hz2⟩ := info_parts infoIntU
 obtain ⟨v1, w1, r1, ho1, hg1⟩ := run_append_rows (P := Try.prog) (w := w) encI1_len (by decide) encI1_one 35 35 w.heap.size 3 i0 _ 8 Try.underlying35 hi0 hz0 hz1 hz2 rfl (.slice none 0 0) 0 [] (World.ownsRow_nil _ _ _ _) v l h (by unfold maxLen; omega) (by omega) (Nat.le_refl _)
 have HR1 := hidP r1
 have HX : Hid (OwnN w1 w.heap.size v1 l) := own_zero ho1
 have HB : Hid (Below w.heap.size w w1) := below_new (Nat.le_refl _) hg1
 clear r1 ho1 hg1 h
 go_enter Try.func15, Try.ntmps15
 go_wp2_with (first
  | (at_builtin; refine wpListAppendRun rfl _ _ 35 rfl rfl rfl HR1.out ?_; clear HR1))
 go_ret
 exact ⟨_, rfl, HX.out, HB.out⟩
set_option maxRecDepth 100000 in
set_option maxHeartbeats 1600000 in
theorem runs_any (v : Value) (r : Ru) (w : World) (h : RunV w v r) (hok : okU r) :
  Calls Try.prog 14 #[v] w fun e w' => ∃ v', e = .returned v' ∧ RunV w' v' r ∧ Below w.heap.size w w' := by
 obtain ⟨z, l⟩ := r
 obtain ⟨vs, rfl, hM⟩ := h
 obtain ⟨hL, hO⟩ := hok
 simp only at hM hL hO ⊢
 obtain ⟨a, cap, rfl, hc⟩ := hM.get
 have HC : Hid (∀ j, j < l.length → ∃ b off vo, a = some ⟨b, off, none⟩ ∧ b < w.heap.size ∧ w.cell? ⟨b, off + j * 3, none⟩ = some (.int .i64 (el l j).1) ∧ w.cell? ⟨b, off + j * 3 + 1, none⟩ = some (.int .i64 (el l j).2.1) ∧ w.cell? ⟨b, off + j * 3 + 2, none⟩ = some vo ∧ Nums w vo (el l j).2.2) := hc
 have HO := hidP hO
 clear hM hc hO
 generalize hn : l.length = n at *
 have HLN := hidP hn
 clear hn
 go_enter Try.func14, Try.ntmps14
 go_wp2
 go_loopw [4] (fun i wr => ∃ (k : Nat) (vo : Value), k ≤ n ∧ i = .int .i64 k ∧ Hid (OwnM wr (w.heap.size + 3) vo (l.take k)) ∧ Hid (Blk wr w.heap.size #[.int .i64 z, .slice a n cap] 28) ∧ Hid (Blk wr (w.heap.size + 1) #[.int .i64 0, .slice none 0 0] 28) ∧ Hid (Blk wr (w.heap.size + 2) #[.int .i64 z, vo] 28) ∧ w.heap.size + 3 ≤ wr.heap.size ∧ Hid (Below w.heap.size w wr)) (fun i _ => n - (intOf i).toNat)
 case atStart => exact ⟨0, .slice none 0 0, Nat.zero_le _, rfl, OwnM.nil _ _, blk_a _ _ _ _ _, blk_b _ _ _ _ _, blk_c _ _ _ _ _, by simp, by show Below _ _ _; go_grown⟩
 case round =>
  obtain ⟨k, vo, hk, rfl, hown, b0, b1, b2, hs, hb⟩ := hrel
  obtain ⟨ar, cr, hvo⟩ := hown.out.sl
  subst hvo
  have hlk : (l.take k).length = k := by rw [List.length_take, HLN.out]; omega
  rw [hlk] at hown b2
  clear hlk
  have c1 := b0.out.cell 1 (v := .slice a n cap) rfl
  have c2 := b2.out.cell 0 (v := .int .i64 z) rfl
  have c3 := b2.out.cell 1 (v := .slice ar k cr) rfl
  by_cases hlt : k < n
  ·obtain ⟨b, off, vi, rfl, hbl, g0, g1, g2, hN⟩ := HC.out k hlt
   have g0 := (hb.out.cell (p := ⟨b, off + k * 3, none⟩) hbl).trans g0
   have g1 := (hb.out.cell (p := ⟨b, off + k * 3 + 1, none⟩) hbl).trans g1
   have g2 := (hb.out.cell (p := ⟨b, off + k * 3 + 2, none⟩) hbl).trans g2
   obtain ⟨ai, ci, rfl⟩ := Row.sl hN
   have HN : Hid (Nums wr (.slice ai (el l k).2.2.length ci) (el l k).2.2) := hN.later hb.out (Nat.le_refl _)
   have HT : Hid (l.take (k + 1) = l.take k ++ [el l k]) := take_el (by rw [HLN.out]; exact hlt)
   have HOk := hidP (HO.out k hlt)
   have hk0 : (0 : Int) ≤ (k : Int) := by omega
   have hk1 : (k : Int) < (n : Int) := by omega
   have z0 : w.heap.size < wr.heap.size := by omega
   have z1 : w.heap.size + 1 < wr.heap.size := by omega
   have z2 : w.heap.size + 2 < wr.heap.size := by omega
   have z3 : w.heap.size + 1 + 1 < wr.heap.size := by omega
   clear hN
   generalize el l k = p at *
   obtain ⟨p0, p1, p2⟩ := p
   simp only at g0 g1 g2
   go_wp2_with (first
    | (go_at_call 15; (with_reducible refine (ints_own _ p2 _ (HN.out.later ((Below.refl _ _).alloc (Nat.le_refl _) _) (Nat.le_refl _)) HOk.out).mono ?_); rintro e w1 ⟨v1, rfl, ho, hb1⟩; obtain ⟨a1, k1, rfl⟩ := ho.sl; obtain ⟨s1, bM, hb2⟩ := boxed hb1 (by simp); have e0 := bM.cell 0 (v := .int .i64 p0) rfl; have e1 := bM.cell 1 (v := .int .i64 p1) rfl; have e2 := bM.cell 2 (v := .slice ai p2.length ci) rfl; have f2 := bM.fz 2; have d1 := low c3 hb2; have d0 := low c2 hb2; have fd := (Blk.below b2.out hb2 (by omega)).fz 1; have HB2 : Hid (Below wr.heap.size wr (w1.setCell ⟨wr.heap.size, 2, none⟩ (.slice a1 p2.length k1))) := (by show Below _ _ _; go_grown); have hM0 := hown.out.later HB2.out; have hN0 : OwnN (w1.setCell ⟨wr.heap.size, 2, none⟩ (.slice a1 p2.length k1)) (w.heap.size + 3) (.slice a1 p2.length k1) p2 := (ho.set (by show wr.heap.size < _; simp) _).mono (by simp; omega); obtain ⟨a3, k3, w3, r3, ho3, hb3⟩ := hM0.push (p0, p1, p2) hN0 (by rw [List.length_take, HLN.out]; omega) (by simp; omega); rw [show (l.take k).length = k by rw [List.length_take, HLN.out]; omega] at r3 ho3; simp only [World.size_setCell] at r3; have HR3 := hidP r3; have HO3 := hidP ho3; have HB3 := hidP (Below.trans (Below.mono HB2.out hs) hb3); have u0 := (Blk.below b2.out HB3.out (by omega)).cell 1 (v := .slice ar k cr) rfl; have u1 := (Blk.below b2.out HB3.out (by omega)).fz 1; have t1 : wr.heap.size < w1.heap.size := (by omega); have t2 : w.heap.size < w1.heap.size := (by omega); have t3 : w.heap.size + 1 < w1.heap.size := (by omega); have t4 : w.heap.size + 2 < w1.heap.size := (by omega); have t5 : w.heap.size + 1 + 1 < w1.heap.size := (by omega); clear ho hb1 bM hb2 hM0 hN0 r3 ho3 hb3)
    | (at_builtin; refine wpListAppendRun rfl _ _ 26 rfl rfl rfl HR3.out ?_; clear HR3))
   go_roundw
   case rel => exact ⟨k + 1, _, by omega, by go_num, by rw [HT.out]; exact HO3.out.set (by show w.heap.size + 2 < _; omega) _, (b0.out.below HB3.out (by omega)).setO _ _ (by show w.heap.size ≠ w.heap.size + 2; omega), (b1.out.below HB3.out (by omega)).setO _ _ (by show w.heap.size + 1 ≠ w.heap.size + 2; omega), (b2.out.below HB3.out (by omega)).set 1 _, by have := HB3.out.size; simp; omega, (hb.out.trans (HB3.out.mono (by omega))).setCell (by show _ ≤ w.heap.size + 2; omega) _⟩
   case measure => simp [intOf]; omega
  ·have hke : k = n := by omega
   have HS : Hid (OwnM wr (w.heap.size + 3) (.slice ar n cr) l) := by
    show OwnM _ _ _ _
    have h := hown.out
    rw [hke] at h
    rwa [List.take_of_length_le (by rw [HLN.out]; omega)] at h
   rw [hke] at c3
   have hnl : ¬ (k : Int) < (n : Int) := by omega
   have e0 := b1.out.cell 0 (v := .int .i64 0) rfl
   have e1 := b1.out.cell 1 (v := .slice none 0 0) rfl
   have e2 := b1.out.fz 0
   have e3 := b1.out.fz 1
   clear hown
   go_wp2
   exact bodyPost_ret (v := .agg #[.int .i64 z, .slice ar n cr]) (by simp [results, Try.results14, go_sem, *]) rfl ⟨_, rfl, ⟨_, rfl, ((HS.out.set (by show w.heap.size + 1 < _; omega) _).set (by show w.heap.size + 1 < _; omega) _).marks⟩, by have h9 := hb.out; go_grown⟩
set_option maxRecDepth 100000 in
set_option maxHeartbeats 1600000 in
theorem sameRun_any (v1 v2 : Value) (r : Ru) (w : World) (h1 : RunV w v1 r) (h2 : RunV w v2 r) (hok : okU r) :
  Calls Try.prog 12 #[v1, v2] w fun e w' => e = .returned (.bool true) ∧ Below w.heap.size w w' := by
 obtain ⟨z, l⟩ := r
 obtain ⟨vs, rfl, hM⟩ := h1
 obtain ⟨vs2, rfl, hM2⟩ := h2
 obtain ⟨hL, hO⟩ := hok
 simp only at hM hM2 hL hO ⊢
 obtain ⟨a, cap, rfl, hc⟩ := hM.get
 obtain ⟨a2, cap2, rfl, hc2⟩ := hM2.get
 have HC : Hid (∀ j, j < l.length → ∃ b off vo, a = some ⟨b, off, none⟩ ∧ b < w.heap.size ∧ w.cell? ⟨b, off + j * 3, none⟩ = some (.int .i64 (el l j).1) ∧ w.cell? ⟨b, off + j * 3 + 1, none⟩ = some (.int .i64 (el l j).2.1) ∧ w.cell? ⟨b, off + j * 3 + 2, none⟩ = some vo ∧ Nums w vo (el l j).2.2) := hc
 have HC2 : Hid (∀ j, j < l.length → ∃ b off vo, a2 = some ⟨b, off, none⟩ ∧ b < w.heap.size ∧ w.cell? ⟨b, off + j * 3, none⟩ = some (.int .i64 (el l j).1) ∧ w.cell? ⟨b, off + j * 3 + 1, none⟩ = some (.int .i64 (el l j).2.1) ∧ w.cell? ⟨b, off + j * 3 + 2, none⟩ = some vo ∧ Nums w vo (el l j).2.2) := hc2
 have HO := hidP hO
 clear hM hM2 hc hc2 hO
 generalize hn : l.length = n at *
 have hnot : ∀ (x : Bool) (w : World), (Op.unary .not (.bool x)).run Try.prog w = .ok (.bool (!x)) w := fun _ _ => rfl
 have HU : Hid (Below w.heap.size w ((w.alloc (.cells #[.int .i64 z, .slice a n cap] 28)).alloc (.cells #[.int .i64 z, .slice a2 n cap2] 28))) := by show Below _ _ _; go_grown
 go_enter Try.func12, Try.ntmps12
 go_wp2
 go_loopw [5] (fun i wr => ∃ k : Nat, k ≤ n ∧ i = .int .i64 k ∧ wr.cell? ⟨w.heap.size, 1, none⟩ = some (.slice a n cap) ∧ wr.cell? ⟨w.heap.size + 1, 1, none⟩ = some (.slice a2 n cap2) ∧ w.heap.size + 2 ≤ wr.heap.size ∧ Hid (Below w.heap.size w wr)) (fun i _ => n - (intOf i).toNat)
 case atStart => exact ⟨0, Nat.zero_le _, rfl, by go_cell, by go_cell, by simp, by show Below _ _ _; exact HU.out⟩
 case round =>
  obtain ⟨k, hk, rfl, c1, c2, hs, hb⟩ := hrel
  by_cases hlt : k < n
  ·obtain ⟨b, off, vo, rfl, hbl, g0, g1, g2, hN⟩ := HC.out k hlt
   obtain ⟨b2, off2, vo2, rfl, hbl2, r0, r1, r2, hN2⟩ := HC2.out k hlt
   have g0 := (hb.out.cell (p := ⟨b, off + k * 3, none⟩) hbl).trans g0
   have g1 := (hb.out.cell (p := ⟨b, off + k * 3 + 1, none⟩) hbl).trans g1
   have g2 := (hb.out.cell (p := ⟨b, off + k * 3 + 2, none⟩) hbl).trans g2
   have r0 := (hb.out.cell (p := ⟨b2, off2 + k * 3, none⟩) hbl2).trans r0
   have r1 := (hb.out.cell (p := ⟨b2, off2 + k * 3 + 1, none⟩) hbl2).trans r1
   have r2 := (hb.out.cell (p := ⟨b2, off2 + k * 3 + 2, none⟩) hbl2).trans r2
   have HOk := hidP (HO.out k hlt)
   obtain ⟨ao, co, rfl⟩ := Row.sl hN
   obtain ⟨ao2, co2, rfl⟩ := Row.sl hN2
   have z0 : w.heap.size < wr.heap.size := by omega
   have z1 : w.heap.size + 1 < wr.heap.size := by omega
   have z2 : b < wr.heap.size := by omega
   have z3 : b2 < wr.heap.size := by omega
   have hk0 : (0 : Int) ≤ (k : Int) := by omega
   have hk1 : (k : Int) < (n : Int) := by omega
   have HN : Hid (Nums wr (.slice ao (el l k).2.2.length co) (el l k).2.2) := hN.later hb.out (Nat.le_refl _)
   have HN2 : Hid (Nums wr (.slice ao2 (el l k).2.2.length co2) (el l k).2.2) := hN2.later hb.out (Nat.le_refl _)
   clear hN hN2 hbl hbl2
   generalize el l k = p at *
   obtain ⟨p0, p1, p2⟩ := p
   simp only at g0 g1 g2 r0 r1 r2 HN HN2 HOk
   have HU2 : Hid (Below wr.heap.size wr ((wr.alloc (.cells #[.int .i64 p0, .int .i64 p1, .slice ao p2.length co] 67)).alloc (.cells #[.int .i64 p0, .int .i64 p1, .slice ao2 p2.length co2] 67))) := by show Below _ _ _; go_grown
   go_wp2_with (first
    | (go_at_call 18; (with_reducible refine (sameNums_any _ _ p2 _ (HN.out.later HU2.out (Nat.le_refl _)) (HN2.out.later HU2.out (Nat.le_refl _)) (by have h9 := HOk.out; omega)).mono ?_); rintro e w1 ⟨rfl, hb1⟩; have d1 := low (low c1 HU2.out) hb1; have d2 := low (low c2 HU2.out) hb1; have HB1 : Hid (Below wr.heap.size wr w1) := HU2.out.trans (hb1.mono HU2.out.size); clear hb1))
   go_roundw
   case rel => exact ⟨k + 1, by omega, by go_num, d1, d2, by have h9 := HB1.out.size; omega, hb.out.trans (HB1.out.mono hb.out.size)⟩
   case measure => simp [intOf]; omega
  ·have hnl : ¬ (k : Int) < (n : Int) := by omega
   have hkn : k = n := by omega
   go_wp2
   go_ret
   exact ⟨rfl, hb.out⟩
end Go.Proofs.Ytkeeiihaijhdoaa.Sm
