/- The reference's bestOf; the program's areLabels, mayBe, risesWithin. -/
import Derived.Test.YtkeeiihaijhdoaaSkc
namespace Go.Proofs.Ytkeeiihaijhdoaa.Sm
open Go.ChangeShapes Go.WideShapes Go.ChangeAt Go.RowKit
open Go.Proofs.Ytkeeiihaijhdoaa.Pl Go.Proofs.Ytkeeiihaijhdoaa.Wt
set_option linter.unusedVariables false
set_option linter.unusedSimpArgs false
set_option maxRecDepth 100000 in
theorem bestOf_any (va vb : Value) (ka kb : Mk) (w : World) (ha : MkIs w va ka) (hb : MkIs w vb kb) (hs : kb.2.2.length ≤ 17592186044000) :
    Calls Try.prog 42 #[va, vb] w fun e w' => e = .returned (if ka.1 < 0 ∨ (0 ≤ kb.1 ∧ betB kb.2 ka.2 = true) then vb else va) ∧ Below w.heap.size w w' := by
  have HA0 : Hid (MkIs w va ka) := ha
  have HB0 : Hid (MkIs w vb kb) := hb
  obtain ⟨qa, xa, la⟩ := ka
  obtain ⟨qb, xb, lb⟩ := kb
  obtain ⟨voa, rfl, na⟩ := ha
  obtain ⟨vob, rfl, nb⟩ := hb
  simp only at na nb hs ⊢
  obtain ⟨aa, ca, rfl⟩ := Row.sl na
  obtain ⟨ab, cb, rfl⟩ := Row.sl nb
  generalize hR : (if qa < 0 ∨ (0 ≤ qb ∧ betB (xb, lb) (xa, la) = true) then (.agg #[.int .i64 qb, .int .i64 xb, .slice ab lb.length cb] : Value) else .agg #[.int .i64 qa, .int .i64 xa, .slice aa la.length ca]) = R
  have HQ := hidP hR
  clear na nb hR
  have hB : Below w.heap.size w (((w.alloc (.cells #[.int .i64 qa, .int .i64 xa, .slice aa la.length ca] 67)).alloc (.cells #[.int .i64 qb, .int .i64 xb, .slice ab lb.length cb] 67)).alloc (.cells #[.int .i64 0, .int .i64 0, .slice none 0 0] 67)) := by go_grown
  have HA : Hid (MkIs (((w.alloc (.cells #[.int .i64 qa, .int .i64 xa, .slice aa la.length ca] 67)).alloc (.cells #[.int .i64 qb, .int .i64 xb, .slice ab lb.length cb] 67)).alloc (.cells #[.int .i64 0, .int .i64 0, .slice none 0 0] 67)) (.agg #[.int .i64 qa, .int .i64 xa, .slice aa la.length ca]) (qa, xa, la)) := HA0.out.later hB (Nat.le_refl _)
  have HB : Hid (MkIs (((w.alloc (.cells #[.int .i64 qa, .int .i64 xa, .slice aa la.length ca] 67)).alloc (.cells #[.int .i64 qb, .int .i64 xb, .slice ab lb.length cb] 67)).alloc (.cells #[.int .i64 0, .int .i64 0, .slice none 0 0] 67)) (.agg #[.int .i64 qb, .int .i64 xb, .slice ab lb.length cb]) (qb, xb, lb)) := HB0.out.later hB (Nat.le_refl _)
  have HU := hidP hB
  clear hB HA0 HB0
  by_cases h1 : qa < 0
  · have HR : Hid (R = .agg #[.int .i64 qb, .int .i64 xb, .slice ab lb.length cb]) := by show _ = _; rw [← HQ.out, if_pos (.inl h1)]
    clear HA HB
    go_enter Try.func42, Try.ntmps42
    go_wp2
    exact bodyPost_ret (v := .agg #[.int .i64 qb, .int .i64 xb, .slice ab lb.length cb]) (by simp [results, Try.results42, go_sem, *]) rfl ⟨by rw [HR.out], by have h9 := HU.out; go_grown⟩
  · by_cases h2 : 0 ≤ qb
    · by_cases h3 : betB (xb, lb) (xa, la) = true
      · have HR : Hid (R = .agg #[.int .i64 qb, .int .i64 xb, .slice ab lb.length cb]) := by show _ = _; rw [← HQ.out, if_pos (.inr ⟨h2, h3⟩)]
        have H3 := hidP h3
        clear h3
        go_enter Try.func42, Try.ntmps42
        go_wp2_with (first
          | (go_at_call 61; (with_reducible refine (better_any _ _ (qb, xb, lb) (qa, xa, la) _ HB.out HA.out hs).mono ?_); rintro e w1 ⟨rfl, hb⟩; obtain ⟨s1, b1, b2, b3, hb1⟩ := boxedThree hb (by simp); have HB1 : Hid (Below w.heap.size w w1) := hb1; have e0 := b2.cell 0 (v := .int .i64 qb) rfl; have e1 := b2.cell 1 (v := .int .i64 xb) rfl; have e2 := b2.cell 2 (v := .slice ab lb.length cb) rfl; have d0 := b3.cell 0 (v := .int .i64 0) rfl; have d1 := b3.cell 1 (v := .int .i64 0) rfl; have d2 := b3.cell 2 (v := .slice none 0 0) rfl; have g0 := b3.fz 0; have g1 := b3.fz 1; have g2 := b3.fz 2; rw [H3.out]; clear b1 b2 b3 hb1 hb))
        exact bodyPost_ret (v := .agg #[.int .i64 qb, .int .i64 xb, .slice ab lb.length cb]) (by simp [results, Try.results42, go_sem, *]) rfl ⟨by rw [HR.out], by have h9 := HB1.out; go_grown⟩
      · have HR : Hid (R = .agg #[.int .i64 qa, .int .i64 xa, .slice aa la.length ca]) := by show _ = _; rw [← HQ.out, if_neg (by rintro (h | ⟨_, h⟩) <;> contradiction)]
        have H3 : Hid (betB (xb, lb) (xa, la) = false) := by show _ = _; simpa using h3
        clear h3
        go_enter Try.func42, Try.ntmps42
        go_wp2_with (first
          | (go_at_call 61; (with_reducible refine (better_any _ _ (qb, xb, lb) (qa, xa, la) _ HB.out HA.out hs).mono ?_); rintro e w1 ⟨rfl, hb⟩; obtain ⟨s1, b1, b2, b3, hb1⟩ := boxedThree hb (by simp); have HB1 : Hid (Below w.heap.size w w1) := hb1; have e0 := b1.cell 0 (v := .int .i64 qa) rfl; have e1 := b1.cell 1 (v := .int .i64 xa) rfl; have e2 := b1.cell 2 (v := .slice aa la.length ca) rfl; have d0 := b3.cell 0 (v := .int .i64 0) rfl; have d1 := b3.cell 1 (v := .int .i64 0) rfl; have d2 := b3.cell 2 (v := .slice none 0 0) rfl; have g0 := b3.fz 0; have g1 := b3.fz 1; have g2 := b3.fz 2; rw [H3.out]; clear b1 b2 b3 hb1 hb))
        exact bodyPost_ret (v := .agg #[.int .i64 qa, .int .i64 xa, .slice aa la.length ca]) (by simp [results, Try.results42, go_sem, *]) rfl ⟨by rw [HR.out], by have h9 := HB1.out; go_grown⟩
    · have HR : Hid (R = .agg #[.int .i64 qa, .int .i64 xa, .slice aa la.length ca]) := by show _ = _; rw [← HQ.out, if_neg (by rintro (h | ⟨h, _⟩) <;> contradiction)]
      clear HA HB
      go_enter Try.func42, Try.ntmps42
      go_wp2
      exact bodyPost_ret (v := .agg #[.int .i64 qa, .int .i64 xa, .slice aa la.length ca]) (by simp [results, Try.results42, go_sem, *]) rfl ⟨by rw [HR.out], by have h9 := HU.out; go_grown⟩
set_option maxRecDepth 100000 in
theorem areLabels_any (v : Value) (l : List Int) (w : World) (h : Nums w v l) (hl : l.length ≤ 17592186044000) :
    Calls Try.prog 36 #[v] w fun e w' => e = .returned (.bool (labB l)) ∧ w = w' := by
  obtain ⟨a, cap, rfl, hc⟩ := h.get
  have HC : Hid (∀ j, j < l.length → ∃ b off, a = some ⟨b, off, none⟩ ∧ b < w.heap.size ∧ w.cell? ⟨b, off + j, none⟩ = some (.int .i64 (el l j))) := hc
  have HS : Hid (∀ k, k < l.length → labB (l.drop k) = (inB (el l k) 1 1000 && labB (l.drop (k + 1)))) := fun k hk => labB_drop hk
  have HE : Hid (labB (l.drop l.length) = true) := by rw [List.drop_length]; rfl
  have HG : Hid (labB l = labB (l.drop 0)) := rfl
  clear h hc
  generalize labB l = r at *
  generalize l.length = n at *
  go_enter Try.func36, Try.ntmps36
  go_wp2
  go_loop [7] (fun i => ∃ k : Nat, k ≤ n ∧ i = .int .i64 k ∧ Hid (r = labB (l.drop k))) (fun i => n - (intOf i).toNat)
  case atStart => exact ⟨0, Nat.zero_le _, rfl, HG⟩
  case round =>
    clear HG
    obtain ⟨k, hk, rfl, hg⟩ := hrel
    by_cases hlt : k < n
    · have hlt' : (k : Int) < (n : Int) := by omega
      have hk0 : (0 : Int) ≤ (k : Int) := by omega
      obtain ⟨b, off, rfl, hb, g0⟩ := HC.out k hlt
      have HN : Hid (r = (inB (el l k) 1 1000 && labB (l.drop (k + 1)))) := by show r = _; rw [hg.out, HS.out k hlt]
      clear hg
      generalize el l k = p at *
      have ways : p ≤ 0 ∨ (¬ p ≤ 0 ∧ (1000 : Int) < p) ∨ (¬ p ≤ 0 ∧ ¬ (1000 : Int) < p) := by omega
      rcases ways with h1 | ⟨h1, h2⟩ | ⟨h1, h2⟩
      · have hr : r = false := by rw [HN.out]; simp [inB]; omega
        subst hr
        clear HN
        go_wp2
        go_ret
        exact ⟨rfl, rfl⟩
      · have hr : r = false := by rw [HN.out]; simp [inB]; omega
        subst hr
        clear HN
        go_wp2
        go_ret
        exact ⟨rfl, rfl⟩
      · have HN' : Hid (r = labB (l.drop (k + 1))) := by
          show r = _
          rw [HN.out, show inB p 1 1000 = true by simp [inB]; omega, Bool.true_and]
        clear HN
        go_wp2
        go_round
        case rel => exact ⟨k + 1, by omega, by go_num, HN'⟩
        case measure => simp [intOf]; omega
    · have hnl : ¬ (k : Int) < (n : Int) := by omega
      have hkn : k = n := by omega
      have hr : r = true := by rw [hg.out, hkn, HE.out]
      subst hr
      clear hg
      go_wp2
      go_ret
      exact ⟨rfl, rfl⟩
set_option maxRecDepth 100000 in
theorem mayBe_any (v : Value) (k : Mk) (w : World) (h : MkIs w v k) :
    Calls Try.prog 59 #[v] w fun e w' => e = .returned (.bool (mkB k)) ∧ Below w.heap.size w w' := by
  obtain ⟨q, x, l⟩ := k
  obtain ⟨vo, rfl, hn⟩ := h
  simp only at hn ⊢
  have HN : Hid (Nums w vo l) := hn
  obtain ⟨a, c, rfl⟩ := Row.sl hn
  clear hn
  have HU : Hid (Below w.heap.size w (w.alloc (.cells #[.int .i64 q, .int .i64 x, .slice a l.length c] 67))) := by show Below _ _ _; go_grown
  have HM : Hid (mkB (q, x, l) = (inB x 0 1000000000 && decide (l.length ≤ 800) && labB l)) := rfl
  generalize mkB (q, x, l) = r at *
  have ways : x < 0 ∨ (0 ≤ x ∧ (1000000000 : Int) < x) ∨ (0 ≤ x ∧ x ≤ 1000000000) := by omega
  rcases ways with h1 | ⟨h1, h2⟩ | ⟨h1, h2⟩
  · have hr : r = false := by rw [HM.out]; simp [inB]; omega
    subst hr
    have h1' : ¬ (0 : Int) ≤ x := by omega
    clear HM
    go_enter Try.func59, Try.ntmps59
    go_wp2
    go_ret
    exact ⟨rfl, HU.out⟩
  · have hr : r = false := by rw [HM.out]; simp [inB]; omega
    subst hr
    have h2' : ¬ x ≤ 1000000000 := by omega
    clear HM
    go_enter Try.func59, Try.ntmps59
    go_wp2
    go_ret
    exact ⟨rfl, HU.out⟩
  · by_cases h3 : l.length ≤ 800
    · have hr : r = labB l := by rw [HM.out]; simp [inB, h1, h2, h3]
      subst hr
      have h3' : (l.length : Int) ≤ 800 := by omega
      clear HM
      go_enter Try.func59, Try.ntmps59
      go_wp2_with (first
        | (go_at_call 36; (with_reducible refine (areLabels_any _ l _ (HN.out.later HU.out (Nat.le_refl _)) (by omega)).mono ?_); rintro e w1 ⟨rfl, rfl⟩))
      go_ret
      exact ⟨rfl, HU.out⟩
    · have hr : r = false := by rw [HM.out]; simp [h3]
      subst hr
      have h3' : ¬ (l.length : Int) ≤ 800 := by omega
      clear HM
      go_enter Try.func59, Try.ntmps59
      go_wp2
      go_ret
      exact ⟨rfl, HU.out⟩
set_option maxRecDepth 100000 in
set_option maxHeartbeats 1600000 in
theorem rises_any (z : Int) (vs v : Value) (n : Nat) (l : List Mk) (w : World) (a0 : Option Addr) (cap0 : Nat) (hv : vs = .slice a0 n cap0) (h : Marks w v l) (hs : l.length * 40 ≤ 140737488351232) (hn : n ≤ 1000) :
    Calls Try.prog 58 #[.agg #[.int .i64 z, vs], v] w fun e w' => e = .returned (.bool (risB n 0 l)) ∧ Below w.heap.size w w' := by
  subst hv
  obtain ⟨a, cap, rfl, hc⟩ := h.get
  have HC : Hid (∀ j, j < l.length → ∃ b off vo, a = some ⟨b, off, none⟩ ∧ b < w.heap.size ∧ w.cell? ⟨b, off + j * 3, none⟩ = some (.int .i64 (el l j).1) ∧ w.cell? ⟨b, off + j * 3 + 1, none⟩ = some (.int .i64 (el l j).2.1) ∧ w.cell? ⟨b, off + j * 3 + 2, none⟩ = some vo ∧ Nums w vo (el l j).2.2) := hc
  have HS : Hid (∀ k (b : Int), k < l.length → risB n b (l.drop k) = (decide (b ≤ (el l k).1) && decide ((el l k).1 < n) && risB n ((el l k).1 + 1) (l.drop (k + 1)))) := fun k b hk => risB_drop hk
  have HE : Hid (∀ b : Int, risB n b (l.drop l.length) = true) := fun b => by rw [List.drop_length]; rfl
  have HG : Hid (risB n 0 l = risB n 0 (l.drop 0)) := rfl
  clear h hc
  generalize risB n 0 l = r at *
  generalize l.length = L at *
  go_enter Try.func58, Try.ntmps58
  go_wp2
  go_loopw [5, 10] (fun s5 i wr => ∃ (k : Nat) (b : Int), k ≤ L ∧ s5 = .int .i64 b ∧ i = .int .i64 k ∧ 0 ≤ b ∧ b ≤ 1000 ∧ Hid (r = risB n b (l.drop k)) ∧ wr.cell? ⟨w.heap.size, 1, none⟩ = some (.slice a0 n cap0) ∧ w.heap.size + 1 ≤ wr.heap.size ∧ Hid (Below w.heap.size w wr)) (fun _ i _ => L - (intOf i).toNat)
  case atStart => exact ⟨0, 0, Nat.zero_le _, rfl, rfl, by omega, by omega, HG, by go_cell, by simp, by show Below _ _ _; go_grown⟩
  case round =>
    clear HG
    obtain ⟨k, b, hk, rfl, rfl, hb0, hb1, hg, c0, hsz, hbw⟩ := hrel
    by_cases hlt : k < L
    · have hlt' : (k : Int) < (L : Int) := by omega
      have hk0 : (0 : Int) ≤ (k : Int) := by omega
      obtain ⟨bb, off, vo, rfl, hbl, g0, g1, g2, hno⟩ := HC.out k hlt
      obtain ⟨ao, co, rfl⟩ := Row.sl hno
      clear hno
      have g0 := (hbw.out.cell (p := ⟨bb, off + k * 3, none⟩) hbl).trans g0
      have g1 := (hbw.out.cell (p := ⟨bb, off + k * 3 + 1, none⟩) hbl).trans g1
      have g2 := (hbw.out.cell (p := ⟨bb, off + k * 3 + 2, none⟩) hbl).trans g2
      have HN : Hid (r = (decide (b ≤ (el l k).1) && decide ((el l k).1 < n) && risB n ((el l k).1 + 1) (l.drop (k + 1)))) := by show r = _; rw [hg.out, HS.out k b hlt]
      clear hg
      generalize (el l k).1 = p at *
      generalize (el l k).2.1 = p1 at *
      have z0 : w.heap.size < wr.heap.size := by omega
      have z1 : ¬ w.heap.size = wr.heap.size := by omega
      have ways : p < b ∨ (¬ p < b ∧ (n : Int) ≤ p) ∨ (¬ p < b ∧ ¬ (n : Int) ≤ p) := by omega
      rcases ways with h1 | ⟨h1, h2⟩ | ⟨h1, h2⟩
      · have hr : r = false := by rw [HN.out]; simp; omega
        subst hr
        clear HN
        go_wp2
        go_ret
        exact ⟨rfl, by have h9 := hbw.out; go_grown⟩
      · have hr : r = false := by rw [HN.out]; simp; omega
        subst hr
        clear HN
        go_wp2
        go_ret
        exact ⟨rfl, by have h9 := hbw.out; go_grown⟩
      · have HN' : Hid (r = risB n (p + 1) (l.drop (k + 1))) := by
          show r = _
          rw [HN.out, show decide (b ≤ p) = true by simp; omega, show decide (p < (n : Int)) = true by simp; omega, Bool.true_and, Bool.true_and]
        clear HN
        go_wp2
        go_roundw
        case rel => exact ⟨k + 1, p + 1, by omega, by go_num, by go_num, by omega, by omega, HN', by go_cell, by simp; omega, by show Below _ _ _; have h9 := hbw.out; go_grown⟩
        case measure => simp [intOf]; omega
    · have hnl : ¬ (k : Int) < (L : Int) := by omega
      have hkn : k = L := by omega
      have hr : r = true := by rw [hg.out, hkn, HE.out]
      subst hr
      clear hg
      go_wp2
      go_ret
      exact ⟨rfl, hbw.out⟩
end Go.Proofs.Ytkeeiihaijhdoaa.Sm
