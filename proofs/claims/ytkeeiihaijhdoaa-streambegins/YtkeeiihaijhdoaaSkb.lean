/- Of two marks the better one: the program's isBetter, the reference's Better. -/
import Derived.Test.YtkeeiihaijhdoaaSka
import Derived.Test.YtkeeiihaijhdoaaRg
import Derived.BigQuiet
namespace Go.Proofs.Ytkeeiihaijhdoaa.Sm
open Go.ChangeShapes Go.WideShapes Go.ChangeAt Go.RowKit
open Go.Proofs.Ytkeeiihaijhdoaa.Pl Go.Proofs.Ytkeeiihaijhdoaa.Wt
set_option linter.unusedVariables false
set_option linter.unusedSimpArgs false
theorem nan_any (x : Int) (w : World) : Calls Try.prog 82 #[.int .i64 x] w fun e w' => e = .returned (.bool false) ∧ w = w' := by
  go_enter Try.func82, Try.ntmps82
  go_wp2
  go_ret
  exact ⟨by simp, rfl⟩
theorem cmp_any (x y : Int) (w : World) : Calls Try.prog 77 #[.int .i64 x, .int .i64 y] w fun e w' => ∃ c : Int, e = .returned (.int .i64 c) ∧ (c < 0 ↔ x < y) ∧ (c = 0 ↔ x = y) ∧ w = w' := by
  rcases Int.lt_trichotomy x y with h | h | h
  · go_enter Try.func77, Try.ntmps77
    go_wp2_with (first | (go_at_call 82; (with_reducible refine (nan_any _ _).mono ?_); rintro e w1 ⟨rfl, rfl⟩))
    go_ret
    exact ⟨_, rfl, by omega, by omega, rfl⟩
  · have h1 : ¬ x < y := by omega
    have h2 : ¬ y < x := by omega
    go_enter Try.func77, Try.ntmps77
    go_wp2_with (first | (go_at_call 82; (with_reducible refine (nan_any _ _).mono ?_); rintro e w1 ⟨rfl, rfl⟩))
    go_ret
    exact ⟨_, rfl, by omega, by omega, rfl⟩
  · have h1 : ¬ x < y := by omega
    go_enter Try.func77, Try.ntmps77
    go_wp2_with (first | (go_at_call 82; (with_reducible refine (nan_any _ _).mono ?_); rintro e w1 ⟨rfl, rfl⟩))
    go_ret
    exact ⟨_, rfl, by omega, by omega, rfl⟩
set_option maxRecDepth 100000 in
theorem compare_any (v1 v2 : Value) (l r : List Int) (w : World) (h1 : Nums w v1 l) (h2 : Nums w v2 r) (hl : l.length = r.length) (hs : l.length ≤ 17592186044416) :
    Calls Try.prog 72 #[v1, v2] w fun e w' => ∃ c : Int, e = .returned (.int .i64 c) ∧ (c < 0 ↔ lexB l r = true) ∧ w = w' := by
  obtain ⟨a, cap, rfl, hc⟩ := h1.get
  obtain ⟨a2, cap2, rfl, hc2⟩ := h2.get
  have HC : Hid (∀ j, j < l.length → ∃ b off, a = some ⟨b, off, none⟩ ∧ b < w.heap.size ∧ w.cell? ⟨b, off + j, none⟩ = some (.int .i64 (el l j))) := hc
  have HC2 : Hid (∀ j, j < l.length → ∃ b off, a2 = some ⟨b, off, none⟩ ∧ b < w.heap.size ∧ w.cell? ⟨b, off + j, none⟩ = some (.int .i64 (el r j))) := by rw [hl]; exact hc2
  have HS : Hid (∀ k, k < l.length → lexB (l.drop k) (r.drop k) = if el l k = el r k then lexB (l.drop (k + 1)) (r.drop (k + 1)) else decide (el l k < el r k)) := fun k hk => lexB_drop hk (by omega)
  have HE : Hid (lexB (l.drop l.length) (r.drop l.length) = false) := lexB_end (Nat.le_refl _)
  have HA : Hid (lexB l r = lexB (l.drop 0) (r.drop 0)) := rfl
  rw [← hl]
  clear h1 h2 hc hc2 hl
  generalize lexB l r = g at *
  generalize l.length = n at *
  go_enter Try.func72, Try.ntmps72
  go_wp2
  go_loop [11] (fun i => ∃ k : Nat, k ≤ n ∧ i = .int .i64 k ∧ Hid (g = lexB (l.drop k) (r.drop k))) (fun i => n - (intOf i).toNat)
  case atStart => exact ⟨0, Nat.zero_le _, rfl, HA⟩
  case round =>
    obtain ⟨k, hk, rfl, hg⟩ := hrel
    by_cases hlt : k < n
    · have hlt' : (k : Int) < (n : Int) := by omega
      have hk0 : (0 : Int) ≤ (k : Int) := by omega
      have hng : ¬ (n : Int) ≤ (k : Int) := by omega
      obtain ⟨b, off, rfl, hb, g0⟩ := HC.out k hlt
      obtain ⟨b2, off2, rfl, hb2, r0⟩ := HC2.out k hlt
      have HSk := hidP (HS.out k hlt)
      by_cases he : el l k = el r k
      · have HN : Hid (g = lexB (l.drop (k + 1)) (r.drop (k + 1))) := by show g = _; rw [hg.out, HSk.out, if_pos he]
        clear HSk hg
        generalize el l k = x at *
        generalize el r k = y at *
        have HXY := hidP he
        clear he
        go_wp2_with (first | (go_at_call 77; (with_reducible refine (cmp_any _ _ _).mono ?_); rintro e w1 ⟨c, rfl, hc1, hc2, rfl⟩; have hc0 : c = 0 := hc2.2 HXY.out; subst hc0; clear hc1 hc2))
        go_round
        case rel => exact ⟨k + 1, by omega, by go_num, HN⟩
        case measure => simp [intOf]; omega
      · have HN : Hid (g = decide (el l k < el r k)) := by show g = _; rw [hg.out, HSk.out, if_neg he]
        clear HSk hg
        generalize el l k = x at *
        generalize el r k = y at *
        have HXY := hidP he
        clear he
        go_wp2_with (first | (go_at_call 77; (with_reducible refine (cmp_any _ _ _).mono ?_); rintro e w1 ⟨c, rfl, hc1, hc2, rfl⟩; have hc0 : ¬ c = 0 := fun h9 => HXY.out (hc2.1 h9); have HC1 : Hid (c < 0 ↔ x < y) := hc1; clear hc1 hc2))
        go_ret
        exact ⟨_, rfl, by rw [HN.out]; simp [HC1.out], rfl⟩
    · have hnl : ¬ (k : Int) < (n : Int) := by omega
      have hkn : k = n := by omega
      have HG : Hid (g = false) := by show g = _; rw [hg.out, hkn, HE.out]
      clear hg
      go_wp2
      go_ret
      exact ⟨_, rfl, by rw [HG.out]; simp, rfl⟩
set_option maxRecDepth 100000 in
/-- The program's isBetter. -/
theorem isBetter_any (va vb : Value) (ka kb : Mk) (w : World) (ha : MkIs w va ka) (hb : MkIs w vb kb) (hs : ka.2.2.length ≤ 17592186044416) :
    Calls Try.prog 62 #[va, vb] w fun e w' => e = .returned (.bool (betB ka.2 kb.2)) ∧ Below w.heap.size w w' := by
  obtain ⟨qa, xa, la⟩ := ka
  obtain ⟨qb, xb, lb⟩ := kb
  obtain ⟨voa, rfl, na⟩ := ha
  obtain ⟨vob, rfl, nb⟩ := hb
  simp only at na nb hs ⊢
  have NA : Hid (Nums w voa la) := na
  have NB : Hid (Nums w vob lb) := nb
  have HU : Hid (Below w.heap.size w ((w.alloc (.cells #[.int .i64 qa, .int .i64 xa, voa] 67)).alloc (.cells #[.int .i64 qb, .int .i64 xb, vob] 67))) := by show Below _ _ _; go_grown
  obtain ⟨aa, ca, rfl⟩ := Row.sl na
  obtain ⟨ab, cb, rfl⟩ := Row.sl nb
  clear na nb
  by_cases h1 : xa = xb
  · by_cases h2 : la.length = lb.length
    · have HR : Hid (betB (xa, la) (xb, lb) = lexB la lb) := by show _ = _; simp [betB, h1, h2]
      have HL := hidP h2
      subst h1
      have h2' : ¬ (la.length : Int) ≠ (lb.length : Int) := by omega
      clear h2
      have HBU := HU
      go_enter Try.func62, Try.ntmps62
      go_wp2_with (first | (go_at_call 72; (with_reducible refine (compare_any _ _ la lb _ (NA.out.later HU.out (Nat.le_refl _)) (NB.out.later HU.out (Nat.le_refl _)) HL.out hs).mono ?_); rintro e w1 ⟨c, rfl, hc1, rfl⟩; have HC1 : Hid (c < 0 ↔ lexB la lb = true) := hc1; clear hc1))
      go_ret
      exact ⟨by rw [HR.out]; congr 2; cases h9 : lexB la lb <;> simp [HC1.out, h9], HU.out⟩
    · have HR : Hid (betB (xa, la) (xb, lb) = decide (la.length < lb.length)) := by show _ = _; simp [betB, h1, h2]
      subst h1
      have h2' : (la.length : Int) ≠ (lb.length : Int) := by omega
      clear h2
      go_enter Try.func62, Try.ntmps62
      go_wp2
      go_ret
      exact ⟨by rw [HR.out]; rfl, HU.out⟩
  · have HR : Hid (betB (xa, la) (xb, lb) = decide (xa < xb)) := by show _ = _; simp [betB, h1]
    go_enter Try.func62, Try.ntmps62
    go_wp2
    go_ret
    exact ⟨by rw [HR.out]; rfl, HU.out⟩
end Go.Proofs.Ytkeeiihaijhdoaa.Sm
