/- The statement WeighCross: whatever numbers four words are made of, a cross of the first two costs 0 for them, and for no others anything but Inf, for every input and without any condition. -/
import Derived.Test.YtpfcljhbamnghabMd
import Derived.Test.YtpfcljhbamnghabKi
import Derived.Test.YtpfcljhbamnghabZn
import Derived.Test.YtpfcljhbamnghabKj
import Derived.Test.YtpfcljhbamnghabWy
import Derived.Test.YtpfcljhbamnghabKm
import Derived.Test.YtpfcljhbamnghabPlainWr
import Derived.Test.YtpfcljhbamnghabPlainWp
import Derived.Test.YtpfcljhbamnghabLo
import Derived.Lib.SmallJoins
import Derived.ChangeOld
import Derived.Below
namespace Go.Proofs.Ytpfcljhbamnghab.weighCross
open Go.ChangeShapes Go.WideShapes Go.ChangeAt Go.RowKit
open Go.Proofs.Ytpfcljhbamnghab.Pl Go.Proofs.Ytpfcljhbamnghab.Wt
set_option linter.unusedVariables false
set_option linter.unusedSimpArgs false

theorem own : ownKnob Try.prog.godebug = none := by kernel_rfl
theorem laidOut : laidOutB Try.prog = true := by kernel_rfl
set_option maxRecDepth 100000 in
set_option maxHeartbeats 1600000 in
theorem core (va : Value) (za : List Int) (vb : Value) (zb : List Int) (vx : Value) (zx : List Int) (vy : Value) (zy : List Int) (w : World) (hza : Nums w va za) (hwa : ∀ n ∈ za, (Lit.int .i64 n).wf = true) (hzb : Nums w vb zb) (hwb : ∀ n ∈ zb, (Lit.int .i64 n).wf = true) (hzx : Nums w vx zx) (hwx : ∀ n ∈ zx, (Lit.int .i64 n).wf = true) (hzy : Nums w vy zy) (hwy : ∀ n ∈ zy, (Lit.int .i64 n).wf = true) :
    Calls Try.prog 7 #[va, vb, vx, vy] w fun e w' => e = .returned (.bool true) ∧ Below w.heap.size w w' := by
  have HZa := hidP hza
  have HWDa : Hid (∀ v W, Nums W v za → Calls Try.prog 11 #[v, .int .i64 5] W fun e w' => ∃ v', e = .returned v' ∧ Nums w' v' (wdL za 5) ∧ Below W.heap.size W w') := fun v W h1 => word_any v za 5 W h1 hwa (by omega)
  have ewa : wrdE (wdL za 5) = 0 := wdL_wrd (by omega)
  have lwa := wdL_len za 5
  clear hza hwa
  have HZb := hidP hzb
  have HWDb : Hid (∀ v W, Nums W v zb → Calls Try.prog 11 #[v, .int .i64 5] W fun e w' => ∃ v', e = .returned v' ∧ Nums w' v' (wdL zb 5) ∧ Below W.heap.size W w') := fun v W h1 => word_any v zb 5 W h1 hwb (by omega)
  have ewb : wrdE (wdL zb 5) = 0 := wdL_wrd (by omega)
  have lwb := wdL_len zb 5
  clear hzb hwb
  have HZx := hidP hzx
  have HWDx : Hid (∀ v W, Nums W v zx → Calls Try.prog 11 #[v, .int .i64 5] W fun e w' => ∃ v', e = .returned v' ∧ Nums w' v' (wdL zx 5) ∧ Below W.heap.size W w') := fun v W h1 => word_any v zx 5 W h1 hwx (by omega)
  have ewx : wrdE (wdL zx 5) = 0 := wdL_wrd (by omega)
  have lwx := wdL_len zx 5
  clear hzx hwx
  have HZy := hidP hzy
  have HWDy : Hid (∀ v W, Nums W v zy → Calls Try.prog 11 #[v, .int .i64 5] W fun e w' => ∃ v', e = .returned v' ∧ Nums w' v' (wdL zy 5) ∧ Below W.heap.size W w') := fun v W h1 => word_any v zy 5 W h1 hwy (by omega)
  have ewy : wrdE (wdL zy 5) = 0 := wdL_wrd (by omega)
  have lwy := wdL_len zy 5
  clear hzy hwy
  have e0 : ∀ a ∈ wdL za 5, a ≠ 0 := fun a h => by rcases wdL_mem h with rfl | rfl <;> omega
  have e1 : ∀ a ∈ wdL zb 5, a ≠ 0 := fun a h => by rcases wdL_mem h with rfl | rfl <;> omega
  have u3 : faultM (croM (wdL za 5) (wdL zb 5)) = 0 := cro_right (by omega) (by omega) (fun n h => by rcases wdL_mem h with rfl | rfl <;> omega) (fun n h => by rcases wdL_mem h with rfl | rfl <;> omega)
  have hUl := cro_len (wdL za 5) (wdL zb 5)
  have HUC : Hid (∀ W v u, Nums W v (wdL za 5) → Nums W u (wdL zb 5) → Calls Try.prog 21 #[v, u] W fun e w' => RatRes (croM (wdL za 5) (wdL zb 5)) 0 W e w') := fun W v u h1 h2 => by
    have hE : croE (wdL za 5) (wdL zb 5) = 0 := by unfold croE; rw [if_neg (by simp [ewa])]; exact ewb
    have h9 := crossP_any v u _ _ W h1 h2
    unfold croR at h9
    rw [if_pos hE, hE] at h9
    exact h9
  obtain ⟨sa, hsa⟩ : ∃ r, decide (wdL za 5 = wdL zx 5) = r := ⟨_, rfl⟩
  obtain ⟨sb, hsb⟩ : ∃ r, decide (wdL zb 5 = wdL zy 5) = r := ⟨_, rfl⟩
  have HS1 : Hid (∀ W v u, Nums W v (wdL za 5) → Nums W u (wdL zx 5) → Calls Try.prog 22 #[v, u] W fun e w' => e = .returned (.bool sa) ∧ Below W.heap.size W w') := fun W v u h1 h2 => sameIntsK_any v u _ _ W h1 h2 (by omega) sa hsa
  have HS2 : Hid (∀ W v u, Nums W v (wdL zb 5) → Nums W u (wdL zy 5) → Calls Try.prog 22 #[v, u] W fun e w' => e = .returned (.bool sb) ∧ Below W.heap.size W w') := fun W v u h1 h2 => sameIntsK_any v u _ _ W h1 h2 (by omega) sb hsb
  have HCu : Hid (∀ W v s t, Mach W v (croM (wdL za 5) (wdL zb 5)) → Nums W s (wdL za 5) → Nums W t (wdL zb 5) → Calls Try.prog 12 #[v, s, t] W fun e w' => e = .returned (.int .i64 0) ∧ Below W.heap.size W w') := fun W v s t h1 h2 h3 => (cost_any v s t _ _ _ W h1 (right_ok u3) u3 (cro_cheap _ _) h2 h3 ewa ewb).mono fun e w' ⟨n, he, hc, hb⟩ => by
    have h9 := hc.low ((costs_cro e0 e1 _ _ 0).2 ⟨rfl, rfl, rfl⟩)
    have h8 := hc.nonneg
    obtain rfl : n = 0 := by omega
    exact ⟨he, hb⟩
  have HCm : Hid (∀ W v s t, Mach W v (croM (wdL za 5) (wdL zb 5)) → Nums W s (wdL zx 5) → Nums W t (wdL zy 5) → Calls Try.prog 12 #[v, s, t] W fun e w' => e = .returned (.int .i64 (if sa = true ∧ sb = true then 0 else 1000000001)) ∧ Below W.heap.size W w') := fun W v s t h1 h2 h3 => (cost_any v s t _ _ _ W h1 (right_ok u3) u3 (cro_cheap _ _) h2 h3 ewx ewy).mono fun e w' ⟨n, he, hc, hb⟩ => by
    have hn : n = if sa = true ∧ sb = true then 0 else 1000000001 := by
      by_cases g : sa = true ∧ sb = true
      · rw [if_pos g]
        have g1 : wdL za 5 = wdL zx 5 := of_decide_eq_true (hsa.trans g.1)
        have g2 : wdL zb 5 = wdL zy 5 := of_decide_eq_true (hsb.trans g.2)
        have h9 := hc.low ((costs_cro e0 e1 _ _ 0).2 ⟨g1.symm, g2.symm, rfl⟩)
        have h8 := hc.nonneg
        omega
      · rw [if_neg g]
        rcases hc with ⟨h8, _⟩ | ⟨c, hc, _, _⟩
        · exact h8
        · have h9 := (costs_cro e0 e1 _ _ c).1 hc.1
          exact absurd ⟨hsa.symm.trans (decide_eq_true h9.1.symm), hsb.symm.trans (decide_eq_true h9.2.1.symm)⟩ g
    rw [← hn]
    exact ⟨he, hb⟩
  clear hsa hsb u3 e0 e1 ewa ewb ewx ewy lwx lwy
  generalize croM (wdL za 5) (wdL zb 5) = U at *
  generalize wdL za 5 = Xa at *
  generalize wdL zb 5 = Xb at *
  generalize wdL zx 5 = Xx at *
  generalize wdL zy 5 = Xy at *
  obtain ⟨aaz, caz, rfl, _⟩ := HZa.out.get
  obtain ⟨abz, cbz, rfl, _⟩ := HZb.out.get
  obtain ⟨axz, cxz, rfl, _⟩ := HZx.out.get
  obtain ⟨ayz, cyz, rfl, _⟩ := HZy.out.get
  have HB0 : Hid (Below w.heap.size w w) := Below.refl _ _
  have HUL := hidP hUl
  clear hUl
  have hXa : Xa.length ≤ 5 := lwa
  have hXb : Xb.length ≤ 5 := lwb
  clear lwa lwb
  by_cases hm : Xa.length < Xb.length
  · have t5 : ((U.2.length : Int) == (Xb.length : Int) + 1) = true := by
      have h9 := HUL.out
      simp only [beq_iff_eq]
      omega
    have t6 : IntKind.i64.wrap ((Xb.length : Int) + 1) = (Xb.length : Int) + 1 := wrapI (by omega) (by omega)
    cases sa
    · simp only [Bool.false_eq_true, false_and, if_false] at HCm
      go_enter Try.func7, Try.ntmps7
      go_wp2_with (first
        | (go_at_call 11; (with_reducible refine (HWDa.out _ _ (HZa.out.later (HB0.out) (Nat.le_refl _))).mono ?_); rintro e w1 ⟨v1, rfl, hn, hb⟩; have HNa : Hid (Nums w1 v1 (Xa)) := hn; obtain ⟨awa, cwa, rfl, _⟩ := hn.get; have hb1 := hb; have HB1 := hidP hb1; clear hb hb1)
        | (go_at_call 11; (with_reducible refine (HWDb.out _ _ (HZb.out.later HB1.out (Nat.le_refl _))).mono ?_); rintro e w2 ⟨v2, rfl, hn, hb⟩; have HNb : Hid (Nums w2 v2 (Xb)) := hn; obtain ⟨awb, cwb, rfl, _⟩ := hn.get; have hb2 := hb; have HB2 := hidP (HB1.out.trans (hb2.mono HB1.out.size)); have Ha2 := hidP hb2; clear hb hb2)
        | (go_at_call 21; (with_reducible refine (HUC.out _ _ _ (HNa.out.later Ha2.out (Nat.le_refl _)) (HNb.out.later (Below.refl _ _) (Nat.le_refl _))).mono ?_); rintro e w3 ⟨v3, rfl, hm, hb⟩; have HMu : Hid (Mach w3 v3 (U)) := hm; obtain ⟨vsu, rfl, hSu⟩ := hm; obtain ⟨au, cu, rfl⟩ := hSu.sl; clear hSu; have hb3 := hb; have HB3 := hidP (HB2.out.trans (hb3.mono HB2.out.size)); have Ha3 := hidP (Ha2.out.trans (hb3.mono Ha2.out.size)); have Hb3 := hidP hb3; clear hb hb3)
        | (go_at_call 11; (with_reducible refine (HWDx.out _ _ (HZx.out.later (HB3.out.alloc HB3.out.size _) (Nat.le_refl _))).mono ?_); rintro e w4 ⟨v4, rfl, hn, hb⟩; have HNx : Hid (Nums w4 v4 (Xx)) := hn; obtain ⟨awx, cwx, rfl, _⟩ := hn.get; obtain ⟨s4, bb0, hb4⟩ := boxed hb (by simp); have KVu4 := hidP bb0; clear bb0; have HB4 := hidP (HB3.out.trans (hb4.mono HB3.out.size)); have Ha4 := hidP (Ha3.out.trans (hb4.mono Ha3.out.size)); have Hb4 := hidP (Hb3.out.trans (hb4.mono Hb3.out.size)); have Hu4 := hidP hb4; have qVu0 := KVu4.out.cell 0 (v := .int .i64 U.1) rfl; have qVu1 := KVu4.out.cell 1 (v := .slice au U.2.length cu) rfl; clear hb hb4)
        | (go_at_call 11; (with_reducible refine (HWDy.out _ _ (HZy.out.later HB4.out (Nat.le_refl _))).mono ?_); rintro e w5 ⟨v5, rfl, hn, hb⟩; have HNy : Hid (Nums w5 v5 (Xy)) := hn; obtain ⟨awy, cwy, rfl, _⟩ := hn.get; have hb5 := hb; have HB5 := hidP (HB4.out.trans (hb5.mono HB4.out.size)); have KVu5 := hidP (KVu4.out.below hb5 KVu4.out.lt); have Ha5 := hidP (Ha4.out.trans (hb5.mono Ha4.out.size)); have Hb5 := hidP (Hb4.out.trans (hb5.mono Hb4.out.size)); have Hu5 := hidP (Hu4.out.trans (hb5.mono Hu4.out.size)); have Hx5 := hidP hb5; have qVu0 := KVu5.out.cell 0 (v := .int .i64 U.1) rfl; have qVu1 := KVu5.out.cell 1 (v := .slice au U.2.length cu) rfl; clear hb hb5)
        | (go_at_call 22; (with_reducible refine (HS1.out _ _ _ (HNa.out.later Ha5.out (Nat.le_refl _)) (HNx.out.later Hx5.out (Nat.le_refl _))).mono ?_); rintro e w6 ⟨rfl, hb⟩; have hb6 := hb; have HB6 := hidP (HB5.out.trans (hb6.mono HB5.out.size)); have KVu6 := hidP (KVu5.out.below hb6 KVu5.out.lt); have Ha6 := hidP (Ha5.out.trans (hb6.mono Ha5.out.size)); have Hb6 := hidP (Hb5.out.trans (hb6.mono Hb5.out.size)); have Hu6 := hidP (Hu5.out.trans (hb6.mono Hu5.out.size)); have Hx6 := hidP (Hx5.out.trans (hb6.mono Hx5.out.size)); have Hy6 := hidP hb6; have qVu0 := KVu6.out.cell 0 (v := .int .i64 U.1) rfl; have qVu1 := KVu6.out.cell 1 (v := .slice au U.2.length cu) rfl; clear hb hb6)
        | (go_at_call 12; (with_reducible refine (HCu.out _ _ _ _ (HMu.out.later Hu6.out (Nat.le_refl _)) (HNa.out.later Ha6.out (Nat.le_refl _)) (HNb.out.later Hb6.out (Nat.le_refl _))).mono ?_); rintro e w7 ⟨rfl, hb⟩; have hb7 := hb; have HB7 := hidP (HB6.out.trans (hb7.mono HB6.out.size)); have KVu7 := hidP (KVu6.out.below hb7 KVu6.out.lt); have Ha7 := hidP (Ha6.out.trans (hb7.mono Ha6.out.size)); have Hb7 := hidP (Hb6.out.trans (hb7.mono Hb6.out.size)); have Hu7 := hidP (Hu6.out.trans (hb7.mono Hu6.out.size)); have Hx7 := hidP (Hx6.out.trans (hb7.mono Hx6.out.size)); have Hy7 := hidP (Hy6.out.trans (hb7.mono Hy6.out.size)); have qVu0 := KVu7.out.cell 0 (v := .int .i64 U.1) rfl; have qVu1 := KVu7.out.cell 1 (v := .slice au U.2.length cu) rfl; clear hb hb7)
        | (go_at_call 12; (with_reducible refine (HCm.out _ _ _ _ (HMu.out.later Hu7.out (Nat.le_refl _)) (HNx.out.later Hx7.out (Nat.le_refl _)) (HNy.out.later Hy7.out (Nat.le_refl _))).mono ?_); rintro e w8 ⟨rfl, hb⟩; have hb8 := hb; have HB8 := hidP (HB7.out.trans (hb8.mono HB7.out.size)); have KVu8 := hidP (KVu7.out.below hb8 KVu7.out.lt); have Ha8 := hidP (Ha7.out.trans (hb8.mono Ha7.out.size)); have Hb8 := hidP (Hb7.out.trans (hb8.mono Hb7.out.size)); have Hu8 := hidP (Hu7.out.trans (hb8.mono Hu7.out.size)); have Hx8 := hidP (Hx7.out.trans (hb8.mono Hx7.out.size)); have Hy8 := hidP (Hy7.out.trans (hb8.mono Hy7.out.size)); have qVu0 := KVu8.out.cell 0 (v := .int .i64 U.1) rfl; have qVu1 := KVu8.out.cell 1 (v := .slice au U.2.length cu) rfl; clear hb hb8))
      go_ret
      exact ⟨rfl, HB8.out⟩
    · cases sb
      · simp only [Bool.false_eq_true, and_false, if_false] at HCm
        go_enter Try.func7, Try.ntmps7
        go_wp2_with (first
          | (go_at_call 11; (with_reducible refine (HWDa.out _ _ (HZa.out.later (HB0.out) (Nat.le_refl _))).mono ?_); rintro e w1 ⟨v1, rfl, hn, hb⟩; have HNa : Hid (Nums w1 v1 (Xa)) := hn; obtain ⟨awa, cwa, rfl, _⟩ := hn.get; have hb1 := hb; have HB1 := hidP hb1; clear hb hb1)
          | (go_at_call 11; (with_reducible refine (HWDb.out _ _ (HZb.out.later HB1.out (Nat.le_refl _))).mono ?_); rintro e w2 ⟨v2, rfl, hn, hb⟩; have HNb : Hid (Nums w2 v2 (Xb)) := hn; obtain ⟨awb, cwb, rfl, _⟩ := hn.get; have hb2 := hb; have HB2 := hidP (HB1.out.trans (hb2.mono HB1.out.size)); have Ha2 := hidP hb2; clear hb hb2)
          | (go_at_call 21; (with_reducible refine (HUC.out _ _ _ (HNa.out.later Ha2.out (Nat.le_refl _)) (HNb.out.later (Below.refl _ _) (Nat.le_refl _))).mono ?_); rintro e w3 ⟨v3, rfl, hm, hb⟩; have HMu : Hid (Mach w3 v3 (U)) := hm; obtain ⟨vsu, rfl, hSu⟩ := hm; obtain ⟨au, cu, rfl⟩ := hSu.sl; clear hSu; have hb3 := hb; have HB3 := hidP (HB2.out.trans (hb3.mono HB2.out.size)); have Ha3 := hidP (Ha2.out.trans (hb3.mono Ha2.out.size)); have Hb3 := hidP hb3; clear hb hb3)
          | (go_at_call 11; (with_reducible refine (HWDx.out _ _ (HZx.out.later (HB3.out.alloc HB3.out.size _) (Nat.le_refl _))).mono ?_); rintro e w4 ⟨v4, rfl, hn, hb⟩; have HNx : Hid (Nums w4 v4 (Xx)) := hn; obtain ⟨awx, cwx, rfl, _⟩ := hn.get; obtain ⟨s4, bb0, hb4⟩ := boxed hb (by simp); have KVu4 := hidP bb0; clear bb0; have HB4 := hidP (HB3.out.trans (hb4.mono HB3.out.size)); have Ha4 := hidP (Ha3.out.trans (hb4.mono Ha3.out.size)); have Hb4 := hidP (Hb3.out.trans (hb4.mono Hb3.out.size)); have Hu4 := hidP hb4; have qVu0 := KVu4.out.cell 0 (v := .int .i64 U.1) rfl; have qVu1 := KVu4.out.cell 1 (v := .slice au U.2.length cu) rfl; clear hb hb4)
          | (go_at_call 11; (with_reducible refine (HWDy.out _ _ (HZy.out.later HB4.out (Nat.le_refl _))).mono ?_); rintro e w5 ⟨v5, rfl, hn, hb⟩; have HNy : Hid (Nums w5 v5 (Xy)) := hn; obtain ⟨awy, cwy, rfl, _⟩ := hn.get; have hb5 := hb; have HB5 := hidP (HB4.out.trans (hb5.mono HB4.out.size)); have KVu5 := hidP (KVu4.out.below hb5 KVu4.out.lt); have Ha5 := hidP (Ha4.out.trans (hb5.mono Ha4.out.size)); have Hb5 := hidP (Hb4.out.trans (hb5.mono Hb4.out.size)); have Hu5 := hidP (Hu4.out.trans (hb5.mono Hu4.out.size)); have Hx5 := hidP hb5; have qVu0 := KVu5.out.cell 0 (v := .int .i64 U.1) rfl; have qVu1 := KVu5.out.cell 1 (v := .slice au U.2.length cu) rfl; clear hb hb5)
          | (go_at_call 22; (with_reducible refine (HS1.out _ _ _ (HNa.out.later Ha5.out (Nat.le_refl _)) (HNx.out.later Hx5.out (Nat.le_refl _))).mono ?_); rintro e w6 ⟨rfl, hb⟩; have hb6 := hb; have HB6 := hidP (HB5.out.trans (hb6.mono HB5.out.size)); have KVu6 := hidP (KVu5.out.below hb6 KVu5.out.lt); have Ha6 := hidP (Ha5.out.trans (hb6.mono Ha5.out.size)); have Hb6 := hidP (Hb5.out.trans (hb6.mono Hb5.out.size)); have Hu6 := hidP (Hu5.out.trans (hb6.mono Hu5.out.size)); have Hx6 := hidP (Hx5.out.trans (hb6.mono Hx5.out.size)); have Hy6 := hidP hb6; have qVu0 := KVu6.out.cell 0 (v := .int .i64 U.1) rfl; have qVu1 := KVu6.out.cell 1 (v := .slice au U.2.length cu) rfl; clear hb hb6)
          | (go_at_call 22; (with_reducible refine (HS2.out _ _ _ (HNb.out.later Hb6.out (Nat.le_refl _)) (HNy.out.later Hy6.out (Nat.le_refl _))).mono ?_); rintro e w7 ⟨rfl, hb⟩; have hb7 := hb; have HB7 := hidP (HB6.out.trans (hb7.mono HB6.out.size)); have KVu7 := hidP (KVu6.out.below hb7 KVu6.out.lt); have Ha7 := hidP (Ha6.out.trans (hb7.mono Ha6.out.size)); have Hb7 := hidP (Hb6.out.trans (hb7.mono Hb6.out.size)); have Hu7 := hidP (Hu6.out.trans (hb7.mono Hu6.out.size)); have Hx7 := hidP (Hx6.out.trans (hb7.mono Hx6.out.size)); have Hy7 := hidP (Hy6.out.trans (hb7.mono Hy6.out.size)); have qVu0 := KVu7.out.cell 0 (v := .int .i64 U.1) rfl; have qVu1 := KVu7.out.cell 1 (v := .slice au U.2.length cu) rfl; clear hb hb7)
          | (go_at_call 12; (with_reducible refine (HCu.out _ _ _ _ (HMu.out.later Hu7.out (Nat.le_refl _)) (HNa.out.later Ha7.out (Nat.le_refl _)) (HNb.out.later Hb7.out (Nat.le_refl _))).mono ?_); rintro e w8 ⟨rfl, hb⟩; have hb8 := hb; have HB8 := hidP (HB7.out.trans (hb8.mono HB7.out.size)); have KVu8 := hidP (KVu7.out.below hb8 KVu7.out.lt); have Ha8 := hidP (Ha7.out.trans (hb8.mono Ha7.out.size)); have Hb8 := hidP (Hb7.out.trans (hb8.mono Hb7.out.size)); have Hu8 := hidP (Hu7.out.trans (hb8.mono Hu7.out.size)); have Hx8 := hidP (Hx7.out.trans (hb8.mono Hx7.out.size)); have Hy8 := hidP (Hy7.out.trans (hb8.mono Hy7.out.size)); have qVu0 := KVu8.out.cell 0 (v := .int .i64 U.1) rfl; have qVu1 := KVu8.out.cell 1 (v := .slice au U.2.length cu) rfl; clear hb hb8)
          | (go_at_call 12; (with_reducible refine (HCm.out _ _ _ _ (HMu.out.later Hu8.out (Nat.le_refl _)) (HNx.out.later Hx8.out (Nat.le_refl _)) (HNy.out.later Hy8.out (Nat.le_refl _))).mono ?_); rintro e w9 ⟨rfl, hb⟩; have hb9 := hb; have HB9 := hidP (HB8.out.trans (hb9.mono HB8.out.size)); have KVu9 := hidP (KVu8.out.below hb9 KVu8.out.lt); have Ha9 := hidP (Ha8.out.trans (hb9.mono Ha8.out.size)); have Hb9 := hidP (Hb8.out.trans (hb9.mono Hb8.out.size)); have Hu9 := hidP (Hu8.out.trans (hb9.mono Hu8.out.size)); have Hx9 := hidP (Hx8.out.trans (hb9.mono Hx8.out.size)); have Hy9 := hidP (Hy8.out.trans (hb9.mono Hy8.out.size)); have qVu0 := KVu9.out.cell 0 (v := .int .i64 U.1) rfl; have qVu1 := KVu9.out.cell 1 (v := .slice au U.2.length cu) rfl; clear hb hb9))
        go_ret
        exact ⟨rfl, HB9.out⟩
      · simp only [and_self, if_true] at HCm
        go_enter Try.func7, Try.ntmps7
        go_wp2_with (first
          | (go_at_call 11; (with_reducible refine (HWDa.out _ _ (HZa.out.later (HB0.out) (Nat.le_refl _))).mono ?_); rintro e w1 ⟨v1, rfl, hn, hb⟩; have HNa : Hid (Nums w1 v1 (Xa)) := hn; obtain ⟨awa, cwa, rfl, _⟩ := hn.get; have hb1 := hb; have HB1 := hidP hb1; clear hb hb1)
          | (go_at_call 11; (with_reducible refine (HWDb.out _ _ (HZb.out.later HB1.out (Nat.le_refl _))).mono ?_); rintro e w2 ⟨v2, rfl, hn, hb⟩; have HNb : Hid (Nums w2 v2 (Xb)) := hn; obtain ⟨awb, cwb, rfl, _⟩ := hn.get; have hb2 := hb; have HB2 := hidP (HB1.out.trans (hb2.mono HB1.out.size)); have Ha2 := hidP hb2; clear hb hb2)
          | (go_at_call 21; (with_reducible refine (HUC.out _ _ _ (HNa.out.later Ha2.out (Nat.le_refl _)) (HNb.out.later (Below.refl _ _) (Nat.le_refl _))).mono ?_); rintro e w3 ⟨v3, rfl, hm, hb⟩; have HMu : Hid (Mach w3 v3 (U)) := hm; obtain ⟨vsu, rfl, hSu⟩ := hm; obtain ⟨au, cu, rfl⟩ := hSu.sl; clear hSu; have hb3 := hb; have HB3 := hidP (HB2.out.trans (hb3.mono HB2.out.size)); have Ha3 := hidP (Ha2.out.trans (hb3.mono Ha2.out.size)); have Hb3 := hidP hb3; clear hb hb3)
          | (go_at_call 11; (with_reducible refine (HWDx.out _ _ (HZx.out.later (HB3.out.alloc HB3.out.size _) (Nat.le_refl _))).mono ?_); rintro e w4 ⟨v4, rfl, hn, hb⟩; have HNx : Hid (Nums w4 v4 (Xx)) := hn; obtain ⟨awx, cwx, rfl, _⟩ := hn.get; obtain ⟨s4, bb0, hb4⟩ := boxed hb (by simp); have KVu4 := hidP bb0; clear bb0; have HB4 := hidP (HB3.out.trans (hb4.mono HB3.out.size)); have Ha4 := hidP (Ha3.out.trans (hb4.mono Ha3.out.size)); have Hb4 := hidP (Hb3.out.trans (hb4.mono Hb3.out.size)); have Hu4 := hidP hb4; have qVu0 := KVu4.out.cell 0 (v := .int .i64 U.1) rfl; have qVu1 := KVu4.out.cell 1 (v := .slice au U.2.length cu) rfl; clear hb hb4)
          | (go_at_call 11; (with_reducible refine (HWDy.out _ _ (HZy.out.later HB4.out (Nat.le_refl _))).mono ?_); rintro e w5 ⟨v5, rfl, hn, hb⟩; have HNy : Hid (Nums w5 v5 (Xy)) := hn; obtain ⟨awy, cwy, rfl, _⟩ := hn.get; have hb5 := hb; have HB5 := hidP (HB4.out.trans (hb5.mono HB4.out.size)); have KVu5 := hidP (KVu4.out.below hb5 KVu4.out.lt); have Ha5 := hidP (Ha4.out.trans (hb5.mono Ha4.out.size)); have Hb5 := hidP (Hb4.out.trans (hb5.mono Hb4.out.size)); have Hu5 := hidP (Hu4.out.trans (hb5.mono Hu4.out.size)); have Hx5 := hidP hb5; have qVu0 := KVu5.out.cell 0 (v := .int .i64 U.1) rfl; have qVu1 := KVu5.out.cell 1 (v := .slice au U.2.length cu) rfl; clear hb hb5)
          | (go_at_call 22; (with_reducible refine (HS1.out _ _ _ (HNa.out.later Ha5.out (Nat.le_refl _)) (HNx.out.later Hx5.out (Nat.le_refl _))).mono ?_); rintro e w6 ⟨rfl, hb⟩; have hb6 := hb; have HB6 := hidP (HB5.out.trans (hb6.mono HB5.out.size)); have KVu6 := hidP (KVu5.out.below hb6 KVu5.out.lt); have Ha6 := hidP (Ha5.out.trans (hb6.mono Ha5.out.size)); have Hb6 := hidP (Hb5.out.trans (hb6.mono Hb5.out.size)); have Hu6 := hidP (Hu5.out.trans (hb6.mono Hu5.out.size)); have Hx6 := hidP (Hx5.out.trans (hb6.mono Hx5.out.size)); have Hy6 := hidP hb6; have qVu0 := KVu6.out.cell 0 (v := .int .i64 U.1) rfl; have qVu1 := KVu6.out.cell 1 (v := .slice au U.2.length cu) rfl; clear hb hb6)
          | (go_at_call 22; (with_reducible refine (HS2.out _ _ _ (HNb.out.later Hb6.out (Nat.le_refl _)) (HNy.out.later Hy6.out (Nat.le_refl _))).mono ?_); rintro e w7 ⟨rfl, hb⟩; have hb7 := hb; have HB7 := hidP (HB6.out.trans (hb7.mono HB6.out.size)); have KVu7 := hidP (KVu6.out.below hb7 KVu6.out.lt); have Ha7 := hidP (Ha6.out.trans (hb7.mono Ha6.out.size)); have Hb7 := hidP (Hb6.out.trans (hb7.mono Hb6.out.size)); have Hu7 := hidP (Hu6.out.trans (hb7.mono Hu6.out.size)); have Hx7 := hidP (Hx6.out.trans (hb7.mono Hx6.out.size)); have Hy7 := hidP (Hy6.out.trans (hb7.mono Hy6.out.size)); have qVu0 := KVu7.out.cell 0 (v := .int .i64 U.1) rfl; have qVu1 := KVu7.out.cell 1 (v := .slice au U.2.length cu) rfl; clear hb hb7)
          | (go_at_call 12; (with_reducible refine (HCu.out _ _ _ _ (HMu.out.later Hu7.out (Nat.le_refl _)) (HNa.out.later Ha7.out (Nat.le_refl _)) (HNb.out.later Hb7.out (Nat.le_refl _))).mono ?_); rintro e w8 ⟨rfl, hb⟩; have hb8 := hb; have HB8 := hidP (HB7.out.trans (hb8.mono HB7.out.size)); have KVu8 := hidP (KVu7.out.below hb8 KVu7.out.lt); have Ha8 := hidP (Ha7.out.trans (hb8.mono Ha7.out.size)); have Hb8 := hidP (Hb7.out.trans (hb8.mono Hb7.out.size)); have Hu8 := hidP (Hu7.out.trans (hb8.mono Hu7.out.size)); have Hx8 := hidP (Hx7.out.trans (hb8.mono Hx7.out.size)); have Hy8 := hidP (Hy7.out.trans (hb8.mono Hy7.out.size)); have qVu0 := KVu8.out.cell 0 (v := .int .i64 U.1) rfl; have qVu1 := KVu8.out.cell 1 (v := .slice au U.2.length cu) rfl; clear hb hb8)
          | (go_at_call 12; (with_reducible refine (HCm.out _ _ _ _ (HMu.out.later Hu8.out (Nat.le_refl _)) (HNx.out.later Hx8.out (Nat.le_refl _)) (HNy.out.later Hy8.out (Nat.le_refl _))).mono ?_); rintro e w9 ⟨rfl, hb⟩; have hb9 := hb; have HB9 := hidP (HB8.out.trans (hb9.mono HB8.out.size)); have KVu9 := hidP (KVu8.out.below hb9 KVu8.out.lt); have Ha9 := hidP (Ha8.out.trans (hb9.mono Ha8.out.size)); have Hb9 := hidP (Hb8.out.trans (hb9.mono Hb8.out.size)); have Hu9 := hidP (Hu8.out.trans (hb9.mono Hu8.out.size)); have Hx9 := hidP (Hx8.out.trans (hb9.mono Hx8.out.size)); have Hy9 := hidP (Hy8.out.trans (hb9.mono Hy8.out.size)); have qVu0 := KVu9.out.cell 0 (v := .int .i64 U.1) rfl; have qVu1 := KVu9.out.cell 1 (v := .slice au U.2.length cu) rfl; clear hb hb9))
        go_ret
        exact ⟨rfl, HB9.out⟩
  · have t5 : ((U.2.length : Int) == (Xa.length : Int) + 1) = true := by
      have h9 := HUL.out
      simp only [beq_iff_eq]
      omega
    have t6 : IntKind.i64.wrap ((Xa.length : Int) + 1) = (Xa.length : Int) + 1 := wrapI (by omega) (by omega)
    cases sa
    · simp only [Bool.false_eq_true, false_and, if_false] at HCm
      go_enter Try.func7, Try.ntmps7
      go_wp2_with (first
        | (go_at_call 11; (with_reducible refine (HWDa.out _ _ (HZa.out.later (HB0.out) (Nat.le_refl _))).mono ?_); rintro e w1 ⟨v1, rfl, hn, hb⟩; have HNa : Hid (Nums w1 v1 (Xa)) := hn; obtain ⟨awa, cwa, rfl, _⟩ := hn.get; have hb1 := hb; have HB1 := hidP hb1; clear hb hb1)
        | (go_at_call 11; (with_reducible refine (HWDb.out _ _ (HZb.out.later HB1.out (Nat.le_refl _))).mono ?_); rintro e w2 ⟨v2, rfl, hn, hb⟩; have HNb : Hid (Nums w2 v2 (Xb)) := hn; obtain ⟨awb, cwb, rfl, _⟩ := hn.get; have hb2 := hb; have HB2 := hidP (HB1.out.trans (hb2.mono HB1.out.size)); have Ha2 := hidP hb2; clear hb hb2)
        | (go_at_call 21; (with_reducible refine (HUC.out _ _ _ (HNa.out.later Ha2.out (Nat.le_refl _)) (HNb.out.later (Below.refl _ _) (Nat.le_refl _))).mono ?_); rintro e w3 ⟨v3, rfl, hm, hb⟩; have HMu : Hid (Mach w3 v3 (U)) := hm; obtain ⟨vsu, rfl, hSu⟩ := hm; obtain ⟨au, cu, rfl⟩ := hSu.sl; clear hSu; have hb3 := hb; have HB3 := hidP (HB2.out.trans (hb3.mono HB2.out.size)); have Ha3 := hidP (Ha2.out.trans (hb3.mono Ha2.out.size)); have Hb3 := hidP hb3; clear hb hb3)
        | (go_at_call 11; (with_reducible refine (HWDx.out _ _ (HZx.out.later (HB3.out.alloc HB3.out.size _) (Nat.le_refl _))).mono ?_); rintro e w4 ⟨v4, rfl, hn, hb⟩; have HNx : Hid (Nums w4 v4 (Xx)) := hn; obtain ⟨awx, cwx, rfl, _⟩ := hn.get; obtain ⟨s4, bb0, hb4⟩ := boxed hb (by simp); have KVu4 := hidP bb0; clear bb0; have HB4 := hidP (HB3.out.trans (hb4.mono HB3.out.size)); have Ha4 := hidP (Ha3.out.trans (hb4.mono Ha3.out.size)); have Hb4 := hidP (Hb3.out.trans (hb4.mono Hb3.out.size)); have Hu4 := hidP hb4; have qVu0 := KVu4.out.cell 0 (v := .int .i64 U.1) rfl; have qVu1 := KVu4.out.cell 1 (v := .slice au U.2.length cu) rfl; clear hb hb4)
        | (go_at_call 11; (with_reducible refine (HWDy.out _ _ (HZy.out.later HB4.out (Nat.le_refl _))).mono ?_); rintro e w5 ⟨v5, rfl, hn, hb⟩; have HNy : Hid (Nums w5 v5 (Xy)) := hn; obtain ⟨awy, cwy, rfl, _⟩ := hn.get; have hb5 := hb; have HB5 := hidP (HB4.out.trans (hb5.mono HB4.out.size)); have KVu5 := hidP (KVu4.out.below hb5 KVu4.out.lt); have Ha5 := hidP (Ha4.out.trans (hb5.mono Ha4.out.size)); have Hb5 := hidP (Hb4.out.trans (hb5.mono Hb4.out.size)); have Hu5 := hidP (Hu4.out.trans (hb5.mono Hu4.out.size)); have Hx5 := hidP hb5; have qVu0 := KVu5.out.cell 0 (v := .int .i64 U.1) rfl; have qVu1 := KVu5.out.cell 1 (v := .slice au U.2.length cu) rfl; clear hb hb5)
        | (go_at_call 22; (with_reducible refine (HS1.out _ _ _ (HNa.out.later Ha5.out (Nat.le_refl _)) (HNx.out.later Hx5.out (Nat.le_refl _))).mono ?_); rintro e w6 ⟨rfl, hb⟩; have hb6 := hb; have HB6 := hidP (HB5.out.trans (hb6.mono HB5.out.size)); have KVu6 := hidP (KVu5.out.below hb6 KVu5.out.lt); have Ha6 := hidP (Ha5.out.trans (hb6.mono Ha5.out.size)); have Hb6 := hidP (Hb5.out.trans (hb6.mono Hb5.out.size)); have Hu6 := hidP (Hu5.out.trans (hb6.mono Hu5.out.size)); have Hx6 := hidP (Hx5.out.trans (hb6.mono Hx5.out.size)); have Hy6 := hidP hb6; have qVu0 := KVu6.out.cell 0 (v := .int .i64 U.1) rfl; have qVu1 := KVu6.out.cell 1 (v := .slice au U.2.length cu) rfl; clear hb hb6)
        | (go_at_call 12; (with_reducible refine (HCu.out _ _ _ _ (HMu.out.later Hu6.out (Nat.le_refl _)) (HNa.out.later Ha6.out (Nat.le_refl _)) (HNb.out.later Hb6.out (Nat.le_refl _))).mono ?_); rintro e w7 ⟨rfl, hb⟩; have hb7 := hb; have HB7 := hidP (HB6.out.trans (hb7.mono HB6.out.size)); have KVu7 := hidP (KVu6.out.below hb7 KVu6.out.lt); have Ha7 := hidP (Ha6.out.trans (hb7.mono Ha6.out.size)); have Hb7 := hidP (Hb6.out.trans (hb7.mono Hb6.out.size)); have Hu7 := hidP (Hu6.out.trans (hb7.mono Hu6.out.size)); have Hx7 := hidP (Hx6.out.trans (hb7.mono Hx6.out.size)); have Hy7 := hidP (Hy6.out.trans (hb7.mono Hy6.out.size)); have qVu0 := KVu7.out.cell 0 (v := .int .i64 U.1) rfl; have qVu1 := KVu7.out.cell 1 (v := .slice au U.2.length cu) rfl; clear hb hb7)
        | (go_at_call 12; (with_reducible refine (HCm.out _ _ _ _ (HMu.out.later Hu7.out (Nat.le_refl _)) (HNx.out.later Hx7.out (Nat.le_refl _)) (HNy.out.later Hy7.out (Nat.le_refl _))).mono ?_); rintro e w8 ⟨rfl, hb⟩; have hb8 := hb; have HB8 := hidP (HB7.out.trans (hb8.mono HB7.out.size)); have KVu8 := hidP (KVu7.out.below hb8 KVu7.out.lt); have Ha8 := hidP (Ha7.out.trans (hb8.mono Ha7.out.size)); have Hb8 := hidP (Hb7.out.trans (hb8.mono Hb7.out.size)); have Hu8 := hidP (Hu7.out.trans (hb8.mono Hu7.out.size)); have Hx8 := hidP (Hx7.out.trans (hb8.mono Hx7.out.size)); have Hy8 := hidP (Hy7.out.trans (hb8.mono Hy7.out.size)); have qVu0 := KVu8.out.cell 0 (v := .int .i64 U.1) rfl; have qVu1 := KVu8.out.cell 1 (v := .slice au U.2.length cu) rfl; clear hb hb8))
      go_ret
      exact ⟨rfl, HB8.out⟩
    · cases sb
      · simp only [Bool.false_eq_true, and_false, if_false] at HCm
        go_enter Try.func7, Try.ntmps7
        go_wp2_with (first
          | (go_at_call 11; (with_reducible refine (HWDa.out _ _ (HZa.out.later (HB0.out) (Nat.le_refl _))).mono ?_); rintro e w1 ⟨v1, rfl, hn, hb⟩; have HNa : Hid (Nums w1 v1 (Xa)) := hn; obtain ⟨awa, cwa, rfl, _⟩ := hn.get; have hb1 := hb; have HB1 := hidP hb1; clear hb hb1)
          | (go_at_call 11; (with_reducible refine (HWDb.out _ _ (HZb.out.later HB1.out (Nat.le_refl _))).mono ?_); rintro e w2 ⟨v2, rfl, hn, hb⟩; have HNb : Hid (Nums w2 v2 (Xb)) := hn; obtain ⟨awb, cwb, rfl, _⟩ := hn.get; have hb2 := hb; have HB2 := hidP (HB1.out.trans (hb2.mono HB1.out.size)); have Ha2 := hidP hb2; clear hb hb2)
          | (go_at_call 21; (with_reducible refine (HUC.out _ _ _ (HNa.out.later Ha2.out (Nat.le_refl _)) (HNb.out.later (Below.refl _ _) (Nat.le_refl _))).mono ?_); rintro e w3 ⟨v3, rfl, hm, hb⟩; have HMu : Hid (Mach w3 v3 (U)) := hm; obtain ⟨vsu, rfl, hSu⟩ := hm; obtain ⟨au, cu, rfl⟩ := hSu.sl; clear hSu; have hb3 := hb; have HB3 := hidP (HB2.out.trans (hb3.mono HB2.out.size)); have Ha3 := hidP (Ha2.out.trans (hb3.mono Ha2.out.size)); have Hb3 := hidP hb3; clear hb hb3)
          | (go_at_call 11; (with_reducible refine (HWDx.out _ _ (HZx.out.later (HB3.out.alloc HB3.out.size _) (Nat.le_refl _))).mono ?_); rintro e w4 ⟨v4, rfl, hn, hb⟩; have HNx : Hid (Nums w4 v4 (Xx)) := hn; obtain ⟨awx, cwx, rfl, _⟩ := hn.get; obtain ⟨s4, bb0, hb4⟩ := boxed hb (by simp); have KVu4 := hidP bb0; clear bb0; have HB4 := hidP (HB3.out.trans (hb4.mono HB3.out.size)); have Ha4 := hidP (Ha3.out.trans (hb4.mono Ha3.out.size)); have Hb4 := hidP (Hb3.out.trans (hb4.mono Hb3.out.size)); have Hu4 := hidP hb4; have qVu0 := KVu4.out.cell 0 (v := .int .i64 U.1) rfl; have qVu1 := KVu4.out.cell 1 (v := .slice au U.2.length cu) rfl; clear hb hb4)
          | (go_at_call 11; (with_reducible refine (HWDy.out _ _ (HZy.out.later HB4.out (Nat.le_refl _))).mono ?_); rintro e w5 ⟨v5, rfl, hn, hb⟩; have HNy : Hid (Nums w5 v5 (Xy)) := hn; obtain ⟨awy, cwy, rfl, _⟩ := hn.get; have hb5 := hb; have HB5 := hidP (HB4.out.trans (hb5.mono HB4.out.size)); have KVu5 := hidP (KVu4.out.below hb5 KVu4.out.lt); have Ha5 := hidP (Ha4.out.trans (hb5.mono Ha4.out.size)); have Hb5 := hidP (Hb4.out.trans (hb5.mono Hb4.out.size)); have Hu5 := hidP (Hu4.out.trans (hb5.mono Hu4.out.size)); have Hx5 := hidP hb5; have qVu0 := KVu5.out.cell 0 (v := .int .i64 U.1) rfl; have qVu1 := KVu5.out.cell 1 (v := .slice au U.2.length cu) rfl; clear hb hb5)
          | (go_at_call 22; (with_reducible refine (HS1.out _ _ _ (HNa.out.later Ha5.out (Nat.le_refl _)) (HNx.out.later Hx5.out (Nat.le_refl _))).mono ?_); rintro e w6 ⟨rfl, hb⟩; have hb6 := hb; have HB6 := hidP (HB5.out.trans (hb6.mono HB5.out.size)); have KVu6 := hidP (KVu5.out.below hb6 KVu5.out.lt); have Ha6 := hidP (Ha5.out.trans (hb6.mono Ha5.out.size)); have Hb6 := hidP (Hb5.out.trans (hb6.mono Hb5.out.size)); have Hu6 := hidP (Hu5.out.trans (hb6.mono Hu5.out.size)); have Hx6 := hidP (Hx5.out.trans (hb6.mono Hx5.out.size)); have Hy6 := hidP hb6; have qVu0 := KVu6.out.cell 0 (v := .int .i64 U.1) rfl; have qVu1 := KVu6.out.cell 1 (v := .slice au U.2.length cu) rfl; clear hb hb6)
          | (go_at_call 22; (with_reducible refine (HS2.out _ _ _ (HNb.out.later Hb6.out (Nat.le_refl _)) (HNy.out.later Hy6.out (Nat.le_refl _))).mono ?_); rintro e w7 ⟨rfl, hb⟩; have hb7 := hb; have HB7 := hidP (HB6.out.trans (hb7.mono HB6.out.size)); have KVu7 := hidP (KVu6.out.below hb7 KVu6.out.lt); have Ha7 := hidP (Ha6.out.trans (hb7.mono Ha6.out.size)); have Hb7 := hidP (Hb6.out.trans (hb7.mono Hb6.out.size)); have Hu7 := hidP (Hu6.out.trans (hb7.mono Hu6.out.size)); have Hx7 := hidP (Hx6.out.trans (hb7.mono Hx6.out.size)); have Hy7 := hidP (Hy6.out.trans (hb7.mono Hy6.out.size)); have qVu0 := KVu7.out.cell 0 (v := .int .i64 U.1) rfl; have qVu1 := KVu7.out.cell 1 (v := .slice au U.2.length cu) rfl; clear hb hb7)
          | (go_at_call 12; (with_reducible refine (HCu.out _ _ _ _ (HMu.out.later Hu7.out (Nat.le_refl _)) (HNa.out.later Ha7.out (Nat.le_refl _)) (HNb.out.later Hb7.out (Nat.le_refl _))).mono ?_); rintro e w8 ⟨rfl, hb⟩; have hb8 := hb; have HB8 := hidP (HB7.out.trans (hb8.mono HB7.out.size)); have KVu8 := hidP (KVu7.out.below hb8 KVu7.out.lt); have Ha8 := hidP (Ha7.out.trans (hb8.mono Ha7.out.size)); have Hb8 := hidP (Hb7.out.trans (hb8.mono Hb7.out.size)); have Hu8 := hidP (Hu7.out.trans (hb8.mono Hu7.out.size)); have Hx8 := hidP (Hx7.out.trans (hb8.mono Hx7.out.size)); have Hy8 := hidP (Hy7.out.trans (hb8.mono Hy7.out.size)); have qVu0 := KVu8.out.cell 0 (v := .int .i64 U.1) rfl; have qVu1 := KVu8.out.cell 1 (v := .slice au U.2.length cu) rfl; clear hb hb8)
          | (go_at_call 12; (with_reducible refine (HCm.out _ _ _ _ (HMu.out.later Hu8.out (Nat.le_refl _)) (HNx.out.later Hx8.out (Nat.le_refl _)) (HNy.out.later Hy8.out (Nat.le_refl _))).mono ?_); rintro e w9 ⟨rfl, hb⟩; have hb9 := hb; have HB9 := hidP (HB8.out.trans (hb9.mono HB8.out.size)); have KVu9 := hidP (KVu8.out.below hb9 KVu8.out.lt); have Ha9 := hidP (Ha8.out.trans (hb9.mono Ha8.out.size)); have Hb9 := hidP (Hb8.out.trans (hb9.mono Hb8.out.size)); have Hu9 := hidP (Hu8.out.trans (hb9.mono Hu8.out.size)); have Hx9 := hidP (Hx8.out.trans (hb9.mono Hx8.out.size)); have Hy9 := hidP (Hy8.out.trans (hb9.mono Hy8.out.size)); have qVu0 := KVu9.out.cell 0 (v := .int .i64 U.1) rfl; have qVu1 := KVu9.out.cell 1 (v := .slice au U.2.length cu) rfl; clear hb hb9))
        go_ret
        exact ⟨rfl, HB9.out⟩
      · simp only [and_self, if_true] at HCm
        go_enter Try.func7, Try.ntmps7
        go_wp2_with (first
          | (go_at_call 11; (with_reducible refine (HWDa.out _ _ (HZa.out.later (HB0.out) (Nat.le_refl _))).mono ?_); rintro e w1 ⟨v1, rfl, hn, hb⟩; have HNa : Hid (Nums w1 v1 (Xa)) := hn; obtain ⟨awa, cwa, rfl, _⟩ := hn.get; have hb1 := hb; have HB1 := hidP hb1; clear hb hb1)
          | (go_at_call 11; (with_reducible refine (HWDb.out _ _ (HZb.out.later HB1.out (Nat.le_refl _))).mono ?_); rintro e w2 ⟨v2, rfl, hn, hb⟩; have HNb : Hid (Nums w2 v2 (Xb)) := hn; obtain ⟨awb, cwb, rfl, _⟩ := hn.get; have hb2 := hb; have HB2 := hidP (HB1.out.trans (hb2.mono HB1.out.size)); have Ha2 := hidP hb2; clear hb hb2)
          | (go_at_call 21; (with_reducible refine (HUC.out _ _ _ (HNa.out.later Ha2.out (Nat.le_refl _)) (HNb.out.later (Below.refl _ _) (Nat.le_refl _))).mono ?_); rintro e w3 ⟨v3, rfl, hm, hb⟩; have HMu : Hid (Mach w3 v3 (U)) := hm; obtain ⟨vsu, rfl, hSu⟩ := hm; obtain ⟨au, cu, rfl⟩ := hSu.sl; clear hSu; have hb3 := hb; have HB3 := hidP (HB2.out.trans (hb3.mono HB2.out.size)); have Ha3 := hidP (Ha2.out.trans (hb3.mono Ha2.out.size)); have Hb3 := hidP hb3; clear hb hb3)
          | (go_at_call 11; (with_reducible refine (HWDx.out _ _ (HZx.out.later (HB3.out.alloc HB3.out.size _) (Nat.le_refl _))).mono ?_); rintro e w4 ⟨v4, rfl, hn, hb⟩; have HNx : Hid (Nums w4 v4 (Xx)) := hn; obtain ⟨awx, cwx, rfl, _⟩ := hn.get; obtain ⟨s4, bb0, hb4⟩ := boxed hb (by simp); have KVu4 := hidP bb0; clear bb0; have HB4 := hidP (HB3.out.trans (hb4.mono HB3.out.size)); have Ha4 := hidP (Ha3.out.trans (hb4.mono Ha3.out.size)); have Hb4 := hidP (Hb3.out.trans (hb4.mono Hb3.out.size)); have Hu4 := hidP hb4; have qVu0 := KVu4.out.cell 0 (v := .int .i64 U.1) rfl; have qVu1 := KVu4.out.cell 1 (v := .slice au U.2.length cu) rfl; clear hb hb4)
          | (go_at_call 11; (with_reducible refine (HWDy.out _ _ (HZy.out.later HB4.out (Nat.le_refl _))).mono ?_); rintro e w5 ⟨v5, rfl, hn, hb⟩; have HNy : Hid (Nums w5 v5 (Xy)) := hn; obtain ⟨awy, cwy, rfl, _⟩ := hn.get; have hb5 := hb; have HB5 := hidP (HB4.out.trans (hb5.mono HB4.out.size)); have KVu5 := hidP (KVu4.out.below hb5 KVu4.out.lt); have Ha5 := hidP (Ha4.out.trans (hb5.mono Ha4.out.size)); have Hb5 := hidP (Hb4.out.trans (hb5.mono Hb4.out.size)); have Hu5 := hidP (Hu4.out.trans (hb5.mono Hu4.out.size)); have Hx5 := hidP hb5; have qVu0 := KVu5.out.cell 0 (v := .int .i64 U.1) rfl; have qVu1 := KVu5.out.cell 1 (v := .slice au U.2.length cu) rfl; clear hb hb5)
          | (go_at_call 22; (with_reducible refine (HS1.out _ _ _ (HNa.out.later Ha5.out (Nat.le_refl _)) (HNx.out.later Hx5.out (Nat.le_refl _))).mono ?_); rintro e w6 ⟨rfl, hb⟩; have hb6 := hb; have HB6 := hidP (HB5.out.trans (hb6.mono HB5.out.size)); have KVu6 := hidP (KVu5.out.below hb6 KVu5.out.lt); have Ha6 := hidP (Ha5.out.trans (hb6.mono Ha5.out.size)); have Hb6 := hidP (Hb5.out.trans (hb6.mono Hb5.out.size)); have Hu6 := hidP (Hu5.out.trans (hb6.mono Hu5.out.size)); have Hx6 := hidP (Hx5.out.trans (hb6.mono Hx5.out.size)); have Hy6 := hidP hb6; have qVu0 := KVu6.out.cell 0 (v := .int .i64 U.1) rfl; have qVu1 := KVu6.out.cell 1 (v := .slice au U.2.length cu) rfl; clear hb hb6)
          | (go_at_call 22; (with_reducible refine (HS2.out _ _ _ (HNb.out.later Hb6.out (Nat.le_refl _)) (HNy.out.later Hy6.out (Nat.le_refl _))).mono ?_); rintro e w7 ⟨rfl, hb⟩; have hb7 := hb; have HB7 := hidP (HB6.out.trans (hb7.mono HB6.out.size)); have KVu7 := hidP (KVu6.out.below hb7 KVu6.out.lt); have Ha7 := hidP (Ha6.out.trans (hb7.mono Ha6.out.size)); have Hb7 := hidP (Hb6.out.trans (hb7.mono Hb6.out.size)); have Hu7 := hidP (Hu6.out.trans (hb7.mono Hu6.out.size)); have Hx7 := hidP (Hx6.out.trans (hb7.mono Hx6.out.size)); have Hy7 := hidP (Hy6.out.trans (hb7.mono Hy6.out.size)); have qVu0 := KVu7.out.cell 0 (v := .int .i64 U.1) rfl; have qVu1 := KVu7.out.cell 1 (v := .slice au U.2.length cu) rfl; clear hb hb7)
          | (go_at_call 12; (with_reducible refine (HCu.out _ _ _ _ (HMu.out.later Hu7.out (Nat.le_refl _)) (HNa.out.later Ha7.out (Nat.le_refl _)) (HNb.out.later Hb7.out (Nat.le_refl _))).mono ?_); rintro e w8 ⟨rfl, hb⟩; have hb8 := hb; have HB8 := hidP (HB7.out.trans (hb8.mono HB7.out.size)); have KVu8 := hidP (KVu7.out.below hb8 KVu7.out.lt); have Ha8 := hidP (Ha7.out.trans (hb8.mono Ha7.out.size)); have Hb8 := hidP (Hb7.out.trans (hb8.mono Hb7.out.size)); have Hu8 := hidP (Hu7.out.trans (hb8.mono Hu7.out.size)); have Hx8 := hidP (Hx7.out.trans (hb8.mono Hx7.out.size)); have Hy8 := hidP (Hy7.out.trans (hb8.mono Hy7.out.size)); have qVu0 := KVu8.out.cell 0 (v := .int .i64 U.1) rfl; have qVu1 := KVu8.out.cell 1 (v := .slice au U.2.length cu) rfl; clear hb hb8)
          | (go_at_call 12; (with_reducible refine (HCm.out _ _ _ _ (HMu.out.later Hu8.out (Nat.le_refl _)) (HNx.out.later Hx8.out (Nat.le_refl _)) (HNy.out.later Hy8.out (Nat.le_refl _))).mono ?_); rintro e w9 ⟨rfl, hb⟩; have hb9 := hb; have HB9 := hidP (HB8.out.trans (hb9.mono HB8.out.size)); have KVu9 := hidP (KVu8.out.below hb9 KVu8.out.lt); have Ha9 := hidP (Ha8.out.trans (hb9.mono Ha8.out.size)); have Hb9 := hidP (Hb8.out.trans (hb9.mono Hb8.out.size)); have Hu9 := hidP (Hu8.out.trans (hb9.mono Hu8.out.size)); have Hx9 := hidP (Hx8.out.trans (hb9.mono Hx8.out.size)); have Hy9 := hidP (Hy8.out.trans (hb9.mono Hy8.out.size)); have qVu0 := KVu9.out.cell 0 (v := .int .i64 U.1) rfl; have qVu1 := KVu9.out.cell 1 (v := .slice au U.2.length cu) rfl; clear hb hb9))
        go_ret
        exact ⟨rfl, HB9.out⟩
theorem walk (a0 : Option Addr) (len0 cap0 : Nat) (z0 : List Int) (a1 : Option Addr) (len1 cap1 : Nat) (z1 : List Int) (a2 : Option Addr) (len2 cap2 : Nat) (z2 : List Int) (a3 : Option Addr) (len3 cap3 : Nat) (z3 : List Int) (w : World) (w0 : IsRow .i64 w a0 len0 cap0 z0 ∧ cap0 * 8 ≤ 140737488351232) (w1 : IsRow .i64 w a1 len1 cap1 z1 ∧ cap1 * 8 ≤ 140737488351232) (w2 : IsRow .i64 w a2 len2 cap2 z2 ∧ cap2 * 8 ≤ 140737488351232) (w3 : IsRow .i64 w a3 len3 cap3 z3 ∧ cap3 * 8 ≤ 140737488351232) :
    Calls Try.prog 7 #[.slice a0 len0 cap0, .slice a1 len1 cap1, .slice a2 len2 cap2, .slice a3 len3 cap3] w fun e w' => e = .returned (.bool true) ∧ Below w.heap.size w w' := by
  obtain ⟨p0, _, _⟩ := row_nums w0.1
  obtain ⟨p1, _, _⟩ := row_nums w1.1
  obtain ⟨p2, _, _⟩ := row_nums w2.1
  obtain ⟨p3, _, _⟩ := row_nums w3.1
  exact core _ _ _ _ _ _ _ _ w p0 (row_wf w0.1) p1 (row_wf w1.1) p2 (row_wf w2.1) p3 (row_wf w3.1)

set_option maxRecDepth 100000 in
theorem lifted (os : Os) (started : os.Started) (H : Type) (enc : TypeId × Value → H) :
    ReturnsInHanded {} Try.checked os 7 .any (Rows.weighCrossSpec.pre6 enc Try.prog Try.f7 Rows.weighCrossRow.domain false) (Rows.weighCrossSpec.post enc Try.prog Try.f7 false true false false) := by
  refine returnsInHanded_of_change_sized (C := Try.checked) own started (by kernel_rfl) Try.func7
    (ChangeSpec.witness6 (enc := enc) (C := Try.checked) false ⟨#[], #[.slice none 0 0, .slice none 0 0, .slice none 0 0, .slice none 0 0], []⟩ 8 (by kernel_rfl) (by kernel_rfl) (by kernel_rfl) (by kernel_rfl)) ?_
  intro W base args ds gs before hval0 hW hcnd hsz0 _
  have hsz : (DataW.weightsEach Try.prog (Try.f7.params.toList ++ Rows.weighCrossSpec.plain.varTypes Try.prog) (ds ++ gs)).all (· ≤ reachBytes) = true := hsz0
  have hval : ∀ (j : Nat) t v, Try.f7.params[j]? = some t → args[j]? = some v → Value.okWide Try.prog W .any base t v := hval0
  clear hval0 hsz0
  have hW' := hW
  obtain ⟨p, q, hA0, hV, rfl, hfz, hnd⟩ := hW
  have hA : DataW.TrodAll enc Try.prog W 0 (fun _ => true) true Try.f7.params.toList args.toList ds p := hA0
  rw [Try.params7] at hA hval hsz
  obtain ⟨v0, vs0, d0, ds0, p0, q0, hargs, rfl, rfl, h0, r0⟩ := trodAll_cons hA
  obtain ⟨v1, vs1, d1, ds1, p1, q1, rfl, rfl, rfl, h1, r1⟩ := trodAll_cons r0
  obtain ⟨v2, vs2, d2, ds2, p2, q2, rfl, rfl, rfl, h2, r2⟩ := trodAll_cons r1
  obtain ⟨v3, vs3, d3, ds3, p3, q3, rfl, rfl, rfl, h3, r3⟩ := trodAll_cons r2
  obtain ⟨rfl, rfl, rfl⟩ := trodAll_nil r3
  obtain rfl : args = #[v0, v1, v2, v3] := by cases args; simp_all
  obtain ⟨rfl, rfl⟩ := trodVars_none hV
  obtain ⟨a0, len0, cap0, rfl⟩ := okWide_slice Try.underlying25 (hval 0 25 v0 rfl rfl)
  have k0 := h0
  have lt0 : ∀ x ∈ p0, x.block < W.heap.size := by obtain ⟨m, hm⟩ := k0; exact DataW.trod_lt m _ _ _ hm
  obtain ⟨z0, w0⟩ : ∃ zs, IsRow .i64 W a0 len0 cap0 zs ∧ cap0 * 8 ≤ 140737488351232 := by
    obtain ⟨fuel, hf⟩ := h0
    rcases open_ints Try.underlying25 Try.underlying3 (by kernel_rfl) hf with ⟨hcs, _⟩ | ⟨x, l, c, zs, hcs, _, hl, hm, hz, hx, hcell, hwz⟩
    · simp [Value.cells] at hcs
      obtain ⟨rfl, rfl, rfl⟩ := hcs
      exact ⟨[], .inl ⟨rfl, rfl, rfl, rfl⟩, by omega⟩
    · have hd := congrArg Prod.fst hx
      have hsw := sized_slice hsz (j := 0) (t := 25) (e := 3) rfl (congrArg some hd) Try.underlying25
      have hby : Try.prog.bytesOf 3 = 8 := by kernel_rfl
      rw [hby] at hsw
      simp [Value.cells] at hcs
      obtain ⟨rfl, rfl, rfl⟩ := hcs
      have hz' : zs.length = cap0 := by simpa using hz
      simp only [lits, List.length_map, List.length_take, List.length_drop, reachBytes] at hsw
      exact ⟨zs, .inr ⟨_, rfl, hl, hm, hz', hcell, hwz⟩, by omega⟩
  obtain ⟨a1, len1, cap1, rfl⟩ := okWide_slice Try.underlying25 (hval 1 25 v1 rfl rfl)
  have k1 := h1
  have lt1 : ∀ x ∈ p1, x.block < W.heap.size := by obtain ⟨m, hm⟩ := k1; exact DataW.trod_lt m _ _ _ hm
  obtain ⟨z1, w1⟩ : ∃ zs, IsRow .i64 W a1 len1 cap1 zs ∧ cap1 * 8 ≤ 140737488351232 := by
    obtain ⟨fuel, hf⟩ := h1
    rcases open_ints Try.underlying25 Try.underlying3 (by kernel_rfl) hf with ⟨hcs, _⟩ | ⟨x, l, c, zs, hcs, _, hl, hm, hz, hx, hcell, hwz⟩
    · simp [Value.cells] at hcs
      obtain ⟨rfl, rfl, rfl⟩ := hcs
      exact ⟨[], .inl ⟨rfl, rfl, rfl, rfl⟩, by omega⟩
    · have hd := congrArg Prod.fst hx
      have hsw := sized_slice hsz (j := 1) (t := 25) (e := 3) rfl (congrArg some hd) Try.underlying25
      have hby : Try.prog.bytesOf 3 = 8 := by kernel_rfl
      rw [hby] at hsw
      simp [Value.cells] at hcs
      obtain ⟨rfl, rfl, rfl⟩ := hcs
      have hz' : zs.length = cap1 := by simpa using hz
      simp only [lits, List.length_map, List.length_take, List.length_drop, reachBytes] at hsw
      exact ⟨zs, .inr ⟨_, rfl, hl, hm, hz', hcell, hwz⟩, by omega⟩
  obtain ⟨a2, len2, cap2, rfl⟩ := okWide_slice Try.underlying25 (hval 2 25 v2 rfl rfl)
  have k2 := h2
  have lt2 : ∀ x ∈ p2, x.block < W.heap.size := by obtain ⟨m, hm⟩ := k2; exact DataW.trod_lt m _ _ _ hm
  obtain ⟨z2, w2⟩ : ∃ zs, IsRow .i64 W a2 len2 cap2 zs ∧ cap2 * 8 ≤ 140737488351232 := by
    obtain ⟨fuel, hf⟩ := h2
    rcases open_ints Try.underlying25 Try.underlying3 (by kernel_rfl) hf with ⟨hcs, _⟩ | ⟨x, l, c, zs, hcs, _, hl, hm, hz, hx, hcell, hwz⟩
    · simp [Value.cells] at hcs
      obtain ⟨rfl, rfl, rfl⟩ := hcs
      exact ⟨[], .inl ⟨rfl, rfl, rfl, rfl⟩, by omega⟩
    · have hd := congrArg Prod.fst hx
      have hsw := sized_slice hsz (j := 2) (t := 25) (e := 3) rfl (congrArg some hd) Try.underlying25
      have hby : Try.prog.bytesOf 3 = 8 := by kernel_rfl
      rw [hby] at hsw
      simp [Value.cells] at hcs
      obtain ⟨rfl, rfl, rfl⟩ := hcs
      have hz' : zs.length = cap2 := by simpa using hz
      simp only [lits, List.length_map, List.length_take, List.length_drop, reachBytes] at hsw
      exact ⟨zs, .inr ⟨_, rfl, hl, hm, hz', hcell, hwz⟩, by omega⟩
  obtain ⟨a3, len3, cap3, rfl⟩ := okWide_slice Try.underlying25 (hval 3 25 v3 rfl rfl)
  have k3 := h3
  have lt3 : ∀ x ∈ p3, x.block < W.heap.size := by obtain ⟨m, hm⟩ := k3; exact DataW.trod_lt m _ _ _ hm
  obtain ⟨z3, w3⟩ : ∃ zs, IsRow .i64 W a3 len3 cap3 zs ∧ cap3 * 8 ≤ 140737488351232 := by
    obtain ⟨fuel, hf⟩ := h3
    rcases open_ints Try.underlying25 Try.underlying3 (by kernel_rfl) hf with ⟨hcs, _⟩ | ⟨x, l, c, zs, hcs, _, hl, hm, hz, hx, hcell, hwz⟩
    · simp [Value.cells] at hcs
      obtain ⟨rfl, rfl, rfl⟩ := hcs
      exact ⟨[], .inl ⟨rfl, rfl, rfl, rfl⟩, by omega⟩
    · have hd := congrArg Prod.fst hx
      have hsw := sized_slice hsz (j := 3) (t := 25) (e := 3) rfl (congrArg some hd) Try.underlying25
      have hby : Try.prog.bytesOf 3 = 8 := by kernel_rfl
      rw [hby] at hsw
      simp [Value.cells] at hcs
      obtain ⟨rfl, rfl, rfl⟩ := hcs
      have hz' : zs.length = cap3 := by simpa using hz
      simp only [lits, List.length_map, List.length_take, List.length_drop, reachBytes] at hsw
      exact ⟨zs, .inr ⟨_, rfl, hl, hm, hz', hcell, hwz⟩, by omega⟩
  refine (walk a0 len0 cap0 z0 a1 len1 cap1 z1 a2 len2 cap2 z2 a3 len3 cap3 z3 W w0 w1 w2 w3).mono fun e W' ⟨he, bel⟩ => ?_
  subst he
  exact ⟨_, rfl, _, _, _, [], _, [], hW', trodAll_mk1 (shut_bool Try.underlying4 _), (trodAll_cons_mk (Below.trod laidOut (by kernel_rfl) (of_decide_eq_true (by kernel_rfl)) k0 bel lt0) (trodAll_cons_mk (Below.trod laidOut (by kernel_rfl) (of_decide_eq_true (by kernel_rfl)) k1 bel lt1) (trodAll_cons_mk (Below.trod laidOut (by kernel_rfl) (of_decide_eq_true (by kernel_rfl)) k2 bel lt2) (trodAll_cons_mk (Below.trod laidOut (by kernel_rfl) (of_decide_eq_true (by kernel_rfl)) k3 bel lt3) trodAll_mk0)))), rfl, bel.frame _, fun h => by cases h⟩
end Go.Proofs.Ytpfcljhbamnghab.weighCross
namespace Go.Proofs.Ytpfcljhbamnghab
theorem weighCross_holds : Rows.WeighCrossSaid :=
  OpenClaim.holds_of_wide 7 Try.f7 rfl rfl rfl rfl rfl rfl rfl ⟨rfl, rfl, rfl, rfl, rfl⟩ rfl rfl rfl rfl rfl (by kernel_rfl) Try.func7 (by kernel_rfl)
    (of_decide_eq_true (by kernel_rfl)) (by unfold Func.isWrapper; first | (rw [if_pos (by decide +kernel)]; kernel_rfl) | (rw [if_neg (by decide +kernel)]; exact ⟨rfl, rfl⟩))
    (fun os started H enc _ => weighCross.lifted os started H enc)
#print axioms weighCross_holds
end Go.Proofs.Ytpfcljhbamnghab
