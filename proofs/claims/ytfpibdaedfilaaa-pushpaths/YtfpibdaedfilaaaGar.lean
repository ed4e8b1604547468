/- Pushed machines: right, with the same ways, and an end can be had for 0 (no program in sight). -/
import Derived.Test.YtfpibdaedfilaaaGam
import Derived.Test.YtfpibdaedfilaaaGaq
namespace Go.Proofs.Ytfpibdaedfilaaa.Pl
set_option linter.unusedVariables false
set_option linter.unusedSimpArgs false
theorem arc_rightP {m : Mc} (h : faultM m = 0) {q : Nat} (hq : q < m.2.length) {a : Ar} (ha : a ∈ (el m.2 q).2) : 0 ≤ a.1 ∧ a.1 ≤ 1000 ∧ 0 ≤ a.2.1 ∧ a.2.1 ≤ 1000 ∧ 0 ≤ a.2.2.1 ∧ a.2.2.1 ≤ 1000000000 ∧ ∃ t : Nat, a.2.2.2 = (t : Int) ∧ t < m.2.length := by
 obtain ⟨z, l⟩ := m
 simp only at hq ha ⊢
 have h1 := (right_st h hq).2
 rw [List.all_eq_true] at h1
 have h2 := h1 a ha
 simp only [arcB, Bool.and_eq_true, inB, decide_eq_true_eq] at h2
 exact ⟨by omega, by omega, by omega, by omega, by omega, by omega, a.2.2.2.toNat, by omega, by omega⟩
theorem end_all {m : Mc} (hf : faultM m = 0) {bs : List Bool} (hB : Least (BackC m.2) m.2.length bs) {q : Nat} (hq : q < m.2.length) (h : el bs q = true) : ∃ c, EndC m.2 q c := by
 refine hB.2.2 (fun q => ∃ c, EndC m.2 q c) ⟨fun q hq hn => ⟨_, 0, q, 0, .nil, hq, hn, rfl⟩, fun q hq a ha => ?_⟩ q hq h
 rintro ⟨c, n, p, d, hr, hp, hn, rfl⟩
 obtain ⟨_, _, _, _, _, _, t, e1, e2⟩ := arc_rightP hf hq ha
 rw [e1, Int.toNat_natCast] at hr
 exact ⟨_, n + 1, p, a.2.2.1.toNat + d, Run.first ⟨a, ha, e1, rfl⟩ hr, hp, hn, rfl⟩
theorem pot_of {m : Mc} {vs : List Int} (hf : faultM m = 0) (hall : ∀ q, q < m.2.length → ∃ c, EndC m.2 q c) (hD : DstAns m (EndC m.2) vs 0) : Pot m.2 vs ∧ ∀ q, q < m.2.length → LeastP (EndC m.2 q) (el vs q).toNat := by
 have hL : vs.length = m.2.length ∧ ∀ q, q < m.2.length → ∃ c : Nat, LeastP (EndC m.2 q) c ∧ c ≤ 1000000000 ∧ el vs q = (c : Int) := by
  rcases hD with ⟨h0, _⟩ | ⟨_, ⟨_, h1, h2⟩ | ⟨h1, _⟩⟩
  ·exact absurd hf h0
  ·refine ⟨h1, fun q hq => ?_⟩
   rcases h2 q hq with ⟨k, _⟩ | ⟨c, hc, ⟨k1, k2, _⟩ | ⟨_, _, k⟩⟩
   ·obtain ⟨c, hc⟩ := hall q hq
    exact absurd hc (k c)
   ·exact ⟨c, hc, k1, k2⟩
   ·cases k
  ·cases h1
 refine ⟨⟨hL.1, fun q hq => ?_, fun q hq a ha => ?_, fun q hq hn => ?_⟩, fun q hq => ?_⟩
 ·obtain ⟨c, _, h2, h3⟩ := hL.2 q hq
  omega
 ·obtain ⟨_, _, _, _, h5, _, t, e1, e2⟩ := arc_rightP hf hq ha
  obtain ⟨c, h1, h2, h3⟩ := hL.2 q hq
  obtain ⟨d, k1, k2, k3⟩ := hL.2 t e2
  refine ⟨t, e1, e2, h5, ?_⟩
  obtain ⟨n, p, d0, hr, hp, hn, e⟩ := k1.1
  have := h1.2 (a.2.2.1.toNat + d) ⟨n + 1, p, a.2.2.1.toNat + d0, Run.first ⟨a, ha, e1, rfl⟩ hr, hp, hn, by omega⟩
  omega
 ·obtain ⟨c, h1, h2, h3⟩ := hL.2 q hq
  obtain ⟨f1, f2⟩ := fin_small hf hq hn
  have := h1.2 _ ⟨0, q, 0, .nil, hq, hn, rfl⟩
  omega
 ·obtain ⟨c, h1, h2, h3⟩ := hL.2 q hq
  rw [h3, Int.toNat_natCast]
  exact h1
theorem psh_arcN (vs : List Int) (l : List St) : arcN (pshL vs l) = arcN l := by
  have key : ∀ n, n ≤ l.length → arcN ((List.range n).map (pshS vs l)) = arcN (l.take n) := by
    intro n
    induction n with
    | zero => intro _; simp [arcN]
    | succ n ih =>
      intro hn
      rw [List.range_succ, List.map_append, arcN_append, ih (by omega), arcN_take (by omega)]
      simp [arcN, pshS]
  have := key l.length (Nat.le_refl _)
  rwa [List.take_of_length_le (Nat.le_refl _)] at this
theorem psh_over {vs : List Int} {l : List St} (h : pshO vs l = false) {q : Nat} (hq : q < l.length) {a : Ar} (ha : a ∈ (el l q).2) : (pshA vs q a).2.2.1 ≤ 1000000000 := by
 unfold pshO at h
 rw [List.any_eq_false] at h
 have h1 := h q (List.mem_range.2 hq)
 rw [Bool.not_eq_true, List.any_eq_false] at h1
 have h2 := h1 a ha
 simpa using h2
theorem psh_right {m : Mc} {vs : List Int} (hf : faultM m = 0) (hP : Pot m.2 vs) (hO : pshO vs m.2 = false) : faultM (pshM vs m) = 0 := by
 obtain ⟨h1, h2⟩ := faultM_zero hf
 refine faultM_ok ?_ ?_
 ·simp only [sizeB, pshM, psh_length, psh_arcN] at h1 ⊢
  exact h1
 ·simp only [rangeB, pshM, psh_length, Bool.and_eq_true] at h2 ⊢
  refine ⟨h2.1, ?_⟩
  rw [List.all_eq_true]
  intro s hs
  obtain ⟨q, hq, rfl⟩ := List.mem_map.1 hs
  rw [List.mem_range] at hq
  have g1 := hP.nn q hq
  unfold stB
  rw [Bool.and_eq_true]
  constructor
  ·simp only [pshS, pshF]
   by_cases hn : (el m.2 q).1 = 1000000001
   ·rw [if_pos hn]; rfl
   ·rw [if_neg hn]
    have := hP.fin q hq hn
    simp [finB, inB]
    omega
  ·rw [List.all_eq_true]
   intro b hb
   simp only [pshS] at hb
   obtain ⟨a, ha, rfl⟩ := List.mem_map.1 hb
   have k1 := psh_over hO hq ha
   obtain ⟨t, e1, e2, e3, e4⟩ := hP.arc q hq a ha
   obtain ⟨r1, r2, r3, r4, _, _, _⟩ := arc_rightP hf hq ha
   have k2 : (pshA vs q a).2.2.1 = a.2.2.1 + el vs t - el vs q := by simp only [pshA]; rw [e1, Int.toNat_natCast]
   have k3 := (hP.nn t e2).1
   simp only [arcB, Bool.and_eq_true, inB, decide_eq_true_eq]
   refine ⟨⟨⟨⟨r1, r2⟩, r3, r4⟩, by omega, k1⟩, ?_⟩
   simp only [pshA]
   omega
theorem psh_fin {vs : List Int} {l : List St} (hP : Pot l vs) {q : Nat} (hq : q < l.length) : (el (pshL vs l) q).1 ≠ 1000000001 ↔ (el l q).1 ≠ 1000000001 := by
 rw [psh_el hq]
 simp only [pshS, pshF]
 by_cases hn : (el l q).1 = 1000000001
 ·rw [if_pos hn]; simp [hn]
 ·rw [if_neg hn]
  have h1 := hP.fin q hq hn
  have h2 := (hP.nn q hq).1
  constructor
  ·exact fun _ => hn
  ·intro _ e; omega
end Go.Proofs.Ytfpibdaedfilaaa.Pl
