/- Plain facts: twins of a third of the greatest at most are a semiring under the lesser and the sum (no program in sight). -/
import Derived.Test.YthdiigjndeljlaaTp
import Derived.Test.YthdiigjndeljlaaTt
namespace Go.Proofs.Ythdiigjndeljlaa.Wt
open Go.ChangeShapes Go.WideShapes Go.ChangeAt Go.RowKit
open Go.Proofs.Ythdiigjndeljlaa.Pl
set_option linter.unusedVariables false

def Th (m a b : Int) : Prop := (a = 1000000001 ∧ b = 1000000001) ∨ ((0 ≤ a ∧ a ≤ m) ∧ 0 ≤ b ∧ b ≤ m)
def lsr (a b c d : Int) : Int × Int := if lessB c d a b = true then (c, d) else (a, b)
def sm (a b c d : Int) : Int × Int := if (infB a b || infB c d) = true then (1000000001, 1000000001) else (a + c, b + d)
theorem Th.may {m a b : Int} (h : Th m a b) (hm : m ≤ 1000000000) : mayB a b = true := mayB_iff.2 (by unfold Th at h; omega)
theorem plus_th {m n a b c d : Int} (h : Th m a b) (g : Th n c d) (hm : m ≤ 1000000000) (hn : n ≤ 1000000000) : plusT a b c d = ((lsr a b c d).1, (lsr a b c d).2, 0) := by
  unfold plusT lsr
  rw [h.may hm, g.may hn]
  simp only [Bool.and_self, if_true]
  split <;> rfl
theorem lsr_th {m n k a b c d : Int} (h : Th m a b) (g : Th n c d) (hm : m ≤ k) (hn : n ≤ k) : Th k (lsr a b c d).1 (lsr a b c d).2 := by
  unfold lsr
  unfold Th at *
  split <;> simp only [] <;> omega
theorem inf_th {m a b : Int} (h : Th m a b) (hm : m ≤ 1000000000) : infB a b = decide (a = 1000000001) := by
  unfold Th at h
  by_cases ha : a = 1000000001
  · have hb : b = 1000000001 := by omega
    simp [infB, ha, hb]
  · simp [infB, ha]
theorem times_th {m n a b c d : Int} (h : Th m a b) (g : Th n c d) (hm : m + n ≤ 1000000000) (m0 : 0 ≤ m) (n0 : 0 ≤ n) : timesT a b c d = ((sm a b c d).1, (sm a b c d).2, 0) := by
  unfold timesT thenT sm
  rw [h.may (by omega), g.may (by omega), inf_th h (by omega), inf_th g (by omega)]
  simp only [Bool.and_self, if_true]
  by_cases ha : a = 1000000001 <;> by_cases hc : c = 1000000001 <;> simp [ha, hc]
  unfold Th at h g
  omega
theorem sm_th {m n a b c d : Int} (h : Th m a b) (g : Th n c d) (hm : m + n ≤ 1000000000) (m0 : 0 ≤ m) (n0 : 0 ≤ n) : Th (m + n) (sm a b c d).1 (sm a b c d).2 := by
  unfold sm
  rw [inf_th h (by omega), inf_th g (by omega)]
  by_cases ha : a = 1000000001 <;> by_cases hc : c = 1000000001 <;> simp [ha, hc, Th]
  unfold Th at h g
  omega
theorem lsr_comm (a b c d : Int) : lsr c d a b = lsr a b c d := by
  unfold lsr
  rcases bool_cases (lessB a b c d) with h | h <;> rcases bool_cases (lessB c d a b) with g | g <;> simp only [h, g] <;> simp <;> simp only [lessB, Bool.or_eq_true, Bool.and_eq_true, decide_eq_true_eq, beq_iff_eq, Bool.or_eq_false_iff, Bool.and_eq_false_iff, decide_eq_false_iff_not, beq_eq_false_iff_ne] at h g <;> omega
theorem lsr_assoc (a b c d x y : Int) : lsr (lsr a b c d).1 (lsr a b c d).2 x y = lsr a b (lsr c d x y).1 (lsr c d x y).2 := by
  unfold lsr
  rcases bool_cases (lessB c d a b) with h | h <;> rcases bool_cases (lessB x y c d) with g | g <;> rcases bool_cases (lessB x y a b) with k | k <;> simp [h, g, k] <;> simp only [lessB, Bool.or_eq_true, Bool.and_eq_true, decide_eq_true_eq, beq_iff_eq, Bool.or_eq_false_iff, Bool.and_eq_false_iff, decide_eq_false_iff_not, beq_eq_false_iff_ne] at h g k <;> omega
theorem sm_comm (a b c d : Int) : sm c d a b = sm a b c d := by
  unfold sm
  rw [Bool.or_comm, Int.add_comm c a, Int.add_comm d b]
theorem sm_assoc {a b c d x y : Int} (h : Th 333333333 a b) (g : Th 333333333 c d) (k : Th 333333333 x y) : sm (sm a b c d).1 (sm a b c d).2 x y = sm a b (sm c d x y).1 (sm c d x y).2 := by
  have e1 : (sm a b c d) = if a = 1000000001 ∨ c = 1000000001 then (1000000001, 1000000001) else (a + c, b + d) := by
    unfold sm; rw [inf_th h (by omega), inf_th g (by omega)]; simp
  have e2 : (sm c d x y) = if c = 1000000001 ∨ x = 1000000001 then (1000000001, 1000000001) else (c + x, d + y) := by
    unfold sm; rw [inf_th g (by omega), inf_th k (by omega)]; simp
  have t1 := sm_th h g (by omega) (by omega) (by omega)
  have t2 := sm_th g k (by omega) (by omega) (by omega)
  have e3 : sm (sm a b c d).1 (sm a b c d).2 x y = if (sm a b c d).1 = 1000000001 ∨ x = 1000000001 then (1000000001, 1000000001) else ((sm a b c d).1 + x, (sm a b c d).2 + y) := by
    rw [sm.eq_1 (sm a b c d).1, inf_th t1 (by omega), inf_th k (by omega)]; simp
  have e4 : sm a b (sm c d x y).1 (sm c d x y).2 = if a = 1000000001 ∨ (sm c d x y).1 = 1000000001 then (1000000001, 1000000001) else (a + (sm c d x y).1, b + (sm c d x y).2) := by
    rw [sm.eq_1 a b (sm c d x y).1, inf_th h (by omega), inf_th t2 (by omega)]; simp
  rw [e3, e4, e1, e2]
  unfold Th at h g k
  by_cases ha : a = 1000000001 <;> by_cases hc : c = 1000000001 <;> by_cases hx : x = 1000000001 <;> simp [ha, hc, hx] <;> (first | omega | (repeat' split) <;> simp <;> omega)
theorem lsr_eq (a b c d : Int) : lsr a b c d = if c < a ∨ (c = a ∧ d < b) then (c, d) else (a, b) := by
  unfold lsr
  by_cases hl : c < a ∨ (c = a ∧ d < b)
  · rw [if_pos hl, if_pos (lessB_iff.2 hl)]
  · rw [if_neg hl, if_neg (fun e => hl (lessB_iff.1 e))]
theorem sm_eq {m n a b c d : Int} (h : Th m a b) (g : Th n c d) (hm : m ≤ 1000000000) (hn : n ≤ 1000000000) : sm a b c d = if a = 1000000001 ∨ c = 1000000001 then (1000000001, 1000000001) else (a + c, b + d) := by
  unfold sm; rw [inf_th h hm, inf_th g hn]; simp
theorem sm_lsr {a b c d x y : Int} (h : Th 333333333 a b) (g : Th 333333333 c d) (k : Th 333333333 x y) : sm a b (lsr c d x y).1 (lsr c d x y).2 = lsr (sm a b c d).1 (sm a b c d).2 (sm a b x y).1 (sm a b x y).2 := by
  have t := lsr_th (k := 333333333) g k (by omega) (by omega)
  rw [sm_eq h t (by omega) (by omega), sm_eq h g (by omega) (by omega), sm_eq h k (by omega) (by omega), lsr_eq, lsr_eq]
  unfold Th at h g k
  by_cases ha : a = 1000000001
  · simp [ha]
  · by_cases hl : x < c ∨ (x = c ∧ y < d) <;> by_cases hc : c = 1000000001 <;> by_cases hx : x = 1000000001 <;> simp [ha, hl, hc, hx] <;> (first | omega | ((repeat' split) <;> simp <;> omega))
theorem lsr_inf {a b : Int} (h : Th 333333333 a b) : lsr a b 1000000001 1000000001 = (a, b) := by
  rw [lsr_eq, if_neg (by unfold Th at h; omega)]
theorem sm_inf (a b : Int) : sm a b 1000000001 1000000001 = (1000000001, 1000000001) := by simp [sm, infB]
theorem sm_zero {a b : Int} (h : Th 333333333 a b) : sm a b 0 0 = (a, b) := by
  have z : Th 0 0 0 := .inr (by omega)
  rw [sm_eq h z (by omega) (by omega)]
  unfold Th at h
  by_cases ha : a = 1000000001
  · simp [ha]; omega
  · simp [ha]
theorem pair2 {p : Int × Int} {a b : Int} (h : p = (a, b)) : (p.1, p.2, (0 : Int)) = (a, b, 0) := by rw [h]
theorem ring {a b c d x y : Int} (h : Th 333333333 a b) (g : Th 333333333 c d) (k : Th 333333333 x y) :
    ∃ p1 q1 p2 q2 p3 q3 t1 u1 t2 u2 t3 u3 s1 r1 t4 u4 : Int,
      plusT a b c d = (p1, q1, 0) ∧ plusT p1 q1 x y = (p2, q2, 0) ∧ plusT c d x y = (p3, q3, 0) ∧ plusT a b p3 q3 = (p2, q2, 0) ∧
      timesT a b c d = (t1, u1, 0) ∧ timesT t1 u1 x y = (t2, u2, 0) ∧ timesT c d x y = (t3, u3, 0) ∧ timesT a b t3 u3 = (t2, u2, 0) ∧
      plusT c d a b = (p1, q1, 0) ∧ timesT c d a b = (t1, u1, 0) ∧
      timesT a b p3 q3 = (s1, r1, 0) ∧ timesT a b x y = (t4, u4, 0) ∧ plusT t1 u1 t4 u4 = (s1, r1, 0) ∧
      plusT a b 1000000001 1000000001 = (a, b, 0) ∧ timesT a b 1000000001 1000000001 = (1000000001, 1000000001, 0) ∧ timesT a b 0 0 = (a, b, 0) := by
  have n0 : Th 0 1000000001 1000000001 := .inl ⟨rfl, rfl⟩
  have z0 : Th 0 0 0 := .inr (by omega)
  have l1 := lsr_th (k := 333333333) h g (by omega) (by omega)
  have l3 := lsr_th (k := 333333333) g k (by omega) (by omega)
  have m1 := sm_th h g (by omega) (by omega) (by omega)
  have m3 := sm_th g k (by omega) (by omega) (by omega)
  have m4 := sm_th h k (by omega) (by omega) (by omega)
  refine ⟨_, _, _, _, _, _, _, _, _, _, _, _, _, _, _, _, plus_th h g (by omega) (by omega), plus_th l1 k (by omega) (by omega), plus_th g k (by omega) (by omega), ?_,
    times_th h g (by omega) (by omega) (by omega), times_th m1 k (by omega) (by omega) (by omega), times_th g k (by omega) (by omega) (by omega), ?_, ?_, ?_,
    times_th h l3 (by omega) (by omega) (by omega), times_th h k (by omega) (by omega) (by omega), ?_, ?_, ?_, ?_⟩
  · rw [plus_th h l3 (by omega) (by omega), lsr_assoc]
  · rw [times_th h m3 (by omega) (by omega) (by omega), sm_assoc h g k]
  · rw [plus_th g h (by omega) (by omega), lsr_comm]
  · rw [times_th g h (by omega) (by omega) (by omega), sm_comm]
  · rw [plus_th m1 m4 (by omega) (by omega), sm_lsr h g k]
  · rw [plus_th h n0 (by omega) (by omega), lsr_inf h]
  · rw [times_th h n0 (by omega) (by omega) (by omega), sm_inf]
  · rw [times_th h z0 (by omega) (by omega) (by omega), sm_zero h]
end Go.Proofs.Ythdiigjndeljlaa.Wt
