/- Plain facts on many of one twin (no program in sight): twice as many, one more, and how a number is read from its highest bit down. -/
import Derived.Test.YthdiigjndeljlaaPlainT
import Derived.Lib.BitFns
namespace Go.Proofs.Ythdiigjndeljlaa.Pl

def thenT (a b c d : Int) : Int × Int × Int := if (infB a b || infB c d) = true then (1000000001, 1000000001, 0) else if 1000000000 < a + c ∨ 1000000000 < b + d then (0, 0, 4) else (a + c, b + d, 0)
def powT (a b : Int) (m : Nat) : Int × Int × Int := if infB a b = true then (if m = 0 then (0, 0, 0) else (1000000001, 1000000001, 0)) else if a * m ≤ 1000000000 ∧ b * m ≤ 1000000000 then (a * m, b * m, 0) else (0, 0, 4)

theorem may_fin {a b : Int} (h : mayB a b = true) (g : infB a b = false) : (0 ≤ a ∧ a ≤ 1000000000) ∧ (0 ≤ b ∧ b ≤ 1000000000) := by
  rw [mayB_iff] at h
  have : ¬ (a = 1000000001 ∧ b = 1000000001) := fun k => by rw [infB_iff.2 k] at g; cases g
  omega
theorem not_inf {a b : Int} (h : b ≤ 1000000000) : infB a b = false := by
  rcases bool_cases (infB a b) with g | g
  · rw [infB_iff] at g; omega
  · exact g
theorem pow_zero' (a b : Int) : powT a b 0 = (0, 0, 0) := by
  unfold powT
  split <;> simp
theorem pow_in {a b : Int} {m : Nat} {p q : Int} (h : mayB a b = true) (e : powT a b m = (p, q, 0)) : (0 ≤ p ∧ p ≤ 1000000001) ∧ (0 ≤ q ∧ q ≤ 1000000001) := by
  rcases bool_cases (infB a b) with g | g
  · simp only [powT, g, if_true] at e
    split at e <;> simp at e <;> omega
  · obtain ⟨ha, hb⟩ := may_fin h g
    have h1 : 0 ≤ a * m := Int.mul_nonneg ha.1 (by omega)
    have h2 : 0 ≤ b * m := Int.mul_nonneg hb.1 (by omega)
    simp only [powT, g] at e
    simp at e
    split at e <;> simp at e <;> omega
theorem pow_twice {a b : Int} {m : Nat} {p q : Int} (h : mayB a b = true) (e : powT a b m = (p, q, 0)) : thenT p q p q = powT a b (2 * m) := by
  rcases bool_cases (infB a b) with g | g
  · simp only [powT, g, if_true] at e ⊢
    by_cases hm : m = 0
    · simp [hm] at e ⊢
      obtain ⟨rfl, rfl⟩ := e
      simp [thenT, infB]
    · simp [hm] at e ⊢
      obtain ⟨rfl, rfl⟩ := e
      simp [thenT, infB]
      omega
  · obtain ⟨ha, hb⟩ := may_fin h g
    have h1 : 0 ≤ a * m := Int.mul_nonneg ha.1 (by omega)
    have h2 : 0 ≤ b * m := Int.mul_nonneg hb.1 (by omega)
    have e1 : a * ((2 * m : Nat) : Int) = a * m + a * m := by rw [show ((2 * m : Nat) : Int) = (m : Int) + m by omega, Int.mul_add]
    have e2 : b * ((2 * m : Nat) : Int) = b * m + b * m := by rw [show ((2 * m : Nat) : Int) = (m : Int) + m by omega, Int.mul_add]
    simp only [powT, g] at e ⊢
    rw [e1, e2]
    generalize a * (m : Int) = x at *
    generalize b * (m : Int) = y at *
    simp at e
    split at e
    · rename_i hc
      simp at e
      obtain ⟨rfl, rfl⟩ := e
      simp [thenT, not_inf (a := x) hc.2]
      by_cases c1 : 1000000000 < x + x <;> by_cases c2 : 1000000000 < y + y <;> simp [c1, c2] <;> omega
    · simp at e
theorem pow_more {a b : Int} {m : Nat} {p q : Int} (h : mayB a b = true) (e : powT a b m = (p, q, 0)) : thenT p q a b = powT a b (m + 1) := by
  rcases bool_cases (infB a b) with g | g
  · simp only [powT, g, if_true] at e ⊢
    simp [thenT, g]
  · obtain ⟨ha, hb⟩ := may_fin h g
    have h1 : 0 ≤ a * m := Int.mul_nonneg ha.1 (by omega)
    have h2 : 0 ≤ b * m := Int.mul_nonneg hb.1 (by omega)
    have e1 : a * ((m + 1 : Nat) : Int) = a * m + a := by rw [show ((m + 1 : Nat) : Int) = (m : Int) + 1 by omega, Int.mul_add, Int.mul_one]
    have e2 : b * ((m + 1 : Nat) : Int) = b * m + b := by rw [show ((m + 1 : Nat) : Int) = (m : Int) + 1 by omega, Int.mul_add, Int.mul_one]
    simp only [powT, g] at e ⊢
    rw [e1, e2]
    generalize a * (m : Int) = x at *
    generalize b * (m : Int) = y at *
    simp at e
    split at e
    · rename_i hc
      simp at e
      obtain ⟨rfl, rfl⟩ := e
      simp [thenT, g, not_inf (a := x) hc.2]
      by_cases c1 : 1000000000 < x + a <;> by_cases c2 : 1000000000 < y + b <;> simp [c1, c2] <;> omega
    · simp at e
theorem pow_err {a b : Int} {m : Nat} {p q r : Int} (e : powT a b m = (p, q, r)) (hr : r ≠ 0) : p = 0 ∧ q = 0 ∧ r = 4 := by
  unfold powT at e
  split at e
  · split at e <;> simp at e <;> omega
  · split at e <;> simp at e <;> omega
theorem pow_over {a b : Int} {m n : Nat} {p q r : Int} (h : mayB a b = true) (e : powT a b m = (p, q, r)) (hr : r ≠ 0) (hm : m ≤ n) : powT a b n = (0, 0, r) := by
  rcases bool_cases (infB a b) with g | g
  · simp only [powT, g, if_true] at e
    split at e <;> simp at e <;> omega
  · obtain ⟨ha, hb⟩ := may_fin h g
    have e1 : a * (m : Int) ≤ a * (n : Int) := Int.mul_le_mul_of_nonneg_left (by omega) ha.1
    have e2 : b * (m : Int) ≤ b * (n : Int) := Int.mul_le_mul_of_nonneg_left (by omega) hb.1
    simp only [powT, g] at e ⊢
    simp at e ⊢
    split at e
    · simp at e; omega
    · simp at e
      rename_i hc
      rw [if_neg (by omega)]
      simp; omega
theorem pow_step {a b : Int} {m : Nat} {p q s t r : Int} (h : mayB a b = true) (e : powT a b m = (p, q, 0)) (k : thenT p q p q = (s, t, r)) : powT a b (2 * m) = (s, t, r) := by rw [← pow_twice h e, k]
theorem lt_pow_aux : ∀ (f x : Nat), x < 2 ^ f → x < 2 ^ Lib.bitLenAux f x
  | 0, x, h => by simpa [Lib.bitLenAux] using h
  | f + 1, x, h => by
    unfold Lib.bitLenAux
    split
    · omega
    · have := lt_pow_aux f (x / 2) (by rw [Nat.pow_succ] at h; omega)
      rw [Nat.add_comm, Nat.pow_succ]
      omega
theorem len_aux : ∀ (f x : Nat), Lib.bitLenAux f x ≤ f
  | 0, x => by simp [Lib.bitLenAux]
  | f + 1, x => by
    unfold Lib.bitLenAux
    split
    · omega
    · have := len_aux f (x / 2); omega
theorem len_le (x : Nat) : Lib.bitLen x ≤ 64 := len_aux 64 x
theorem len_zero {x : Nat} (h : x < 2 ^ 64) : x / 2 ^ Lib.bitLen x = 0 := Nat.div_eq_of_lt (lt_pow_aux 64 x h)
theorem half_pow (n k : Nat) (hk : 0 < k) : n / 2 ^ (k - 1) = 2 * (n / 2 ^ k) + n / 2 ^ (k - 1) % 2 := by
  obtain ⟨j, rfl⟩ : ∃ j, k = j + 1 := ⟨k - 1, by omega⟩
  simp only [Nat.add_sub_cancel, Nat.pow_succ]
  rw [← Nat.div_div_eq_div_mul]
  omega
theorem div_pow_le (n k : Nat) : n / 2 ^ k ≤ n := Nat.div_le_self _ _
end Go.Proofs.Ythdiigjndeljlaa.Pl
