/- Numbers as bytes, the highest first (no program in sight). -/
import Derived.Test.YtbbjpdadickilaaDoorPlainCs
namespace Go.Proofs.YtbbjpdadickilaaDoor.Pl
set_option linter.unusedVariables false
set_option linter.unusedSimpArgs false
def splitL (n : Int) (k : Nat) : List Int := (List.range k).map fun j => n / 256 ^ (k - 1 - j) % 256
theorem splitL_len (n : Int) (k : Nat) : (splitL n k).length = k := by simp [splitL]
theorem splitL_el (n : Int) {k j : Nat} (h : j < k) : el (splitL n k) j = n / 256 ^ (k - 1 - j) % 256 := el_range_map _ h
theorem splitL_bytes (n : Int) (k : Nat) : bytesB (splitL n k) := by
  intro x hx
  obtain ⟨j, _, rfl⟩ := List.mem_map.1 hx
  exact ⟨Int.emod_nonneg _ (by omega), Int.emod_lt_of_pos _ (by omega)⟩
def joinL (l : List Int) : Int := l.foldl (fun n x => 256 * n + x) 0
theorem joinL_snoc (l : List Int) (x : Int) : joinL (l ++ [x]) = 256 * joinL l + x := by simp [joinL]
theorem fold_range : ∀ (l : List Int) (n : Int), 0 ≤ n → bytesB l → n * 256 ^ l.length ≤ l.foldl (fun n x => 256 * n + x) n ∧ l.foldl (fun n x => 256 * n + x) n < (n + 1) * 256 ^ l.length
  | [], n, _, _ => by simp; omega
  | x :: l, n, h0, h => by
    have hx := h x (by simp)
    have ih := fold_range l (256 * n + x) (by omega) (fun y hy => h y (by simp [hy]))
    have hP : (0 : Int) ≤ 256 ^ l.length := Int.pow_nonneg (by omega)
    have e : (256 : Int) ^ (x :: l).length = 256 * 256 ^ l.length := by rw [List.length_cons, Int.pow_succ, Int.mul_comm]
    have a1 : n * 256 * 256 ^ l.length ≤ (256 * n + x) * 256 ^ l.length := Int.mul_le_mul_of_nonneg_right (by omega) hP
    have a2 : (256 * n + x + 1) * 256 ^ l.length ≤ (n + 1) * 256 * 256 ^ l.length := Int.mul_le_mul_of_nonneg_right (by omega) hP
    rw [e, List.foldl_cons, ← Int.mul_assoc, ← Int.mul_assoc]
    omega
theorem joinL_range (l : List Int) (h : bytesB l) : 0 ≤ joinL l ∧ joinL l < 256 ^ l.length := by
  have := fold_range l 0 (by omega) h
  unfold joinL
  rw [Int.zero_mul, Int.zero_add, Int.one_mul] at this
  exact this
theorem bytes_take {l : List Int} (h : bytesB l) (k : Nat) : bytesB (l.take k) := fun x hx => h x (List.mem_of_mem_take hx)
theorem bytes_drop {l : List Int} (h : bytesB l) (k : Nat) : bytesB (l.drop k) := fun x hx => h x (List.mem_of_mem_drop hx)
theorem pow256 {k : Nat} (h : k ≤ 4) : (256 : Int) ^ k ≤ 4294967296 := by
  rcases (show k = 0 ∨ k = 1 ∨ k = 2 ∨ k = 3 ∨ k = 4 by omega) with rfl | rfl | rfl | rfl | rfl <;> decide
/-- A number that fits is joined as it was split. -/
theorem join_split1 {n : Int} (h0 : 0 ≤ n) (h1 : n < 256) : joinL (splitL n 1) = n := by
  show 256 * 0 + n / 256 ^ 0 % 256 = n
  rw [Int.pow_zero]; omega
theorem join_split2 {n : Int} (h0 : 0 ≤ n) (h1 : n < 65536) : joinL (splitL n 2) = n := by
  show 256 * (256 * 0 + n / 256 ^ 1 % 256) + n / 256 ^ 0 % 256 = n
  rw [Int.pow_zero, show (256 : Int) ^ 1 = 256 from rfl]; omega
theorem join_split4 {n : Int} (h0 : 0 ≤ n) (h1 : n < 4294967296) : joinL (splitL n 4) = n := by
  show 256 * (256 * (256 * (256 * 0 + n / 256 ^ 3 % 256) + n / 256 ^ 2 % 256) + n / 256 ^ 1 % 256) + n / 256 ^ 0 % 256 = n
  rw [Int.pow_zero, show (256 : Int) ^ 1 = 256 from rfl, show (256 : Int) ^ 2 = 65536 from rfl, show (256 : Int) ^ 3 = 16777216 from rfl]; omega
theorem split_join1 {a : Int} (h : 0 ≤ a ∧ a < 256) : splitL (joinL [a]) 1 = [a] := by
  show [(256 * 0 + a) / 256 ^ 0 % 256] = [a]
  rw [Int.pow_zero]; congr 1; omega
theorem split_join2 {a b : Int} (ha : 0 ≤ a ∧ a < 256) (hb : 0 ≤ b ∧ b < 256) : splitL (joinL [a, b]) 2 = [a, b] := by
  show [(256 * (256 * 0 + a) + b) / 256 ^ 1 % 256, (256 * (256 * 0 + a) + b) / 256 ^ 0 % 256] = [a, b]
  rw [Int.pow_zero, show (256 : Int) ^ 1 = 256 from rfl]
  congr 1
  · omega
  · congr 1; omega
theorem split_join4 {a b c d : Int} (ha : 0 ≤ a ∧ a < 256) (hb : 0 ≤ b ∧ b < 256) (hc : 0 ≤ c ∧ c < 256) (hd : 0 ≤ d ∧ d < 256) : splitL (joinL [a, b, c, d]) 4 = [a, b, c, d] := by
  show [(256 * (256 * (256 * (256 * 0 + a) + b) + c) + d) / 256 ^ 3 % 256, (256 * (256 * (256 * (256 * 0 + a) + b) + c) + d) / 256 ^ 2 % 256, (256 * (256 * (256 * (256 * 0 + a) + b) + c) + d) / 256 ^ 1 % 256, (256 * (256 * (256 * (256 * 0 + a) + b) + c) + d) / 256 ^ 0 % 256] = [a, b, c, d]
  rw [Int.pow_zero, show (256 : Int) ^ 1 = 256 from rfl, show (256 : Int) ^ 2 = 65536 from rfl, show (256 : Int) ^ 3 = 16777216 from rfl]
  congr 1
  · omega
  · congr 1
    · omega
    · congr 1
      · omega
      · congr 1; omega
end Go.Proofs.YtbbjpdadickilaaDoor.Pl
