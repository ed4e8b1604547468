/- Rows of arcs and of states made in one block. -/
import Derived.Test.YtkeeiihaijhdoaaMb
namespace Go.Proofs.Ytkeeiihaijhdoaa.Wt
open Go.ChangeShapes Go.WideShapes Go.ChangeAt Go.RowKit
open Go.Proofs.Ytkeeiihaijhdoaa.Pl
set_option linter.unusedVariables false
set_option linter.unusedSimpArgs false
/-- A row of arcs that are made empty. -/
theorem made_arcs (n : Nat) : madeCells (Value.cells (.agg #[.int .i64 0, .int .i64 0, .int .i64 0, .int .i64 0])) (n * 4) = ((List.replicate n ((0, 0, 0, 0) : Ar)).flatMap encA).toArray := by
  apply Array.ext_getElem?
  intro t
  have hz : Value.cells (.agg #[.int .i64 0, .int .i64 0, .int .i64 0, .int .i64 0]) = #[.int .i64 0, .int .i64 0, .int .i64 0, .int .i64 0] := rfl
  by_cases ht : t < n * 4
  · have h2 := flat_at encA_len (List.replicate n ((0, 0, 0, 0) : Ar)) (t / 4) (by simp; omega) (t % 4) (by omega)
    have he : t / 4 * 4 + t % 4 = t := by omega
    rw [he] at h2
    simp only [List.getElem?_toArray]
    rw [h2, el_get (by simp; omega), List.getElem_replicate]
    simp only [madeCells, hz, Array.getElem?_map]
    rw [Array.getElem?_eq_getElem (by simpa using ht)]
    have h01 : t % 4 = 0 ∨ t % 4 = 1 ∨ t % 4 = 2 ∨ t % 4 = 3 := by omega
    rcases h01 with h | h | h | h <;> simp [h, encA]
  · rw [Array.getElem?_eq_none (by simp [size_madeCells]; omega), List.getElem?_toArray, List.getElem?_eq_none (by rw [flat_length encA_len]; simp; omega)]
/-- One arc stored. -/
theorem set_arc {xs : List Ar} {k : Nat} (hk : k < xs.length) (p : Ar) : ((((xs.flatMap encA).toArray.setIfInBounds (k * 4) (.int .i64 p.1)).setIfInBounds (k * 4 + 1) (.int .i64 p.2.1)).setIfInBounds (k * 4 + 2) (.int .i64 p.2.2.1)).setIfInBounds (k * 4 + 3) (.int .i64 p.2.2.2) = ((xs.set k p).flatMap encA).toArray := by
  apply Array.ext_getElem?
  intro t
  have hl : (xs.flatMap encA).length = xs.length * 4 := flat_length encA_len xs
  by_cases ht : t < xs.length * 4
  · have he : t / 4 * 4 + t % 4 = t := by omega
    have h1 := flat_at encA_len xs (t / 4) (by omega) (t % 4) (by omega)
    have h2 := flat_at encA_len (xs.set k p) (t / 4) (by simp; omega) (t % 4) (by omega)
    rw [he] at h1 h2
    rw [Array.getElem?_setIfInBounds, Array.getElem?_setIfInBounds, Array.getElem?_setIfInBounds, Array.getElem?_setIfInBounds]
    simp only [List.getElem?_toArray]
    rw [h1, h2]
    simp only [Array.size_setIfInBounds, List.size_toArray, hl]
    by_cases hq : t / 4 = k
    · have hel : el (xs.set k p) (t / 4) = p := by rw [hq, el_get (by simpa using hk)]; simp
      rw [hel]
      have h01 : t = k * 4 ∨ t = k * 4 + 1 ∨ t = k * 4 + 2 ∨ t = k * 4 + 3 := by omega
      rcases h01 with h | h | h | h
      · have e0 : t % 4 = 0 := by omega
        rw [if_neg (by omega), if_neg (by omega), if_neg (by omega), if_pos h.symm, if_pos (by omega), e0]; rfl
      · have e0 : t % 4 = 1 := by omega
        rw [if_neg (by omega), if_neg (by omega), if_pos h.symm, if_pos (by omega), e0]; rfl
      · have e0 : t % 4 = 2 := by omega
        rw [if_neg (by omega), if_pos h.symm, if_pos (by omega), e0]; rfl
      · have e0 : t % 4 = 3 := by omega
        rw [if_pos h.symm, if_pos (by omega), e0]; rfl
    · have hel : el (xs.set k p) (t / 4) = el xs (t / 4) := by simp [el, List.getElem?_set_ne (Ne.symm hq)]
      rw [hel, if_neg (by omega), if_neg (by omega), if_neg (by omega), if_neg (by omega)]
  · rw [Array.getElem?_eq_none (by simp only [Array.size_setIfInBounds, List.size_toArray, hl]; omega), List.getElem?_toArray, List.getElem?_eq_none (by rw [flat_length encA_len]; simp; omega)]
theorem run_arcs (n : Nat) (hn : n ≤ 1000) (W : World) : (Instr.makeSlice 56 (.int .i64 (n : Int)) (.int .i64 (n : Int))).run Try.prog W = .ok (.slice (some ⟨W.heap.size, 0, none⟩) n n) (W.alloc (.cells ((List.replicate n ((0, 0, 0, 0) : Ar)).flatMap encA).toArray 75)) := by
  obtain ⟨i1, hi1, hy0, hy1, hy2⟩ := info_parts infoArc
  have h := run_make (P := Try.prog) W 56 75 i1 _ Try.underlying56 hi1 hy0 .i64 .i64 n n (by omega) (by omega) (by rw [hy2]; omega) (by omega)
  rw [hy1, Int.toNat_natCast, made_arcs] at h
  exact h
theorem run_states (n : Nat) (hn : n ≤ 1000) (W : World) : (Instr.makeSlice 22 (.int .i64 (n : Int)) (.int .i64 (n : Int))).run Try.prog W = .ok (.slice (some ⟨W.heap.size, 0, none⟩) n n) (W.alloc (.cells ((List.replicate n ((0 : Int), Value.slice none 0 0)).flatMap encS).toArray 58)) := by
  obtain ⟨i1, hi1, hy0, hy1, hy2⟩ := info_parts infoState
  have h := run_make (P := Try.prog) W 22 58 i1 _ Try.underlying22 hi1 hy0 .i64 .i64 n n (by omega) (by omega) (by rw [hy2]; omega) (by omega)
  rw [hy1, Int.toNat_natCast, made_states] at h
  exact h
/-- Arcs in a block as long as they are. -/
theorem arcs_block {w : World} {g B : Nat} {xs : List Ar} (h : Blk w g (xs.flatMap encA).toArray 75) (hB : B ≤ g) (hl : xs.length ≤ 1000) : w.ownsRow B 75 4 (.slice (some ⟨g, 0, none⟩) xs.length xs.length) xs.length (xs.flatMap encA) :=
  ⟨flat_length encA_len xs, .inr ⟨g, xs.length, _, rfl, hB, h, Nat.le_refl _, by unfold maxLen; omega, by simp [flat_length encA_len], by rw [List.take_of_length_le]; rw [Array.length_toList, List.size_toArray, flat_length encA_len]; exact Nat.le_refl _⟩⟩
end Go.Proofs.Ytkeeiihaijhdoaa.Wt
