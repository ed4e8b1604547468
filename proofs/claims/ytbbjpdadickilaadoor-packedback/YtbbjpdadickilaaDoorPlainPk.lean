/- Machines as bytes (no program in sight). -/
import Derived.Test.YtbbjpdadickilaaDoorPlainBy
namespace Go.Proofs.YtbbjpdadickilaaDoor.Pl
set_option linter.unusedVariables false
set_option linter.unusedSimpArgs false
def packA (a : Ar) : List Int := splitL a.1 2 ++ splitL a.2.1 2 ++ splitL a.2.2.1 4 ++ [a.2.2.2]
def packS (s : St) : List Int := splitL s.1 4 ++ splitL s.2.length 2 ++ s.2.flatMap packA
def packH (m : Mc) : List Int := [84, (m.2.length : Int), m.1 + 1]
/-- All bytes but the sum. -/
def packB (m : Mc) : List Int := packH m ++ m.2.flatMap packS
/-- The bytes of a machine. -/
def packM (m : Mc) : List Int := packB m ++ splitL (crcN (packB m)) 2
def packTo (z : Int) (l : List St) (k : Nat) : List Int := packH (z, l) ++ (l.take k).flatMap packS
def packTa (z : Int) (l : List St) (k j : Nat) : List Int := packTo z l k ++ splitL (el l k).1 4 ++ splitL (el l k).2.length 2 ++ ((el l k).2.take j).flatMap packA
theorem packTo_all (z : Int) (l : List St) : packTo z l l.length = packB (z, l) := by unfold packTo packB; rw [List.take_length]
theorem packTo_succ {z : Int} {l : List St} {k : Nat} (h : k < l.length) : packTo z l (k + 1) = packTa z l k (el l k).2.length := by
  unfold packTa packTo
  rw [take_el h, List.take_length]
  simp [packS]
theorem packTa_succ {z : Int} {l : List St} {k j : Nat} (h : j < (el l k).2.length) : packTa z l k (j + 1) = packTa z l k j ++ splitL (el (el l k).2 j).1 2 ++ splitL (el (el l k).2 j).2.1 2 ++ splitL (el (el l k).2 j).2.2.1 4 ++ [(el (el l k).2 j).2.2.2] := by
  unfold packTa
  rw [take_el h]
  simp [packA]
theorem packA_len (a : Ar) : (packA a).length = 9 := by simp [packA, splitL_len]
theorem packAs_len (l : List Ar) : (l.flatMap packA).length = 9 * l.length := by
  induction l with
  | nil => rfl
  | cons a l ih => rw [List.flatMap_cons, List.length_append, packA_len, ih]; simp; omega
theorem packS_len (s : St) : (packS s).length = 6 + 9 * s.2.length := by simp only [packS, List.length_append, splitL_len, packAs_len]
theorem packSs_len (l : List St) : (l.flatMap packS).length = 6 * l.length + 9 * arcN l := by
  induction l with
  | nil => rfl
  | cons s l ih =>
    rw [List.flatMap_cons, List.length_append, packS_len, ih]
    have : arcN (s :: l) = s.2.length + arcN l := by simp [arcN]
    rw [this]; simp; omega
theorem packB_len (m : Mc) : (packB m).length = 3 + 6 * m.2.length + 9 * arcN m.2 := by
  unfold packB
  rw [List.length_append, packSs_len]
  simp [packH]; omega
theorem packM_len (m : Mc) : (packM m).length = 5 + 6 * m.2.length + 9 * arcN m.2 := by
  unfold packM
  rw [List.length_append, packB_len, splitL_len]; omega
theorem arcN_take_all (l : List St) (k : Nat) : arcN (l.take k) ≤ arcN l := by
  conv => rhs; rw [← List.take_append_drop k l, arcN_append]
  omega
theorem packTo_len (z : Int) (l : List St) (k : Nat) : (packTo z l k).length ≤ 3 + 6 * l.length + 9 * arcN l := by
  unfold packTo
  rw [List.length_append, packSs_len, List.length_take]
  have := arcN_take_all l k
  simp [packH]; omega
theorem packTa_len {z : Int} {l : List St} {k j : Nat} (hk : k < l.length) : (packTa z l k j).length ≤ 3 + 6 * l.length + 9 * arcN l := by
  have h1 := packTo_len z l (k + 1)
  rw [packTo_succ hk] at h1
  refine Nat.le_trans ?_ h1
  unfold packTa
  simp only [List.length_append, packAs_len, List.length_take]
  omega
theorem bytes_append {l r : List Int} (h : bytesB l) (g : bytesB r) : bytesB (l ++ r) := fun x hx => (List.mem_append.1 hx).elim (h x) (g x)
theorem packA_bytes {n : Nat} {a : Ar} (hn : n ≤ 60) (h : arcB n a = true) : bytesB (packA a) := by
  simp only [arcB, inB, Bool.and_eq_true, decide_eq_true_eq] at h
  refine bytes_append (bytes_append (bytes_append (splitL_bytes _ _) (splitL_bytes _ _)) (splitL_bytes _ _)) ?_
  intro x hx
  simp at hx
  subst hx
  omega
theorem packB_bytes {m : Mc} (h : faultM m = 0) : bytesB (packB m) := by
  obtain ⟨z, l⟩ := m
  have h1 := right_size h
  have h2 := (faultM_zero h).2
  simp only [rangeB, Bool.and_eq_true, inB, decide_eq_true_eq] at h2
  refine bytes_append ?_ ?_
  · intro x hx
    simp [packH] at hx
    rcases hx with rfl | rfl | rfl <;> omega
  · intro x hx
    obtain ⟨s, hs, hx⟩ := List.mem_flatMap.1 hx
    obtain ⟨j, hj, rfl⟩ := mem_el hs
    have h3 := right_st h hj
    refine bytes_append (bytes_append (splitL_bytes _ _) (splitL_bytes _ _)) ?_ x hx
    intro y hy
    obtain ⟨a, ha, hy⟩ := List.mem_flatMap.1 hy
    exact packA_bytes h1.1 (List.all_eq_true.1 h3.2 a ha) y hy
theorem packM_bytes {m : Mc} (h : faultM m = 0) : bytesB (packM m) := bytes_append (packB_bytes h) (splitL_bytes _ _)
theorem pack_short {m : Mc} (h : faultM m = 0) : (packB m).length ≤ 3963 := by
  obtain ⟨z, l⟩ := m
  have h1 := right_size h
  rw [packB_len]
  simp only
  omega
end Go.Proofs.YtbbjpdadickilaaDoor.Pl
