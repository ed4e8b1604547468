/- Words: what is wrong with them; a machine that reads one and writes another (no program in sight). -/
import Derived.Test.YtibafdehgmalgabPlainK
namespace Go.Proofs.Ytibafdehgmalgab.Pl
set_option linter.unusedVariables false
set_option linter.unusedSimpArgs false
/-- P12.1. -/
def wrdE (l : List Int) : Int := if 12 < l.length then 1 else if l.all (fun b => inB b 1 1000) = true then 0 else 2
theorem wrd_long {l : List Int} (h : 12 < l.length) : wrdE l = 1 := by unfold wrdE; rw [if_pos h]
theorem wrd_bad {l : List Int} (h : ¬ 12 < l.length) {i : Nat} (hi : i < l.length) (hb : inB (el l i) 1 1000 = false) : wrdE l = 2 := by
  unfold wrdE
  rw [if_neg h, if_neg]
  rw [List.all_eq_true]
  intro g
  have := g (el l i) (el_mem hi)
  rw [hb] at this
  cases this
theorem wrd_ok {l : List Int} (h : ¬ 12 < l.length) (ha : ∀ i, i < l.length → inB (el l i) 1 1000 = true) : wrdE l = 0 := by
  unfold wrdE
  rw [if_neg h, if_pos]
  rw [List.all_eq_true]
  intro b hb
  obtain ⟨j, hj, rfl⟩ := mem_el hb
  exact ha j hj
theorem wrd_parts {l : List Int} (h : wrdE l = 0) : l.length ≤ 12 ∧ ∀ i, i < l.length → 1 ≤ el l i ∧ el l i ≤ 1000 := by
  unfold wrdE at h
  by_cases g : 12 < l.length
  · rw [if_pos g] at h; cases h
  · rw [if_neg g] at h
    by_cases k : l.all (fun b => inB b 1 1000) = true
    · refine ⟨by omega, fun i hi => ?_⟩
      rw [List.all_eq_true] at k
      have := k (el l i) (el_mem hi)
      simpa [inB] using this
    · rw [if_neg k] at h; cases h
/-- P12.2. -/
def atW (l : List Int) (i : Nat) : Int := if i < l.length then el l i else 0
def croS (x y : List Int) (i : Nat) : St := (1000000001, [(atW x i, atW y i, 0, (i : Int) + 1)])
def croM (x y : List Int) : Mc := (0, (List.range (max x.length y.length)).map (croS x y) ++ [(0, [])])
def croE (x y : List Int) : Int := if wrdE x ≠ 0 then wrdE x else wrdE y
def croR (x y : List Int) : Mc := if croE x y = 0 then croM x y else (0, [])
theorem croR_ok (x y : List Int) : okM (croR x y) := by
  have hz : okM (0, []) := ⟨by simp, fun j hj => absurd hj (by simp)⟩
  unfold croR
  split
  · rename_i h
    have hx : wrdE x = 0 := by
      by_cases g : wrdE x = 0
      · exact g
      · unfold croE at h; rw [if_pos g] at h; exact h
    have hy : wrdE y = 0 := by unfold croE at h; rw [if_neg (by simp [hx])] at h; exact h
    have h1 := (wrd_parts hx).1
    have h2 := (wrd_parts hy).1
    have hlen : (croM x y).2.length ≤ 13 := by simp [croM]; omega
    refine ⟨by omega, fun j hj => ?_⟩
    have : (el (croM x y).2 j).2.length ≤ 1 := by
      have hm := el_mem hj
      simp only [croM, List.mem_append, List.mem_map, List.mem_singleton] at hm
      rcases hm with ⟨i, _, e⟩ | e
      · rw [← show croS x y i = el (croM x y).2 j from e]; simp [croS]
      · rw [show el (croM x y).2 j = (0, []) from e]; simp
    omega
  · exact hz
end Go.Proofs.Ytibafdehgmalgab.Pl
