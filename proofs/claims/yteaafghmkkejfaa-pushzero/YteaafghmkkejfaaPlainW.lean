/- The machine that the keeping statements make of raw numbers (no program in sight). -/
import Derived.Test.YteaafghmkkejfaaPlainV
namespace Go.Proofs.Yteaafghmkkejfaa.Pl
/-- A number brought into bounds. -/
def pkR (n many : Int) : Int := (if n < 0 then -(n + 1) else n) % many
theorem pkR_bd (n many : Int) (h : 0 < many) : 0 ≤ pkR n many ∧ pkR n many < many := by
  unfold pkR
  exact ⟨Int.emod_nonneg _ (by omega), Int.emod_lt_of_pos _ h⟩
def arM (n : Nat) (full : Bool) (e : Ar) : Ar :=
  (if (full && decide (pkR e.1 3 = 0) && decide (pkR e.2.1 3 = 0)) = true then 1 else pkR e.1 3, pkR e.2.1 3, pkR e.2.2.1 10, pkR e.2.2.2 n)
def stM (n : Nat) (full : Bool) (x : Int × Bool × List Ar) : St := (if x.2.1 = true then pkR x.1 10 else 1000000001, (x.2.2.take 4).map (arM n full))
def sizeM (r : Int × List (Int × Bool × List Ar)) (states : Nat) : Nat := min (max r.2.length 1) states
def statesM (r : Int × List (Int × Bool × List Ar)) (n : Nat) (full : Bool) : List St := (List.range n).map fun q => if r.2.length ≤ q then (0, []) else stM n full (el r.2 q)
def madeM (r : Int × List (Int × Bool × List Ar)) (states : Nat) (full : Bool) : Mc := (pkR r.1 (sizeM r states), statesM r (sizeM r states) full)
theorem statesM_length (r : Int × List (Int × Bool × List Ar)) (n : Nat) (full : Bool) : (statesM r n full).length = n := by simp [statesM]
theorem arM_right {n : Nat} (hn : 0 < n) (full : Bool) (e : Ar) : arcB n (arM n full e) = true := by
  have h1 := pkR_bd e.1 3 (by omega)
  have h2 := pkR_bd e.2.1 3 (by omega)
  have h3 := pkR_bd e.2.2.1 10 (by omega)
  have h4 := pkR_bd e.2.2.2 n (by omega)
  simp only [arcB, arM, inB, Bool.and_eq_true, decide_eq_true_eq]
  refine ⟨⟨⟨?_, by omega⟩, by omega⟩, by omega⟩
  split <;> omega
theorem arM_full {n : Nat} (e : Ar) : ¬ ((arM n true e).1 = 0 ∧ (arM n true e).2.1 = 0) := by
  intro h
  obtain ⟨h1, h2⟩ := h
  unfold arM at h1 h2
  simp only at h1 h2
  split at h1
  · omega
  · rename_i h3
    exact h3 (by simp [h1, h2])
theorem stM_right {n : Nat} (hn : 0 < n) (full : Bool) (x : Int × Bool × List Ar) : stB n (stM n full x) = true := by
  have h1 := pkR_bd x.1 10 (by omega)
  unfold stB stM
  simp only [Bool.and_eq_true, List.all_eq_true, List.mem_map]
  refine ⟨?_, ?_⟩
  · split
    · simp only [finB, inB, Bool.or_eq_true, Bool.and_eq_true, decide_eq_true_eq]; omega
    · rfl
  · rintro a ⟨e, _, rfl⟩
    exact arM_right hn full e
theorem stM_few (n : Nat) (full : Bool) (x : Int × Bool × List Ar) : (stM n full x).2.length ≤ 4 := by simp [stM]; omega
theorem madeM_right (r : Int × List (Int × Bool × List Ar)) (states : Nat) (hs : 0 < states) (hs8 : states ≤ 8) (full : Bool) : faultM (madeM r states full) = 0 := by
  have hn : 0 < sizeM r states := by unfold sizeM; omega
  have hn8 : sizeM r states ≤ 8 := by unfold sizeM; omega
  unfold madeM
  generalize sizeM r states = n at *
  have hl := statesM_length r n full
  have hz := pkR_bd r.1 n (by omega)
  have hk : ∀ s ∈ statesM r n full, stB n s = true ∧ s.2.length ≤ 4 := fun s hs => by
    unfold statesM at hs
    simp only [List.mem_map] at hs
    obtain ⟨q, _, rfl⟩ := hs
    split
    · exact ⟨by simp [stB, finB, inB], by simp⟩
    · exact ⟨stM_right hn full _, stM_few n full _⟩
  have ha : arcN (statesM r n full) ≤ (statesM r n full).length * 4 := arcN_le (fun j hj => (hk _ (el_mem hj)).2)
  refine faultM_ok ?_ ?_
  · simp only [sizeB, Bool.and_eq_true, decide_eq_true_eq]
    rw [hl] at ha ⊢
    omega
  · simp only [rangeB, inB, Bool.and_eq_true, decide_eq_true_eq, List.all_eq_true]
    rw [hl]
    exact ⟨by omega, fun s hs => (hk s hs).1⟩
end Go.Proofs.Yteaafghmkkejfaa.Pl
