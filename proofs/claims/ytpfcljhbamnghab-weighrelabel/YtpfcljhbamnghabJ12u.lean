/- Plain facts on what machines are like (no program in sight). The machine that the keeping statements make of raw numbers (no program in sight). -/
import Derived.Test.YtpfcljhbamnghabPlainK
namespace Go.Proofs.Ytpfcljhbamnghab.Pl
/-- P4.4: does a stand ahead of b? -/
def aheadB (a b : Ar) : Bool := if a.1 = b.1 then (if a.2.1 = b.2.1 then (if a.2.2.2 = b.2.2.2 then decide (a.2.2.1 < b.2.2.1) else decide (a.2.2.2 < b.2.2.2)) else decide (a.2.1 < b.2.1)) else decide (a.1 < b.1)
theorem aheadB_iff {a b : Ar} : aheadB a b = true ↔ (a.1 < b.1 ∨ a.1 = b.1 ∧ (a.2.1 < b.2.1 ∨ a.2.1 = b.2.1 ∧ (a.2.2.2 < b.2.2.2 ∨ a.2.2.2 = b.2.2.2 ∧ a.2.2.1 < b.2.2.1))) := by
  unfold aheadB
  repeat' split
  all_goals (simp only [decide_eq_true_eq]; omega)
theorem aheadB_false {a b : Ar} : aheadB a b = false ↔ ¬ (a.1 < b.1 ∨ a.1 = b.1 ∧ (a.2.1 < b.2.1 ∨ a.2.1 = b.2.1 ∧ (a.2.2.2 < b.2.2.2 ∨ a.2.2.2 = b.2.2.2 ∧ a.2.2.1 < b.2.2.1))) := by
  rw [← aheadB_iff]; simp
theorem ahead_trans {a b c : Ar} (h1 : aheadB b a = false) (h2 : aheadB c b = false) : aheadB c a = false := by
  rw [aheadB_false] at *
  omega
def cmpI (a b : Int) : Int := if a < b then -1 else if b < a then 1 else 0
def orI (c0 c1 c2 c3 : Int) : Int := if c0 = 0 then (if c1 = 0 then (if c2 = 0 then c3 else c2) else c1) else c0
theorem orI_neg (a b : Ar) : decide (orI (cmpI a.1 b.1) (cmpI a.2.1 b.2.1) (cmpI a.2.2.2 b.2.2.2) (cmpI a.2.2.1 b.2.2.1) < 0) = aheadB a b := by
  rw [Bool.eq_iff_iff, aheadB_iff, decide_eq_true_eq]
  unfold orI cmpI
  repeat' split
  all_goals omega
def sortB (l : List Ar) : Bool := (List.range (l.length - 1)).all fun i => !aheadB (el l (i + 1)) (el l i)
def ordB (l : List Ar) : Bool := (List.range l.length).all fun k => (List.range k).all fun j => !aheadB (el l k) (el l j)
theorem sortB_iff {l : List Ar} : sortB l = true ↔ ∀ i, i + 1 < l.length → aheadB (el l (i + 1)) (el l i) = false := by
  simp only [sortB, List.all_eq_true, List.mem_range, Bool.not_eq_true']
  exact ⟨fun h i hi => h i (by omega), fun h i hi => h i (by omega)⟩
theorem ordB_iff {l : List Ar} : ordB l = true ↔ ∀ k, k < l.length → ∀ j, j < k → aheadB (el l k) (el l j) = false := by
  simp only [ordB, List.all_eq_true, List.mem_range, Bool.not_eq_true']
theorem ordB_sortB (l : List Ar) : ordB l = sortB l := by
  rw [Bool.eq_iff_iff, ordB_iff, sortB_iff]
  constructor
  · intro h i hi
    exact h (i + 1) hi i (by omega)
  · intro h k
    induction k with
    | zero => intro _ j hj; omega
    | succ k ih =>
      intro hk j hj
      by_cases e : j = k
      · subst e; exact h j hk
      · exact ahead_trans (ih (by omega) j (by omega)) (h k hk)
def pairB (a b : Ar) : Bool := decide (a.1 = b.1) && decide (a.2.1 = b.2.1)
def onceB (l : List Ar) : Bool := (List.range l.length).all fun k => (List.range k).all fun j => !pairB (el l k) (el l j)
theorem onceB_iff {l : List Ar} : onceB l = true ↔ ∀ k, k < l.length → ∀ j, j < k → pairB (el l k) (el l j) = false := by
  simp only [onceB, List.all_eq_true, List.mem_range, Bool.not_eq_true']
theorem pairB_iff {a b : Ar} : pairB a b = true ↔ a.1 = b.1 ∧ a.2.1 = b.2.1 := by simp [pairB]
theorem ret_int3 {k : IntKind} {a b : Int} (h : a = b) : Ending.returned (.int k a) = .returned (.int k b) := by rw [h]
end Go.Proofs.Ytpfcljhbamnghab.Pl
namespace Go.Proofs.Ytpfcljhbamnghab.Pl
/-- A number brought into bounds. -/
def pkR (n many : Int) : Int := (if n < 0 then -(n + 1) else n) % many
theorem pkR_bd (n many : Int) (h : 0 < many) : 0 ≤ pkR n many ∧ pkR n many < many := by
  unfold pkR
  exact ⟨Int.emod_nonneg _ (by omega), Int.emod_lt_of_pos _ h⟩
def arM (n : Nat) (full : Bool) (e : Ar) : Ar :=
  (if (full && decide (pkR e.1 3 = 0) && decide (pkR e.2.1 3 = 0)) = true then 1 else pkR e.1 3, pkR e.2.1 3, pkR e.2.2.1 10, pkR e.2.2.2 n)
def stM (n : Nat) (full : Bool) (x : Int × Bool × List Ar) : St := (if x.2.1 = true then pkR x.1 10 else 1000000001, (x.2.2.take 4).map (arM n full))
def sizeM (r : Int × List (Int × Bool × List Ar)) (states : Nat) : Nat := min (max r.2.length 1) states
def statesM (r : Int × List (Int × Bool × List Ar)) (n : Nat) (full : Bool) : List St := (List.range n).map fun q => if r.2.length ≤ q then (0, []) else stM n full (el r.2 q)
def madeM (r : Int × List (Int × Bool × List Ar)) (states : Nat) (full : Bool) : Mc := (pkR r.1 (sizeM r states), statesM r (sizeM r states) full)
theorem statesM_length (r : Int × List (Int × Bool × List Ar)) (n : Nat) (full : Bool) : (statesM r n full).length = n := by simp [statesM]
theorem arM_right {n : Nat} (hn : 0 < n) (full : Bool) (e : Ar) : arcB n (arM n full e) = true := by
  have h1 := pkR_bd e.1 3 (by omega)
  have h2 := pkR_bd e.2.1 3 (by omega)
  have h3 := pkR_bd e.2.2.1 10 (by omega)
  have h4 := pkR_bd e.2.2.2 n (by omega)
  simp only [arcB, arM, inB, Bool.and_eq_true, decide_eq_true_eq]
  refine ⟨⟨⟨?_, by omega⟩, by omega⟩, by omega⟩
  split <;> omega
theorem arM_full {n : Nat} (e : Ar) : ¬ ((arM n true e).1 = 0 ∧ (arM n true e).2.1 = 0) := by
  intro h
  obtain ⟨h1, h2⟩ := h
  unfold arM at h1 h2
  simp only at h1 h2
  split at h1
  · omega
  · rename_i h3
    exact h3 (by simp [h1, h2])
theorem stM_right {n : Nat} (hn : 0 < n) (full : Bool) (x : Int × Bool × List Ar) : stB n (stM n full x) = true := by
  have h1 := pkR_bd x.1 10 (by omega)
  unfold stB stM
  simp only [Bool.and_eq_true, List.all_eq_true, List.mem_map]
  refine ⟨?_, ?_⟩
  · split
    · simp only [finB, inB, Bool.or_eq_true, Bool.and_eq_true, decide_eq_true_eq]; omega
    · rfl
  · rintro a ⟨e, _, rfl⟩
    exact arM_right hn full e
theorem stM_few (n : Nat) (full : Bool) (x : Int × Bool × List Ar) : (stM n full x).2.length ≤ 4 := by simp [stM]; omega
theorem madeM_right (r : Int × List (Int × Bool × List Ar)) (states : Nat) (hs : 0 < states) (hs8 : states ≤ 8) (full : Bool) : faultM (madeM r states full) = 0 := by
  have hn : 0 < sizeM r states := by unfold sizeM; omega
  have hn8 : sizeM r states ≤ 8 := by unfold sizeM; omega
  unfold madeM
  generalize sizeM r states = n at *
  have hl := statesM_length r n full
  have hz := pkR_bd r.1 n (by omega)
  have hk : ∀ s ∈ statesM r n full, stB n s = true ∧ s.2.length ≤ 4 := fun s hs => by
    unfold statesM at hs
    simp only [List.mem_map] at hs
    obtain ⟨q, _, rfl⟩ := hs
    split
    · exact ⟨by simp [stB, finB, inB], by simp⟩
    · exact ⟨stM_right hn full _, stM_few n full _⟩
  have ha : arcN (statesM r n full) ≤ (statesM r n full).length * 4 := arcN_le (fun j hj => (hk _ (el_mem hj)).2)
  refine faultM_ok ?_ ?_
  · simp only [sizeB, Bool.and_eq_true, decide_eq_true_eq]
    rw [hl] at ha ⊢
    omega
  · simp only [rangeB, inB, Bool.and_eq_true, decide_eq_true_eq, List.all_eq_true]
    rw [hl]
    exact ⟨by omega, fun s hs => (hk s hs).1⟩
end Go.Proofs.Ytpfcljhbamnghab.Pl
