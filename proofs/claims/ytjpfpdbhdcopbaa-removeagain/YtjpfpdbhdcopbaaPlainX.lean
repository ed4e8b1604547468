/- What a machine is like when one state of it has an arc more (no program in sight). -/
import Derived.Test.YtjpfpdbhdcopbaaPlainW
namespace Go.Proofs.Ytjpfpdbhdcopbaa.Pl
section
variable {α : Type} [Inhabited α]
theorem el_set {l : List α} {q j : Nat} {s : α} (hj : j < l.length) : el (l.set q s) j = if q = j then s else el l j := by
  rw [el_get (by simpa using hj), el_get hj, List.getElem_set]
theorem all_set_same {l : List α} {q : Nat} {s : α} {p : α → Bool} (h : q < l.length) (hp : p s = p (el l q)) : (l.set q s).all p = l.all p := by
  rw [Bool.eq_iff_iff, List.all_eq_true, List.all_eq_true]
  constructor
  · intro g a ha
    obtain ⟨j, hj, rfl⟩ := mem_el ha
    have h1 := g _ (el_mem (l := l.set q s) (j := j) (by simpa using hj))
    rw [el_set hj] at h1
    split at h1
    · rename_i e; subst e; rw [← hp]; exact h1
    · exact h1
  · intro g a ha
    obtain ⟨j, hj, rfl⟩ := mem_el ha
    have hj' : j < l.length := by simpa using hj
    rw [el_set hj']
    split
    · rename_i e; subst e; rw [hp]; exact g _ (el_mem h)
    · exact g _ (el_mem hj')
theorem all_set_false {l : List α} {q : Nat} {s : α} {p : α → Bool} (h : q < l.length) (hp : p s = false) : (l.set q s).all p = false :=
  all_false_el (k := q) (by simpa using h) (by rw [el_set h, if_pos rfl]; exact hp)
end
theorem arcN_set {l : List St} {q : Nat} {s : St} (h : q < l.length) : arcN (l.set q s) + (el l q).2.length = arcN l + s.2.length := by
  induction l generalizing q with
  | nil => simp at h
  | cons t l ih =>
    cases q with
    | zero => rw [el_zero]; simp [arcN]; omega
    | succ q => rw [el_succ]; have := ih (q := q) (by simpa using h); simp [arcN]; omega
/-- One state with one arc more that may be: still a right machine, if there is room. -/
theorem right_set {z : Int} {l : List St} {q : Nat} {b : Ar} (h : faultM (z, l) = 0) (hq : q < l.length) (hb : arcB l.length b = true) (hroom : arcN l + 1 ≤ 400) : faultM (z, l.set q ((el l q).1, (el l q).2 ++ [b])) = 0 := by
  obtain ⟨h1, h2⟩ := faultM_zero h
  refine faultM_ok ?_ ?_
  · have h3 := arcN_set (s := ((el l q).1, (el l q).2 ++ [b])) hq
    simp only [List.length_append, List.length_cons, List.length_nil] at h3
    simp only [sizeB, Bool.and_eq_true, decide_eq_true_eq, List.length_set] at h1 ⊢
    omega
  · simp only [rangeB, Bool.and_eq_true, List.length_set] at h2 ⊢
    refine ⟨h2.1, ?_⟩
    rw [all_set_same hq]
    · exact h2.2
    · have h4 : stB l.length (el l q) = true := List.all_eq_true.1 h2.2 _ (el_mem hq)
      rw [h4]
      simp only [stB, Bool.and_eq_true, List.all_append, List.all_cons, List.all_nil, Bool.and_true] at h4 ⊢
      exact ⟨h4.1, h4.2, hb⟩
theorem once_twice {l : List Ar} (h : 0 < l.length) : onceB (l ++ [el l 0]) = false := by
  rcases bool_cases' (onceB (l ++ [el l 0])) with g | g
  · have h1 := onceB_iff.1 g l.length (by simp) 0 h
    rw [el_last, el_left h] at h1
    have h2 : pairB (el l 0) (el l 0) = true := pairB_iff.2 ⟨rfl, rfl⟩
    rw [h2] at h1; cases h1
  · exact g
theorem all_again {l : List Ar} (p : Ar → Bool) (h : 0 < l.length) : (l ++ [el l 0]).all p = l.all p := by
  simp only [List.all_append, List.all_cons, List.all_nil, Bool.and_true]
  rcases bool_cases' (l.all p) with g | g
  · rw [g, List.all_eq_true.1 g _ (el_mem h)]; rfl
  · rw [g]; rfl
end Go.Proofs.Ytjpfpdbhdcopbaa.Pl
