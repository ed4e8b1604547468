/- A machine from behind, put together arc by arc (no program in sight). -/
import Derived.Test.YtibafdehgmalgaaJ13d
import Derived.Test.YtibafdehgmalgaaPlainX
namespace Go.Proofs.Ytibafdehgmalgaa.Pl
set_option linter.unusedVariables false
set_option linter.unusedSimpArgs false
/-- One arc more at a state. -/
def putL (L : List St) (q : Nat) (c : Ar) : List St := L.set q ((el L q).1, (el L q).2 ++ [c])
theorem putL_len (L : List St) (q : Nat) (c : Ar) : (putL L q c).length = L.length := by simp [putL]
theorem putL_el {L : List St} {q : Nat} (c : Ar) {j : Nat} (hj : j < L.length) : el (putL L q c) j = if q = j then ((el L q).1, (el L q).2 ++ [c]) else el L j := el_set hj
/-- Behind k states. -/
def RvK (l : List St) (k : Nat) (L : List St) : Prop := L.length = l.length + 1 ∧ el L 0 = (1000000001, firstL l k) ∧ ∀ t, t < l.length → el L (t + 1) = (1000000001, intoL l t k)
/-- Behind k states and j arcs of the next one. -/
def RvJ (l : List St) (k j : Nat) (L : List St) : Prop := L.length = l.length + 1 ∧ el L 0 = (1000000001, firstL l (k + 1)) ∧ ∀ t, t < l.length → el L (t + 1) = (1000000001, intoL l t k ++ intoA k t ((el l k).2.take j))
theorem rv_start (l : List St) : RvK l 0 (List.replicate (l.length + 1) (1000000001, [])) := by
  refine ⟨by simp, ?_, fun t ht => ?_⟩
  · rw [el_get (by simp), List.getElem_replicate]; rfl
  · rw [el_get (by simp; omega), List.getElem_replicate]; rfl
theorem rv_inf {l : List St} {k : Nat} {L : List St} (h : RvK l k L) (hf : (el l k).1 = 1000000001) : RvJ l k 0 L := by
  refine ⟨h.1, ?_, fun t ht => ?_⟩
  · rw [h.2.1, firstL, if_pos hf, List.append_nil]
  · rw [h.2.2 t ht, List.take_zero, intoA]; simp
theorem rv_fin {l : List St} {k : Nat} {L : List St} (h : RvK l k L) (hf : (el l k).1 ≠ 1000000001) : RvJ l k 0 (putL L 0 (0, 0, (el l k).1, (k : Int) + 1)) := by
  obtain ⟨h1, h2, h3⟩ := h
  refine ⟨by rw [putL_len, h1], ?_, fun t ht => ?_⟩
  · rw [putL_el _ (by omega), if_pos rfl, h2, firstL, if_neg hf]
  · rw [putL_el _ (by omega), if_neg (by omega), h3 t ht, List.take_zero, intoA]; simp
theorem rv_arc {l : List St} {k j : Nat} {L : List St} (h : RvJ l k j L) (hj : j < (el l k).2.length) {t0 : Nat} (ht0 : t0 < l.length) (hto : (el (el l k).2 j).2.2.2 = (t0 : Int)) :
    RvJ l k (j + 1) (putL L (t0 + 1) ((el (el l k).2 j).1, (el (el l k).2 j).2.1, (el (el l k).2 j).2.2.1, (k : Int) + 1)) := by
  obtain ⟨h1, h2, h3⟩ := h
  refine ⟨by rw [putL_len, h1], ?_, fun t ht => ?_⟩
  · rw [putL_el _ (by omega), if_neg (by omega), h2]
  · rw [putL_el _ (by omega), intoA_take hj]
    by_cases e : t0 = t
    · subst e
      rw [if_pos rfl, h3 _ ht, if_pos hto, List.append_assoc]
    · rw [if_neg (by omega), h3 t ht, if_neg (by rw [hto]; omega), List.append_nil]
theorem rv_next {l : List St} {k : Nat} {L : List St} (h : RvJ l k (el l k).2.length L) : RvK l (k + 1) L := by
  obtain ⟨h1, h2, h3⟩ := h
  refine ⟨h1, h2, fun t ht => ?_⟩
  rw [h3 t ht, List.take_length, intoL]
theorem rv_none {l : List St} {L : List St} (h : RvK l l.length L) : L = (revM (-1, l)).2 := by
  obtain ⟨h1, h2, h3⟩ := h
  refine el_ext (by rw [h1, revM_len]) fun j hj => ?_
  cases j with
  | zero => rw [h2]; rfl
  | succ t =>
    have ht : t < l.length := by omega
    show _ = el (_ :: _) (t + 1)
    rw [h3 t ht, el_succ, el_range_map _ ht, revS, if_neg (by omega)]
theorem rv_some {l : List St} {L : List St} (h : RvK l l.length L) {z : Nat} (hz : z < l.length) : L.set (z + 1) (0, (el L (z + 1)).2) = (revM ((z : Int), l)).2 := by
  obtain ⟨h1, h2, h3⟩ := h
  refine el_ext (by rw [List.length_set, h1, revM_len]) fun j hj => ?_
  rw [List.length_set] at hj
  rw [el_set hj]
  cases j with
  | zero => rw [if_neg (by omega), h2]; rfl
  | succ t =>
    have ht : t < l.length := by omega
    show _ = el (_ :: _) (t + 1)
    rw [el_succ, el_range_map _ ht, revS, h3 t ht]
    by_cases e : z = t
    · subst e
      rw [if_pos rfl, if_pos rfl, h3 z hz]
    · rw [if_neg (by omega), if_neg (by omega)]
/-- How long a row may be. -/
theorem rv_lenJ {l : List St} {k j : Nat} {L : List St} (h : RvJ l k j L) (hk : k < l.length) {q : Nat} (hq : q < L.length) : (el L q).2.length ≤ k + 1 + 2 * arcN l := by
  obtain ⟨h1, h2, h3⟩ := h
  cases q with
  | zero => rw [h2]; have := firstL_le l (k + 1); simp only; omega
  | succ t =>
    rw [h3 t (by omega)]
    have e1 := intoL_le l t k (by omega)
    have e2 := intoA_le k t ((el l k).2.take j)
    have e3 := arcN_takeR l k
    have e4 := arcN_take hk
    have e5 := arcN_takeR l (k + 1)
    have e6 : ((el l k).2.take j).length ≤ (el l k).2.length := by simp; omega
    simp only [List.length_append]
    omega
theorem rv_lenK {l : List St} {k : Nat} {L : List St} (h : RvK l k L) (hk : k ≤ l.length) : (el L 0).2.length ≤ k := by
  rw [h.2.1]
  exact firstL_le l k
theorem fitOf {x : Mc} (h : sizeB x = true → faultM x = 0) : (if faultM x = 0 then x else (0, [])) = fitM x ∧ (if faultM x = 0 then (0 : Int) else 5) = fitE x := by
  unfold fitM fitE
  by_cases hs : sizeB x = true
  · rw [if_pos hs, if_pos hs, if_pos (h hs), if_pos (h hs)]; exact ⟨rfl, rfl⟩
  · have h0 : faultM x ≠ 0 := fun e => hs (faultM_zero e).1
    rw [if_neg hs, if_neg hs, if_neg h0, if_neg h0]; exact ⟨rfl, rfl⟩
end Go.Proofs.Ytibafdehgmalgaa.Pl
