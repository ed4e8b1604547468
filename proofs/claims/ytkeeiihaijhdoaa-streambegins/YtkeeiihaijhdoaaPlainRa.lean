/- One machine or the other, one behind the other, again and again: what the document's answers are, how large, and that they are right (no program in sight). -/
import Derived.Test.YtkeeiihaijhdoaaPlainK
namespace Go.Proofs.Ytkeeiihaijhdoaa.Pl
set_option linter.unusedVariables false
set_option linter.unusedSimpArgs false
/-- An arc that leads d states further. -/
def shA (d : Int) (a : Ar) : Ar := (a.1, a.2.1, a.2.2.1, a.2.2.2 + d)
/-- A state whose arcs lead d states further, with other arcs behind them. -/
def shS (d f : Int) (more : List Ar) (s : St) : St := (f, s.2.map (shA d) ++ more)
/-- An empty arc to a state; none where there is no such state. -/
def hopA (z d x : Int) : List Ar := if z < 0 then [] else [(0, 0, x, z + d)]
/-- What leaves a state that may end. -/
def endA (f z d : Int) : List Ar := if f = 1000000001 then [] else hopA z d f
def uniM (a b : Mc) : Mc := (0, (1000000001, hopA a.1 1 0 ++ hopA b.1 (1 + (a.2.length : Int)) 0) :: (a.2.map (fun s => shS 1 s.1 [] s) ++ b.2.map (fun s => shS (1 + (a.2.length : Int)) s.1 [] s)))
def catM (a b : Mc) : Mc := (a.1, a.2.map (fun s => shS 0 1000000001 (endA s.1 b.1 (a.2.length : Int)) s) ++ b.2.map (fun s => shS (a.2.length : Int) s.1 [] s))
def staM (a : Mc) : Mc := (0, (0, hopA a.1 1 0) :: a.2.map (fun s => shS 1 1000000001 (endA s.1 0 0) s))
/-- P10.1. -/
def fitE (m : Mc) : Int := if sizeB m = true then 0 else 5
def fitM (m : Mc) : Mc := if sizeB m = true then m else (0, [])
def ratE (a b x : Mc) : Int := if faultM a ≠ 0 then faultM a else if faultM b ≠ 0 then faultM b else fitE x
def ratM (a b x : Mc) : Mc := if faultM a ≠ 0 then (0, []) else if faultM b ≠ 0 then (0, []) else fitM x
theorem arcN_takeR (l : List St) (k : Nat) : arcN (l.take k) ≤ arcN l := by
  conv => rhs; rw [← List.take_append_drop k l, arcN_append]
  omega
theorem shA_zero (a : Ar) : shA 0 a = a := by obtain ⟨p, q, r, s⟩ := a; simp [shA]
theorem hopA_len (z d x : Int) : (hopA z d x).length = if z < 0 then 0 else 1 := by unfold hopA; split <;> rfl
theorem hopA_le (z d x : Int) : (hopA z d x).length ≤ 1 := by rw [hopA_len]; split <;> omega
theorem endA_le (f z d : Int) : (endA f z d).length ≤ 1 := by unfold endA; split; exact Nat.zero_le _; exact hopA_le _ _ _
theorem shS_len (d f : Int) (more : List Ar) (s : St) : (shS d f more s).2.length = s.2.length + more.length := by simp [shS]
theorem uniM_len (a b : Mc) : (uniM a b).2.length = a.2.length + b.2.length + 1 := by simp [uniM]
theorem catM_len (a b : Mc) : (catM a b).2.length = a.2.length + b.2.length := by simp [catM]
theorem staM_len (a : Mc) : (staM a).2.length = a.2.length + 1 := by simp [staM]
theorem arcN_sh (l : List St) (d : Int) (f : St → Int) : arcN (l.map (fun s => shS d (f s) [] s)) = arcN l := by
  induction l with
  | nil => rfl
  | cons s l ih => simp only [List.map_cons, arcN, ih, shS_len, List.length_nil]; omega
theorem arcN_end (l : List St) (d e : Int) (z : Int) (f : Int) : arcN (l.map (fun s => shS d f (endA s.1 z e) s)) ≤ arcN l + l.length := by
  induction l with
  | nil => simp [arcN]
  | cons s l ih =>
    have := endA_le s.1 z e
    simp only [List.map_cons, arcN, shS_len, List.length_cons]
    omega
theorem uniM_arcs (a b : Mc) : arcN (uniM a b).2 ≤ arcN a.2 + arcN b.2 + 2 := by
  have h1 := hopA_le a.1 1 0
  have h2 := hopA_le b.1 (1 + (a.2.length : Int)) 0
  simp only [uniM, arcN, arcN_append, arcN_sh, List.length_append]
  omega
theorem catM_arcs (a b : Mc) : arcN (catM a b).2 ≤ arcN a.2 + arcN b.2 + a.2.length := by
  have h1 := arcN_end a.2 0 (a.2.length : Int) b.1 1000000001
  simp only [catM, arcN_append, arcN_sh]
  omega
theorem staM_arcs (a : Mc) : arcN (staM a).2 ≤ arcN a.2 + a.2.length + 1 := by
  have h1 := arcN_end a.2 1 0 0 1000000001
  have h2 := hopA_le a.1 1 0
  simp only [staM, arcN]
  omega
theorem small_ok {m : Mc} (h1 : m.2.length ≤ 100000) (h2 : arcN m.2 ≤ 100000) : okM m := ⟨by omega, fun j hj => by
  have h3 := arcN_take hj
  have h4 := arcN_takeR m.2 (j + 1)
  omega⟩
/-- An arc moved within a larger machine is right. -/
theorem arcB_sh {n N : Nat} {d : Nat} {a : Ar} (h : arcB n a = true) (hN : n + d ≤ N) : arcB N (shA (d : Int) a) = true := by
  obtain ⟨p, q, r, t⟩ := a
  simp only [arcB, inB, Bool.and_eq_true, decide_eq_true_eq] at h ⊢
  simp only [shA]
  obtain ⟨⟨⟨h1, h2⟩, h3⟩, h4⟩ := h
  exact ⟨⟨⟨h1, h2⟩, h3⟩, by omega, by omega⟩
theorem arcB_hop {N : Nat} {z d x : Int} {n : Nat} (hz : z ≤ (n : Int) - 1) (hd : 0 ≤ d) (hN : (n : Int) + d ≤ (N : Int)) (hx : 0 ≤ x ∧ x ≤ 1000000000) : (hopA z d x).all (arcB N) = true := by
  unfold hopA
  split
  · rfl
  · simp [arcB, inB]; omega
theorem arcB_end {N : Nat} {f z d : Int} {n : Nat} (hf : finB f = true) (hz : z ≤ (n : Int) - 1) (hd : 0 ≤ d) (hN : (n : Int) + d ≤ (N : Int)) : (endA f z d).all (arcB N) = true := by
  unfold endA
  split
  · rfl
  · rename_i h
    refine arcB_hop hz hd hN ?_
    simp [finB, inB] at hf
    omega
theorem stB_sh {n N : Nat} {d : Nat} {s : St} {f : Int} {more : List Ar} (h : stB n s = true) (hN : n + d ≤ N) (hf : finB f = true) (hm : more.all (arcB N) = true) : stB N (shS (d : Int) f more s) = true := by
  simp only [stB, shS, Bool.and_eq_true, List.all_append, List.all_map] at h ⊢
  refine ⟨hf, ?_, hm⟩
  rw [List.all_eq_true] at h ⊢
  exact fun a ha => arcB_sh (h.2 a ha) hN
theorem right_parts {m : Mc} (h : faultM m = 0) : (-1 ≤ m.1 ∧ m.1 ≤ (m.2.length : Int) - 1) ∧ ∀ s ∈ m.2, stB m.2.length s = true := by
  have h1 := (faultM_zero h).2
  simp only [rangeB, Bool.and_eq_true, inB, decide_eq_true_eq, List.all_eq_true] at h1
  exact h1
theorem stB_fin {n : Nat} {s : St} (h : stB n s = true) : finB s.1 = true := by
  simp only [stB, Bool.and_eq_true] at h
  exact h.1
theorem uniM_right {a b : Mc} (ha : faultM a = 0) (hb : faultM b = 0) (hs : sizeB (uniM a b) = true) : faultM (uniM a b) = 0 := by
  refine faultM_ok hs ?_
  obtain ⟨a1, a2⟩ := right_parts ha
  obtain ⟨b1, b2⟩ := right_parts hb
  unfold rangeB
  rw [uniM_len]
  simp only [Bool.and_eq_true, inB, decide_eq_true_eq, List.all_eq_true]
  refine ⟨by simp only [uniM]; omega, ?_⟩
  intro s hsm
  simp only [uniM, List.mem_cons, List.mem_append, List.mem_map] at hsm
  rcases hsm with rfl | ⟨t, ht, rfl⟩ | ⟨t, ht, rfl⟩
  · simp only [stB, Bool.and_eq_true, List.all_append]
    exact ⟨by simp [finB], arcB_hop (n := a.2.length) a1.2 (by omega) (by omega) (by omega), arcB_hop (n := b.2.length) b1.2 (by omega) (by omega) (by omega)⟩
  · exact stB_sh (d := 1) (a2 t ht) (by omega) (stB_fin (a2 t ht)) rfl
  · have := stB_sh (d := 1 + a.2.length) (N := a.2.length + b.2.length + 1) (f := t.1) (more := []) (b2 t ht) (by omega) (stB_fin (b2 t ht)) rfl
    simpa using this
theorem catM_right {a b : Mc} (ha : faultM a = 0) (hb : faultM b = 0) (hs : sizeB (catM a b) = true) : faultM (catM a b) = 0 := by
  refine faultM_ok hs ?_
  obtain ⟨a1, a2⟩ := right_parts ha
  obtain ⟨b1, b2⟩ := right_parts hb
  unfold rangeB
  rw [catM_len]
  simp only [Bool.and_eq_true, inB, decide_eq_true_eq, List.all_eq_true]
  refine ⟨by simp only [catM]; omega, ?_⟩
  intro s hsm
  simp only [catM, List.mem_append, List.mem_map] at hsm
  rcases hsm with ⟨t, ht, rfl⟩ | ⟨t, ht, rfl⟩
  · exact stB_sh (d := 0) (a2 t ht) (by omega) (by simp [finB]) (arcB_end (n := b.2.length) (stB_fin (a2 t ht)) b1.2 (by omega) (by omega))
  · exact stB_sh (d := a.2.length) (b2 t ht) (by omega) (stB_fin (b2 t ht)) rfl
theorem staM_right {a : Mc} (ha : faultM a = 0) (hs : sizeB (staM a) = true) : faultM (staM a) = 0 := by
  refine faultM_ok hs ?_
  obtain ⟨a1, a2⟩ := right_parts ha
  unfold rangeB
  rw [staM_len]
  simp only [Bool.and_eq_true, inB, decide_eq_true_eq, List.all_eq_true]
  refine ⟨by simp only [staM]; omega, ?_⟩
  intro s hsm
  simp only [staM, List.mem_cons, List.mem_map] at hsm
  rcases hsm with rfl | ⟨t, ht, rfl⟩
  · simp only [stB, Bool.and_eq_true]
    exact ⟨by simp [finB, inB], arcB_hop (n := a.2.length) a1.2 (by omega) (by omega) (by omega)⟩
  · exact stB_sh (d := 1) (a2 t ht) (by omega) (by simp [finB]) (arcB_end (n := 1) (stB_fin (a2 t ht)) (by omega) (by omega) (by omega))
end Go.Proofs.Ytkeeiihaijhdoaa.Pl
