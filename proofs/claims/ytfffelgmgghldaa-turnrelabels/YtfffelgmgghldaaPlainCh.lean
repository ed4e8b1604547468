/- Labels changed for others (no program in sight). -/
import Derived.Test.YtfffelgmgghldaaPlainTu
namespace Go.Proofs.Ytfffelgmgghldaa.Pl
set_option linter.unusedVariables false
set_option linter.unusedSimpArgs false
/-- A change: from, to. -/
abbrev Ch := Int × Int
def chgF : List Ch → Int → Int
  | [], x => x
  | c :: l, x => if c.1 = x then c.2 else chgF l x
theorem chg_hit {x : Int} : ∀ {l : List Ch} {i : Nat}, i < l.length → (∀ j, j < i → (el l j).1 ≠ x) → (el l i).1 = x → chgF l x = (el l i).2
  | [], i, h, _, _ => absurd h (by simp)
  | c :: l, 0, _, _, h => by
    rw [el_zero] at h ⊢
    simp [chgF, h]
  | c :: l, i + 1, hi, hn, h => by
    have h0 := hn 0 (by omega)
    rw [el_zero] at h0
    rw [el_succ] at h ⊢
    rw [chgF, if_neg h0]
    exact chg_hit (by simpa using hi) (fun j hj => by have := hn (j + 1) (by omega); rwa [el_succ] at this) h
theorem chg_none {x : Int} : ∀ {l : List Ch}, (∀ j, j < l.length → (el l j).1 ≠ x) → chgF l x = x
  | [], _ => rfl
  | c :: l, hn => by
    have h0 := hn 0 (by simp)
    rw [el_zero] at h0
    rw [chgF, if_neg h0]
    exact chg_none (fun j hj => by have := hn (j + 1) (by simpa using hj); rwa [el_succ] at this)
/-- P11.5: what is wrong with a list of changes. -/
def chB (c : Ch) : Bool := inB c.1 1 1000 && inB c.2 0 1000
def twcB (l : List Ch) : Bool := (List.range l.length).any fun i => (List.range i).any fun j => decide ((el l i).1 = (el l j).1)
def fltC (l : List Ch) : Int := if 50 < l.length then 1 else if l.all chB = false then 2 else if twcB l = true then 10 else 0
theorem twc_iff (l : List Ch) : twcB l = true ↔ ∃ i, i < l.length ∧ ∃ j, j < i ∧ (el l i).1 = (el l j).1 := by
  simp only [twcB, List.any_eq_true, List.mem_range, decide_eq_true_eq]
theorem flt_long {l : List Ch} (h : 50 < l.length) : fltC l = 1 := by unfold fltC; rw [if_pos h]
theorem all_no {l : List Ch} {i : Nat} (hi : i < l.length) (hb : chB (el l i) = false) : l.all chB = false := by
  rw [List.all_eq_false]
  exact ⟨el l i, el_mem hi, by simp [hb]⟩
theorem flt_range {l : List Ch} (h : ¬ 50 < l.length) {i : Nat} (hi : i < l.length) (hb : chB (el l i) = false) : fltC l = 2 := by
  unfold fltC
  rw [if_neg h, if_pos (all_no hi hb)]
theorem all_yes {l : List Ch} (ha : ∀ j, j < l.length → chB (el l j) = true) : ¬ l.all chB = false := by
  intro h
  rw [List.all_eq_false] at h
  obtain ⟨c, hc, hn⟩ := h
  obtain ⟨j, hj, rfl⟩ := List.getElem_of_mem hc
  have := ha j hj
  rw [el_get hj] at this
  exact hn this
theorem flt_twice {l : List Ch} (h : ¬ 50 < l.length) (ha : ∀ j, j < l.length → chB (el l j) = true) {i j : Nat} (hi : i < l.length) (hj : j < i) (he : (el l i).1 = (el l j).1) : fltC l = 10 := by
  unfold fltC
  rw [if_neg h, if_neg (all_yes ha), if_pos ((twc_iff l).2 ⟨i, hi, j, hj, he⟩)]
theorem flt_none {l : List Ch} (h : ¬ 50 < l.length) (ha : ∀ j, j < l.length → chB (el l j) = true) (ho : ∀ i, i < l.length → ∀ j, j < i → (el l i).1 ≠ (el l j).1) : fltC l = 0 := by
  unfold fltC
  rw [if_neg h, if_neg (all_yes ha), if_neg]
  intro ht
  obtain ⟨i, hi, j, hj, he⟩ := (twc_iff l).1 ht
  exact ho i hi j hj he
theorem flt_len {l : List Ch} (h : fltC l = 0) : l.length ≤ 50 := by
  unfold fltC at h
  by_cases g : 50 < l.length
  · rw [if_pos g] at h; cases h
  · omega
/-- P11.5: the machine. -/
def relA (ins outs : List Ch) (a : Ar) : Ar := (chgF ins a.1, chgF outs a.2.1, a.2.2.1, a.2.2.2)
def relS (ins outs : List Ch) (s : St) : St := (s.1, s.2.map (relA ins outs))
def relM (ins outs : List Ch) (m : Mc) : Mc := (m.1, m.2.map (relS ins outs))
def relE (ins outs : List Ch) (m : Mc) : Int := if faultM m ≠ 0 then faultM m else if fltC ins ≠ 0 then fltC ins else fltC outs
def relR (ins outs : List Ch) (m : Mc) : Mc := if relE ins outs m = 0 then relM ins outs m else (0, [])
theorem arcN_rel (ins outs : List Ch) (l : List St) : arcN (l.map (relS ins outs)) = arcN l := by
  induction l with
  | nil => rfl
  | cons s l ih => simp only [List.map_cons, arcN, ih, relS, List.length_map]
theorem relE_fault {ins outs : List Ch} {m : Mc} (h : relE ins outs m = 0) : faultM m = 0 ∧ fltC ins = 0 ∧ fltC outs = 0 := by
  unfold relE at h
  by_cases h1 : faultM m = 0
  · rw [if_neg (by simp [h1])] at h
    by_cases h2 : fltC ins = 0
    · rw [if_neg (by simp [h2])] at h
      exact ⟨h1, h2, h⟩
    · rw [if_pos h2] at h; exact absurd h h2
  · rw [if_pos h1] at h; exact absurd h h1
theorem relR_ok (ins outs : List Ch) (m : Mc) : okM (relR ins outs m) := by
  unfold relR
  split
  · rename_i h
    have := right_size (z := m.1) (l := m.2) (relE_fault h).1
    refine small_ok (by show (m.2.map _).length ≤ _; rw [List.length_map]; omega) ?_
    show arcN (m.2.map (relS ins outs)) ≤ _
    rw [arcN_rel]; omega
  · exact ⟨by simp, fun j hj => absurd hj (by simp)⟩
end Go.Proofs.Ytfffelgmgghldaa.Pl
