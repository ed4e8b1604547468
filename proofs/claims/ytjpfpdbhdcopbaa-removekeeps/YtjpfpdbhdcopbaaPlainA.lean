/- Plain facts on arcs put in order (no program in sight). -/
import Derived.Test.YtjpfpdbhdcopbaaPlainV
namespace Go.Proofs.Ytjpfpdbhdcopbaa.Pl
theorem ahead_irrefl (a : Ar) : aheadB a a = false := by rw [aheadB_false]; omega
theorem ahead_lt {a b c : Ar} (h1 : aheadB a b = true) (h2 : aheadB b c = true) : aheadB a c = true := by
  rw [aheadB_iff] at *; omega
theorem ahead_asymm {a b : Ar} (h1 : aheadB a b = true) : aheadB b a = false := by
  rw [aheadB_iff] at h1; rw [aheadB_false]; omega
theorem ahead_same {a b : Ar} (h1 : aheadB a b = false) (h2 : aheadB b a = false) : a = b := by
  obtain ⟨a0, a1, a2, a3⟩ := a
  obtain ⟨b0, b1, b2, b3⟩ := b
  rw [aheadB_false] at *
  simp only at h1 h2
  have e0 : a0 = b0 := by omega
  have e1 : a1 = b1 := by omega
  have e2 : a2 = b2 := by omega
  have e3 : a3 = b3 := by omega
  rw [e0, e1, e2, e3]
/-- In order: none stands ahead of one that lies before it. -/
def leB (a b : Ar) : Bool := !aheadB b a
def sortL (l : List Ar) : List Ar := l.mergeSort leB
theorem leB_trans (a b c : Ar) (h1 : leB a b = true) (h2 : leB b c = true) : leB a c = true := by
  simp only [leB, Bool.not_eq_true'] at *
  exact ahead_trans h1 h2
theorem leB_total (a b : Ar) : (leB a b || leB b a) = true := by
  simp only [leB, Bool.or_eq_true, Bool.not_eq_true']
  rcases bool_cases' (aheadB b a) with h | h
  · exact .inr (ahead_asymm h)
  · exact .inl h
theorem sortL_perm (l : List Ar) : (sortL l).Perm l := List.mergeSort_perm _ _
theorem sortL_length (l : List Ar) : (sortL l).length = l.length := (sortL_perm l).length_eq
theorem sortL_pair (l : List Ar) : (sortL l).Pairwise fun a b => leB a b = true := List.pairwise_mergeSort leB_trans leB_total l
/-- There is but one. -/
theorem sortL_one {l r : List Ar} (hp : r.Perm l) (hr : r.Pairwise fun a b => leB a b = true) : r = sortL l := by
  refine List.Perm.eq_of_pairwise (le := fun x y => leB x y = true) ?_ hr (sortL_pair l) (hp.trans (sortL_perm l).symm)
  intro a b _ _ h1 h2
  simp only [leB, Bool.not_eq_true'] at h1 h2
  exact ahead_same h2 h1
/-- One arc put where it belongs. -/
def placeL : List Ar → Ar → List Ar
  | [], a => [a]
  | x :: l, a => if aheadB a x = true then a :: x :: l else x :: placeL l a
theorem placeL_perm (l : List Ar) (a : Ar) : (placeL l a).Perm (a :: l) := by
  induction l with
  | nil => exact List.Perm.refl _
  | cons x l ih =>
    simp only [placeL]
    split
    · exact List.Perm.refl _
    · exact (List.Perm.cons x ih).trans (List.Perm.swap a x l)
theorem placeL_length (l : List Ar) (a : Ar) : (placeL l a).length = l.length + 1 := by simpa using (placeL_perm l a).length_eq
theorem placeL_pair {l : List Ar} (h : l.Pairwise fun a b => leB a b = true) (a : Ar) : (placeL l a).Pairwise fun a b => leB a b = true := by
  induction l with
  | nil => simp [placeL]
  | cons x l ih =>
    rw [List.pairwise_cons] at h
    simp only [placeL]
    split
    · rename_i hx
      rw [List.pairwise_cons, List.pairwise_cons]
      have hax : leB a x = true := by simp [leB, ahead_asymm hx]
      refine ⟨fun y hy => ?_, h.1, h.2⟩
      rcases List.mem_cons.1 hy with rfl | hy
      · exact hax
      · exact leB_trans _ _ _ hax (h.1 y hy)
    · rename_i hx
      rw [List.pairwise_cons]
      refine ⟨fun y hy => ?_, ih h.2⟩
      rcases List.mem_cons.1 ((placeL_perm l a).mem_iff.1 hy) with rfl | hy
      · simpa [leB] using hx
      · exact h.1 y hy
def ordL (l : List Ar) : List Ar := l.foldl placeL []
theorem ordL_spec (l r : List Ar) (h : r.Pairwise fun a b => leB a b = true) : (l.foldl placeL r).Perm (l ++ r) ∧ (l.foldl placeL r).Pairwise fun a b => leB a b = true := by
  induction l generalizing r with
  | nil => exact ⟨List.Perm.refl _, h⟩
  | cons x l ih =>
    obtain ⟨h1, h2⟩ := ih (placeL r x) (placeL_pair h x)
    refine ⟨h1.trans ?_, h2⟩
    exact ((placeL_perm r x).append_left l).trans (List.perm_middle (l₁ := l) (a := x) (l₂ := r))
theorem ordL_sortL (l : List Ar) : ordL l = sortL l := by
  obtain ⟨h1, h2⟩ := ordL_spec l [] List.Pairwise.nil
  exact sortL_one (by rw [List.append_nil] at h1; exact h1) h2
theorem ordL_take {l : List Ar} {k : Nat} (h : k < l.length) : ordL (l.take (k + 1)) = placeL (ordL (l.take k)) (el l k) := by
  rw [take_el h, ordL, List.foldl_append]; rfl
theorem ordL_length (l : List Ar) : (ordL l).length = l.length := by rw [ordL_sortL, sortL_length]
/-- In and Out exchanged. -/
def flipA (a : Ar) : Ar := (a.2.1, a.1, a.2.2.1, a.2.2.2)
theorem flip_flip (a : Ar) : flipA (flipA a) = a := rfl
/-- Does a stand ahead of b, by Out first (s) or by In first? -/
def aheadS (s : Bool) (a b : Ar) : Bool := if s then aheadB (flipA a) (flipA b) else aheadB a b
def sortS (s : Bool) (l : List Ar) : List Ar := l.mergeSort fun a b => !aheadS s b a
theorem sortS_false (l : List Ar) : sortS false l = ordL l := by rw [ordL_sortL]; rfl
theorem sortS_true (l : List Ar) : sortS true l = (ordL (l.map flipA)).map flipA := by
  rw [ordL_sortL]
  have hp : (sortS true l).Perm l := List.mergeSort_perm _ _
  have hw : (sortS true l).Pairwise fun a b => (!aheadS true b a) = true := by
    refine List.pairwise_mergeSort ?_ ?_ l
    · intro a b c h1 h2
      exact leB_trans (flipA a) (flipA b) (flipA c) h1 h2
    · intro a b
      exact leB_total (flipA a) (flipA b)
  have h1 : (sortS true l).map flipA = sortL (l.map flipA) := by
    refine sortL_one (hp.map _) ?_
    rw [List.pairwise_map]
    exact hw
  rw [← h1, List.map_map]
  exact (List.map_id _).symm
theorem sortS_perm (s : Bool) (l : List Ar) : (sortS s l).Perm l := List.mergeSort_perm _ _
theorem sortS_length (s : Bool) (l : List Ar) : (sortS s l).length = l.length := (sortS_perm s l).length_eq
/-- Alike but for the weight. -/
def alikeB (a b : Ar) : Bool := decide (a.1 = b.1) && decide (a.2.1 = b.2.1) && decide (a.2.2.2 = b.2.2.2)
def lightFrom (p : Ar) : List Ar → List Ar
  | [] => []
  | x :: l => if alikeB x p = true then lightFrom x l else x :: lightFrom x l
/-- Of neighbours that are alike the first one. -/
def lightL : List Ar → List Ar
  | [] => []
  | a :: l => a :: lightFrom a l
theorem lightFrom_append (p : Ar) (l : List Ar) (x : Ar) : lightFrom p (l ++ [x]) = lightFrom p l ++ (if alikeB x (l.getLast?.getD p) = true then [] else [x]) := by
  induction l generalizing p with
  | nil => cases h : alikeB x p <;> simp [lightFrom, h]
  | cons y l ih =>
    have e : (y :: l).getLast?.getD p = l.getLast?.getD y := by cases l <;> simp [List.getLast?_cons]
    rw [e]
    simp only [List.cons_append, lightFrom]
    rw [ih y]
    split <;> simp
theorem lightL_take {l : List Ar} {k : Nat} (h : k + 1 < l.length) : lightL (l.take (k + 2)) = lightL (l.take (k + 1)) ++ (if alikeB (el l (k + 1)) (el l k) = true then [] else [el l (k + 1)]) := by
  cases l with
  | nil => simp at h
  | cons a l =>
    have h' : k < l.length := by simpa using h
    rw [List.take_succ_cons, List.take_succ_cons, lightL, lightL, take_el h', lightFrom_append, el_succ]
    have e : (l.take k).getLast?.getD a = el (a :: l) k := by
      cases k with
      | zero => simp [el]
      | succ k => rw [take_el (by omega)]; simp [el_succ]
    rw [e]; simp
theorem lightFrom_le (p : Ar) (l : List Ar) : (lightFrom p l).length ≤ l.length := by
  induction l generalizing p with
  | nil => simp [lightFrom]
  | cons x l ih => simp only [lightFrom]; split <;> simp <;> have := ih x <;> omega
theorem lightL_le (l : List Ar) : (lightL l).length ≤ l.length := by
  cases l with
  | nil => simp [lightL]
  | cons a l => simp [lightL, lightFrom_le a l]
/-- A machine with each state's arcs changed. -/
def mapM (f : List Ar → List Ar) (m : Mc) : Mc := (m.1, m.2.map fun s => (s.1, f s.2))
theorem okM_map {f : List Ar → List Ar} (hf : ∀ l, (f l).length ≤ l.length) {m : Mc} (h : okM m) : okM (mapM f m) := by
  refine ⟨by simpa [mapM] using h.1, fun j hj => ?_⟩
  have hj' : j < m.2.length := by simpa [mapM] using hj
  have := h.2 j hj'
  rw [mapM, el_map hj']
  have := hf (el m.2 j).2
  simp only
  omega
/-- What a kind of arranging does. -/
def arrL (kind : Int) (l : List Ar) : List Ar := if kind = 1 then sortS true l else if kind = 2 then lightL (sortS false l) else sortS false l
theorem arrL_le (kind : Int) (l : List Ar) : (arrL kind l).length ≤ l.length := by
  unfold arrL
  split
  · rw [sortS_length]; omega
  · split
    · have := lightL_le (sortS false l); rw [sortS_length] at this; exact this
    · rw [sortS_length]; omega
/-- Which number the comparison by a key gives. -/
def cmpS (s : Bool) (a b : Ar) : Int := if s then orI (cmpI a.2.1 b.2.1) (cmpI a.1 b.1) (cmpI a.2.2.2 b.2.2.2) (cmpI a.2.2.1 b.2.2.1) else orI (cmpI a.1 b.1) (cmpI a.2.1 b.2.1) (cmpI a.2.2.2 b.2.2.2) (cmpI a.2.2.1 b.2.2.1)
theorem cmpS_neg (s : Bool) (a b : Ar) : decide (cmpS s a b < 0) = aheadS s a b := by
  cases s
  · exact orI_neg a b
  · exact orI_neg (flipA a) (flipA b)
end Go.Proofs.Ytjpfpdbhdcopbaa.Pl
