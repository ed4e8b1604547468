/- Composed, two words cost what the best word between costs (no program in sight). What a machine is like when one state of it has an arc more (no program in sight). Plain facts on arcs put in order (no program in sight). Labels changed for others (no program in sight). What changes no cost: arcs in another order, lighter ones alone, labels exchanged (no program in sight). Weights below ten, weights up to W (no program in sight). -/
import Derived.Test.YtfekmlblldhieaaGreatDoorJ17b
import Derived.Test.YtfekmlblldhieaaGreatDoorJ17c
import Derived.Test.YtfekmlblldhieaaGreatDoorJ17a
namespace Go.Proofs.YtfekmlblldhieaaGreatDoor.Pl
set_option linter.unusedVariables false
set_option linter.unusedSimpArgs false
theorem right_posA {m : Mc} (h : faultM m = 0) : PosA m.2 := fun q a ha => by
  have := arc_rightP h (el_in ha) ha
  exact ⟨this.1, this.2.2.1, this.2.2.2.2.1⟩
theorem expE_zero {a b : Mc} {t : Tr} (h : expE a b t = 0) : faultM a = 0 ∧ faultM b = 0 ∧ trB a b t = true ∧ expO a b t = false := by
  unfold expE at h
  split at h
  · rename_i g; exact absurd h g
  · split at h
    · rename_i g; exact absurd h g
    · split at h
      · exact absurd h (by decide)
      · split at h
        · exact absurd h (by decide)
        · rename_i g1 g2 g3 g4
          exact ⟨by simpa using g1, by simpa using g2, by simpa using g3, by simpa using g4⟩
theorem trB_nat {a b : Mc} {t : Tr} (h : trB a b t = true) : ∃ s r : Nat, t = ((s : Int), (r : Int), t.2.2) ∧ s < a.2.length ∧ r < b.2.length ∧ 0 ≤ t.2.2 ∧ t.2.2 ≤ 2 := by
  obtain ⟨x, y, f⟩ := t
  simp only [trB, inB, Bool.and_eq_true, decide_eq_true_eq] at h
  refine ⟨x.toNat, y.toNat, ?_, by omega, by omega, by simp only; omega, by simp only; omega⟩
  simp only [Prod.mk.injEq, and_true]
  omega
theorem CmpI.nat {a b : Mc} {L : List Tr} {S : List St} (h : CmpI a b L.length L S) {t : Tr} (ht : t ∈ L) : ∃ s r : Nat, t = ((s : Int), (r : Int), t.2.2) ∧ s < a.2.length ∧ r < b.2.length := by
  obtain ⟨i, hi, rfl⟩ := mem_el ht
  obtain ⟨s, r, h1, h2, h3, _⟩ := trB_nat (expE_zero (h.right i hi)).2.2.1
  exact ⟨s, r, h1, h2, h3⟩
theorem el_idx {L : List Tr} {t : Tr} (h : t ∈ L) : L.idxOf t < L.length ∧ el L (L.idxOf t) = t := by
  have h1 := List.idxOf_lt_length_iff.2 h
  exact ⟨h1, by rw [el_get h1]; exact List.getElem_idxOf h1⟩
theorem CmpI.zero {a b : Mc} {q : Nat} {L : List Tr} {S : List St} (h : CmpI a b q L S) : 0 < L.length ∧ el L 0 = (a.1, b.1, 0) := by
  obtain ⟨E, rfl⟩ := h.start
  exact ⟨by simp, by simp [el]⟩
/-- The ways of the composed machine are those along hops. -/
theorem CmpI.way {a b : Mc} {L : List Tr} {S : List St} (h : CmpI a b L.length L S) {za zb : Nat} (ea : a.1 = (za : Int)) (eb : b.1 = (zb : Int)) {u v : List Int} {p c : Nat} (hw : Way S 0 u v p c) :
    ∃ s t : Nat, ∃ f : Int, p < L.length ∧ el L p = ((s : Int), (t : Int), f) ∧ Hops a.2 b.2 za zb u v s t f c := by
  induction hw with
  | nil =>
    obtain ⟨h1, h2⟩ := h.zero
    exact ⟨za, zb, 0, h1, by rw [h2, ea, eb], .nil⟩
  | @snoc u v p c hw x hx r hr ih =>
    obtain ⟨s, t, f, hp, he, k⟩ := ih
    rw [h.sts p hp] at hx
    obtain ⟨g, hg, rfl⟩ := List.mem_map.1 hx
    have hin := h.shut p hp g hg
    obtain ⟨i1, i2⟩ := el_idx hin
    obtain ⟨s', t', e', _, _⟩ := h.nat hin
    simp only [arcTr] at hr ⊢
    have hr' : r = L.idxOf g.2.2.2 := by omega
    subst hr'
    refine ⟨s', t', g.2.2.2.2.2, i1, by rw [i2]; exact e', ?_⟩
    refine k.snoc (k := g) ?_ (by rw [e']) (by rw [e'])
    rw [he] at hg
    simpa [expT] using hg
theorem CmpI.hops {a b : Mc} {L : List Tr} {S : List St} (h : CmpI a b L.length L S) {za zb : Nat} (ea : a.1 = (za : Int)) (eb : b.1 = (zb : Int)) {u v : List Int} {s t c : Nat} {f : Int} (hw : Hops a.2 b.2 za zb u v s t f c) :
    ∃ p, p < L.length ∧ el L p = ((s : Int), (t : Int), f) ∧ Way S 0 u v p c := by
  induction hw with
  | nil =>
    obtain ⟨h1, h2⟩ := h.zero
    exact ⟨0, h1, by rw [h2, ea, eb], .nil⟩
  | @snoc u v s t c f hw g hg s' t' hs ht ih =>
    obtain ⟨p, hp, he, k⟩ := ih
    have hg' : g ∈ expT a b (el L p) := by rw [he]; simpa [expT] using hg
    have hin := h.shut p hp g hg'
    obtain ⟨i1, i2⟩ := el_idx hin
    refine ⟨L.idxOf g.2.2.2, i1, ?_, ?_⟩
    · rw [i2, ← hs, ← ht]
    · exact k.snoc (a := arcTr L g) (by rw [h.sts p hp]; exact List.mem_map.2 ⟨g, hg', rfl⟩) rfl
theorem CmpI.fin {a b : Mc} {L : List Tr} {S : List St} (h : CmpI a b L.length L S) {p s t : Nat} {f : Int} (hp : p < L.length) (he : el L p = ((s : Int), (t : Int), f)) :
    s < a.2.length ∧ t < b.2.length ∧ ((el S p).1 ≠ 1000000001 ↔ (el a.2 s).1 ≠ 1000000001 ∧ (el b.2 t).1 ≠ 1000000001) ∧ ((el S p).1 ≠ 1000000001 → (el S p).1.toNat = (el a.2 s).1.toNat + (el b.2 t).1.toNat) := by
  obtain ⟨fa, fb, h1, h2⟩ := expE_zero (h.right p hp)
  obtain ⟨s', t', e', hs, ht⟩ := h.nat (el_mem hp)
  rw [he] at e' h2
  simp only [Prod.mk.injEq] at e'
  have es : s' = s := by omega
  have et : t' = t := by omega
  subst es
  subst et
  rw [h.sts p hp, he]
  simp only [finTr, Int.toNat_natCast]
  simp only [expO, Int.toNat_natCast, Bool.or_eq_false_iff, Bool.and_eq_false_iff, bne_eq_false_iff_eq, decide_eq_false_iff_not] at h2
  refine ⟨hs, ht, ?_, ?_⟩
  · unfold bothI
    by_cases g1 : (el a.2 s').1 = 1000000001
    · simp [g1]
    · by_cases g2 : (el b.2 t').1 = 1000000001
      · simp [g2]
      · rw [if_neg (by simp [g1, g2])]
        rcases h2.1 with (k | k) | k
        · exact absurd k g1
        · exact absurd k g2
        · exact ⟨fun _ => ⟨g1, g2⟩, fun _ => by omega⟩
  · unfold bothI
    intro k
    by_cases g1 : (el a.2 s').1 = 1000000001
    · simp [g1] at k
    · by_cases g2 : (el b.2 t').1 = 1000000001
      · simp [g2] at k
      · rw [if_neg (by simp [g1, g2])]
        have := (fin_small fa hs g1).1
        have := (fin_small fb ht g2).1
        omega
/-- COMPOSED, x AND z COST WHAT A WORD BETWEEN COSTS. -/
theorem cmp_costs {a b x : Mc} (ha : faultM a = 0) (hb : faultM b = 0) (h1 : 0 ≤ a.1) (h2 : 0 ≤ b.1) (h : cpsA a b = (x, 0)) (u v : List Int) (c : Nat) : Costs x u v c ↔ ∃ y d e, Costs a u y d ∧ Costs b y v e ∧ c = d + e := by
  obtain ⟨hz, L, hI⟩ := cpsA_done ha hb h1 h2 h
  obtain ⟨xz, S⟩ := x
  simp only at hz hI
  subst hz
  have ea : a.1 = (a.1.toNat : Int) := by omega
  have eb : b.1 = (b.1.toNat : Int) := by omega
  constructor
  · rintro ⟨_, p, d, hw, hp, hn, rfl⟩
    obtain ⟨s, t, f, hpL, he, k⟩ := hI.way ea eb (by simpa using hw)
    obtain ⟨hs, ht, f1, f2⟩ := hI.fin hpL he
    obtain ⟨y, d1, d2, w1, w2, rfl⟩ := k.ways (right_posA ha) (right_posA hb)
    have f3 := f1.1 hn
    refine ⟨y, _, _, ⟨h1, s, d1, w1, hs, f3.1, rfl⟩, ⟨h2, t, d2, w2, ht, f3.2, rfl⟩, ?_⟩
    have := f2 hn
    simp only at this ⊢
    omega
  · rintro ⟨y, d, e, ⟨_, s, d1, w1, hs, n1, rfl⟩, ⟨_, t, d2, w2, ht, n2, rfl⟩, rfl⟩
    obtain ⟨f, k⟩ := (hops_iff (right_posA ha) (right_posA hb)).2 ⟨y, d1, d2, w1, w2, rfl⟩
    obtain ⟨p, hp, he, w⟩ := hI.hops ea eb k
    obtain ⟨_, _, f1, f2⟩ := hI.fin hp he
    have f3 := f1.2 ⟨n1, n2⟩
    refine ⟨by simp, p, d1 + d2, by simpa using w, by simp only; rw [hI.len]; exact hp, f3, ?_⟩
    have := f2 f3
    simp only at this ⊢
    omega
end Go.Proofs.YtfekmlblldhieaaGreatDoor.Pl
namespace Go.Proofs.YtfekmlblldhieaaGreatDoor.Pl
section
variable {α : Type} [Inhabited α]
theorem el_set {l : List α} {q j : Nat} {s : α} (hj : j < l.length) : el (l.set q s) j = if q = j then s else el l j := by
  rw [el_get (by simpa using hj), el_get hj, List.getElem_set]
theorem all_set_same {l : List α} {q : Nat} {s : α} {p : α → Bool} (h : q < l.length) (hp : p s = p (el l q)) : (l.set q s).all p = l.all p := by
  rw [Bool.eq_iff_iff, List.all_eq_true, List.all_eq_true]
  constructor
  · intro g a ha
    obtain ⟨j, hj, rfl⟩ := mem_el ha
    have h1 := g _ (el_mem (l := l.set q s) (j := j) (by simpa using hj))
    rw [el_set hj] at h1
    split at h1
    · rename_i e; subst e; rw [← hp]; exact h1
    · exact h1
  · intro g a ha
    obtain ⟨j, hj, rfl⟩ := mem_el ha
    have hj' : j < l.length := by simpa using hj
    rw [el_set hj']
    split
    · rename_i e; subst e; rw [hp]; exact g _ (el_mem h)
    · exact g _ (el_mem hj')
theorem all_set_false {l : List α} {q : Nat} {s : α} {p : α → Bool} (h : q < l.length) (hp : p s = false) : (l.set q s).all p = false :=
  all_false_el (k := q) (by simpa using h) (by rw [el_set h, if_pos rfl]; exact hp)
end
theorem arcN_set {l : List St} {q : Nat} {s : St} (h : q < l.length) : arcN (l.set q s) + (el l q).2.length = arcN l + s.2.length := by
  induction l generalizing q with
  | nil => simp at h
  | cons t l ih =>
    cases q with
    | zero => rw [el_zero]; simp [arcN]; omega
    | succ q => rw [el_succ]; have := ih (q := q) (by simpa using h); simp [arcN]; omega
/-- One state with one arc more that may be: still a right machine, if there is room. -/
theorem right_set {z : Int} {l : List St} {q : Nat} {b : Ar} (h : faultM (z, l) = 0) (hq : q < l.length) (hb : arcB l.length b = true) (hroom : arcN l + 1 ≤ 400) : faultM (z, l.set q ((el l q).1, (el l q).2 ++ [b])) = 0 := by
  obtain ⟨h1, h2⟩ := faultM_zero h
  refine faultM_ok ?_ ?_
  · have h3 := arcN_set (s := ((el l q).1, (el l q).2 ++ [b])) hq
    simp only [List.length_append, List.length_cons, List.length_nil] at h3
    simp only [sizeB, Bool.and_eq_true, decide_eq_true_eq, List.length_set] at h1 ⊢
    omega
  · simp only [rangeB, Bool.and_eq_true, List.length_set] at h2 ⊢
    refine ⟨h2.1, ?_⟩
    rw [all_set_same hq]
    · exact h2.2
    · have h4 : stB l.length (el l q) = true := List.all_eq_true.1 h2.2 _ (el_mem hq)
      rw [h4]
      simp only [stB, Bool.and_eq_true, List.all_append, List.all_cons, List.all_nil, Bool.and_true] at h4 ⊢
      exact ⟨h4.1, h4.2, hb⟩
theorem once_twice {l : List Ar} (h : 0 < l.length) : onceB (l ++ [el l 0]) = false := by
  rcases bool_cases' (onceB (l ++ [el l 0])) with g | g
  · have h1 := onceB_iff.1 g l.length (by simp) 0 h
    rw [el_last, el_left h] at h1
    have h2 : pairB (el l 0) (el l 0) = true := pairB_iff.2 ⟨rfl, rfl⟩
    rw [h2] at h1; cases h1
  · exact g
theorem all_again {l : List Ar} (p : Ar → Bool) (h : 0 < l.length) : (l ++ [el l 0]).all p = l.all p := by
  simp only [List.all_append, List.all_cons, List.all_nil, Bool.and_true]
  rcases bool_cases' (l.all p) with g | g
  · rw [g, List.all_eq_true.1 g _ (el_mem h)]; rfl
  · rw [g]; rfl
end Go.Proofs.YtfekmlblldhieaaGreatDoor.Pl
namespace Go.Proofs.YtfekmlblldhieaaGreatDoor.Pl
theorem ahead_irrefl (a : Ar) : aheadB a a = false := by rw [aheadB_false]; omega
theorem ahead_lt {a b c : Ar} (h1 : aheadB a b = true) (h2 : aheadB b c = true) : aheadB a c = true := by
  rw [aheadB_iff] at *; omega
theorem ahead_asymm {a b : Ar} (h1 : aheadB a b = true) : aheadB b a = false := by
  rw [aheadB_iff] at h1; rw [aheadB_false]; omega
theorem ahead_same {a b : Ar} (h1 : aheadB a b = false) (h2 : aheadB b a = false) : a = b := by
  obtain ⟨a0, a1, a2, a3⟩ := a
  obtain ⟨b0, b1, b2, b3⟩ := b
  rw [aheadB_false] at *
  simp only at h1 h2
  have e0 : a0 = b0 := by omega
  have e1 : a1 = b1 := by omega
  have e2 : a2 = b2 := by omega
  have e3 : a3 = b3 := by omega
  rw [e0, e1, e2, e3]
/-- In order: none stands ahead of one that lies before it. -/
def leB (a b : Ar) : Bool := !aheadB b a
def sortL (l : List Ar) : List Ar := l.mergeSort leB
theorem leB_trans (a b c : Ar) (h1 : leB a b = true) (h2 : leB b c = true) : leB a c = true := by
  simp only [leB, Bool.not_eq_true'] at *
  exact ahead_trans h1 h2
theorem leB_total (a b : Ar) : (leB a b || leB b a) = true := by
  simp only [leB, Bool.or_eq_true, Bool.not_eq_true']
  rcases bool_cases' (aheadB b a) with h | h
  · exact .inr (ahead_asymm h)
  · exact .inl h
theorem sortL_perm (l : List Ar) : (sortL l).Perm l := List.mergeSort_perm _ _
theorem sortL_length (l : List Ar) : (sortL l).length = l.length := (sortL_perm l).length_eq
theorem sortL_pair (l : List Ar) : (sortL l).Pairwise fun a b => leB a b = true := List.pairwise_mergeSort leB_trans leB_total l
/-- There is but one. -/
theorem sortL_one {l r : List Ar} (hp : r.Perm l) (hr : r.Pairwise fun a b => leB a b = true) : r = sortL l := by
  refine List.Perm.eq_of_pairwise (le := fun x y => leB x y = true) ?_ hr (sortL_pair l) (hp.trans (sortL_perm l).symm)
  intro a b _ _ h1 h2
  simp only [leB, Bool.not_eq_true'] at h1 h2
  exact ahead_same h2 h1
/-- One arc put where it belongs. -/
def placeL : List Ar → Ar → List Ar
  | [], a => [a]
  | x :: l, a => if aheadB a x = true then a :: x :: l else x :: placeL l a
theorem placeL_perm (l : List Ar) (a : Ar) : (placeL l a).Perm (a :: l) := by
  induction l with
  | nil => exact List.Perm.refl _
  | cons x l ih =>
    simp only [placeL]
    split
    · exact List.Perm.refl _
    · exact (List.Perm.cons x ih).trans (List.Perm.swap a x l)
theorem placeL_length (l : List Ar) (a : Ar) : (placeL l a).length = l.length + 1 := by simpa using (placeL_perm l a).length_eq
theorem placeL_pair {l : List Ar} (h : l.Pairwise fun a b => leB a b = true) (a : Ar) : (placeL l a).Pairwise fun a b => leB a b = true := by
  induction l with
  | nil => simp [placeL]
  | cons x l ih =>
    rw [List.pairwise_cons] at h
    simp only [placeL]
    split
    · rename_i hx
      rw [List.pairwise_cons, List.pairwise_cons]
      have hax : leB a x = true := by simp [leB, ahead_asymm hx]
      refine ⟨fun y hy => ?_, h.1, h.2⟩
      rcases List.mem_cons.1 hy with rfl | hy
      · exact hax
      · exact leB_trans _ _ _ hax (h.1 y hy)
    · rename_i hx
      rw [List.pairwise_cons]
      refine ⟨fun y hy => ?_, ih h.2⟩
      rcases List.mem_cons.1 ((placeL_perm l a).mem_iff.1 hy) with rfl | hy
      · simpa [leB] using hx
      · exact h.1 y hy
def ordL (l : List Ar) : List Ar := l.foldl placeL []
theorem ordL_spec (l r : List Ar) (h : r.Pairwise fun a b => leB a b = true) : (l.foldl placeL r).Perm (l ++ r) ∧ (l.foldl placeL r).Pairwise fun a b => leB a b = true := by
  induction l generalizing r with
  | nil => exact ⟨List.Perm.refl _, h⟩
  | cons x l ih =>
    obtain ⟨h1, h2⟩ := ih (placeL r x) (placeL_pair h x)
    refine ⟨h1.trans ?_, h2⟩
    exact ((placeL_perm r x).append_left l).trans (List.perm_middle (l₁ := l) (a := x) (l₂ := r))
theorem ordL_sortL (l : List Ar) : ordL l = sortL l := by
  obtain ⟨h1, h2⟩ := ordL_spec l [] List.Pairwise.nil
  exact sortL_one (by rw [List.append_nil] at h1; exact h1) h2
theorem ordL_take {l : List Ar} {k : Nat} (h : k < l.length) : ordL (l.take (k + 1)) = placeL (ordL (l.take k)) (el l k) := by
  rw [take_el h, ordL, List.foldl_append]; rfl
theorem ordL_length (l : List Ar) : (ordL l).length = l.length := by rw [ordL_sortL, sortL_length]
/-- In and Out exchanged. -/
def flipA (a : Ar) : Ar := (a.2.1, a.1, a.2.2.1, a.2.2.2)
theorem flip_flip (a : Ar) : flipA (flipA a) = a := rfl
/-- Does a stand ahead of b, by Out first (s) or by In first? -/
def aheadS (s : Bool) (a b : Ar) : Bool := if s then aheadB (flipA a) (flipA b) else aheadB a b
def sortS (s : Bool) (l : List Ar) : List Ar := l.mergeSort fun a b => !aheadS s b a
theorem sortS_false (l : List Ar) : sortS false l = ordL l := by rw [ordL_sortL]; rfl
theorem sortS_true (l : List Ar) : sortS true l = (ordL (l.map flipA)).map flipA := by
  rw [ordL_sortL]
  have hp : (sortS true l).Perm l := List.mergeSort_perm _ _
  have hw : (sortS true l).Pairwise fun a b => (!aheadS true b a) = true := by
    refine List.pairwise_mergeSort ?_ ?_ l
    · intro a b c h1 h2
      exact leB_trans (flipA a) (flipA b) (flipA c) h1 h2
    · intro a b
      exact leB_total (flipA a) (flipA b)
  have h1 : (sortS true l).map flipA = sortL (l.map flipA) := by
    refine sortL_one (hp.map _) ?_
    rw [List.pairwise_map]
    exact hw
  rw [← h1, List.map_map]
  exact (List.map_id _).symm
theorem sortS_perm (s : Bool) (l : List Ar) : (sortS s l).Perm l := List.mergeSort_perm _ _
theorem sortS_length (s : Bool) (l : List Ar) : (sortS s l).length = l.length := (sortS_perm s l).length_eq
/-- Alike but for the weight. -/
def alikeB (a b : Ar) : Bool := decide (a.1 = b.1) && decide (a.2.1 = b.2.1) && decide (a.2.2.2 = b.2.2.2)
def lightFrom (p : Ar) : List Ar → List Ar
  | [] => []
  | x :: l => if alikeB x p = true then lightFrom x l else x :: lightFrom x l
/-- Of neighbours that are alike the first one. -/
def lightL : List Ar → List Ar
  | [] => []
  | a :: l => a :: lightFrom a l
theorem lightFrom_append (p : Ar) (l : List Ar) (x : Ar) : lightFrom p (l ++ [x]) = lightFrom p l ++ (if alikeB x (l.getLast?.getD p) = true then [] else [x]) := by
  induction l generalizing p with
  | nil => cases h : alikeB x p <;> simp [lightFrom, h]
  | cons y l ih =>
    have e : (y :: l).getLast?.getD p = l.getLast?.getD y := by cases l <;> simp [List.getLast?_cons]
    rw [e]
    simp only [List.cons_append, lightFrom]
    rw [ih y]
    split <;> simp
theorem lightL_take {l : List Ar} {k : Nat} (h : k + 1 < l.length) : lightL (l.take (k + 2)) = lightL (l.take (k + 1)) ++ (if alikeB (el l (k + 1)) (el l k) = true then [] else [el l (k + 1)]) := by
  cases l with
  | nil => simp at h
  | cons a l =>
    have h' : k < l.length := by simpa using h
    rw [List.take_succ_cons, List.take_succ_cons, lightL, lightL, take_el h', lightFrom_append, el_succ]
    have e : (l.take k).getLast?.getD a = el (a :: l) k := by
      cases k with
      | zero => simp [el]
      | succ k => rw [take_el (by omega)]; simp [el_succ]
    rw [e]; simp
theorem lightFrom_le (p : Ar) (l : List Ar) : (lightFrom p l).length ≤ l.length := by
  induction l generalizing p with
  | nil => simp [lightFrom]
  | cons x l ih => simp only [lightFrom]; split <;> simp <;> have := ih x <;> omega
theorem lightL_le (l : List Ar) : (lightL l).length ≤ l.length := by
  cases l with
  | nil => simp [lightL]
  | cons a l => simp [lightL, lightFrom_le a l]
/-- A machine with each state's arcs changed. -/
def mapM (f : List Ar → List Ar) (m : Mc) : Mc := (m.1, m.2.map fun s => (s.1, f s.2))
theorem okM_map {f : List Ar → List Ar} (hf : ∀ l, (f l).length ≤ l.length) {m : Mc} (h : okM m) : okM (mapM f m) := by
  refine ⟨by simpa [mapM] using h.1, fun j hj => ?_⟩
  have hj' : j < m.2.length := by simpa [mapM] using hj
  have := h.2 j hj'
  rw [mapM, el_map hj']
  have := hf (el m.2 j).2
  simp only
  omega
/-- What a kind of arranging does. -/
def arrL (kind : Int) (l : List Ar) : List Ar := if kind = 1 then sortS true l else if kind = 2 then lightL (sortS false l) else sortS false l
theorem arrL_le (kind : Int) (l : List Ar) : (arrL kind l).length ≤ l.length := by
  unfold arrL
  split
  · rw [sortS_length]; omega
  · split
    · have := lightL_le (sortS false l); rw [sortS_length] at this; exact this
    · rw [sortS_length]; omega
/-- Which number the comparison by a key gives. -/
def cmpS (s : Bool) (a b : Ar) : Int := if s then orI (cmpI a.2.1 b.2.1) (cmpI a.1 b.1) (cmpI a.2.2.2 b.2.2.2) (cmpI a.2.2.1 b.2.2.1) else orI (cmpI a.1 b.1) (cmpI a.2.1 b.2.1) (cmpI a.2.2.2 b.2.2.2) (cmpI a.2.2.1 b.2.2.1)
theorem cmpS_neg (s : Bool) (a b : Ar) : decide (cmpS s a b < 0) = aheadS s a b := by
  cases s
  · exact orI_neg a b
  · exact orI_neg (flipA a) (flipA b)
end Go.Proofs.YtfekmlblldhieaaGreatDoor.Pl
namespace Go.Proofs.YtfekmlblldhieaaGreatDoor.Pl
set_option linter.unusedVariables false
set_option linter.unusedSimpArgs false
/-- A change: from, to. -/
abbrev Ch := Int × Int
def chgF : List Ch → Int → Int
  | [], x => x
  | c :: l, x => if c.1 = x then c.2 else chgF l x
theorem chg_hit {x : Int} : ∀ {l : List Ch} {i : Nat}, i < l.length → (∀ j, j < i → (el l j).1 ≠ x) → (el l i).1 = x → chgF l x = (el l i).2
  | [], i, h, _, _ => absurd h (by simp)
  | c :: l, 0, _, _, h => by
    rw [el_zero] at h ⊢
    simp [chgF, h]
  | c :: l, i + 1, hi, hn, h => by
    have h0 := hn 0 (by omega)
    rw [el_zero] at h0
    rw [el_succ] at h ⊢
    rw [chgF, if_neg h0]
    exact chg_hit (by simpa using hi) (fun j hj => by have := hn (j + 1) (by omega); rwa [el_succ] at this) h
theorem chg_none {x : Int} : ∀ {l : List Ch}, (∀ j, j < l.length → (el l j).1 ≠ x) → chgF l x = x
  | [], _ => rfl
  | c :: l, hn => by
    have h0 := hn 0 (by simp)
    rw [el_zero] at h0
    rw [chgF, if_neg h0]
    exact chg_none (fun j hj => by have := hn (j + 1) (by simpa using hj); rwa [el_succ] at this)
/-- P11.5: what is wrong with a list of changes. -/
def chB (c : Ch) : Bool := inB c.1 1 1000 && inB c.2 0 1000
def twcB (l : List Ch) : Bool := (List.range l.length).any fun i => (List.range i).any fun j => decide ((el l i).1 = (el l j).1)
def fltC (l : List Ch) : Int := if 50 < l.length then 1 else if l.all chB = false then 2 else if twcB l = true then 10 else 0
theorem twc_iff (l : List Ch) : twcB l = true ↔ ∃ i, i < l.length ∧ ∃ j, j < i ∧ (el l i).1 = (el l j).1 := by
  simp only [twcB, List.any_eq_true, List.mem_range, decide_eq_true_eq]
theorem flt_long {l : List Ch} (h : 50 < l.length) : fltC l = 1 := by unfold fltC; rw [if_pos h]
theorem all_no {l : List Ch} {i : Nat} (hi : i < l.length) (hb : chB (el l i) = false) : l.all chB = false := by
  rw [List.all_eq_false]
  exact ⟨el l i, el_mem hi, by simp [hb]⟩
theorem flt_range {l : List Ch} (h : ¬ 50 < l.length) {i : Nat} (hi : i < l.length) (hb : chB (el l i) = false) : fltC l = 2 := by
  unfold fltC
  rw [if_neg h, if_pos (all_no hi hb)]
theorem all_yes {l : List Ch} (ha : ∀ j, j < l.length → chB (el l j) = true) : ¬ l.all chB = false := by
  intro h
  rw [List.all_eq_false] at h
  obtain ⟨c, hc, hn⟩ := h
  obtain ⟨j, hj, rfl⟩ := List.getElem_of_mem hc
  have := ha j hj
  rw [el_get hj] at this
  exact hn this
theorem flt_twice {l : List Ch} (h : ¬ 50 < l.length) (ha : ∀ j, j < l.length → chB (el l j) = true) {i j : Nat} (hi : i < l.length) (hj : j < i) (he : (el l i).1 = (el l j).1) : fltC l = 10 := by
  unfold fltC
  rw [if_neg h, if_neg (all_yes ha), if_pos ((twc_iff l).2 ⟨i, hi, j, hj, he⟩)]
theorem flt_none {l : List Ch} (h : ¬ 50 < l.length) (ha : ∀ j, j < l.length → chB (el l j) = true) (ho : ∀ i, i < l.length → ∀ j, j < i → (el l i).1 ≠ (el l j).1) : fltC l = 0 := by
  unfold fltC
  rw [if_neg h, if_neg (all_yes ha), if_neg]
  intro ht
  obtain ⟨i, hi, j, hj, he⟩ := (twc_iff l).1 ht
  exact ho i hi j hj he
theorem flt_len {l : List Ch} (h : fltC l = 0) : l.length ≤ 50 := by
  unfold fltC at h
  by_cases g : 50 < l.length
  · rw [if_pos g] at h; cases h
  · omega
/-- P11.5: the machine. -/
def relA (ins outs : List Ch) (a : Ar) : Ar := (chgF ins a.1, chgF outs a.2.1, a.2.2.1, a.2.2.2)
def relS (ins outs : List Ch) (s : St) : St := (s.1, s.2.map (relA ins outs))
def relM (ins outs : List Ch) (m : Mc) : Mc := (m.1, m.2.map (relS ins outs))
def relE (ins outs : List Ch) (m : Mc) : Int := if faultM m ≠ 0 then faultM m else if fltC ins ≠ 0 then fltC ins else fltC outs
def relR (ins outs : List Ch) (m : Mc) : Mc := if relE ins outs m = 0 then relM ins outs m else (0, [])
theorem arcN_rel (ins outs : List Ch) (l : List St) : arcN (l.map (relS ins outs)) = arcN l := by
  induction l with
  | nil => rfl
  | cons s l ih => simp only [List.map_cons, arcN, ih, relS, List.length_map]
theorem relE_fault {ins outs : List Ch} {m : Mc} (h : relE ins outs m = 0) : faultM m = 0 ∧ fltC ins = 0 ∧ fltC outs = 0 := by
  unfold relE at h
  by_cases h1 : faultM m = 0
  · rw [if_neg (by simp [h1])] at h
    by_cases h2 : fltC ins = 0
    · rw [if_neg (by simp [h2])] at h
      exact ⟨h1, h2, h⟩
    · rw [if_pos h2] at h; exact absurd h h2
  · rw [if_pos h1] at h; exact absurd h h1
theorem relR_ok (ins outs : List Ch) (m : Mc) : okM (relR ins outs m) := by
  unfold relR
  split
  · rename_i h
    have := right_size (z := m.1) (l := m.2) (relE_fault h).1
    refine small_ok (by show (m.2.map _).length ≤ _; rw [List.length_map]; omega) ?_
    show arcN (m.2.map (relS ins outs)) ≤ _
    rw [arcN_rel]; omega
  · exact ⟨by simp, fun j hj => absurd hj (by simp)⟩
end Go.Proofs.YtfekmlblldhieaaGreatDoor.Pl
namespace Go.Proofs.YtfekmlblldhieaaGreatDoor.Pl
set_option linter.unusedVariables false
set_option linter.unusedSimpArgs false
/-- One side has less, but never what is dearer alone. -/
theorem CstIs.sub {P Q : Nat → Prop} {a b : Int} (h : CstIs P a) (k : CstIs Q b) (h1 : ∀ c, P c → Q c) (h2 : ∀ c, Q c → ∃ d, d ≤ c ∧ P d) : a = b := by
  rcases h with ⟨rfl, h⟩ | ⟨c, hc, _, rfl⟩ <;> rcases k with ⟨rfl, k⟩ | ⟨d, hd, _, rfl⟩
  · rfl
  · obtain ⟨e, _, he⟩ := h2 d hd.1
    exact absurd he (h e)
  · exact absurd (h1 c hc.1) (k c)
  · obtain ⟨e, hle, he⟩ := h2 d hd.1
    have e1 := hc.2 e he
    have e2 := hd.2 c (h1 c hc.1)
    omega
theorem way_sub {l l' : List St} (h : ∀ q a, a ∈ (el l q).2 → a ∈ (el l' q).2) {q p c : Nat} {u v : List Int} (hw : Way l q u v p c) : Way l' q u v p c := by
  induction hw with
  | nil => exact .nil
  | snoc hw ha ht ih => exact ih.snoc (h _ _ ha) ht
/-- The same arcs, in whatever order. -/
theorem costs_same {m m' : Mc} (hz : m.1 = m'.1) (hl : m.2.length = m'.2.length) (hf : ∀ q, q < m.2.length → (el m.2 q).1 = (el m'.2 q).1) (ha : ∀ q a, a ∈ (el m.2 q).2 ↔ a ∈ (el m'.2 q).2) (x y : List Int) (c : Nat) : Costs m x y c ↔ Costs m' x y c := by
  constructor
  · rintro ⟨h0, p, d, hw, hp, hn, rfl⟩
    rw [hz] at h0 hw
    exact ⟨h0, p, d, way_sub (fun q a => (ha q a).1) hw, by omega, by rw [← hf p hp]; exact hn, by rw [hf p hp]⟩
  · rintro ⟨h0, p, d, hw, hp, hn, rfl⟩
    rw [← hz] at h0 hw
    have hp' : p < m.2.length := by omega
    exact ⟨h0, p, d, way_sub (fun q a => (ha q a).2) hw, hp', by rw [hf p hp']; exact hn, by rw [hf p hp']⟩
/-- Of each arc one that is alike and no heavier. -/
theorem way_light {l l' : List St} (h : ∀ q a, a ∈ (el l q).2 → ∃ b ∈ (el l' q).2, b.1 = a.1 ∧ b.2.1 = a.2.1 ∧ b.2.2.2 = a.2.2.2 ∧ b.2.2.1 ≤ a.2.2.1) {q p c : Nat} {u v : List Int} (hw : Way l q u v p c) : ∃ d, d ≤ c ∧ Way l' q u v p d := by
  induction hw with
  | nil => exact ⟨0, Nat.le_refl _, .nil⟩
  | snoc hw ha ht ih =>
    obtain ⟨d, hd, hw'⟩ := ih
    obtain ⟨b, hb, e1, e2, e3, e4⟩ := h _ _ ha
    have := hw'.snoc hb (by rw [e3]; exact ht)
    rw [e1, e2] at this
    exact ⟨_, by omega, this⟩
theorem costs_light {m m' : Mc} (hz : m.1 = m'.1) (hl : m.2.length = m'.2.length) (hf : ∀ q, q < m.2.length → (el m.2 q).1 = (el m'.2 q).1) (hs : ∀ q a, a ∈ (el m'.2 q).2 → a ∈ (el m.2 q).2) (h : ∀ q a, a ∈ (el m.2 q).2 → ∃ b ∈ (el m'.2 q).2, b.1 = a.1 ∧ b.2.1 = a.2.1 ∧ b.2.2.2 = a.2.2.2 ∧ b.2.2.1 ≤ a.2.2.1) (x y : List Int) :
    (∀ c, Costs m' x y c → Costs m x y c) ∧ ∀ c, Costs m x y c → ∃ d, d ≤ c ∧ Costs m' x y d := by
  constructor
  · rintro c ⟨h0, p, d, hw, hp, hn, rfl⟩
    rw [← hz] at h0 hw
    have hp' : p < m.2.length := by omega
    exact ⟨h0, p, d, way_sub hs hw, hp', by rw [hf p hp']; exact hn, by rw [hf p hp']⟩
  · rintro c ⟨h0, p, d, hw, hp, hn, rfl⟩
    rw [hz] at h0 hw
    obtain ⟨e, he, hw'⟩ := way_light h hw
    exact ⟨e + (el m.2 p).1.toNat, by omega, h0, p, e, hw', by omega, by rw [← hf p hp]; exact hn, by rw [hf p hp]⟩
/-- What is read changed, label by label. -/
theorem way_rel {l l' : List St} {f : Int → Int} (h0 : ∀ a, f a = 0 ↔ a = 0) (h : ∀ q a, a ∈ (el l q).2 → (f a.1, a.2.1, a.2.2.1, a.2.2.2) ∈ (el l' q).2) {q p c : Nat} {u v : List Int} (hw : Way l q u v p c) : Way l' q (u.map f) v p c := by
  induction hw with
  | nil => exact .nil
  | snoc hw ha ht ih =>
    rename_i u v p c a t
    have hl : (lab a.1).map f = lab (f a.1) := by
      unfold lab
      by_cases e : a.1 = 0
      · rw [if_pos e, if_pos ((h0 _).2 e)]; rfl
      · rw [if_neg e, if_neg (fun g => e ((h0 _).1 g))]; rfl
    rw [List.map_append, hl]
    exact ih.snoc (h _ _ ha) ht
/-- Labels exchanged. -/
def swF (a : Int) : Int := if a = 1 then 2 else if a = 2 then 1 else a
theorem swF_zero (a : Int) : swF a = 0 ↔ a = 0 := by
  unfold swF
  by_cases h1 : a = 1
  · simp [h1]
  · by_cases h2 : a = 2
    · simp [h2]
    · simp [h1, h2]
theorem swF_two (a : Int) : swF (swF a) = a := by
  unfold swF
  by_cases h1 : a = 1
  · simp [h1]
  · by_cases h2 : a = 2
    · simp [h2]
    · simp [h1, h2]
def swM (m : Mc) : Mc := (m.1, m.2.map fun s => (s.1, s.2.map fun a => (swF a.1, a.2.1, a.2.2.1, a.2.2.2)))
theorem sw_el {m : Mc} {q : Nat} (hq : q < m.2.length) : el (swM m).2 q = ((el m.2 q).1, (el m.2 q).2.map fun a => (swF a.1, a.2.1, a.2.2.1, a.2.2.2)) := el_map hq _
theorem sw_mem {m : Mc} {q : Nat} {a : Ar} (h : a ∈ (el m.2 q).2) : (swF a.1, a.2.1, a.2.2.1, a.2.2.2) ∈ (el (swM m).2 q).2 := by
  rw [sw_el (el_in h)]
  exact List.mem_map_of_mem (f := fun a : Ar => (swF a.1, a.2.1, a.2.2.1, a.2.2.2)) h
theorem sw_mem' {m : Mc} {q : Nat} {a : Ar} (h : a ∈ (el (swM m).2 q).2) : (swF a.1, a.2.1, a.2.2.1, a.2.2.2) ∈ (el m.2 q).2 := by
  have hq := el_in h
  have hq' : q < m.2.length := by simpa [swM] using hq
  rw [sw_el hq', List.mem_map] at h
  obtain ⟨b, hb, rfl⟩ := h
  obtain ⟨p0, p1, p2, p3⟩ := b
  simp only [swF_two]
  exact hb
theorem map_sw (l : List Int) : (l.map swF).map swF = l := by
  rw [List.map_map]
  exact List.map_id'' (fun a => swF_two a) l
theorem costs_sw (m : Mc) (x y : List Int) (c : Nat) : Costs (swM m) (x.map swF) y c ↔ Costs m x y c := by
  have hlen : (swM m).2.length = m.2.length := by simp [swM]
  constructor
  · rintro ⟨h0, p, d, hw, hp, hn, rfl⟩
    have h1 := way_rel swF_zero (fun q a ha => sw_mem' ha) hw
    rw [map_sw] at h1
    have hp' : p < m.2.length := by omega
    rw [sw_el hp'] at hn ⊢
    exact ⟨h0, p, d, h1, hp', hn, rfl⟩
  · rintro ⟨h0, p, d, hw, hp, hn, rfl⟩
    have h1 := way_rel swF_zero (fun q a ha => sw_mem ha) hw
    refine ⟨h0, p, d, h1, by omega, ?_, ?_⟩
    · rw [sw_el hp]; exact hn
    · rw [sw_el hp]
theorem sw_cheap {m : Mc} (h : CheapL m.2) : CheapL (swM m).2 := fun s hs => by
  simp only [swM, List.mem_map] at hs
  obtain ⟨t, ht, rfl⟩ := hs
  refine ⟨(h t ht).1, fun a ha => ?_⟩
  simp only [List.mem_map] at ha
  obtain ⟨b, hb, rfl⟩ := ha
  exact (h t ht).2 b hb
theorem rel_sw (m : Mc) : relM [(1, 2), (2, 1)] [] m = swM m := by
  unfold relM swM
  refine congrArg (Prod.mk m.1) (List.map_congr_left fun s hs => ?_)
  unfold relS
  refine congrArg (Prod.mk s.1) (List.map_congr_left fun a ha => ?_)
  unfold relA swF
  simp only [chgF, eq_comm]
theorem sw_right {m : Mc} (h : faultM m = 0) : faultM (swM m) = 0 := by
  have hlen : (swM m).2.length = m.2.length := by simp [swM]
  have harc : arcN (swM m).2 = arcN m.2 := by rw [← rel_sw]; exact arcN_rel _ _ _
  obtain ⟨h1, h2⟩ := right_parts h
  have h3 := right_size (z := m.1) (l := m.2) h
  refine faultM_ok (by simp only [sizeB, Bool.and_eq_true, decide_eq_true_eq]; omega) ?_
  unfold rangeB
  rw [hlen]
  simp only [Bool.and_eq_true, inB, decide_eq_true_eq, List.all_eq_true]
  refine ⟨h1, fun s hs => ?_⟩
  simp only [swM, List.mem_map] at hs
  obtain ⟨t, ht, rfl⟩ := hs
  have h4 := h2 t ht
  simp only [stB, Bool.and_eq_true, List.all_eq_true] at h4 ⊢
  refine ⟨h4.1, fun a ha => ?_⟩
  rw [List.mem_map] at ha
  obtain ⟨b, hb, rfl⟩ := ha
  have h5 := h4.2 b hb
  simp only [arcB, inB, Bool.and_eq_true, decide_eq_true_eq] at h5 ⊢
  refine ⟨⟨⟨?_, h5.1.1.2⟩, h5.1.2⟩, h5.2⟩
  unfold swF
  split
  · omega
  · split <;> omega
/-- Words with the labels exchanged: 3 less the label. -/
theorem sw_word {l : List Int} (h : ∀ n ∈ l, n = 1 ∨ n = 2) : l.map swF = l.map (fun n => 3 - n) := List.map_congr_left fun n hn => by
  rcases h n hn with rfl | rfl <;> rfl
theorem sw_flt : fltC [(1, 2), (2, 1)] = 0 ∧ fltC [] = 0 := by decide
end Go.Proofs.YtfekmlblldhieaaGreatDoor.Pl
namespace Go.Proofs.YtfekmlblldhieaaGreatDoor.Pl
set_option linter.unusedVariables false
set_option linter.unusedSimpArgs false
/-- Weights below ten. -/
def NineL (l : List St) : Prop := ∀ s ∈ l, (s.1 ≠ 1000000001 → s.1 ≤ 9) ∧ ∀ a ∈ s.2, a.2.2.1 ≤ 9
/-- Weights are none above W. -/
def LowL (W : Int) (l : List St) : Prop := ∀ s ∈ l, (s.1 ≠ 1000000001 → s.1 ≤ W) ∧ ∀ a ∈ s.2, a.2.2.1 ≤ W
theorem NineL.low {l : List St} (h : NineL l) : LowL 9 l := h
theorem LowL.cheap {W : Int} {l : List St} (h : LowL W l) (hW : W ≤ 1000) : CheapL l := fun s hs => ⟨fun hn => by have := (h s hs).1 hn; omega, fun a ha => by have := (h s hs).2 a ha; omega⟩
theorem finB_may {n : Int} (h : n = 1000000001 ∨ (0 ≤ n ∧ n ≤ 1000000000)) : finB n = true := by
  simp only [finB, inB, Bool.or_eq_true, Bool.and_eq_true, decide_eq_true_eq]
  exact h
theorem arcB_may {n : Nat} {x : Ar} (h1 : 0 ≤ x.1 ∧ x.1 ≤ 1000) (h2 : 0 ≤ x.2.1 ∧ x.2.1 ≤ 1000) (h3 : 0 ≤ x.2.2.1 ∧ x.2.2.1 ≤ 1000000000) (h4 : 0 ≤ x.2.2.2 ∧ x.2.2.2 < (n : Int)) : arcB n x = true := by
  simp only [arcB, inB, Bool.and_eq_true, decide_eq_true_eq]
  omega
theorem made_nine (r : Int × List (Int × Bool × List Ar)) (states : Nat) (full : Bool) : NineL (madeM r states full).2 := fun s hs => by
  simp only [madeM, statesM, List.mem_map] at hs
  obtain ⟨q, _, rfl⟩ := hs
  split
  · exact ⟨fun _ => by simp, fun a ha => absurd ha (by simp)⟩
  · refine ⟨fun h => ?_, fun a ha => ?_⟩
    · unfold stM at h ⊢
      simp only at h ⊢
      split
      · have := pkR_bd (el r.2 q).1 10 (by omega); omega
      · rename_i g; rw [if_neg g] at h; exact absurd rfl h
    · simp only [stM, List.mem_map] at ha
      obtain ⟨e, _, rfl⟩ := ha
      unfold arM
      have := pkR_bd e.2.2.1 10 (by omega)
      simp only
      omega
end Go.Proofs.YtfekmlblldhieaaGreatDoor.Pl
