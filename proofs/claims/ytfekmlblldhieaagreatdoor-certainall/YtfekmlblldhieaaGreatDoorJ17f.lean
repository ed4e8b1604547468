/- Making certain: sets of states with what is left (no program in sight). Making certain: it costs the same (no program in sight). Making certain: paths of sets, paths of states (no program in sight). Making certain: what comes out is right, certain, in order, and costs the same (no program in sight). Making certain again: it stays as it is (no program in sight). -/
import Derived.Test.YtfekmlblldhieaaGreatDoorJ17b
import Derived.Test.YtfekmlblldhieaaGreatDoorJ17d
import Derived.Test.YtfekmlblldhieaaGreatDoorJ17c
namespace Go.Proofs.YtfekmlblldhieaaGreatDoor.Pl
set_option linter.unusedVariables false
set_option linter.unusedSimpArgs false
/-- The least of a list. -/
def mnL : List Int → Int
  | [] => noneI
  | c :: cs => if c < mnL cs then c else mnL cs
theorem mnL_none (cs : List Int) : mnL cs ≤ noneI := by
  induction cs with
  | nil => exact Int.le_refl _
  | cons c cs ih => simp only [mnL]; split <;> omega
theorem mnL_le {cs : List Int} {c : Int} (h : c ∈ cs) : mnL cs ≤ c := by
  induction cs with
  | nil => cases h
  | cons d cs ih =>
    simp only [mnL]
    rcases List.mem_cons.1 h with rfl | h
    · split <;> omega
    · have := ih h
      split <;> omega
theorem mnL_mem (cs : List Int) : mnL cs = noneI ∨ mnL cs ∈ cs := by
  induction cs with
  | nil => exact .inl rfl
  | cons d cs ih =>
    simp only [mnL]
    split
    · exact .inr List.mem_cons_self
    · rcases ih with h | h
      · exact .inl h
      · exact .inr (List.mem_cons_of_mem _ h)
theorem mnL_empty {cs : List Int} (h : ∀ c ∈ cs, c < noneI) : mnL cs = noneI ↔ cs = [] := by
  constructor
  · intro e
    cases cs with
    | nil => rfl
    | cons c cs =>
      have h1 := mnL_le (cs := c :: cs) (c := c) List.mem_cons_self
      have h2 := h c List.mem_cons_self
      omega
  · rintro rfl; rfl
theorem mnL_snoc (cs : List Int) (c : Int) (h : c ≤ noneI) : mnL (cs ++ [c]) = if c < mnL cs then c else mnL cs := by
  induction cs with
  | nil =>
    simp only [List.nil_append, mnL]
  | cons d cs ih =>
    simp only [List.cons_append, mnL]
    rw [ih]
    repeat' split
    all_goals omega
theorem mnL_one {cs : List Int} {m : Int} (h0 : m ≤ noneI) (h1 : ∀ c ∈ cs, m ≤ c) (h2 : m ∈ cs ∨ (m = noneI ∧ cs = [])) : mnL cs = m := by
  rcases h2 with h2 | ⟨rfl, rfl⟩
  · have h3 := mnL_le h2
    rcases mnL_mem cs with h | h
    · have := h1 m h2
      have := mnL_none cs
      omega
    · have := h1 _ h
      omega
  · rfl
/-- What leads to p, by a pair of labels, from a set. -/
def cosL (l : List St) (S : List Int) (i o : Int) (p : Nat) : List Int := (List.range l.length).flatMap fun q => if el S q = noneI then [] else ((el l q).2.filter fun a => decide (a.1 = i) && decide (a.2.1 = o) && decide (a.2.2.2 = (p : Int))).map fun a => el S q + a.2.2.1
theorem mem_cosL {l : List St} {S : List Int} {i o : Int} {p : Nat} {c : Int} : c ∈ cosL l S i o p ↔ ∃ q, q < l.length ∧ el S q ≠ noneI ∧ ∃ a ∈ (el l q).2, a.1 = i ∧ a.2.1 = o ∧ a.2.2.2 = (p : Int) ∧ c = el S q + a.2.2.1 := by
  unfold cosL
  rw [List.mem_flatMap]
  constructor
  · rintro ⟨q, hq, h⟩
    rw [List.mem_range] at hq
    by_cases e : el S q = noneI
    · rw [if_pos e] at h; cases h
    · rw [if_neg e] at h
      obtain ⟨a, ha, rfl⟩ := List.mem_map.1 h
      rw [List.mem_filter] at ha
      simp only [Bool.and_eq_true, decide_eq_true_eq] at ha
      exact ⟨q, hq, e, a, ha.1, ha.2.1.1, ha.2.1.2, ha.2.2, rfl⟩
  · rintro ⟨q, hq, e, a, ha, h1, h2, h3, rfl⟩
    refine ⟨q, List.mem_range.2 hq, ?_⟩
    rw [if_neg e]
    refine List.mem_map.2 ⟨a, List.mem_filter.2 ⟨ha, ?_⟩, rfl⟩
    simp [h1, h2, h3]
def behL (l : List St) (S : List Int) (i o : Int) : List Int := (List.range l.length).map fun p => mnL (cosL l S i o p)
def subS (N : List Int) (w : Int) : List Int := N.map fun c => if c = noneI then noneI else c - w
/-- The pairs of labels of a list that is in order, each once. -/
def ddR (p : Int × Int) : List (Int × Int) → List (Int × Int)
  | [] => []
  | q :: qs => if q = p then ddR q qs else q :: ddR q qs
def ddL : List (Int × Int) → List (Int × Int)
  | [] => []
  | p :: ps => p :: ddR p ps
def allA (l : List St) (S : List Int) : List Ar := (List.range l.length).flatMap fun q => if el S q = noneI then [] else (el l q).2
def prsL (l : List St) (S : List Int) : List (Int × Int) := ddL ((sortL (allA l S)).map fun a => (a.1, a.2.1))
def ltP (p q : Int × Int) : Prop := p.1 < q.1 ∨ p.1 = q.1 ∧ p.2 < q.2
def leP (p q : Int × Int) : Prop := p.1 < q.1 ∨ p.1 = q.1 ∧ p.2 ≤ q.2
theorem ddR_mem {p : Int × Int} {l : List (Int × Int)} {x : Int × Int} : x ∈ p :: ddR p l ↔ x ∈ p :: l := by
  induction l generalizing p with
  | nil => rfl
  | cons q qs ih =>
    simp only [ddR]
    split
    · rename_i e
      subst e
      rw [ih]
      simp
    · have := ih (p := q)
      simp only [List.mem_cons] at this ⊢
      rw [this]
theorem ddL_mem {l : List (Int × Int)} {x : Int × Int} : x ∈ ddL l ↔ x ∈ l := by
  cases l with
  | nil => rfl
  | cons p l => exact ddR_mem
theorem ddR_pair {p : Int × Int} {l : List (Int × Int)} (h : (p :: l).Pairwise leP) : (p :: ddR p l).Pairwise ltP := by
  induction l generalizing p with
  | nil => simp [ddR]
  | cons q qs ih =>
    rw [List.pairwise_cons] at h
    simp only [ddR]
    split
    · rename_i e
      subst e
      exact ih h.2
    · rename_i e
      have hq := ih h.2
      rw [List.pairwise_cons]
      refine ⟨fun x hx => ?_, hq⟩
      have h1 := h.1 q List.mem_cons_self
      have h2 : ltP p q := by
        rcases h1 with g | ⟨g1, g2⟩
        · exact .inl g
        · refine .inr ⟨g1, ?_⟩
          have : p.2 ≠ q.2 := fun k => e (Prod.ext g1.symm k.symm)
          omega
      rcases List.mem_cons.1 hx with rfl | hx
      · exact h2
      · have h3 := (List.pairwise_cons.1 hq).1 x hx
        unfold ltP at h2 h3 ⊢
        omega
theorem mem_allA {l : List St} {S : List Int} {a : Ar} : a ∈ allA l S ↔ ∃ q, q < l.length ∧ el S q ≠ noneI ∧ a ∈ (el l q).2 := by
  unfold allA
  rw [List.mem_flatMap]
  constructor
  · rintro ⟨q, hq, h⟩
    by_cases e : el S q = noneI
    · rw [if_pos e] at h; cases h
    · rw [if_neg e] at h; exact ⟨q, List.mem_range.1 hq, e, h⟩
  · rintro ⟨q, hq, e, h⟩
    exact ⟨q, List.mem_range.2 hq, by rw [if_neg e]; exact h⟩
theorem mem_prsL {l : List St} {S : List Int} {p : Int × Int} : p ∈ prsL l S ↔ ∃ q, q < l.length ∧ el S q ≠ noneI ∧ ∃ a ∈ (el l q).2, (a.1, a.2.1) = p := by
  unfold prsL
  rw [ddL_mem, List.mem_map]
  constructor
  · rintro ⟨a, ha, e⟩
    rw [(sortL_perm _).mem_iff, mem_allA] at ha
    obtain ⟨q, h1, h2, h3⟩ := ha
    exact ⟨q, h1, h2, a, h3, e⟩
  · rintro ⟨q, h1, h2, a, h3, e⟩
    exact ⟨a, (sortL_perm _).mem_iff.2 (mem_allA.2 ⟨q, h1, h2, h3⟩), e⟩
theorem prsL_pair (l : List St) (S : List Int) : (prsL l S).Pairwise ltP := by
  unfold prsL
  have h : ((sortL (allA l S)).map fun a => (a.1, a.2.1)).Pairwise leP := by
    rw [List.pairwise_map]
    refine (sortL_pair _).imp fun {a b} h => ?_
    simp only [leB, Bool.not_eq_true', aheadB_false] at h
    unfold leP
    simp only
    omega
  cases e : (sortL (allA l S)).map fun a => (a.1, a.2.1) with
  | nil => simp [ddL]
  | cons p ps =>
    rw [e] at h
    exact ddR_pair h
/-- There is but one such list. -/
theorem ltP_one : ∀ {l r : List (Int × Int)}, l.Pairwise ltP → r.Pairwise ltP → (∀ p, p ∈ l ↔ p ∈ r) → l = r
  | [], [], _, _, _ => rfl
  | [], q :: r, _, _, h => by have := (h q).2 List.mem_cons_self; cases this
  | p :: l, [], _, _, h => by have := (h p).1 List.mem_cons_self; cases this
  | p :: l, q :: r, hl, hr, h => by
    rw [List.pairwise_cons] at hl hr
    have e : p = q := by
      rcases List.mem_cons.1 ((h p).1 List.mem_cons_self) with e | e
      · exact e
      · rcases List.mem_cons.1 ((h q).2 List.mem_cons_self) with g | g
        · exact g.symm
        · have h1 := hr.1 p e
          have h2 := hl.1 q g
          unfold ltP at h1 h2
          omega
    subst e
    congr 1
    refine ltP_one hl.2 hr.2 fun x => ?_
    have h1 : ∀ y, y ∈ l → y ≠ p := fun y hy e => by
      have h1 := hl.1 y hy
      rw [e] at h1
      unfold ltP at h1
      omega
    have h2 : ∀ y, y ∈ r → y ≠ p := fun y hy e => by
      have h1 := hr.1 y hy
      rw [e] at h1
      unfold ltP at h1
      omega
    constructor
    · intro hx
      rcases List.mem_cons.1 ((h x).1 (List.mem_cons_of_mem _ hx)) with g | g
      · exact absurd g (h1 x hx)
      · exact g
    · intro hx
      rcases List.mem_cons.1 ((h x).2 (List.mem_cons_of_mem _ hx)) with g | g
      · exact absurd g (h2 x hx)
      · exact g
theorem prsL_one {l : List St} {S : List Int} {r : List (Int × Int)} (hr : r.Pairwise ltP) (h : ∀ p, p ∈ r ↔ ∃ q, q < l.length ∧ el S q ≠ noneI ∧ ∃ a ∈ (el l q).2, (a.1, a.2.1) = p) : r = prsL l S :=
  ltP_one hr (prsL_pair l S) fun p => (h p).trans mem_prsL.symm
/-- P17.1: a set's Final; its hops. -/
def fnsL (l : List St) (S : List Int) : List Int := (List.range l.length).flatMap fun q => if el S q = noneI ∨ (el l q).1 = 1000000001 then [] else [el S q + (el l q).1]
theorem mem_fnsL {l : List St} {S : List Int} {c : Int} : c ∈ fnsL l S ↔ ∃ q, q < l.length ∧ el S q ≠ noneI ∧ (el l q).1 ≠ 1000000001 ∧ c = el S q + (el l q).1 := by
  unfold fnsL
  rw [List.mem_flatMap]
  constructor
  · rintro ⟨q, hq, h⟩
    by_cases e : el S q = noneI ∨ (el l q).1 = 1000000001
    · rw [if_pos e] at h; cases h
    · rw [if_neg e] at h
      simp only [List.mem_singleton] at h
      exact ⟨q, List.mem_range.1 hq, fun g => e (.inl g), fun g => e (.inr g), h⟩
  · rintro ⟨q, hq, h1, h2, rfl⟩
    exact ⟨q, List.mem_range.2 hq, by rw [if_neg (fun g => g.elim h1 h2)]; simp⟩
def finC (l : List St) (S : List Int) : Int × Int := (tldN (mnL (fnsL l S)), tldE (mnL (fnsL l S)))
def hopC (l : List St) (S : List Int) (p : Int × Int) : Hg (List Int) := (p.1, p.2, mnL (behL l S p.1 p.2), subS (behL l S p.1 p.2) (mnL (behL l S p.1 p.2)))
def hopsC (l : List St) (S : List Int) : List (Hg (List Int)) := (prsL l S).map (hopC l S)
def iniS (n z : Nat) : List Int := (List.replicate n noneI).set z 0
/-- An arc is empty. -/
def empB (l : List St) : Bool := l.any fun s => s.2.any fun a => decide (a.1 = 0) && decide (a.2.1 = 0)
/-- What Make answers. -/
def cerA (m : Mc) : Mc × Int := if faultM m ≠ 0 then ((0, []), faultM m) else if empB m.2 = true then ((0, []), 7) else if m.1 < 0 then ((-1, []), 0) else numA (finC m.2) (hopsC m.2) (iniS m.2.length m.1.toNat)
end Go.Proofs.YtfekmlblldhieaaGreatDoor.Pl
namespace Go.Proofs.YtfekmlblldhieaaGreatDoor.Pl
set_option linter.unusedVariables false
set_option linter.unusedSimpArgs false
/-- A set: what is left is no more than B. -/
structure SetN (n : Nat) (B : Int) (S : List Int) : Prop where
  len : S.length = n
  rng : ∀ q, q < n → el S q = noneI ∨ (0 ≤ el S q ∧ el S q ≤ B)
theorem el_none {S : List Int} {q : Nat} (h : el S q ≠ noneI) (hd : S.length ≤ q → False) : q < S.length := by
  rcases Nat.lt_or_ge q S.length with g | g
  · exact g
  · exact absurd g hd
theorem iniS_el {n z q : Nat} (hz : z < n) (hq : q < n) : el (iniS n z) q = if q = z then 0 else noneI := by
  unfold iniS
  rw [el_setT (by simpa using hz)]
  split
  · rfl
  · rw [el_get (by simpa using hq)]; simp
theorem iniS_set {n z : Nat} (hz : z < n) : SetN n 0 (iniS n z) := by
  refine ⟨by simp [iniS], fun q hq => ?_⟩
  rw [iniS_el hz hq]
  split
  · exact .inr ⟨Int.le_refl _, Int.le_refl _⟩
  · exact .inl rfl
section
variable {m : Mc} {S : List Int} {B : Int}
/-- What arcs are like in a machine that is right. -/
theorem arc_low {m : Mc} (hf : faultM m = 0) {q : Nat} (hq : q < m.2.length) {a : Ar} (ha : a ∈ (el m.2 q).2) : 0 ≤ a.2.2.1 ∧ a.2.2.1 ≤ 1000000000 ∧ ∃ t : Nat, a.2.2.2 = (t : Int) ∧ t < m.2.length := by
  obtain ⟨_, _, _, _, h5, h6, h7⟩ := arc_rightP hf hq ha
  exact ⟨h5, h6, h7⟩
theorem cos_low (hf : faultM m = 0) (hS : SetN m.2.length B S) {W : Int} (hw : ∀ q a, a ∈ (el m.2 q).2 → a.2.2.1 ≤ W) {i o : Int} {p : Nat} {c : Int} (h : c ∈ cosL m.2 S i o p) : 0 ≤ c ∧ c ≤ B + W := by
  obtain ⟨q, hq, h1, a, ha, _, _, _, rfl⟩ := mem_cosL.1 h
  have h2 := (arc_low hf hq ha).1
  have h3 := hw q a ha
  rcases hS.rng q hq with h4 | h4
  · exact absurd h4 h1
  · omega
theorem beh_el {l : List St} {S : List Int} {i o : Int} {p : Nat} (hp : p < l.length) : el (behL l S i o) p = mnL (cosL l S i o p) := el_range_map _ hp
theorem beh_len (l : List St) (S : List Int) (i o : Int) : (behL l S i o).length = l.length := by simp [behL]
theorem sub_el {N : List Int} {w : Int} {p : Nat} (hp : p < N.length) : el (subS N w) p = if el N p = noneI then noneI else el N p - w := by
  unfold subS
  rw [el_get (by simpa using hp), List.getElem_map, ← el_get hp]
/-- What a hop from a set leads to. -/
theorem hop_facts (hf : faultM m = 0) (hS : SetN m.2.length B S) {W : Int} (hw : ∀ q a, a ∈ (el m.2 q).2 → a.2.2.1 ≤ W) (hB : B + W < noneI) {p : Int × Int} (hp : p ∈ prsL m.2 S) :
    0 ≤ (hopC m.2 S p).2.2.1 ∧ (hopC m.2 S p).2.2.1 ≤ B + W ∧ SetN m.2.length (B + W) (hopC m.2 S p).2.2.2 ∧
    (∀ t, t < m.2.length → el (hopC m.2 S p).2.2.2 t ≠ noneI → ∃ q, q < m.2.length ∧ el S q ≠ noneI ∧ ∃ a ∈ (el m.2 q).2, a.1 = p.1 ∧ a.2.1 = p.2 ∧ a.2.2.2 = (t : Int) ∧ (hopC m.2 S p).2.2.1 + el (hopC m.2 S p).2.2.2 t = el S q + a.2.2.1) ∧
    (∀ q, q < m.2.length → el S q ≠ noneI → ∀ a ∈ (el m.2 q).2, a.1 = p.1 → a.2.1 = p.2 → ∀ t : Nat, a.2.2.2 = (t : Int) → el (hopC m.2 S p).2.2.2 t ≠ noneI ∧ (hopC m.2 S p).2.2.1 + el (hopC m.2 S p).2.2.2 t ≤ el S q + a.2.2.1) := by
  have hcl : ∀ t c, c ∈ cosL m.2 S p.1 p.2 t → 0 ≤ c ∧ c ≤ B + W := fun t c h => cos_low hf hS hw h
  have hce : ∀ t, mnL (cosL m.2 S p.1 p.2 t) = noneI ∨ (mnL (cosL m.2 S p.1 p.2 t) ∈ cosL m.2 S p.1 p.2 t ∧ 0 ≤ mnL (cosL m.2 S p.1 p.2 t) ∧ mnL (cosL m.2 S p.1 p.2 t) ≤ B + W) := fun t => by
    rcases mnL_mem (cosL m.2 S p.1 p.2 t) with h | h
    · exact .inl h
    · exact .inr ⟨h, hcl t _ h⟩
  obtain ⟨N, hN⟩ : ∃ N, behL m.2 S p.1 p.2 = N := ⟨_, rfl⟩
  have hlen : N.length = m.2.length := by rw [← hN]; exact beh_len _ _ _ _
  have hel : ∀ t, t < m.2.length → el N t = mnL (cosL m.2 S p.1 p.2 t) := fun t ht => by rw [← hN]; exact beh_el ht
  have hmem : ∀ c ∈ N, ∃ t, t < m.2.length ∧ c = el N t := fun c hc => by
    obtain ⟨t, ht, e⟩ := List.getElem_of_mem hc
    exact ⟨t, by omega, by rw [el_get ht]; exact e.symm⟩
  -- one of them is had
  obtain ⟨q0, hq0, hs0, a0, ha0, e0⟩ := mem_prsL.1 hp
  obtain ⟨_, _, t0, ht0, hl0⟩ := arc_low hf hq0 ha0
  have hc0 : el S q0 + a0.2.2.1 ∈ cosL m.2 S p.1 p.2 t0 := mem_cosL.2 ⟨q0, hq0, hs0, a0, ha0, by rw [← e0], by rw [← e0], ht0, rfl⟩
  have hn0 : el N t0 ≠ noneI := by
    rw [hel t0 hl0]
    intro e
    have := mnL_le hc0
    have := hcl t0 _ hc0
    omega
  have hin0 : el N t0 ∈ N := el_mem (by omega)
  have hlow : ∀ c ∈ N, c = noneI ∨ (0 ≤ c ∧ c ≤ B + W) := fun c hc => by
    obtain ⟨t, ht, rfl⟩ := hmem c hc
    rw [hel t ht]
    rcases hce t with h | h
    · exact .inl h
    · exact .inr h.2
  have hw0 : mnL N ≠ noneI ∧ 0 ≤ mnL N ∧ mnL N ≤ B + W := by
    have h1 := mnL_le hin0
    rcases hlow _ hin0 with h | h
    · exact absurd h hn0
    · rcases mnL_mem N with g | g
      · omega
      · rcases hlow _ g with k | k
        · omega
        · exact ⟨by omega, k⟩
  unfold hopC
  rw [hN]
  simp only
  have hsel : ∀ t, t < m.2.length → el (subS N (mnL N)) t = if el N t = noneI then noneI else el N t - mnL N := fun t ht => sub_el (by omega)
  have hmin : ∀ t, t < m.2.length → el N t ≠ noneI → mnL N ≤ el N t ∧ el N t ≤ B + W := fun t ht hn => by
    have hin : el N t ∈ N := el_mem (by omega)
    rcases hlow _ hin with h | h
    · exact absurd h hn
    · exact ⟨mnL_le hin, h.2⟩
  refine ⟨hw0.2.1, hw0.2.2, ⟨by simp [subS, hlen], fun t ht => ?_⟩, fun t ht hn => ?_, fun q hq hs a ha e1 e2 t ht => ?_⟩
  · rw [hsel t ht]
    by_cases g : el N t = noneI
    · rw [if_pos g]; exact .inl rfl
    · rw [if_neg g]
      have := hmin t ht g
      exact .inr (by omega)
  · rw [hsel t ht] at hn ⊢
    have g : el N t ≠ noneI := fun g => hn (by rw [if_pos g])
    rw [if_neg g]
    rcases hce t with h | h
    · exact absurd ((hel t ht).trans h) g
    · obtain ⟨q, h1, h2, a, h3, h4, h5, h6, h7⟩ := mem_cosL.1 h.1
      refine ⟨q, h1, h2, a, h3, h4, h5, h6, ?_⟩
      have := hel t ht
      omega
  · obtain ⟨_, _, t', ht', hl'⟩ := arc_low hf hq ha
    obtain rfl : t' = t := by omega
    have hc : el S q + a.2.2.1 ∈ cosL m.2 S p.1 p.2 t' := mem_cosL.2 ⟨q, hq, hs, a, ha, e1, e2, ht, rfl⟩
    have h1 := mnL_le hc
    have h2 := hcl t' _ hc
    have h3 := hel t' hl'
    have g : el N t' ≠ noneI := by omega
    rw [hsel t' hl', if_neg g]
    exact ⟨by have := hmin t' hl' g; omega, by omega⟩
end
end Go.Proofs.YtfekmlblldhieaaGreatDoor.Pl
namespace Go.Proofs.YtfekmlblldhieaaGreatDoor.Pl
set_option linter.unusedVariables false
set_option linter.unusedSimpArgs false
theorem SetN.mono {n : Nat} {B C : Int} {S : List Int} (h : SetN n B S) (hc : B ≤ C) : SetN n C S := ⟨h.len, fun q hq => (h.rng q hq).imp id fun g => ⟨g.1, Int.le_trans g.2 hc⟩⟩
section
variable {m : Mc} {z : Nat} {L : List (List Int)} {X : List St} {W : Int}
/-- What is left in each set. -/
theorem cer_sets (hf : faultM m = 0) (hz : z < m.2.length) (hW : 0 ≤ W ∧ W ≤ 1000000000) (hw : ∀ q a, a ∈ (el m.2 q).2 → a.2.2.1 ≤ W) {q : Nat} (hE : ExpI (finC m.2) (hopsC m.2) (iniS m.2.length z) q L X) : ∀ i, i < L.length → SetN m.2.length (W * i) (el L i) := by
  intro i
  induction i using Nat.strongRecOn with
  | _ i ih =>
    intro hi
    by_cases h0 : i = 0
    · subst h0
      rw [hE.zero.2.1]
      simpa using iniS_set hz
    · obtain ⟨j, h, h1, _, h2, h3⟩ := hE.led i (by omega) hi
      have hS := ih j h1 (by omega)
      unfold hopsC at h2
      obtain ⟨p, hp, rfl⟩ := List.mem_map.1 h2
      have hl := hE.l60
      have hb : W * (j : Int) ≤ 1000000000 * 60 := by
        have h4 : W * (j : Int) ≤ 1000000000 * (j : Int) := Int.mul_le_mul_of_nonneg_right hW.2 (by omega)
        omega
      have h5 := (hop_facts hf hS hw (by unfold noneI; omega) hp).2.2.1
      rw [h3] at h5
      refine h5.mono ?_
      have e : W * (j : Int) + W = W * ((j : Int) + 1) := by rw [Int.mul_add, Int.mul_one]
      rw [e]
      exact Int.mul_le_mul_of_nonneg_left (by omega) hW.1
theorem cer_set (hf : faultM m = 0) (hz : z < m.2.length) {q : Nat} (hE : ExpI (finC m.2) (hopsC m.2) (iniS m.2.length z) q L X) {t : List Int} (ht : t ∈ L) : SetN m.2.length 60000000000 t := by
  obtain ⟨h1, h2⟩ := el_idxG ht
  have h3 := cer_sets (W := 1000000000) hf hz (by omega) (fun q a ha => (arc_low hf (el_in ha) ha).2.1) hE _ h1
  rw [h2] at h3
  have := hE.l60
  exact h3.mono (by omega)
/-- Along sets: along states. -/
theorem cer_ways (hf : faultM m = 0) (hz : z < m.2.length) (hE : ExpI (finC m.2) (hopsC m.2) (iniS m.2.length z) L.length L X) {u v : List Int} {t : List Int} {c : Nat} (h : HopG (hopsC m.2) (iniS m.2.length z) u v t c) :
    ∀ p, p < m.2.length → el t p ≠ noneI → Way m.2 z u v p (c + (el t p).toNat) := by
  induction h with
  | nil =>
    intro p hp hn
    rw [iniS_el hz hp] at hn ⊢
    by_cases e : p = z
    · subst e
      rw [if_pos rfl]
      exact .nil
    · rw [if_neg e] at hn
      exact absurd rfl hn
  | snoc hw hh ih =>
    rename_i u v t c h
    intro p hp hn
    have hS := cer_set hf hz hE (hE.hop hw).1
    unfold hopsC at hh
    obtain ⟨r, hr, rfl⟩ := List.mem_map.1 hh
    obtain ⟨f1, f2, f3, f4, f5⟩ := hop_facts (W := 1000000000) hf hS (fun q a ha => (arc_low hf (el_in ha) ha).2.1) (by unfold noneI; omega) hr
    obtain ⟨q, hq, hs, a, ha, e1, e2, e3, e4⟩ := f4 p hp hn
    have h1 := ih q hq hs
    have h2 := h1.snoc ha e3
    have g1 := (arc_low hf hq ha).1
    have g2 : 0 ≤ el t q := by
      rcases hS.rng q hq with g | g
      · exact absurd g hs
      · exact g.1
    have g3 : 0 ≤ el (hopC m.2 t r).2.2.2 p := by
      rcases f3.rng p hp with g | g
      · exact absurd g hn
      · exact g.1
    have e5 : c + (el t q).toNat + a.2.2.1.toNat = c + (hopC m.2 t r).2.2.1.toNat + (el (hopC m.2 t r).2.2.2 p).toNat := by omega
    rw [e5, e1, e2] at h2
    exact h2
/-- Along states: along sets, for no more. -/
theorem cer_hops (hf : faultM m = 0) (hz : z < m.2.length) (hE : ExpI (finC m.2) (hopsC m.2) (iniS m.2.length z) L.length L X) {u v : List Int} {p c : Nat} (h : Way m.2 z u v p c) :
    p < m.2.length ∧ ∃ t d, HopG (hopsC m.2) (iniS m.2.length z) u v t d ∧ el t p ≠ noneI ∧ (d : Int) + el t p ≤ (c : Int) := by
  induction h with
  | nil => exact ⟨hz, _, 0, .nil, by rw [iniS_el hz hz, if_pos rfl]; decide, by rw [iniS_el hz hz, if_pos rfl]; decide⟩
  | snoc hw ha ht ih =>
    rename_i u v q c a p
    obtain ⟨hq, t, d, h1, h2, h3⟩ := ih
    have hS := cer_set hf hz hE (hE.hop h1).1
    obtain ⟨g1, g2, p', g3, g4⟩ := arc_low hf hq ha
    obtain rfl : p' = p := by omega
    have hr : (a.1, a.2.1) ∈ prsL m.2 t := mem_prsL.2 ⟨q, hq, h2, a, ha, rfl⟩
    obtain ⟨f1, f2, f3, f4, f5⟩ := hop_facts (W := 1000000000) hf hS (fun q a ha => (arc_low hf (el_in ha) ha).2.1) (by unfold noneI; omega) hr
    obtain ⟨k1, k2⟩ := f5 q hq h2 a ha rfl rfl p' ht
    have hm : hopC m.2 t (a.1, a.2.1) ∈ hopsC m.2 t := List.mem_map_of_mem hr
    exact ⟨g4, _, _, h1.snoc hm, k1, by omega⟩
end
end Go.Proofs.YtfekmlblldhieaaGreatDoor.Pl
namespace Go.Proofs.YtfekmlblldhieaaGreatDoor.Pl
set_option linter.unusedVariables false
set_option linter.unusedSimpArgs false
section
variable {m x : Mc} {S : List Int} {B : Int}
theorem fns_low (hf : faultM m = 0) (hS : SetN m.2.length B S) {W : Int} (hw : ∀ q, q < m.2.length → (el m.2 q).1 ≠ 1000000001 → (el m.2 q).1 ≤ W) {c : Int} (h : c ∈ fnsL m.2 S) : 0 ≤ c ∧ c ≤ B + W := by
  obtain ⟨q, hq, h1, h2, rfl⟩ := mem_fnsL.1 h
  have h3 := (fin_small hf hq h2).1
  have h4 := hw q hq h2
  rcases hS.rng q hq with h5 | h5
  · exact absurd h5 h1
  · omega
/-- A set's Final. -/
theorem fin_facts (hf : faultM m = 0) (hS : SetN m.2.length B S) (hB : B + 1000000000 < noneI) (h0 : (finC m.2 S).2 = 0) :
    ((finC m.2 S).1 = 1000000001 ∧ fnsL m.2 S = []) ∨ (0 ≤ (finC m.2 S).1 ∧ (finC m.2 S).1 ≤ 1000000000 ∧ (finC m.2 S).1 ∈ fnsL m.2 S ∧ ∀ c ∈ fnsL m.2 S, (finC m.2 S).1 ≤ c) := by
  have hl : ∀ c ∈ fnsL m.2 S, 0 ≤ c ∧ c ≤ B + 1000000000 := fun c h => fns_low hf hS (fun q hq hn => (fin_small hf hq hn).2) h
  unfold finC at h0 ⊢
  simp only at h0 ⊢
  rcases mnL_mem (fnsL m.2 S) with h | h
  · left
    refine ⟨by unfold tldN; rw [if_pos h], (mnL_empty fun c hc => ?_).1 h⟩
    have := hl c hc
    omega
  · right
    have h1 := hl _ h
    have hn : mnL (fnsL m.2 S) ≠ noneI := by omega
    unfold tldE at h0
    rw [if_neg hn] at h0
    have h2 : ¬ 1000000000 < mnL (fnsL m.2 S) := fun g => by rw [if_pos g] at h0; cases h0
    have e : tldN (mnL (fnsL m.2 S)) = mnL (fnsL m.2 S) := by unfold tldN; rw [if_neg hn, if_neg h2]
    rw [e]
    exact ⟨h1.1, by omega, h, fun c hc => mnL_le hc⟩
theorem fin_ok (hf : faultM m = 0) (hS : SetN m.2.length B S) {W : Int} (hw : ∀ q, q < m.2.length → (el m.2 q).1 ≠ 1000000001 → (el m.2 q).1 ≤ W) (hB : B + W ≤ 1000000000) : (finC m.2 S).2 = 0 ∧ ((finC m.2 S).1 ≠ 1000000001 → (finC m.2 S).1 ≤ B + W) := by
  unfold finC
  simp only
  rcases mnL_mem (fnsL m.2 S) with h | h
  · unfold tldE tldN
    rw [if_pos h, if_pos h]
    exact ⟨rfl, fun g => absurd rfl g⟩
  · have h1 := fns_low hf hS hw h
    have hn : mnL (fnsL m.2 S) ≠ noneI := by unfold noneI; omega
    unfold tldE tldN
    rw [if_neg hn, if_neg hn, if_neg (by omega), if_neg (by omega)]
    exact ⟨rfl, fun _ => h1.2⟩
/-- Made certain: the machine of sets. -/
theorem cer_done (hf : faultM m = 0) (hz : 0 ≤ m.1) (h : cerA m = (x, 0)) : empB m.2 = false ∧ m.1.toNat < m.2.length ∧ x.1 = 0 ∧ numA (finC m.2) (hopsC m.2) (iniS m.2.length m.1.toNat) = (x, 0) ∧ ∃ L, ExpI (finC m.2) (hopsC m.2) (iniS m.2.length m.1.toNat) L.length L x.2 := by
  unfold cerA at h
  rw [if_neg (fun g => g hf)] at h
  cases he : empB m.2 with
  | true => rw [he, if_pos rfl] at h; simp only [Prod.mk.injEq] at h; exact absurd h.2 (by decide)
  | false =>
    rw [he, if_neg (by decide), if_neg (by omega)] at h
    obtain ⟨h1, L, h2⟩ := numA_done h
    have := (right_parts hf).1
    exact ⟨rfl, by omega, h1, h, L, h2⟩
/-- It costs the same. -/
theorem cer_costs (hf : faultM m = 0) (hz : 0 ≤ m.1) (h : cerA m = (x, 0)) (u v : List Int) : (∀ c, Costs x u v c → Costs m u v c) ∧ ∀ c, Costs m u v c → ∃ d, d ≤ c ∧ Costs x u v d := by
  obtain ⟨_, hzl, hx1, _, L, hE⟩ := cer_done hf hz h
  have hlen := hE.len
  constructor
  · rintro c ⟨_, p, d, hw, hp, hn, rfl⟩
    rw [hx1] at hw
    obtain ⟨h1, h2⟩ := hE.way hw
    have hS := cer_set hf hzl hE (el_mem h1)
    have hs := hE.sts p h1
    rw [hs] at hn ⊢
    simp only at hn ⊢
    rcases fin_facts hf hS (by unfold noneI; omega) (hE.right p h1) with ⟨g, _⟩ | ⟨g1, g2, g3, g4⟩
    · exact absurd g hn
    · obtain ⟨q, hq, k1, k2, k3⟩ := mem_fnsL.1 g3
      have hw2 := cer_ways hf hzl hE h2 q hq k1
      refine ⟨hz, q, _, hw2, hq, k2, ?_⟩
      have k4 : 0 ≤ el (el L p) q := by
        rcases hS.rng q hq with g | g
        · exact absurd g k1
        · exact g.1
      have k5 := (fin_small hf hq k2).1
      omega
  · rintro c ⟨_, p, d, hw, hp, hn, rfl⟩
    obtain ⟨_, t, e, h1, h2, h3⟩ := cer_hops hf hzl hE hw
    obtain ⟨i, k1, k2, g2⟩ := hE.hopAt h1
    have hS := cer_set hf hzl hE (el_mem k1)
    rw [k2] at hS
    have hs := hE.sts _ k1
    have hm : el t p + (el m.2 p).1 ∈ fnsL m.2 t := mem_fnsL.2 ⟨p, hp, h2, hn, rfl⟩
    have hr := hE.right _ k1
    rw [k2] at hs hr
    rcases fin_facts hf hS (by unfold noneI; omega) hr with ⟨_, g⟩ | ⟨f1, f2, f3, f4⟩
    · rw [g] at hm; cases hm
    · have h5 := f4 _ hm
      refine ⟨e + (el x.2 i).1.toNat, ?_, by omega, i, e, by rw [hx1]; exact g2, by omega, ?_, rfl⟩
      · rw [hs]
        simp only
        have := (fin_small hf hp hn).1
        omega
      · rw [hs]
        simp only
        omega
/-- What hops are like. -/
theorem hop_lab (hf : faultM m = 0) {t : List Int} {h : Hg (List Int)} (hh : h ∈ hopsC m.2 t) : 0 ≤ h.1 ∧ h.1 ≤ 1000 ∧ 0 ≤ h.2.1 ∧ h.2.1 ≤ 1000 := by
  unfold hopsC at hh
  obtain ⟨p, hp, rfl⟩ := List.mem_map.1 hh
  obtain ⟨q, hq, _, a, ha, e⟩ := mem_prsL.1 hp
  obtain ⟨h1, h2, h3, h4, _⟩ := arc_rightP hf hq ha
  unfold hopC
  rw [← e]
  exact ⟨h1, h2, h3, h4⟩
theorem cer_right (hf : faultM m = 0) (hz : 0 ≤ m.1) (h : cerA m = (x, 0)) : faultM x = 0 ∧ 0 < x.2.length ∧ x.1 = 0 := by
  obtain ⟨_, hzl, hx1, hn, L, hE⟩ := cer_done hf hz h
  have hlen := hE.len
  have h60 := hE.l60
  have h0 := hE.zero.1
  have har := numA_arcs hn
  refine ⟨faultM_ok ?_ ?_, by omega, hx1⟩
  · simp only [sizeB, Bool.and_eq_true, decide_eq_true_eq]
    exact ⟨by omega, har⟩
  · simp only [rangeB, Bool.and_eq_true, List.all_eq_true]
    refine ⟨by simp only [inB, Bool.and_eq_true, decide_eq_true_eq]; omega, fun s hs => ?_⟩
    obtain ⟨i, hi, rfl⟩ := mem_el hs
    have hiL : i < L.length := by omega
    have hS := cer_set hf hzl hE (el_mem hiL)
    rw [hE.sts i hiL]
    simp only [stB, Bool.and_eq_true, List.all_eq_true]
    refine ⟨?_, fun y hy => ?_⟩
    · refine finB_may ?_
      rcases fin_facts hf hS (by unfold noneI; omega) (hE.right i hiL) with ⟨g, _⟩ | ⟨g1, g2, _⟩
      · exact .inl g
      · exact .inr ⟨g1, g2⟩
    · obtain ⟨g, hg, rfl⟩ := List.mem_map.1 hy
      have r1 := hop_lab hf hg
      have r2 := hE.low i hiL g hg
      have r3 := (el_idxG (hE.shut i hiL g hg)).1
      have r4 : 0 ≤ g.2.2.1 := by
        unfold hopsC at hg
        obtain ⟨p, hp, rfl⟩ := List.mem_map.1 hg
        exact (hop_facts (W := 1000000000) hf hS (fun q a ha => (arc_low hf (el_in ha) ha).2.1) (by unfold noneI; omega) hp).1
      refine arcB_may ⟨r1.1, r1.2.1⟩ ⟨r1.2.2.1, r1.2.2.2⟩ ⟨r4, r2⟩ ?_
      simp only [arcG]
      omega
/-- The arcs of a state are in order, no pair of labels twice. -/
theorem cer_pairs (hf : faultM m = 0) (hz : 0 ≤ m.1) (h : cerA m = (x, 0)) {i : Nat} (hi : i < x.2.length) : (el x.2 i).2.Pairwise fun a b => ltP (a.1, a.2.1) (b.1, b.2.1) := by
  obtain ⟨_, hzl, hx1, hn, L, hE⟩ := cer_done hf hz h
  have hlen := hE.len
  rw [hE.sts i (by omega)]
  simp only [hopsC]
  rw [List.map_map, List.pairwise_map]
  exact (prsL_pair _ _).imp fun {p q} h => h
theorem ltP_el {l : List Ar} (h : l.Pairwise fun a b => ltP (a.1, a.2.1) (b.1, b.2.1)) {j k : Nat} (hk : k < l.length) (hj : j < k) : ltP ((el l j).1, (el l j).2.1) ((el l k).1, (el l k).2.1) := by
  rw [el_get (by omega), el_get hk]
  exact List.pairwise_iff_getElem.1 h j k (by omega) hk hj
theorem ltP_once {l : List Ar} (h : l.Pairwise fun a b => ltP (a.1, a.2.1) (b.1, b.2.1)) : onceB l = true ∧ sortB l = true := by
  constructor
  · rw [onceB_iff]
    intro k hk j hj
    have h1 := ltP_el h hk hj
    unfold ltP at h1
    simp only at h1
    rw [← Bool.not_eq_true, pairB_iff]
    omega
  · rw [sortB_iff]
    intro i hi
    have h1 := ltP_el h hi (Nat.lt_succ_self i)
    unfold ltP at h1
    simp only at h1
    rw [aheadB_false]
    omega
/-- No arc is empty. -/
theorem cer_full (hf : faultM m = 0) (hz : 0 ≤ m.1) (h : cerA m = (x, 0)) : empB x.2 = false := by
  obtain ⟨he, hzl, hx1, hn, L, hE⟩ := cer_done hf hz h
  have hlen := hE.len
  unfold empB at he ⊢
  rw [List.any_eq_false] at he ⊢
  intro s hs
  rw [Bool.not_eq_true, List.any_eq_false]
  obtain ⟨i, hi, rfl⟩ := mem_el hs
  rw [hE.sts i (by omega)]
  intro a ha
  obtain ⟨g, hg, rfl⟩ := List.mem_map.1 ha
  unfold hopsC at hg
  obtain ⟨p, hp, rfl⟩ := List.mem_map.1 hg
  obtain ⟨q, hq, _, b, hb, e⟩ := mem_prsL.1 hp
  have h1 := he _ (el_mem hq)
  rw [Bool.not_eq_true, List.any_eq_false] at h1
  have h2 := h1 b hb
  simp only [arcG, hopC]
  rw [← e]
  exact h2
/-- Of small weights: too large, or made. -/
theorem cer_two (hf : faultM m = 0) (hz : 0 ≤ m.1) (he : empB m.2 = false) {W : Int} (hW : 0 ≤ W ∧ W ≤ 10) (hl : LowL W m.2) : cerA m = ((0, []), 5) ∨ ∃ x, cerA m = (x, 0) ∧ CheapL x.2 := by
  have hzl : m.1.toNat < m.2.length := by have := (right_parts hf).1; omega
  have hw : ∀ q a, a ∈ (el m.2 q).2 → a.2.2.1 ≤ W := fun q a ha => (hl _ (el_mem (el_in ha))).2 a ha
  have hv : ∀ q, q < m.2.length → (el m.2 q).1 ≠ 1000000001 → (el m.2 q).1 ≤ W := fun q hq hn => (hl _ (el_mem hq)).1 hn
  have key : ∀ q L X, ExpI (finC m.2) (hopsC m.2) (iniS m.2.length m.1.toNat) q L X → ∀ i, i < L.length → SetN m.2.length 600 (el L i) := fun q L X hE i hi => by
    have h1 := cer_sets hf hzl (by omega) hw hE i hi
    have h60 := hE.l60
    refine h1.mono ?_
    have h4 : W * (i : Int) ≤ 10 * (i : Int) := Int.mul_le_mul_of_nonneg_right hW.2 (by omega)
    omega
  have low : ∀ q L X, ExpI (finC m.2) (hopsC m.2) (iniS m.2.length m.1.toNat) q L X → ∀ i, i < L.length → ∀ h ∈ hopsC m.2 (el L i), h.2.2.1 ≤ 610 := fun q L X hE i hi h hh => by
    unfold hopsC at hh
    obtain ⟨p, hp, rfl⟩ := List.mem_map.1 hh
    have := (hop_facts hf (key q L X hE i hi) hw (by unfold noneI; omega) hp).2.1
    omega
  have hc : cerA m = numA (finC m.2) (hopsC m.2) (iniS m.2.length m.1.toNat) := by
    unfold cerA
    rw [if_neg (fun g => g hf), he, if_neg (by decide), if_neg (by omega)]
  rw [hc]
  rcases numA_full (fin := finC m.2) (hops := hopsC m.2) (s0 := iniS m.2.length m.1.toNat) (fun q L X hE i hi => ⟨(fin_ok hf (key q L X hE i hi) hv (by omega)).1, fun h hh => by have := low q L X hE i hi h hh; omega⟩) with h | ⟨x, h⟩
  · exact .inl h
  · refine .inr ⟨x, h, ?_⟩
    obtain ⟨_, L, hE⟩ := numA_done h
    have hlen := hE.len
    intro s hs
    obtain ⟨i, hi, rfl⟩ := mem_el hs
    rw [hE.sts i (by omega)]
    refine ⟨fun hn => ?_, fun a ha => ?_⟩
    · have := (fin_ok hf (key _ L _ hE i (by omega)) hv (by omega)).2 hn
      omega
    · obtain ⟨g, hg, rfl⟩ := List.mem_map.1 ha
      have := low _ L _ hE i (by omega) g hg
      simp only [arcG]
      omega
end
end Go.Proofs.YtfekmlblldhieaaGreatDoor.Pl
namespace Go.Proofs.YtfekmlblldhieaaGreatDoor.Pl
set_option linter.unusedVariables false
set_option linter.unusedSimpArgs false
/-- The set of one state, with nothing left; other lists for other numbers. -/
def sngS (n i : Nat) : List Int := if i < n then iniS n i else List.replicate (n + 1 + i) 0
theorem sngS_in {n i : Nat} (h : i < n) : sngS n i = iniS n i := if_pos h
theorem sngS_inj (n : Nat) : ∀ i j, sngS n i = sngS n j → i = j := by
  have len : ∀ i, (iniS n i).length = n := fun i => by simp [iniS]
  intro i j h
  unfold sngS at h
  by_cases h1 : i < n <;> by_cases h2 : j < n
  · rw [if_pos h1, if_pos h2] at h
    have h3 := iniS_el h1 h1
    rw [h, iniS_el h2 h1, if_pos rfl] at h3
    by_cases e : i = j
    · exact e
    · rw [if_neg e] at h3
      exact absurd h3 (by decide)
  · rw [if_pos h1, if_neg h2] at h
    have := congrArg List.length h
    rw [len, List.length_replicate] at this
    omega
  · rw [if_neg h1, if_pos h2] at h
    have := congrArg List.length h
    rw [len, List.length_replicate] at this
    omega
  · rw [if_neg h1, if_neg h2] at h
    have := congrArg List.length h
    simp only [List.length_replicate] at this
    omega
theorem sng_none {n i q : Nat} (hi : i < n) (hq : q < n) : el (iniS n i) q ≠ noneI ↔ q = i := by
  rw [iniS_el hi hq]
  by_cases e : q = i
  · rw [if_pos e]
    exact ⟨fun _ => e, fun _ => by decide⟩
  · rw [if_neg e]
    exact ⟨fun h => absurd rfl h, fun h => absurd h e⟩
section
variable {x : Mc} {i : Nat}
theorem sng_fin (hf : faultM x = 0) (hi : i < x.2.length) : finC x.2 (iniS x.2.length i) = ((el x.2 i).1, 0) := by
  have hm : ∀ c, c ∈ fnsL x.2 (iniS x.2.length i) ↔ (el x.2 i).1 ≠ 1000000001 ∧ c = (el x.2 i).1 := fun c => by
    rw [mem_fnsL]
    constructor
    · rintro ⟨q, hq, h1, h2, rfl⟩
      obtain rfl := (sng_none hi hq).1 h1
      exact ⟨h2, by rw [iniS_el hi hi, if_pos rfl]; omega⟩
    · rintro ⟨h1, rfl⟩
      exact ⟨i, hi, (sng_none hi hi).2 rfl, h1, by rw [iniS_el hi hi, if_pos rfl]; omega⟩
  by_cases g : (el x.2 i).1 = 1000000001
  · have e : fnsL x.2 (iniS x.2.length i) = [] := List.eq_nil_iff_forall_not_mem.2 fun c hc => ((hm c).1 hc).1 g
    unfold finC
    rw [e, g]
    rfl
  · have h1 := fin_small hf hi g
    have e : mnL (fnsL x.2 (iniS x.2.length i)) = (el x.2 i).1 := mnL_one (by unfold noneI; omega) (fun c hc => by rw [((hm c).1 hc).2]; exact Int.le_refl _) (.inl ((hm _).2 ⟨g, rfl⟩))
    unfold finC
    rw [e]
    unfold tldN tldE
    rw [if_neg (by unfold noneI; omega), if_neg (by omega), if_neg (by unfold noneI; omega), if_neg (by omega)]
theorem sng_prs (hi : i < x.2.length) (hp : (el x.2 i).2.Pairwise fun a b => ltP (a.1, a.2.1) (b.1, b.2.1)) : prsL x.2 (iniS x.2.length i) = (el x.2 i).2.map fun a => (a.1, a.2.1) := by
  refine (prsL_one (by rw [List.pairwise_map]; exact hp) fun p => ?_).symm
  rw [List.mem_map]
  constructor
  · rintro ⟨a, ha, e⟩
    exact ⟨i, hi, (sng_none hi hi).2 rfl, a, ha, e⟩
  · rintro ⟨q, hq, h1, a, ha, e⟩
    obtain rfl := (sng_none hi hq).1 h1
    exact ⟨a, ha, e⟩
theorem sng_hop (hf : faultM x = 0) (hi : i < x.2.length) (hp : (el x.2 i).2.Pairwise fun a b => ltP (a.1, a.2.1) (b.1, b.2.1)) {a : Ar} (ha : a ∈ (el x.2 i).2) : hopC x.2 (iniS x.2.length i) (a.1, a.2.1) = (a.1, a.2.1, a.2.2.1, iniS x.2.length a.2.2.2.toNat) := by
  obtain ⟨g1, g2, t, g3, g4⟩ := arc_low hf hi ha
  have hone : ∀ b ∈ (el x.2 i).2, b.1 = a.1 → b.2.1 = a.2.1 → b = a := fun b hb e1 e2 => by
    obtain ⟨j, hj, rfl⟩ := mem_el ha
    obtain ⟨k, hk, rfl⟩ := mem_el hb
    rcases Nat.lt_trichotomy j k with h | h | h
    · have := ltP_el hp hk h
      unfold ltP at this
      simp only at this
      omega
    · rw [h]
    · have := ltP_el hp hj h
      unfold ltP at this
      simp only at this
      omega
  have hc : ∀ p c, c ∈ cosL x.2 (iniS x.2.length i) a.1 a.2.1 p ↔ p = t ∧ c = a.2.2.1 := fun p c => by
    rw [mem_cosL]
    constructor
    · rintro ⟨q, hq, h1, b, hb, e1, e2, e3, rfl⟩
      obtain rfl := (sng_none hi hq).1 h1
      obtain rfl := hone b hb e1 e2
      exact ⟨by omega, by rw [iniS_el hi hi, if_pos rfl]; omega⟩
    · rintro ⟨rfl, rfl⟩
      exact ⟨i, hi, (sng_none hi hi).2 rfl, a, ha, rfl, rfl, g3, by rw [iniS_el hi hi, if_pos rfl]; omega⟩
  have hm : ∀ p, mnL (cosL x.2 (iniS x.2.length i) a.1 a.2.1 p) = if p = t then a.2.2.1 else noneI := fun p => by
    split
    · rename_i e
      exact mnL_one (by unfold noneI; omega) (fun c h => by rw [((hc p c).1 h).2]; exact Int.le_refl _) (.inl ((hc p _).2 ⟨e, rfl⟩))
    · rename_i e
      have : cosL x.2 (iniS x.2.length i) a.1 a.2.1 p = [] := List.eq_nil_iff_forall_not_mem.2 fun c h => e ((hc p c).1 h).1
      rw [this]
      rfl
  have hb : ∀ p, p < x.2.length → el (behL x.2 (iniS x.2.length i) a.1 a.2.1) p = if p = t then a.2.2.1 else noneI := fun p hp => by rw [beh_el hp, hm]
  have hlen := beh_len x.2 (iniS x.2.length i) a.1 a.2.1
  have hmin : mnL (behL x.2 (iniS x.2.length i) a.1 a.2.1) = a.2.2.1 := by
    refine mnL_one (by unfold noneI; omega) (fun c h => ?_) (.inl ?_)
    · obtain ⟨p, hp, rfl⟩ := mem_el h
      rw [hb p (by omega)]
      split
      · exact Int.le_refl _
      · unfold noneI; omega
    · have := hb t g4
      rw [if_pos rfl] at this
      rw [← this]
      exact el_mem (by omega)
  unfold hopC
  simp only
  rw [hmin, g3, Int.toNat_natCast]
  congr 3
  refine el_ext (by rw [subS, List.length_map, hlen]; simp [iniS]) fun p hp => ?_
  have hp' : p < x.2.length := by rw [subS, List.length_map, hlen] at hp; exact hp
  rw [sub_el (by omega), hb p hp', iniS_el g4 hp']
  by_cases e : p = t
  · rw [if_pos e, if_pos e, if_neg (by unfold noneI; omega)]; omega
  · rw [if_neg e, if_neg e, if_pos rfl]
theorem cer_again {m : Mc} (hf : faultM m = 0) (hz : 0 ≤ m.1) (h : cerA m = (x, 0)) : cerA x = (x, 0) := by
  obtain ⟨he, hzl, hx1, hn, L, hE⟩ := cer_done hf hz h
  obtain ⟨r1, r2, _⟩ := cer_right hf hz h
  have hlen := hE.len
  have hpr : ∀ i, i < x.2.length → (el x.2 i).2.Pairwise fun a b => ltP (a.1, a.2.1) (b.1, b.2.1) := fun i hi => cer_pairs hf hz h hi
  unfold cerA
  rw [if_neg (fun g => g r1), cer_full hf hz h, if_neg (by decide), if_neg (by omega), hx1]
  have h1 := numA_again (fin' := finC x.2) (hops' := hopsC x.2) (g := sngS x.2.length) (sngS_inj _) hn hE (fun i hi => by
    rw [sngS_in (by omega)]
    exact sng_fin r1 (by omega)) (fun i hi => by
    have hi' : i < x.2.length := by omega
    rw [sngS_in hi']
    unfold hopsC
    rw [sng_prs hi' (hpr i hi'), List.map_map]
    refine List.map_congr_left fun a ha => ?_
    obtain ⟨_, _, t, g3, g4⟩ := arc_low r1 hi' ha
    simp only [Function.comp]
    rw [sng_hop r1 hi' (hpr i hi') ha, sngS_in (by omega)])
  rw [sngS_in r2] at h1
  exact h1
end
end Go.Proofs.YtfekmlblldhieaaGreatDoor.Pl
