/- Plain facts on arcs put in order (no program in sight). -/
import Derived.Test.YtfhjncpakgailaaGreatDoorPab
import Derived.Test.YtfhjncpakgailaaGreatDoorPad
import Derived.Test.YtfhjncpakgailaaGreatDoorPah
import Derived.Test.YtfhjncpakgailaaGreatDoorPaa
namespace Go.Proofs.YtfhjncpakgailaaGreatDoor.Pl
theorem ahead_irrefl (a : Ar) : aheadB a a = false := by rw [aheadB_false]; omega
theorem ahead_lt {a b c : Ar} (h1 : aheadB a b = true) (h2 : aheadB b c = true) : aheadB a c = true := by
 rw [aheadB_iff] at *; omega
theorem ahead_asymm {a b : Ar} (h1 : aheadB a b = true) : aheadB b a = false := by
 rw [aheadB_iff] at h1; rw [aheadB_false]; omega
theorem ahead_same {a b : Ar} (h1 : aheadB a b = false) (h2 : aheadB b a = false) : a = b := by
 obtain ⟨a0, a1, a2, a3⟩ := a
 obtain ⟨b0, b1, b2, b3⟩ := b
 rw [aheadB_false] at *
 simp only at h1 h2
 have e0 : a0 = b0 := by omega
 have e1 : a1 = b1 := by omega
 have e2 : a2 = b2 := by omega
 have e3 : a3 = b3 := by omega
 rw [e0, e1, e2, e3]
def leB (a b : Ar) : Bool := !aheadB b a
def sortL (l : List Ar) : List Ar := l.mergeSort leB
theorem leB_trans (a b c : Ar) (h1 : leB a b = true) (h2 : leB b c = true) : leB a c = true := by
 simp only [leB, Bool.not_eq_true'] at *
 exact ahead_trans h1 h2
theorem leB_total (a b : Ar) : (leB a b || leB b a) = true := by
 simp only [leB, Bool.or_eq_true, Bool.not_eq_true']
 rcases bool_cases' (aheadB b a) with h | h
 ·exact .inr (ahead_asymm h)
 ·exact .inl h
theorem sortL_perm (l : List Ar) : (sortL l).Perm l := List.mergeSort_perm _ _
theorem sortL_length (l : List Ar) : (sortL l).length = l.length := (sortL_perm l).length_eq
theorem sortL_pair (l : List Ar) : (sortL l).Pairwise fun a b => leB a b = true := List.pairwise_mergeSort leB_trans leB_total l
theorem sortL_one {l r : List Ar} (hp : r.Perm l) (hr : r.Pairwise fun a b => leB a b = true) : r = sortL l := by
 refine List.Perm.eq_of_pairwise (le := fun x y => leB x y = true) ?_ hr (sortL_pair l) (hp.trans (sortL_perm l).symm)
 intro a b _ _ h1 h2
 simp only [leB, Bool.not_eq_true'] at h1 h2
 exact ahead_same h2 h1
def placeL : List Ar → Ar → List Ar
 | [], a => [a]
 | x :: l, a => if aheadB a x = true then a :: x :: l else x :: placeL l a
theorem placeL_perm (l : List Ar) (a : Ar) : (placeL l a).Perm (a :: l) := by
  induction l with
  | nil => exact List.Perm.refl _
  | cons x l ih =>
    simp only [placeL]
    split
    · exact List.Perm.refl _
    · exact (List.Perm.cons x ih).trans (List.Perm.swap a x l)
theorem placeL_pair {l : List Ar} (h : l.Pairwise fun a b => leB a b = true) (a : Ar) : (placeL l a).Pairwise fun a b => leB a b = true := by
  induction l with
  | nil => simp [placeL]
  | cons x l ih =>
    rw [List.pairwise_cons] at h
    simp only [placeL]
    split
    · rename_i hx
      rw [List.pairwise_cons, List.pairwise_cons]
      have hax : leB a x = true := by simp [leB, ahead_asymm hx]
      refine ⟨fun y hy => ?_, h.1, h.2⟩
      rcases List.mem_cons.1 hy with rfl | hy
      · exact hax
      · exact leB_trans _ _ _ hax (h.1 y hy)
    · rename_i hx
      rw [List.pairwise_cons]
      refine ⟨fun y hy => ?_, ih h.2⟩
      rcases List.mem_cons.1 ((placeL_perm l a).mem_iff.1 hy) with rfl | hy
      · simpa [leB] using hx
      · exact h.1 y hy
def ordL (l : List Ar) : List Ar := l.foldl placeL []
theorem ordL_spec (l r : List Ar) (h : r.Pairwise fun a b => leB a b = true) : (l.foldl placeL r).Perm (l ++ r) ∧ (l.foldl placeL r).Pairwise fun a b => leB a b = true := by
  induction l generalizing r with
  | nil => exact ⟨List.Perm.refl _, h⟩
  | cons x l ih =>
    obtain ⟨h1, h2⟩ := ih (placeL r x) (placeL_pair h x)
    refine ⟨h1.trans ?_, h2⟩
    exact ((placeL_perm r x).append_left l).trans (List.perm_middle (l₁ := l) (a := x) (l₂ := r))
theorem ordL_sortL (l : List Ar) : ordL l = sortL l := by
 obtain ⟨h1, h2⟩ := ordL_spec l [] List.Pairwise.nil
 exact sortL_one (by rw [List.append_nil] at h1; exact h1) h2
def flipA (a : Ar) : Ar := (a.2.1, a.1, a.2.2.1, a.2.2.2)
def aheadS (s : Bool) (a b : Ar) : Bool := if s then aheadB (flipA a) (flipA b) else aheadB a b
def sortS (s : Bool) (l : List Ar) : List Ar := l.mergeSort fun a b => !aheadS s b a
theorem sortS_false (l : List Ar) : sortS false l = ordL l := by rw [ordL_sortL]; rfl
theorem sortS_perm (s : Bool) (l : List Ar) : (sortS s l).Perm l := List.mergeSort_perm _ _
theorem sortS_length (s : Bool) (l : List Ar) : (sortS s l).length = l.length := (sortS_perm s l).length_eq
def mapM (f : List Ar → List Ar) (m : Mc) : Mc := (m.1, m.2.map fun s => (s.1, f s.2))
def cmpS (s : Bool) (a b : Ar) : Int := if s then orI (cmpI a.2.1 b.2.1) (cmpI a.1 b.1) (cmpI a.2.2.2 b.2.2.2) (cmpI a.2.2.1 b.2.2.1) else orI (cmpI a.1 b.1) (cmpI a.2.1 b.2.1) (cmpI a.2.2.2 b.2.2.2) (cmpI a.2.2.1 b.2.2.1)
theorem cmpS_neg (s : Bool) (a b : Ar) : decide (cmpS s a b < 0) = aheadS s a b := by
 cases s
 ·exact orI_neg a b
 ·exact orI_neg (flipA a) (flipA b)
end Go.Proofs.YtfhjncpakgailaaGreatDoor.Pl
namespace Go.Proofs.YtfhjncpakgailaaGreatDoor.Pl
set_option linter.unusedVariables false
set_option linter.unusedSimpArgs false
section
variable {E : Nat → Nat → Nat → Prop} {s : Nat}
theorem Run.parts {n k c : Nat} (h : Run E s n k c) : ∃ f g : Nat → Nat, f 0 = s ∧ f n = k ∧ g n = c ∧ (∀ i, i ≤ n → Run E s i (f i) (g i) ∧ ∃ d, Run E (f i) (n - i) k d ∧ g i + d = c) ∧ ∀ i j, i ≤ j → j ≤ n → g i ≤ g j := by
  induction h with
  | nil => exact ⟨fun _ => s, fun _ => 0, rfl, rfl, rfl, fun i hi => ⟨by rw [show i = 0 by omega]; exact .nil, 0, by rw [show i = 0 by omega]; exact .nil, rfl⟩, fun _ _ _ _ => Nat.le_refl _⟩
  | step h e ih =>
    rename_i n k c w j
    obtain ⟨f, g, f0, fn, gn, hf, hg⟩ := ih
    refine ⟨fun i => if i ≤ n then f i else j, fun i => if i ≤ n then g i else c + w, by simp [f0], if_neg (by omega), if_neg (by omega), fun i hi => ?_, fun a b hab hb => ?_⟩
    · by_cases q : i ≤ n
      · simp only [q, if_true]
        obtain ⟨h1, d, h2, h3⟩ := hf i q
        refine ⟨h1, d + w, ?_, by omega⟩
        have := h2.step e
        rwa [show n - i + 1 = n + 1 - i by omega] at this
      · obtain rfl : i = n + 1 := by omega
        simp only [q, if_false]
        exact ⟨h.step e, 0, by rw [Nat.sub_self]; exact .nil, by omega⟩
    · simp only
      by_cases qb : b ≤ n
      · rw [if_pos qb, if_pos (by omega)]; exact hg a b hab qb
      · rw [if_neg qb]
        by_cases qa : a ≤ n
        · rw [if_pos qa]
          have := hg a n qa (Nat.le_refl _)
          omega
        · rw [if_neg qa]; omega
theorem Run.cheap {N : Nat} (hs : s < N) (hE : ∀ k w j, E k w j → j < N) : ∀ {n k c : Nat}, Run E s n k c → ∃ m d, m < N ∧ d ≤ c ∧ Run E s m k d := by
  have key : ∀ b n k c, n < b → Run E s n k c → ∃ m d, m < N ∧ d ≤ c ∧ Run E s m k d := by
    intro b
    induction b with
    | zero => intro n k c hn; omega
    | succ b ih =>
      intro n k c hn h
      by_cases g : n < N
      · exact ⟨n, c, g, Nat.le_refl _, h⟩
      · obtain ⟨f, gg, f0, fn, gn, hf, hg⟩ := h.parts
        have hin : ∀ i, i ≤ n → f i < N := fun i hi => by
          have h1 := (hf i hi).1
          generalize gg i = y2 at h1
          generalize f i = y at h1
          cases h1 with
          | nil => exact hs
          | step _ e => exact hE _ _ _ e
        obtain ⟨i, j, hij, hj, e⟩ := twice hin (by omega)
        have h1 := (hf i (by omega)).1
        obtain ⟨_, d', h2, h3⟩ := hf j hj
        rw [← e] at h2
        have h4 := hg i j (by omega) hj
        obtain ⟨m, d, hm, hd, hr⟩ := ih _ _ _ (by omega) (h1.trans h2)
        exact ⟨m, d, hm, by omega, hr⟩
  exact fun {n k c} h => key (n + 1) n k c (by omega) h
theorem Run.head {n k c : Nat} (h : Run E s (n + 1) k c) : ∃ j w c', E s w j ∧ Run E j n k c' ∧ c = w + c' := by
  have key : ∀ {m k c}, Run E s m k c → ∀ n, m = n + 1 → ∃ j w c', E s w j ∧ Run E j n k c' ∧ c = w + c' := by
    intro m k c h
    induction h with
    | nil => intro n hn; omega
    | step h e ih =>
      rename_i m k c w j
      intro n hn
      obtain rfl : m = n := by omega
      cases m with
      | zero =>
        cases h with
        | nil => exact ⟨j, w, 0, e, .nil, by omega⟩
      | succ m =>
        obtain ⟨j', w', c', e', h', rfl⟩ := ih m rfl
        exact ⟨j', w', c' + w, e', h'.step e, by omega⟩
  exact key h n rfl
theorem Run.first {j w n k c : Nat} (e : E s w j) (h : Run E j n k c) : Run E s (n + 1) k (w + c) := by
 have h1 : Run E s 1 j (0 + w) := Run.nil.step e
 have := h1.trans h
 rwa [show 1 + n = n + 1 by omega, Nat.zero_add] at this
end
def ArcE (l : List St) (k w j : Nat) : Prop := ∃ a ∈ (el l k).2, a.2.2.2 = (j : Int) ∧ w = a.2.2.1.toNat
def FarC (z : Int) (l : List St) (q c : Nat) : Prop := 0 ≤ z ∧ ∃ n, Run (ArcE l) z.toNat n q c
def EndC (l : List St) (q c : Nat) : Prop := ∃ n p d, Run (ArcE l) q n p d ∧ p < l.length ∧ (el l p).1 ≠ 1000000001 ∧ c = d + (el l p).1.toNat
structure FarT (z : Int) (l : List St) (cs : List Int) : Prop where
 len : cs.length = l.length
 rng : ∀ q, q < l.length → 0 ≤ el cs q ∧ el cs q ≤ noneI
 run : ∀ q, q < l.length → el cs q < noneI → FarC z l q (el cs q).toNat
structure EndT (l : List St) (cs : List Int) : Prop where
 len : cs.length = l.length
 rng : ∀ q, q < l.length → 0 ≤ el cs q ∧ el cs q ≤ noneI
 run : ∀ q, q < l.length → el cs q < noneI → EndC l q (el cs q).toNat
theorem arcE_in {l : List St} {k w j : Nat} (h : ArcE l k w j) : k < l.length := by
 obtain ⟨a, ha, _⟩ := h
 exact el_in ha
theorem arcE_small {m : Mc} (h : faultM m = 0) {k w j : Nat} (e : ArcE m.2 k w j) : j < m.2.length ∧ w ≤ 1000000000 := by
 obtain ⟨a, ha, e1, rfl⟩ := e
 have h1 := (right_parts h).2 _ (el_mem (el_in ha))
 simp only [stB, Bool.and_eq_true, List.all_eq_true] at h1
 have h2 := h1.2 _ ha
 simp only [arcB, inB, Bool.and_eq_true, decide_eq_true_eq] at h2
 omega
def LstAns (P : Nat → Nat → Prop) (N : Nat) (vs : List Int) (e : Int) : Prop := (e = 0 ∧ vs.length = N ∧ ∀ q, q < N → WghAns (P q) (el vs q) 0) ∨ (e = 4 ∧ vs = [] ∧ ∃ q, q < N ∧ WghAns (P q) 0 4)
def tldN (b : Int) : Int := if b = noneI then 1000000001 else if 1000000000 < b then 0 else b
def tldE (b : Int) : Int := if b = noneI then 0 else if 1000000000 < b then 4 else 0
def mnL : List Int → Int
 | [] => noneI
 | c :: cs => if c < mnL cs then c else mnL cs
theorem mnL_none (cs : List Int) : mnL cs ≤ noneI := by
 induction cs with
 | nil => exact Int.le_refl _
 | cons c cs ih => simp only [mnL]; split <;> omega
theorem mnL_le {cs : List Int} {c : Int} (h : c ∈ cs) : mnL cs ≤ c := by
  induction cs with
  | nil => cases h
  | cons d cs ih =>
    simp only [mnL]
    rcases List.mem_cons.1 h with rfl | h
    · split <;> omega
    · have := ih h
      split <;> omega
theorem mnL_mem (cs : List Int) : mnL cs = noneI ∨ mnL cs ∈ cs := by
  induction cs with
  | nil => exact .inl rfl
  | cons d cs ih =>
    simp only [mnL]
    split
    · exact .inr List.mem_cons_self
    · rcases ih with h | h
      · exact .inl h
      · exact .inr (List.mem_cons_of_mem _ h)
theorem mnL_empty {cs : List Int} (h : ∀ c ∈ cs, c < noneI) : mnL cs = noneI ↔ cs = [] := by
  constructor
  · intro e
    cases cs with
    | nil => rfl
    | cons c cs =>
      have h1 := mnL_le (cs := c :: cs) (c := c) List.mem_cons_self
      have h2 := h c List.mem_cons_self
      omega
  · rintro rfl; rfl
theorem mnL_snoc (cs : List Int) (c : Int) (h : c ≤ noneI) : mnL (cs ++ [c]) = if c < mnL cs then c else mnL cs := by
  induction cs with
  | nil =>
    simp only [List.nil_append, mnL]
  | cons d cs ih =>
    simp only [List.cons_append, mnL]
    rw [ih]
    repeat' split
    all_goals omega
theorem mnL_one {cs : List Int} {m : Int} (h0 : m ≤ noneI) (h1 : ∀ c ∈ cs, m ≤ c) (h2 : m ∈ cs ∨ (m = noneI ∧ cs = [])) : mnL cs = m := by
 rcases h2 with h2 | ⟨rfl, rfl⟩
 ·have h3 := mnL_le h2
  rcases mnL_mem cs with h | h
  ·have := h1 m h2
   have := mnL_none cs
   omega
  ·have := h1 _ h
   omega
 ·rfl
def cosL (l : List St) (S : List Int) (i o : Int) (p : Nat) : List Int := (List.range l.length).flatMap fun q => if el S q = noneI then [] else ((el l q).2.filter fun a => decide (a.1 = i) && decide (a.2.1 = o) && decide (a.2.2.2 = (p : Int))).map fun a => el S q + a.2.2.1
theorem mem_cosL {l : List St} {S : List Int} {i o : Int} {p : Nat} {c : Int} : c ∈ cosL l S i o p ↔ ∃ q, q < l.length ∧ el S q ≠ noneI ∧ ∃ a ∈ (el l q).2, a.1 = i ∧ a.2.1 = o ∧ a.2.2.2 = (p : Int) ∧ c = el S q + a.2.2.1 := by
 unfold cosL
 rw [List.mem_flatMap]
 constructor
 ·rintro ⟨q, hq, h⟩
  rw [List.mem_range] at hq
  by_cases e : el S q = noneI
  ·rw [if_pos e] at h; cases h
  ·rw [if_neg e] at h
   obtain ⟨a, ha, rfl⟩ := List.mem_map.1 h
   rw [List.mem_filter] at ha
   simp only [Bool.and_eq_true, decide_eq_true_eq] at ha
   exact ⟨q, hq, e, a, ha.1, ha.2.1.1, ha.2.1.2, ha.2.2, rfl⟩
 ·rintro ⟨q, hq, e, a, ha, h1, h2, h3, rfl⟩
  refine ⟨q, List.mem_range.2 hq, ?_⟩
  rw [if_neg e]
  refine List.mem_map.2 ⟨a, List.mem_filter.2 ⟨ha, ?_⟩, rfl⟩
  simp [h1, h2, h3]
def behL (l : List St) (S : List Int) (i o : Int) : List Int := (List.range l.length).map fun p => mnL (cosL l S i o p)
def subS (N : List Int) (w : Int) : List Int := N.map fun c => if c = noneI then noneI else c - w
def ddR (p : Int × Int) : List (Int × Int) → List (Int × Int)
 | [] => []
 | q :: qs => if q = p then ddR q qs else q :: ddR q qs
def ddL : List (Int × Int) → List (Int × Int)
 | [] => []
 | p :: ps => p :: ddR p ps
def allA (l : List St) (S : List Int) : List Ar := (List.range l.length).flatMap fun q => if el S q = noneI then [] else (el l q).2
def prsL (l : List St) (S : List Int) : List (Int × Int) := ddL ((sortL (allA l S)).map fun a => (a.1, a.2.1))
def ltP (p q : Int × Int) : Prop := p.1 < q.1 ∨ p.1 = q.1 ∧ p.2 < q.2
def leP (p q : Int × Int) : Prop := p.1 < q.1 ∨ p.1 = q.1 ∧ p.2 ≤ q.2
theorem ddR_mem {p : Int × Int} {l : List (Int × Int)} {x : Int × Int} : x ∈ p :: ddR p l ↔ x ∈ p :: l := by
  induction l generalizing p with
  | nil => rfl
  | cons q qs ih =>
    simp only [ddR]
    split
    · rename_i e
      subst e
      rw [ih]
      simp
    · have := ih (p := q)
      simp only [List.mem_cons] at this ⊢
      rw [this]
theorem ddL_mem {l : List (Int × Int)} {x : Int × Int} : x ∈ ddL l ↔ x ∈ l := by
 cases l with
 | nil => rfl
 | cons p l => exact ddR_mem
theorem ddR_pair {p : Int × Int} {l : List (Int × Int)} (h : (p :: l).Pairwise leP) : (p :: ddR p l).Pairwise ltP := by
  induction l generalizing p with
  | nil => simp [ddR]
  | cons q qs ih =>
    rw [List.pairwise_cons] at h
    simp only [ddR]
    split
    · rename_i e
      subst e
      exact ih h.2
    · rename_i e
      have hq := ih h.2
      rw [List.pairwise_cons]
      refine ⟨fun x hx => ?_, hq⟩
      have h1 := h.1 q List.mem_cons_self
      have h2 : ltP p q := by
        rcases h1 with g | ⟨g1, g2⟩
        · exact .inl g
        · refine .inr ⟨g1, ?_⟩
          have : p.2 ≠ q.2 := fun k => e (Prod.ext g1.symm k.symm)
          omega
      rcases List.mem_cons.1 hx with rfl | hx
      · exact h2
      · have h3 := (List.pairwise_cons.1 hq).1 x hx
        unfold ltP at h2 h3 ⊢
        omega
theorem mem_allA {l : List St} {S : List Int} {a : Ar} : a ∈ allA l S ↔ ∃ q, q < l.length ∧ el S q ≠ noneI ∧ a ∈ (el l q).2 := by
 unfold allA
 rw [List.mem_flatMap]
 constructor
 ·rintro ⟨q, hq, h⟩
  by_cases e : el S q = noneI
  ·rw [if_pos e] at h; cases h
  ·rw [if_neg e] at h; exact ⟨q, List.mem_range.1 hq, e, h⟩
 ·rintro ⟨q, hq, e, h⟩
  exact ⟨q, List.mem_range.2 hq, by rw [if_neg e]; exact h⟩
theorem mem_prsL {l : List St} {S : List Int} {p : Int × Int} : p ∈ prsL l S ↔ ∃ q, q < l.length ∧ el S q ≠ noneI ∧ ∃ a ∈ (el l q).2, (a.1, a.2.1) = p := by
 unfold prsL
 rw [ddL_mem, List.mem_map]
 constructor
 ·rintro ⟨a, ha, e⟩
  rw [(sortL_perm _).mem_iff, mem_allA] at ha
  obtain ⟨q, h1, h2, h3⟩ := ha
  exact ⟨q, h1, h2, a, h3, e⟩
 ·rintro ⟨q, h1, h2, a, h3, e⟩
  exact ⟨a, (sortL_perm _).mem_iff.2 (mem_allA.2 ⟨q, h1, h2, h3⟩), e⟩
theorem prsL_pair (l : List St) (S : List Int) : (prsL l S).Pairwise ltP := by
  unfold prsL
  have h : ((sortL (allA l S)).map fun a => (a.1, a.2.1)).Pairwise leP := by
    rw [List.pairwise_map]
    refine (sortL_pair _).imp fun {a b} h => ?_
    simp only [leB, Bool.not_eq_true', aheadB_false] at h
    unfold leP
    simp only
    omega
  cases e : (sortL (allA l S)).map fun a => (a.1, a.2.1) with
  | nil => simp [ddL]
  | cons p ps =>
    rw [e] at h
    exact ddR_pair h
theorem ltP_one : ∀ {l r : List (Int × Int)}, l.Pairwise ltP → r.Pairwise ltP → (∀ p, p ∈ l ↔ p ∈ r) → l = r
  | [], [], _, _, _ => rfl
  | [], q :: r, _, _, h => by have := (h q).2 List.mem_cons_self; cases this
  | p :: l, [], _, _, h => by have := (h p).1 List.mem_cons_self; cases this
  | p :: l, q :: r, hl, hr, h => by
    rw [List.pairwise_cons] at hl hr
    have e : p = q := by
      rcases List.mem_cons.1 ((h p).1 List.mem_cons_self) with e | e
      · exact e
      · rcases List.mem_cons.1 ((h q).2 List.mem_cons_self) with g | g
        · exact g.symm
        · have h1 := hr.1 p e
          have h2 := hl.1 q g
          unfold ltP at h1 h2
          omega
    subst e
    congr 1
    refine ltP_one hl.2 hr.2 fun x => ?_
    have h1 : ∀ y, y ∈ l → y ≠ p := fun y hy e => by
      have h1 := hl.1 y hy
      rw [e] at h1
      unfold ltP at h1
      omega
    have h2 : ∀ y, y ∈ r → y ≠ p := fun y hy e => by
      have h1 := hr.1 y hy
      rw [e] at h1
      unfold ltP at h1
      omega
    constructor
    · intro hx
      rcases List.mem_cons.1 ((h x).1 (List.mem_cons_of_mem _ hx)) with g | g
      · exact absurd g (h1 x hx)
      · exact g
    · intro hx
      rcases List.mem_cons.1 ((h x).2 (List.mem_cons_of_mem _ hx)) with g | g
      · exact absurd g (h2 x hx)
      · exact g
theorem prsL_one {l : List St} {S : List Int} {r : List (Int × Int)} (hr : r.Pairwise ltP) (h : ∀ p, p ∈ r ↔ ∃ q, q < l.length ∧ el S q ≠ noneI ∧ ∃ a ∈ (el l q).2, (a.1, a.2.1) = p) : r = prsL l S :=
 ltP_one hr (prsL_pair l S) fun p => (h p).trans mem_prsL.symm
def fnsL (l : List St) (S : List Int) : List Int := (List.range l.length).flatMap fun q => if el S q = noneI ∨ (el l q).1 = 1000000001 then [] else [el S q + (el l q).1]
theorem mem_fnsL {l : List St} {S : List Int} {c : Int} : c ∈ fnsL l S ↔ ∃ q, q < l.length ∧ el S q ≠ noneI ∧ (el l q).1 ≠ 1000000001 ∧ c = el S q + (el l q).1 := by
 unfold fnsL
 rw [List.mem_flatMap]
 constructor
 ·rintro ⟨q, hq, h⟩
  by_cases e : el S q = noneI ∨ (el l q).1 = 1000000001
  ·rw [if_pos e] at h; cases h
  ·rw [if_neg e] at h
   simp only [List.mem_singleton] at h
   exact ⟨q, List.mem_range.1 hq, fun g => e (.inl g), fun g => e (.inr g), h⟩
 ·rintro ⟨q, hq, h1, h2, rfl⟩
  exact ⟨q, List.mem_range.2 hq, by rw [if_neg (fun g => g.elim h1 h2)]; simp⟩
def finC (l : List St) (S : List Int) : Int × Int := (tldN (mnL (fnsL l S)), tldE (mnL (fnsL l S)))
def hopC (l : List St) (S : List Int) (p : Int × Int) : Hg (List Int) := (p.1, p.2, mnL (behL l S p.1 p.2), subS (behL l S p.1 p.2) (mnL (behL l S p.1 p.2)))
def hopsC (l : List St) (S : List Int) : List (Hg (List Int)) := (prsL l S).map (hopC l S)
def iniS (n z : Nat) : List Int := (List.replicate n noneI).set z 0
def cerA (m : Mc) : Mc × Int := if faultM m ≠ 0 then ((0, []), faultM m) else if empB m.2 = true then ((0, []), 7) else if m.1 < 0 then ((-1, []), 0) else numA (finC m.2) (hopsC m.2) (iniS m.2.length m.1.toNat)
abbrev Tr : Type := Int × Int × Int
abbrev Hp : Type := Int × Int × Int × Tr
def hopM (x y : Ar) : Hp := (x.1, y.2.1, x.2.2.1 + y.2.2.1, x.2.2.2, y.2.2.2, 0)
def hopL (x : Ar) (b : Int) : Hp := (x.1, 0, x.2.2.1, x.2.2.2, b, 1)
def hopR (y : Ar) (a : Int) : Hp := (0, y.2.1, y.2.2.1, a, y.2.2.2, 2)
def metB (x y : Ar) (f : Int) : Bool := x.2.1 == y.1 && (decide (0 < x.2.1) || f == 0)
def expX (r : List Ar) (b f : Int) (x : Ar) : List Hp := (r.filter (metB x · f)).map (hopM x) ++ (if x.2.1 = 0 ∧ f ≠ 2 then [hopL x b] else [])
def expL (l r : List Ar) (t : Tr) : List Hp := l.flatMap (expX r t.2.1 t.2.2) ++ (if t.2.2 ≠ 1 then (r.filter (fun y => y.1 == 0)).map (hopR · t.1) else [])
inductive Hops (la lb : List St) (za zb : Nat) : List Int → List Int → Nat → Nat → Int → Nat → Prop
 | nil : Hops la lb za zb [] [] za zb 0 0
 | snoc {u v : List Int} {p q c : Nat} {f : Int} (h : Hops la lb za zb u v p q f c) {k : Hp} (hk : k ∈ expL (el la p).2 (el lb q).2 ((p : Int), (q : Int), f)) {s t : Nat} (hs : k.2.2.2.1 = (s : Int)) (ht : k.2.2.2.2.1 = (t : Int)) :
  Hops la lb za zb (u ++ lab k.1) (v ++ lab k.2.1) s t k.2.2.2.2.2 (c + k.2.2.1.toNat)
inductive WayO (l : List St) (z : Nat) : List Int → List Int → Nat → Nat → Nat → Nat → Prop
 | nil : WayO l z [] [] z 0 0 0
 | emp {u v : List Int} {p c i n : Nat} (h : WayO l z u v p c i n) {a : Ar} (ha : a ∈ (el l p).2) {t : Nat} (ht : a.2.2.2 = (t : Int)) (h0 : a.2.1 = 0) : WayO l z (u ++ lab a.1) v t (c + a.2.2.1.toNat) (i + 1) (n + 1)
 | lab {u v : List Int} {p c i n : Nat} (h : WayO l z u v p c i n) {a : Ar} (ha : a ∈ (el l p).2) {t : Nat} (ht : a.2.2.2 = (t : Int)) (h0 : a.2.1 ≠ 0) : WayO l z (u ++ lab a.1) (v ++ [a.2.1]) t (c + a.2.2.1.toNat) 0 (n + 1)
inductive WayI (l : List St) (z : Nat) : List Int → List Int → Nat → Nat → Nat → Nat → Prop
 | nil : WayI l z [] [] z 0 0 0
 | emp {u v : List Int} {p c i n : Nat} (h : WayI l z u v p c i n) {a : Ar} (ha : a ∈ (el l p).2) {t : Nat} (ht : a.2.2.2 = (t : Int)) (h0 : a.1 = 0) : WayI l z u (v ++ lab a.2.1) t (c + a.2.2.1.toNat) (i + 1) (n + 1)
 | lab {u v : List Int} {p c i n : Nat} (h : WayI l z u v p c i n) {a : Ar} (ha : a ∈ (el l p).2) {t : Nat} (ht : a.2.2.2 = (t : Int)) (h0 : a.1 ≠ 0) : WayI l z (u ++ [a.1]) (v ++ lab a.2.1) t (c + a.2.2.1.toNat) 0 (n + 1)
def bothI (a b : Int) : Int := if a = 1000000001 ∨ b = 1000000001 then 1000000001 else a + b
def trB (a b : Mc) (t : Tr) : Bool := inB t.1 0 ((a.2.length : Int) - 1) && inB t.2.1 0 ((b.2.length : Int) - 1) && inB t.2.2 0 2
def finTr (a b : Mc) (t : Tr) : Int := bothI (el a.2 t.1.toNat).1 (el b.2 t.2.1.toNat).1
def expT (a b : Mc) (t : Tr) : List Hp := expL (el a.2 t.1.toNat).2 (el b.2 t.2.1.toNat).2 t
def expO (a b : Mc) (t : Tr) : Bool := ((el a.2 t.1.toNat).1 != 1000000001 && (el b.2 t.2.1.toNat).1 != 1000000001 && decide (1000000000 < (el a.2 t.1.toNat).1 + (el b.2 t.2.1.toNat).1)) || (expT a b t).any (fun h => decide (1000000000 < h.2.2.1))
def expE (a b : Mc) (t : Tr) : Int := if faultM a ≠ 0 then faultM a else if faultM b ≠ 0 then faultM b else if trB a b t = false then 13 else if expO a b t = true then 4 else 0
def arcTr (L : List Tr) (h : Hp) : Ar := (h.1, h.2.1, h.2.2.1, (L.idxOf h.2.2.2 : Int))
structure CmpI (a b : Mc) (q : Nat) (L : List Tr) (S : List St) : Prop where
 nodup : L.Nodup
 le : q ≤ L.length
 len : S.length = q
 start : ∃ E, L = (a.1, b.1, 0) :: E
 right : ∀ i, i < q → expE a b (el L i) = 0
 shut : ∀ i, i < q → ∀ h ∈ expT a b (el L i), h.2.2.2 ∈ L
 sts : ∀ i, i < q → el S i = (finTr a b (el L i), (expT a b (el L i)).map (arcTr L))
theorem fin_small {m : Mc} (hf : faultM m = 0) {p : Nat} (hp : p < m.2.length) (hn : (el m.2 p).1 ≠ 1000000001) : 0 ≤ (el m.2 p).1 ∧ (el m.2 p).1 ≤ 1000000000 := by
 have h1 := stB_fin ((right_parts hf).2 _ (el_mem hp))
 simp [finB, inB] at h1
 omega
def DstAns (m : Mc) (P : Nat → Nat → Prop) (vs : List Int) (ec : Int) : Prop := (faultM m ≠ 0 ∧ vs = [] ∧ ec = faultM m) ∨ (faultM m = 0 ∧ LstAns P m.2.length vs ec)
theorem DstAns.len {m : Mc} {P : Nat → Nat → Prop} {vs : List Int} (h : DstAns m P vs 0) : vs.length = m.2.length ∧ -1 ≤ m.1 ∧ m.1 ≤ (m.2.length : Int) - 1 := by
 rcases h with ⟨h0, h1, h2⟩ | ⟨h0, h1⟩
 ·exact absurd h2.symm h0
 ·rcases h1 with ⟨_, h2, _⟩ | ⟨h2, _⟩
  ·exact ⟨h2, (right_parts h0).1⟩
  ·exact absurd h2 (by decide)
end Go.Proofs.YtfhjncpakgailaaGreatDoor.Pl
namespace Go.Proofs.YtfhjncpakgailaaGreatDoor.Pl
def placeL' (x : Int) : Nat → List Int → Int
 | _, [] => -1
 | i, k :: l => if k = x then (i : Int) else placeL' x (i + 1) l
def placeI (ks : List Int) (x : Int) : Int := placeL' x 0 ks
theorem placeL'_at {x : Int} {ks : List Int} {i k : Nat} (hk : k < ks.length) (h : ∀ j, j < k → el ks j ≠ x) (e : el ks k = x) : placeL' x i ks = ((i + k : Nat) : Int) := by
  induction ks generalizing i k with
  | nil => simp at hk
  | cons y l ih =>
    cases k with
    | zero => rw [el_zero] at e; simp [placeL', e]
    | succ k =>
      have h0 := h 0 (by omega)
      rw [el_zero] at h0
      rw [placeL', if_neg h0, ih (k := k) (by simpa using hk) (fun j hj => by have := h (j + 1) (by omega); rwa [el_succ] at this) (by rwa [el_succ] at e)]
      congr 1; omega
theorem placeL'_none {x : Int} {ks : List Int} {i : Nat} (h : ∀ j, j < ks.length → el ks j ≠ x) : placeL' x i ks = -1 := by
  induction ks generalizing i with
  | nil => rfl
  | cons y l ih =>
    have h0 := h 0 (by simp)
    rw [el_zero] at h0
    rw [placeL', if_neg h0]
    exact ih (fun j hj => by have := h (j + 1) (by simpa using hj); rwa [el_succ] at this)
theorem placeI_at {x : Int} {ks : List Int} {k : Nat} (hk : k < ks.length) (h : ∀ j, j < k → el ks j ≠ x) (e : el ks k = x) : placeI ks x = (k : Int) := by
 have := placeL'_at (i := 0) hk h e
 rwa [Nat.zero_add] at this
theorem placeI_none {x : Int} {ks : List Int} (h : ∀ j, j < ks.length → el ks j ≠ x) : placeI ks x = -1 := placeL'_none h
def keptL (a b : List Bool) (n : Nat) : List Int := ((List.range n).filter fun q => el a q && el b q).map fun q : Nat => (q : Int)
theorem keptL_succ (a b : List Bool) (n : Nat) : keptL a b (n + 1) = keptL a b n ++ (if (el a n && el b n) = true then [(n : Int)] else []) := by
 unfold keptL
 rw [List.range_succ, List.filter_append, List.map_append]
 cases h : (el a n && el b n) <;> simp [h]
theorem keptL_le (a b : List Bool) (n : Nat) : (keptL a b n).length ≤ n := by
 unfold keptL
 rw [List.length_map]
 exact Nat.le_trans (List.length_filter_le _ _) (by simp)
theorem keptL_mem {a b : List Bool} {n : Nat} {x : Int} (h : x ∈ keptL a b n) : ∃ q : Nat, x = (q : Int) ∧ q < n ∧ el a q = true ∧ el b q = true := by
 unfold keptL at h
 simp only [List.mem_map, List.mem_filter, List.mem_range, Bool.and_eq_true] at h
 obtain ⟨q, ⟨h1, h2, h3⟩, rfl⟩ := h
 exact ⟨q, rfl, h1, h2, h3⟩
def turnA (ks : List Int) (c : Ar) : Ar := (c.1, c.2.1, c.2.2.1, placeI ks c.2.2.2)
def trimA (ks : List Int) (l : List Ar) : List Ar := (l.map (turnA ks)).filter fun c => decide (0 ≤ c.2.2.2)
theorem trimA_take {ks : List Int} {l : List Ar} {k : Nat} (h : k < l.length) : trimA ks (l.take (k + 1)) = trimA ks (l.take k) ++ (if 0 ≤ placeI ks (el l k).2.2.2 then [turnA ks (el l k)] else []) := by
 unfold trimA
 rw [take_el h, List.map_append, List.filter_append]
 congr 1
 by_cases e : 0 ≤ placeI ks (el l k).2.2.2 <;> simp [e, turnA]
theorem trimA_le (ks : List Int) (l : List Ar) : (trimA ks l).length ≤ l.length := by
 unfold trimA
 exact Nat.le_trans (List.length_filter_le _ _) (by simp)
def trimS (l : List St) (ks : List Int) (x : Int) : St := ((el l x.toNat).1, trimA ks (el l x.toNat).2)
def trimM (z : Int) (l : List St) (ks : List Int) : Mc := (placeI ks z, ks.map (trimS l ks))
def AheadC (z : Int) (l : List St) (T : Nat → Prop) : Prop := (∀ q, q < l.length → (q : Int) = z → T q) ∧ ∀ q, q < l.length → T q → ∀ a ∈ (el l q).2, T a.2.2.2.toNat
def BackC (l : List St) (T : Nat → Prop) : Prop := (∀ q, q < l.length → (el l q).1 ≠ 1000000001 → T q) ∧ ∀ q, q < l.length → ∀ a ∈ (el l q).2, T a.2.2.2.toNat → T q
def Least (C : (Nat → Prop) → Prop) (n : Nat) (bs : List Bool) : Prop := bs.length = n ∧ C (fun q => el bs q = true) ∧ ∀ T, C T → ∀ q, q < n → el bs q = true → T q
theorem Least.one {C : (Nat → Prop) → Prop} {n : Nat} {a b : List Bool} (ha : Least C n a) (hb : Least C n b) : a = b := by
 apply el_ext (by rw [ha.1, hb.1])
 intro j hj
 have hj' : j < n := by rw [ha.1] at hj; exact hj
 have h1 := ha.2.2 _ hb.2.1 j hj'
 have h2 := hb.2.2 _ ha.2.1 j hj'
 rw [Bool.eq_iff_iff]
 exact ⟨h1, h2⟩
def leL (a b : List Bool) : Prop := a.length = b.length ∧ ∀ j, j < a.length → el a j = true → el b j = true
theorem el_setB {l : List Bool} {q j : Nat} (hq : q < l.length) : el (l.set q true) j = if j = q then true else el l j := by
 by_cases h : j = q
 ·subst h; rw [if_pos rfl, el_get (by simpa using hq)]; simp
 ·rw [if_neg h]; simp [el, List.getElem?_set_ne (Ne.symm h)]
structure Pass (C : (Nat → Prop) → Prop) (n : Nat) (b0 bs : List Bool) (chk : Prop) : Prop where
 len : bs.length = n
 le : leL b0 bs
 sound : ∀ T, C T → ∀ q, q < n → el bs q = true → T q
 chk : bs = b0 → chk
structure Rounds (C : (Nat → Prop) → Prop) (n k : Nat) (bs : List Bool) : Prop where
 len : bs.length = n
 sound : ∀ T, C T → ∀ q, q < n → el bs q = true → T q
 more : C (fun q => el bs q = true) ∨ k ≤ bs.count true
theorem el_false {n j : Nat} : el (List.replicate n false) j = false := by
 unfold el
 rw [List.getElem?_replicate]
 split <;> rfl
end Go.Proofs.YtfhjncpakgailaaGreatDoor.Pl
namespace Go.Proofs.YtfhjncpakgailaaGreatDoor.Pl
set_option linter.unusedVariables false
set_option linter.unusedSimpArgs false
def pshA (vs : List Int) (q : Nat) (a : Ar) : Ar := (a.1, a.2.1, a.2.2.1 + el vs a.2.2.2.toNat - el vs q, a.2.2.2)
def pshF (vs : List Int) (q : Nat) (f : Int) : Int := if f = 1000000001 then 1000000001 else f - el vs q
def pshS (vs : List Int) (l : List St) (q : Nat) : St := (pshF vs q (el l q).1, (el l q).2.map (pshA vs q))
def pshL (vs : List Int) (l : List St) : List St := (List.range l.length).map (pshS vs l)
def pshM (vs : List Int) (m : Mc) : Mc := (m.1, pshL vs m.2)
def pshT (vs : List Int) (m : Mc) : Int := if m.1 < 0 then 0 else el vs m.1.toNat
def pshO (vs : List Int) (l : List St) : Bool := (List.range l.length).any fun q => (el l q).2.any fun a => decide (1000000000 < (pshA vs q a).2.2.1)
theorem psh_length (vs : List Int) (l : List St) : (pshL vs l).length = l.length := by simp [pshL]
theorem psh_el {vs : List Int} {l : List St} {q : Nat} (h : q < l.length) : el (pshL vs l) q = pshS vs l q := el_range_map _ h
def trmM (m : Mc) (aa bs : List Bool) : Mc := trimM m.1 m.2 (keptL aa bs m.2.length)
def PshAns (m x : Mc) (tot ec : Int) : Prop :=
 (faultM m ≠ 0 ∧ x = (0, []) ∧ tot = 0 ∧ ec = faultM m) ∨
 (faultM m = 0 ∧ ∃ aa bs vs e, Least (AheadC m.1 m.2) m.2.length aa ∧ Least (BackC m.2) m.2.length bs ∧ DstAns (trmM m aa bs) (EndC (trmM m aa bs).2) vs e ∧
  ((e ≠ 0 ∧ x = (0, []) ∧ tot = 0 ∧ ec = e) ∨ (e = 0 ∧ pshO vs (trmM m aa bs).2 = true ∧ x = (0, []) ∧ tot = 0 ∧ ec = 4) ∨
   (e = 0 ∧ pshO vs (trmM m aa bs).2 = false ∧ x = pshM vs (trmM m aa bs) ∧ tot = pshT vs (trmM m aa bs) ∧ ec = 0)))
structure Pot (l : List St) (vs : List Int) : Prop where
 len : vs.length = l.length
 nn : ∀ q, q < l.length → 0 ≤ el vs q ∧ el vs q ≤ 1000000000
 arc : ∀ q, q < l.length → ∀ a ∈ (el l q).2, ∃ t : Nat, a.2.2.2 = (t : Int) ∧ t < l.length ∧ 0 ≤ a.2.2.1 ∧ el vs q ≤ a.2.2.1 + el vs t
 fin : ∀ q, q < l.length → (el l q).1 ≠ 1000000001 → el vs q ≤ (el l q).1 ∧ (el l q).1 ≤ 1000000000
end Go.Proofs.YtfhjncpakgailaaGreatDoor.Pl
