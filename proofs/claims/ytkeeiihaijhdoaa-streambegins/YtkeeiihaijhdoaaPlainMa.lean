/- Plain facts on marks: of two marks the better one; what a run may be (no program in sight). -/
import Derived.Test.YtkeeiihaijhdoaaPlainK
namespace Go.Proofs.Ytkeeiihaijhdoaa.Sm
open Go.Proofs.Ytkeeiihaijhdoaa.Pl

/-- What it cost, and what was written. -/
abbrev Ky := Int × List Int
/-- A mark: its state and its key. -/
abbrev Mk := Int × Ky
abbrev Ru := Int × List Mk
/-- Of two lists as long: is the first one lower at the first place where they differ? -/
def lexB : List Int → List Int → Bool
  | a :: l, b :: r => if a = b then lexB l r else decide (a < b)
  | _, _ => false
/-- P21.2. -/
def betB (a b : Ky) : Bool := if a.1 = b.1 then (if a.2.length = b.2.length then lexB a.2 b.2 else decide (a.2.length < b.2.length)) else decide (a.1 < b.1)
theorem lexB_drop {l r : List Int} {i : Nat} (h1 : i < l.length) (h2 : i < r.length) : lexB (l.drop i) (r.drop i) = if el l i = el r i then lexB (l.drop (i + 1)) (r.drop (i + 1)) else decide (el l i < el r i) := by
  rw [List.drop_eq_getElem_cons h1, List.drop_eq_getElem_cons h2, el_get h1, el_get h2, lexB]
theorem lexB_end {l r : List Int} {i : Nat} (h1 : l.length ≤ i) : lexB (l.drop i) (r.drop i) = false := by
  rw [List.drop_of_length_le h1]; cases r.drop i <;> rfl
theorem lexB_irr (l : List Int) : lexB l l = false := by
  induction l with
  | nil => rfl
  | cons a l ih => simp [lexB, ih]
theorem lexB_trans : ∀ {a b c : List Int}, a.length = b.length → b.length = c.length → lexB a b = true → lexB b c = true → lexB a c = true
  | [], _, _, _, _, h, _ => by simp [lexB] at h
  | x :: a, [], _, h, _, _, _ => by simp at h
  | x :: a, y :: b, [], _, h, _, _ => by simp at h
  | x :: a, y :: b, z :: c, h1, h2, h3, h4 => by
    simp only [lexB] at h3 h4 ⊢
    by_cases e1 : x = y
    · subst e1
      by_cases e2 : x = z
      · subst e2
        simp only [if_true] at h3 h4 ⊢
        exact lexB_trans (by simpa using h1) (by simpa using h2) h3 h4
      · simp only [if_neg e2] at h4 ⊢; exact h4
    · simp only [if_neg e1, decide_eq_true_eq] at h3
      by_cases e2 : y = z
      · subst e2; simp only [if_neg e1, decide_eq_true_eq]; exact h3
      · simp only [if_neg e2, decide_eq_true_eq] at h4
        rw [if_neg (by omega), decide_eq_true_eq]; omega
theorem lexB_tot : ∀ {a b : List Int}, a.length = b.length → lexB a b = false → lexB b a = false → a = b
  | [], [], _, _, _ => rfl
  | [], y :: b, h, _, _ => by simp at h
  | x :: a, [], h, _, _ => by simp at h
  | x :: a, y :: b, h, h1, h2 => by
    simp only [lexB] at h1 h2
    by_cases e : x = y
    · subst e
      simp only [if_true] at h1 h2
      rw [lexB_tot (by simpa using h) h1 h2]
    · rw [if_neg e, decide_eq_false_iff_not] at h1
      rw [if_neg (Ne.symm e), decide_eq_false_iff_not] at h2
      omega
theorem lexB_snoc : ∀ {a b : List Int} (o : Int), a.length = b.length → lexB (a ++ [o]) (b ++ [o]) = lexB a b
  | [], [], o, _ => by simp [lexB]
  | [], y :: b, _, h => by simp at h
  | x :: a, [], _, h => by simp at h
  | x :: a, y :: b, o, h => by
    simp only [List.cons_append, lexB]
    rw [lexB_snoc o (by simpa using h)]
theorem betB_irr (a : Ky) : betB a a = false := by simp [betB, lexB_irr]
theorem betB_trans {a b c : Ky} (h1 : betB a b = true) (h2 : betB b c = true) : betB a c = true := by
  unfold betB at *
  by_cases e1 : a.1 = b.1
  · by_cases e2 : b.1 = c.1
    · rw [if_pos e1] at h1; rw [if_pos e2] at h2; rw [if_pos (by omega)]
      by_cases f1 : a.2.length = b.2.length
      · by_cases f2 : b.2.length = c.2.length
        · rw [if_pos f1] at h1; rw [if_pos f2] at h2; rw [if_pos (by omega)]
          exact lexB_trans f1 f2 h1 h2
        · rw [if_neg f2] at h2; rw [if_neg (by omega)]; simp at h2 ⊢; omega
      · rw [if_neg f1] at h1
        simp only [decide_eq_true_eq] at h1
        by_cases f2 : b.2.length = c.2.length
        · rw [if_neg (by omega)]; simp; omega
        · rw [if_neg f2] at h2; simp at h2; rw [if_neg (by omega)]; simp; omega
    · rw [if_neg e2] at h2; rw [if_neg (by omega)]; simp at h2 ⊢; omega
  · rw [if_neg e1] at h1
    simp only [decide_eq_true_eq] at h1
    by_cases e2 : b.1 = c.1
    · rw [if_neg (by omega)]; simp; omega
    · rw [if_neg e2] at h2; simp at h2; rw [if_neg (by omega)]; simp; omega
theorem betB_tot {a b : Ky} (h1 : betB a b = false) (h2 : betB b a = false) : a = b := by
  unfold betB at *
  by_cases e1 : a.1 = b.1
  · rw [if_pos e1] at h1; rw [if_pos e1.symm] at h2
    by_cases f1 : a.2.length = b.2.length
    · rw [if_pos f1] at h1; rw [if_pos f1.symm] at h2
      exact Prod.ext e1 (lexB_tot f1 h1 h2)
    · rw [if_neg f1] at h1; rw [if_neg (Ne.symm f1)] at h2; simp at h1 h2; omega
  · rw [if_neg e1] at h1; rw [if_neg (Ne.symm e1)] at h2; simp at h1 h2; omega
/-- As good as, or better. -/
def leK (a b : Ky) : Prop := betB b a = false
theorem leK.refl (a : Ky) : leK a a := betB_irr a
theorem leK.total (a b : Ky) : leK a b ∨ leK b a := by
  unfold leK
  by_cases h : betB b a = false
  · exact .inl h
  · right
    rw [Bool.not_eq_false] at h
    rw [← Bool.not_eq_true]
    intro h2
    have := betB_trans h h2
    rw [betB_irr] at this
    cases this
theorem leK.trans {a b c : Ky} (h1 : leK a b) (h2 : leK b c) : leK a c := by
  unfold leK at *
  rw [← Bool.not_eq_true]
  intro h3
  by_cases h : betB b c = true
  · by_cases h4 : betB b a = true
    · rw [h1] at h4; cases h4
    · have := betB_trans h h3
      rw [h1] at this; cases this
  · rw [Bool.not_eq_true] at h
    have := betB_tot h h2
    subst this
    rw [h1] at h3; cases h3
theorem leK.anti {a b : Ky} (h1 : leK a b) (h2 : leK b a) : a = b := betB_tot h2 h1
theorem betB_le {a b : Ky} (h : betB a b = true) : leK a b := by
  unfold leK
  rw [← Bool.not_eq_true]
  intro h2
  have := betB_trans h h2
  rw [betB_irr] at this
  cases this
theorem leK_cost {a b : Ky} (h : leK a b) : a.1 ≤ b.1 := by
  unfold leK betB at h
  by_cases e : b.1 = a.1
  · omega
  · rw [if_neg e] at h; simp at h; omega
/-- Along an arc. -/
def goA (k : Ky) (a : Ar) : Ky := (k.1 + a.2.2.1, if a.2.1 = 0 then k.2 else k.2 ++ [a.2.1])
theorem betB_goA (k l : Ky) (a : Ar) : betB (goA k a) (goA l a) = betB k l := by
  unfold betB goA
  simp only
  by_cases e : a.2.1 = 0
  · simp only [if_pos e]
    by_cases h : k.1 = l.1
    · rw [if_pos (by omega), if_pos h]
    · rw [if_neg (by omega), if_neg h]; simp
  · simp only [if_neg e, List.length_append, List.length_singleton]
    by_cases h : k.1 = l.1
    · rw [if_pos (by omega), if_pos h]
      by_cases g : k.2.length = l.2.length
      · rw [if_pos (by omega), if_pos g, lexB_snoc _ g]
      · rw [if_neg (by omega), if_neg g]; simp
    · rw [if_neg (by omega), if_neg h]; simp
theorem leK.goA {k l : Ky} (h : leK k l) (a : Ar) : leK (goA k a) (Sm.goA l a) := by unfold leK at *; rw [betB_goA]; exact h
theorem leK_goA (k : Ky) {a : Ar} (h : 0 ≤ a.2.2.1) : leK k (goA k a) := by
  unfold leK betB goA
  simp only
  by_cases h0 : a.2.2.1 = 0
  · rw [if_pos (by omega)]
    by_cases e : a.2.1 = 0
    · simp only [if_pos e, if_true]; exact lexB_irr _
    · simp only [if_neg e, List.length_append, List.length_singleton]
      rw [if_neg (by omega)]; simp
  · rw [if_neg (by omega)]; simp; omega
/-- Labels, all of them. -/
def labB (l : List Int) : Bool := l.all fun x => inB x 1 1000
/-- What a mark cost and wrote may be. -/
def mkB (k : Mk) : Bool := inB k.2.1 0 1000000000 && decide (k.2.2.length ≤ 800) && labB k.2.2
/-- States of n, rising, the first one not below b. -/
def risB (n : Int) : Int → List Mk → Bool
  | _, [] => true
  | b, k :: l => decide (b ≤ k.1) && decide (k.1 < n) && risB n (k.1 + 1) l
/-- P21.1. -/
def runB (n : Int) (r : Ru) : Bool := inB r.1 0 12 && risB n 0 r.2 && r.2.all mkB
theorem risB_drop {n b : Int} {l : List Mk} {i : Nat} (h : i < l.length) : risB n b (l.drop i) = (decide (b ≤ (el l i).1) && decide ((el l i).1 < n) && risB n ((el l i).1 + 1) (l.drop (i + 1))) := by
  rw [List.drop_eq_getElem_cons h, el_get h, risB]
theorem risB_end {n b : Int} {l : List Mk} {i : Nat} (h : l.length ≤ i) : risB n b (l.drop i) = true := by rw [List.drop_of_length_le h]; rfl
theorem risB_el {n : Int} {l : List Mk} : ∀ {b : Int}, risB n b l = true → ∀ j, j < l.length → b ≤ (el l j).1 ∧ (el l j).1 < n := by
  induction l with
  | nil => intro b _ j h; simp at h
  | cons k l ih =>
    intro b h j hj
    simp only [risB, Bool.and_eq_true, decide_eq_true_eq] at h
    cases j with
    | zero => rw [el_zero]; exact h.1
    | succ j =>
      rw [el_succ]
      have := ih h.2 j (by simpa using hj)
      omega
theorem risB_up {n : Int} {l : List Mk} : ∀ {b : Int}, risB n b l = true → ∀ i j, i < j → j < l.length → (el l i).1 < (el l j).1 := by
  induction l with
  | nil => intro b _ i j _ h; simp at h
  | cons k l ih =>
    intro b h i j hij hj
    simp only [risB, Bool.and_eq_true, decide_eq_true_eq] at h
    cases j with
    | zero => omega
    | succ j =>
      cases i with
      | zero =>
        rw [el_zero, el_succ]
        have := risB_el h.2 j (by simpa using hj)
        omega
      | succ i => rw [el_succ, el_succ]; exact ih h.2 i j (by omega) (by simpa using hj)
theorem all_drop {l : List Mk} {p : Mk → Bool} {i : Nat} (h : i < l.length) : (l.drop i).all p = (p (el l i) && (l.drop (i + 1)).all p) := by
  rw [List.drop_eq_getElem_cons h, el_get h, List.all_cons]
theorem labB_drop {l : List Int} {i : Nat} (h : i < l.length) : labB (l.drop i) = (inB (el l i) 1 1000 && labB (l.drop (i + 1))) := by
  unfold labB
  rw [List.drop_eq_getElem_cons h, el_get h, List.all_cons]
/-- A mark that may end, with what ending costs. -/
def endK (F : Int → Int) (acc : Option Ky) (k : Mk) : Option Ky :=
  if F k.1 = 1000000001 then acc else
    match acc with
    | none => some (k.2.1 + F k.1, k.2.2)
    | some b => if betB (k.2.1 + F k.1, k.2.2) b = true then some (k.2.1 + F k.1, k.2.2) else some b
def endL (F : Int → Int) (l : List Mk) : Option Ky := l.foldl (endK F) none
theorem endL_take {F : Int → Int} {l : List Mk} {i : Nat} (h : i < l.length) : endL F (l.take (i + 1)) = endK F (endL F (l.take i)) (el l i) := by
  unfold endL
  rw [take_el h, List.foldl_append]; rfl
/-- What ending at a state costs. -/
def finS (m : Mc) (q : Int) : Int := (el m.2 q.toNat).1
/-- P21.5: what is answered: what was written, what it cost, an error. -/
def endA (m : Mc) (r : Ru) : List Int × Int × Int :=
  if faultM m ≠ 0 then ([], 0, faultM m) else if runB m.2.length r = false then ([], 0, 13) else
    match endL (finS m) r.2 with
    | none => ([], 0, 12)
    | some k => if 1000000000 < k.1 then ([], 0, 4) else (k.2, k.1, 0)
end Go.Proofs.Ytkeeiihaijhdoaa.Sm
