/- Making certain as the program does: a set's arcs in order, cut by their labels, put together (no program in sight). -/
import Derived.Test.YtfhjncpakgailaaGreatDoorPak
namespace Go.Proofs.YtfhjncpakgailaaGreatDoor.Pl
set_option linter.unusedVariables false
set_option linter.unusedSimpArgs false
def wtA (x : Int) (a : Ar) : Ar := (a.1, a.2.1, a.2.2.1 + x, a.2.2.2)
def arcW (l : List St) (ps : List Pa) : List Ar := ps.flatMap fun p => (el l p.1.toNat).2.map (wtA p.2)
theorem arcW_snoc (l : List St) (ps : List Pa) (p : Pa) : arcW l (ps ++ [p]) = arcW l ps ++ (el l p.1.toNat).2.map (wtA p.2) := by simp [arcW]
theorem mem_arcW {l : List St} {S : List Int} {a : Ar} : a ∈ arcW l (parL S) ↔ ∃ q : Nat, q < S.length ∧ el S q ≠ noneI ∧ ∃ b ∈ (el l q).2, a = wtA (el S q) b := by
 unfold arcW
 rw [List.mem_flatMap]
 constructor
 ·rintro ⟨p, hp, h⟩
  obtain ⟨q, hq, h1, rfl⟩ := mem_parL.1 hp
  obtain ⟨b, hb, rfl⟩ := List.mem_map.1 h
  exact ⟨q, hq, h1, b, by simpa using hb, rfl⟩
 ·rintro ⟨q, hq, h1, b, hb, rfl⟩
  exact ⟨_, mem_parL.2 ⟨q, hq, h1, rfl⟩, List.mem_map.2 ⟨b, by simpa using hb, rfl⟩⟩
def labA (a : Ar) : Int × Int := (a.1, a.2.1)
def cutS (l : List Ar) : Nat → List (Nat × Nat) × Nat
 | 0 => ([], 0)
 | i + 1 => if labA (el l i) = labA (el l (cutS l i).2) then cutS l i else ((cutS l i).1 ++ [((cutS l i).2, i - (cutS l i).2)], i)
def cutL (l : List Ar) : List (Nat × Nat) := if (cutS l l.length).2 < l.length then (cutS l l.length).1 ++ [((cutS l l.length).2, l.length - (cutS l l.length).2)] else (cutS l l.length).1
def pieA (l : List Ar) (c : Nat × Nat) : List Ar := (l.drop c.1).take c.2
theorem pie_len {l : List Ar} {c : Nat × Nat} (h : c.1 + c.2 ≤ l.length) : (pieA l c).length = c.2 := by
 unfold pieA
 rw [List.length_take, List.length_drop]
 omega
theorem pie_el {l : List Ar} {c : Nat × Nat} {j : Nat} (h : j < c.2) : el (pieA l c) j = el l (c.1 + j) := by
 unfold pieA
 rw [el_take h]
 simp [el]
structure CutI (l : List Ar) (i : Nat) (cs : List (Nat × Nat)) (f : Nat) : Prop where
 le : f ≤ i
 lt : 0 < i → f < i
 same : ∀ j, f ≤ j → j < i → labA (el l j) = labA (el l f)
 low : ∀ j, j < f → ltP (labA (el l j)) (labA (el l f))
 cov : ∀ j, j < f → ∃ c ∈ cs, c.1 ≤ j ∧ j < c.1 + c.2
 piece : ∀ c ∈ cs, c.1 + c.2 ≤ f ∧ 0 < c.2 ∧ ∀ j, c.1 ≤ j → j < c.1 + c.2 → labA (el l j) = labA (el l c.1)
 pair : cs.Pairwise fun c d => ltP (labA (el l c.1)) (labA (el l d.1))
theorem ltP_trans {p q r : Int × Int} (h1 : ltP p q) (h2 : ltP q r) : ltP p r := by
 unfold ltP at *
 omega
theorem leP_lt {p q : Int × Int} (h1 : leP p q) (h2 : p ≠ q) : ltP p q := by
 unfold leP at h1
 unfold ltP
 rcases h1 with h | ⟨h, g⟩
 ·exact .inl h
 ·refine .inr ⟨h, ?_⟩
  have : p.2 ≠ q.2 := fun e => h2 (Prod.ext h e)
  omega
theorem CutI.shut {l : List Ar} {i : Nat} {cs : List (Nat × Nat)} {f : Nat} (h : CutI l i cs f) (hf : f < i) :
  (∀ j, j < i → ∃ c ∈ cs ++ [(f, i - f)], c.1 ≤ j ∧ j < c.1 + c.2) ∧ (∀ c ∈ cs ++ [(f, i - f)], c.1 + c.2 ≤ i ∧ 0 < c.2 ∧ ∀ j, c.1 ≤ j → j < c.1 + c.2 → labA (el l j) = labA (el l c.1)) ∧ (cs ++ [(f, i - f)]).Pairwise fun c d => ltP (labA (el l c.1)) (labA (el l d.1)) := by
 refine ⟨fun j hj => ?_, fun c hc => ?_, ?_⟩
 ·by_cases e : j < f
  ·obtain ⟨c, hc, h1⟩ := h.cov j e
   exact ⟨c, List.mem_append_left _ hc, h1⟩
  ·exact ⟨(f, i - f), by simp, by simp only; omega, by simp only; omega⟩
 ·rcases List.mem_append.1 hc with g | g
  ·have h1 := h.piece c g
   exact ⟨by omega, h1.2⟩
  ·rw [List.mem_singleton] at g
   subst g
   simp only
   exact ⟨by omega, by omega, fun j h1 h2 => h.same j h1 (by omega)⟩
 ·rw [List.pairwise_append]
  refine ⟨h.pair, by simp, fun c hc d hd => ?_⟩
  rw [List.mem_singleton] at hd
  subst hd
  have h1 := h.piece c hc
  exact h.low c.1 (by omega)
theorem cut_inv {l : List Ar} (hl : ∀ i j, i < j → j < l.length → leP (labA (el l i)) (labA (el l j))) : ∀ i, i ≤ l.length → CutI l i (cutS l i).1 (cutS l i).2
  | 0, _ => ⟨Nat.le_refl _, fun h => absurd h (by omega), fun j _ h => absurd h (by omega), fun j h => absurd h (by simp [cutS]), fun j h => absurd h (by simp [cutS]), fun c h => by simp [cutS] at h, by simp [cutS]⟩
  | i + 1, hi => by
    have h := cut_inv hl i (by omega)
    unfold cutS
    split
    · rename_i e
      exact ⟨by have := h.le; omega, fun _ => by have := h.le; omega, fun j h1 h2 => by
        by_cases g : j = i
        · rw [g]; exact e
        · exact h.same j h1 (by omega), h.low, h.cov, h.piece, h.pair⟩
    · rename_i e
      have h0 : 0 < i := by
        rcases Nat.eq_zero_or_pos i with g | g
        · subst g; exact absurd rfl e
        · exact g
      have hf := h.lt h0
      obtain ⟨s1, s2, s3⟩ := h.shut hf
      have hlt : ltP (labA (el l (cutS l i).2)) (labA (el l i)) := leP_lt (hl _ _ hf (by omega)) (Ne.symm e)
      refine ⟨by simp only; omega, fun _ => by simp only; omega, fun j h1 h2 => ?_, fun j hj => ?_, s1, s2, s3⟩
      · simp only at h1
        have : j = i := by omega
        rw [this]
      · simp only at hj ⊢
        by_cases g : j < (cutS l i).2
        · exact ltP_trans (h.low j g) hlt
        · rw [h.same j (by omega) hj]; exact hlt
structure CutF (l : List Ar) (cs : List (Nat × Nat)) : Prop where
 cov : ∀ j, j < l.length → ∃ c ∈ cs, c.1 ≤ j ∧ j < c.1 + c.2
 piece : ∀ c ∈ cs, c.1 + c.2 ≤ l.length ∧ 0 < c.2 ∧ ∀ j, c.1 ≤ j → j < c.1 + c.2 → labA (el l j) = labA (el l c.1)
 pair : cs.Pairwise fun c d => ltP (labA (el l c.1)) (labA (el l d.1))
theorem cut_all' {l : List Ar} (hl : ∀ i j, i < j → j < l.length → leP (labA (el l i)) (labA (el l j))) : CutF l (cutL l) := by
 have h := cut_inv hl l.length (Nat.le_refl _)
 unfold cutL
 split
 ·rename_i hf
  obtain ⟨s1, s2, s3⟩ := h.shut hf
  exact ⟨s1, s2, s3⟩
 ·rename_i hf
  exact ⟨fun j hj => h.cov j (by omega), fun c hc => by have h1 := h.piece c hc; have := h.le; exact ⟨by omega, h1.2⟩, h.pair⟩
theorem ltP_ne {p q : Int × Int} (h : ltP p q) : p ≠ q := fun e => by subst e; unfold ltP at h; omega
theorem CutF.mem {l : List Ar} {cs : List (Nat × Nat)} (h : CutF l cs) {c : Nat × Nat} (hc : c ∈ cs) {a : Ar} : a ∈ pieA l c ↔ a ∈ l ∧ labA a = labA (el l c.1) := by
 have hp := h.piece c hc
 have hlen := pie_len (l := l) (c := c) hp.1
 constructor
 ·intro ha
  obtain ⟨j, hj, e⟩ := mem_el ha
  rw [hlen] at hj
  rw [pie_el hj] at e
  rw [← e]
  exact ⟨el_mem (by omega), hp.2.2 _ (by omega) (by omega)⟩
 ·rintro ⟨ha, he⟩
  obtain ⟨j, hj, e⟩ := mem_el ha
  obtain ⟨d, hd, h1, h2⟩ := h.cov j hj
  have h3 := (h.piece d hd).2.2 j h1 h2
  rw [e, he] at h3
  obtain ⟨x, hx, ex⟩ := mem_el hc
  obtain ⟨y, hy, ey⟩ := mem_el hd
  have hxy : x = y := by
   rcases Nat.lt_trichotomy x y with g | g | g
   ·have h4 := List.pairwise_iff_getElem.1 h.pair x y hx hy g
    rw [← el_get hx, ← el_get hy, ex, ey] at h4
    exact absurd h3 (ltP_ne h4)
   ·exact g
   ·have h4 := List.pairwise_iff_getElem.1 h.pair y x hy hx g
    rw [← el_get hx, ← el_get hy, ex, ey] at h4
    exact absurd h3.symm (ltP_ne h4)
  subst hxy
  rw [ex] at ey
  subst ey
  have h5 : el (pieA l c) (j - c.1) = a := by
   rw [pie_el (by omega), ← e]
   congr 1
   omega
  rw [← h5]
  exact el_mem (by rw [hlen]; omega)
structure Grp (g : List Ar) (p : Int × Int) : Prop where
 lab : ∀ i, i < g.length → labA (el g i) = p
 ord : ∀ i j, i < j → j < g.length → (el g i).2.2.2 < (el g j).2.2.2 ∨ (el g i).2.2.2 = (el g j).2.2.2 ∧ (el g i).2.2.1 ≤ (el g j).2.2.1
theorem CutF.grp {l : List Ar} {cs : List (Nat × Nat)} (h : CutF l cs) (hl : ∀ i j, i < j → j < l.length → leB (el l i) (el l j) = true) {c : Nat × Nat} (hc : c ∈ cs) : Grp (pieA l c) (labA (el l c.1)) := by
 have hp := h.piece c hc
 have hlen := pie_len (l := l) (c := c) hp.1
 refine ⟨fun i hi => ?_, fun i j hij hj => ?_⟩
 ·rw [hlen] at hi
  rw [pie_el hi]
  exact hp.2.2 _ (by omega) (by omega)
 ·rw [hlen] at hj
  rw [pie_el (by omega), pie_el hj]
  have h1 := hl (c.1 + i) (c.1 + j) (by omega) (by omega)
  have h2 := (hp.2.2 (c.1 + i) (by omega) (by omega)).trans (hp.2.2 (c.1 + j) (by omega) (by omega)).symm
  simp only [labA, Prod.mk.injEq] at h2
  simp only [leB, Bool.not_eq_true', aheadB_false] at h1
  omega
def tgU (g : List Ar) (c : Int) (k : Nat) : List Pa := (List.range k).flatMap fun i => if i = 0 ∨ (el g i).2.2.2 ≠ (el g (i - 1)).2.2.2 then [((el g i).2.2.2, (el g i).2.2.1 - c)] else []
theorem tgU_succ (g : List Ar) (c : Int) (k : Nat) : tgU g c (k + 1) = tgU g c k ++ (if k = 0 ∨ (el g k).2.2.2 ≠ (el g (k - 1)).2.2.2 then [((el g k).2.2.2, (el g k).2.2.1 - c)] else []) := by
 unfold tgU
 rw [List.range_succ, List.flatMap_append]
 simp
theorem mem_tgU {g : List Ar} {c : Int} {k : Nat} {q : Pa} : q ∈ tgU g c k ↔ ∃ i, i < k ∧ (i = 0 ∨ (el g i).2.2.2 ≠ (el g (i - 1)).2.2.2) ∧ q = ((el g i).2.2.2, (el g i).2.2.1 - c) := by
 unfold tgU
 rw [List.mem_flatMap]
 constructor
 ·rintro ⟨i, hi, h⟩
  rw [List.mem_range] at hi
  by_cases e : i = 0 ∨ (el g i).2.2.2 ≠ (el g (i - 1)).2.2.2
  ·rw [if_pos e, List.mem_singleton] at h; exact ⟨i, hi, e, h⟩
  ·rw [if_neg e] at h; cases h
 ·rintro ⟨i, hi, e, rfl⟩
  exact ⟨i, List.mem_range.2 hi, by rw [if_pos e]; simp⟩
theorem tgU_len (g : List Ar) (c : Int) (k : Nat) : (tgU g c k).length ≤ k := by
  induction k with
  | zero => simp [tgU]
  | succ k ih =>
    rw [tgU_succ, List.length_append]
    split <;> simp <;> omega
theorem Grp.to_le {g : List Ar} {p : Int × Int} (h : Grp g p) {i j : Nat} (hij : i ≤ j) (hj : j < g.length) : (el g i).2.2.2 ≤ (el g j).2.2.2 := by
 rcases Nat.lt_or_eq_of_le hij with e | e
 ·rcases h.ord i j e hj with h | h <;> omega
 ·subst e; exact Int.le_refl _
theorem Grp.pairT {g : List Ar} {p : Int × Int} (h : Grp g p) (c : Int) : ∀ k, k ≤ g.length → (tgU g c k).Pairwise fun a b => a.1 < b.1
  | 0, _ => by simp [tgU]
  | k + 1, hk => by
    rw [tgU_succ, List.pairwise_append]
    refine ⟨h.pairT c k (by omega), by split <;> simp, fun a ha b hb => ?_⟩
    obtain ⟨i, hi, _, rfl⟩ := mem_tgU.1 ha
    split at hb
    · rename_i e
      rw [List.mem_singleton] at hb
      subst hb
      simp only
      rcases e with e | e
      · omega
      · have h1 := h.to_le (i := i) (j := k - 1) (by omega) (by omega)
        have h2 := h.to_le (i := k - 1) (j := k) (by omega) (by omega)
        omega
    · cases hb
theorem first_to (g : List Ar) : ∀ i, ∃ k, k ≤ i ∧ (el g k).2.2.2 = (el g i).2.2.2 ∧ (k = 0 ∨ (el g k).2.2.2 ≠ (el g (k - 1)).2.2.2)
  | 0 => ⟨0, Nat.le_refl _, rfl, .inl rfl⟩
  | i + 1 => by
    by_cases e : (el g (i + 1)).2.2.2 = (el g i).2.2.2
    · obtain ⟨k, h1, h2, h3⟩ := first_to g i
      exact ⟨k, by omega, h2.trans e.symm, h3⟩
    · exact ⟨i + 1, Nat.le_refl _, rfl, .inr (by simpa using e)⟩
theorem Grp.memT {g : List Ar} {p : Int × Int} (h : Grp g p) {c : Int} {q : Pa} : q ∈ tgU g c g.length ↔ ∃ i, i < g.length ∧ (∀ j, j < g.length → (el g j).2.2.2 = (el g i).2.2.2 → (el g i).2.2.1 ≤ (el g j).2.2.1) ∧ q = ((el g i).2.2.2, (el g i).2.2.1 - c) := by
 rw [mem_tgU]
 constructor
 ·rintro ⟨i, hi, e, rfl⟩
  refine ⟨i, hi, fun j hj ej => ?_, rfl⟩
  rcases Nat.lt_trichotomy i j with g1 | g1 | g1
  ·rcases h.ord i j g1 hj with k | k <;> omega
  ·subst g1; exact Int.le_refl _
  ·exfalso
   rcases e with e | e
   ·omega
   ·have h1 := h.to_le (i := j) (j := i - 1) (by omega) (by omega)
    have h2 := h.to_le (i := i - 1) (j := i) (by omega) hi
    omega
 ·rintro ⟨i, hi, hm, rfl⟩
  obtain ⟨k, h1, h2, h3⟩ := first_to g i
  refine ⟨k, by omega, h3, ?_⟩
  have h4 := hm k (by omega) h2
  have h5 : (el g k).2.2.1 = (el g i).2.2.1 := by
   rcases Nat.lt_or_eq_of_le h1 with e | e
   ·rcases h.ord k i e hi with g1 | g1 <;> omega
   ·rw [e]
  rw [h2, h5]
theorem cut_hops {m : Mc} {S : List Int} {B : Int} (hf : faultM m = 0) (hS : SetN m.2.length B S) (hB : B + 1000000000 < noneI) {s : List Ar} (hs : sortL (arcW m.2 (parL S)) = s) {cs : List (Nat × Nat)} (hc : cutL s = cs) :
  cs.length = (hopsC m.2 S).length ∧ ∀ i, i < cs.length → (el cs i).1 + (el cs i).2 ≤ s.length ∧ 0 < (el cs i).2 ∧ labA (el s (el cs i).1) = ((el (hopsC m.2 S) i).1, (el (hopsC m.2 S) i).2.1) ∧ mnL ((pieA s (el cs i)).map fun a => a.2.2.1) = (el (hopsC m.2 S) i).2.2.1 ∧ tgU (pieA s (el cs i)) (el (hopsC m.2 S) i).2.2.1 (el cs i).2 = parL (el (hopsC m.2 S) i).2.2.2 := by
 have hpw := sortL_pair (arcW m.2 (parL S))
 rw [hs] at hpw
 have hle : ∀ i j, i < j → j < s.length → leB (el s i) (el s j) = true := fun i j hij hj => by
  have h9 := List.pairwise_iff_getElem.1 hpw i j (by omega) hj hij
  rwa [← el_get, ← el_get] at h9
 have hlp : ∀ i j, i < j → j < s.length → leP (labA (el s i)) (labA (el s j)) := fun i j hij hj => by
  have h9 := hle i j hij hj
  simp only [leB, Bool.not_eq_true', aheadB_false] at h9
  unfold leP labA
  simp only
  omega
 have hF := cut_all' hlp
 rw [hc] at hF
 have hmem : ∀ a, a ∈ s ↔ ∃ q : Nat, q < m.2.length ∧ el S q ≠ noneI ∧ ∃ b ∈ (el m.2 q).2, a = wtA (el S q) b := fun a => by
  rw [← hs, (sortL_perm _).mem_iff, mem_arcW, hS.len]
 have hheads : cs.map (fun c => labA (el s c.1)) = prsL m.2 S := by
  refine prsL_one (by rw [List.pairwise_map]; exact hF.pair) fun p => ?_
  rw [List.mem_map]
  constructor
  ·rintro ⟨c, hcc, rfl⟩
   have h1 := hF.piece c hcc
   obtain ⟨q, hq, h2, b, hb, e⟩ := (hmem _).1 (el_mem (l := s) (j := c.1) (by omega))
   exact ⟨q, hq, h2, b, hb, by rw [e]; rfl⟩
  ·rintro ⟨q, hq, h2, b, hb, rfl⟩
   obtain ⟨j, hj, e⟩ := mem_el ((hmem (wtA (el S q) b)).2 ⟨q, hq, h2, b, hb, rfl⟩)
   obtain ⟨c, hcc, h3, h4⟩ := hF.cov j hj
   exact ⟨c, hcc, by rw [← (hF.piece c hcc).2.2 j h3 h4, e]; rfl⟩
 have hlen : cs.length = (hopsC m.2 S).length := by
  have h9 := congrArg List.length hheads
  rw [List.length_map] at h9
  unfold hopsC
  rw [List.length_map]
  exact h9
 refine ⟨hlen, fun i hi => ?_⟩
 have hci := el_mem hi
 have hp := hF.piece _ hci
 have hG := hF.grp hle hci
 obtain ⟨P, hP⟩ : ∃ P, labA (el s (el cs i).1) = P := ⟨_, rfl⟩
 have hhop : el (hopsC m.2 S) i = hopC m.2 S P := by
  unfold hopsC
  rw [el_map (by rw [← hheads, List.length_map]; exact hi), ← hheads, el_map hi, hP]
 rw [hhop, hP]
 rw [hP] at hG
 have hgm : ∀ a, a ∈ pieA s (el cs i) ↔ ∃ q : Nat, q < m.2.length ∧ el S q ≠ noneI ∧ ∃ b ∈ (el m.2 q).2, labA b = P ∧ a = wtA (el S q) b := fun a => by
  rw [hF.mem hci, hmem, hP]
  constructor
  ·rintro ⟨⟨q, hq, h2, b, hb, rfl⟩, h3⟩
   exact ⟨q, hq, h2, b, hb, h3, rfl⟩
  ·rintro ⟨q, hq, h2, b, hb, h3, rfl⟩
   exact ⟨⟨q, hq, h2, b, hb, rfl⟩, h3⟩
 have hgl := pie_len (l := s) (c := el cs i) hp.1
 obtain ⟨g, hg⟩ : ∃ g, pieA s (el cs i) = g := ⟨_, rfl⟩
 rw [hg] at hG hgm hgl ⊢
 rw [← hgl]
 have hg0 : 0 < g.length := by rw [hgl]; exact hp.2.1
 obtain ⟨i0, o0⟩ := P
 have hcos : ∀ (t : Nat) (c : Int), c ∈ cosL m.2 S i0 o0 t ↔ ∃ a ∈ g, a.2.2.2 = (t : Int) ∧ c = a.2.2.1 := fun t c => by
  rw [mem_cosL]
  constructor
  ·rintro ⟨q, hq, h1, b, hb, e1, e2, e3, rfl⟩
   exact ⟨_, (hgm _).2 ⟨q, hq, h1, b, hb, by unfold labA; rw [e1, e2], rfl⟩, e3, by simp only [wtA]; omega⟩
  ·rintro ⟨a, ha, e3, rfl⟩
   obtain ⟨q, hq, h1, b, hb, e1, rfl⟩ := (hgm _).1 ha
   simp only [labA, Prod.mk.injEq] at e1
   exact ⟨q, hq, h1, b, hb, e1.1, e1.2, e3, by simp only [wtA]; omega⟩
 have hto : ∀ a ∈ g, ∃ t : Nat, a.2.2.2 = (t : Int) ∧ t < m.2.length := fun a ha => by
  obtain ⟨q, hq, h1, b, hb, _, rfl⟩ := (hgm _).1 ha
  exact (arc_low hf hq hb).2.2
 have hlow : ∀ t c, c ∈ cosL m.2 S i0 o0 t → 0 ≤ c ∧ c < noneI := fun t c h => by
  have h1 := cos_low hf hS (W := 1000000000) (fun q a ha => by
   by_cases hq : q < m.2.length
   ·exact (arc_low hf hq ha).2.1
   ·rw [show el m.2 q = default by simp [el, List.getElem?_eq_none (Nat.le_of_not_lt hq)]] at ha
    exact absurd ha (by show ¬ a ∈ ([] : List Ar); simp)) h
  omega
 have hW : mnL (g.map fun a => a.2.2.1) = mnL (behL m.2 S i0 o0) := by
  have hge : ∀ a ∈ g, mnL (behL m.2 S i0 o0) ≤ a.2.2.1 := fun a ha => by
   obtain ⟨t, ht, htl⟩ := hto a ha
   have h1 := mnL_le ((hcos t a.2.2.1).2 ⟨a, ha, ht, rfl⟩)
   have h2 : mnL (behL m.2 S i0 o0) ≤ el (behL m.2 S i0 o0) t := mnL_le (el_mem (by rw [beh_len]; exact htl))
   rw [beh_el htl] at h2
   omega
  refine mnL_one (mnL_none _) (fun c hc' => ?_) (.inl ?_)
  ·obtain ⟨a, ha, rfl⟩ := List.mem_map.1 hc'
   exact hge a ha
  ·have ha0 := el_mem hg0
   obtain ⟨t0, ht0, htl0⟩ := hto _ ha0
   have hlt := hge _ ha0
   have hl0 := (hlow t0 _ ((hcos t0 _).2 ⟨_, ha0, ht0, rfl⟩)).2
   rcases mnL_mem (behL m.2 S i0 o0) with h | h
   ·omega
   ·obtain ⟨t, ht, e⟩ := mem_el h
    rw [beh_len] at ht
    rw [beh_el ht] at e
    rcases mnL_mem (cosL m.2 S i0 o0 t) with h1 | h1
    ·omega
    ·rw [e] at h1
     obtain ⟨a, ha, _, e2⟩ := (hcos t _).1 h1
     rw [e2]
     exact List.mem_map.2 ⟨a, ha, rfl⟩
 have hw0 : (hopC m.2 S (i0, o0)).2.2.1 = mnL (behL m.2 S i0 o0) := rfl
 refine ⟨by rw [hgl]; exact hp.1, hg0, rfl, hW.trans hw0.symm, ?_⟩
 rw [hw0]
 have hs4 : (hopC m.2 S (i0, o0)).2.2.2 = subS (behL m.2 S i0 o0) (mnL (behL m.2 S i0 o0)) := rfl
 rw [hs4]
 obtain ⟨x, hx⟩ : ∃ x, mnL (behL m.2 S i0 o0) = x := ⟨_, rfl⟩
 rw [hx]
 refine par_one (hG.pairT x _ (Nat.le_refl _)) fun q => ?_
 have hsl : (subS (behL m.2 S i0 o0) x).length = m.2.length := by simp [subS, behL]
 have hsel : ∀ t, t < m.2.length → el (subS (behL m.2 S i0 o0) x) t = if mnL (cosL m.2 S i0 o0 t) = noneI then noneI else mnL (cosL m.2 S i0 o0 t) - x := fun t ht => by
  rw [sub_el (by rw [beh_len]; exact ht), beh_el ht]
 have hx0 : ∀ t c, c ∈ cosL m.2 S i0 o0 t → t < m.2.length → x ≤ c := fun t c h ht => by
  rw [← hx]
  have h2 : mnL (behL m.2 S i0 o0) ≤ el (behL m.2 S i0 o0) t := mnL_le (el_mem (by rw [beh_len]; exact ht))
  rw [beh_el ht] at h2
  have := mnL_le h
  omega
 have hx00 : 0 ≤ x := by
  rw [← hx]
  rcases mnL_mem (behL m.2 S i0 o0) with h | h
  ·rw [h]; decide
  ·obtain ⟨t, ht, e⟩ := mem_el h
   rw [beh_len] at ht
   rw [beh_el ht] at e
   rcases mnL_mem (cosL m.2 S i0 o0 t) with h1 | h1
   ·rw [← e, h1]; decide
   ·rw [e] at h1
    exact (hlow t _ h1).1
 rw [hG.memT, mem_parL, hsl]
 constructor
 ·rintro ⟨j, hj, hm, rfl⟩
  obtain ⟨t, ht, htl⟩ := hto _ (el_mem hj)
  have hin := (hcos t _).2 ⟨_, el_mem hj, ht, rfl⟩
  have hmn : mnL (cosL m.2 S i0 o0 t) = (el g j).2.2.1 := by
   refine mnL_one (by have := (hlow t _ hin).2; omega) (fun c hc' => ?_) (.inl hin)
   obtain ⟨a, ha, e1, rfl⟩ := (hcos t c).1 hc'
   obtain ⟨k, hk, rfl⟩ := mem_el ha
   exact hm k hk (by rw [e1, ht])
  have h1 := hlow t _ hin
  have hne : (el g j).2.2.1 ≠ noneI := by omega
  have hE : el (subS (behL m.2 S i0 o0) x) t = (el g j).2.2.1 - x := by rw [hsel t htl, hmn, if_neg hne]
  exact ⟨t, htl, by rw [hE]; omega, by rw [hE, ht]⟩
 ·rintro ⟨t, htl, h1, rfl⟩
  have hE := hsel t htl
  by_cases e : mnL (cosL m.2 S i0 o0 t) = noneI
  ·rw [if_pos e] at hE; exact absurd hE h1
  ·rw [if_neg e] at hE
   rcases mnL_mem (cosL m.2 S i0 o0 t) with h | h
   ·exact absurd h e
   ·obtain ⟨a, ha, e1, e2⟩ := (hcos t _).1 h
    obtain ⟨k, hk, rfl⟩ := mem_el ha
    refine ⟨k, hk, fun j hj ej => ?_, ?_⟩
    ·rw [← e2]
     exact mnL_le ((hcos t _).2 ⟨_, el_mem hj, by rw [ej, e1], rfl⟩)
    ·rw [hE, e1, e2]
def fnsP (l : List St) (ps : List Pa) : List Int := ps.flatMap fun p => if (el l p.1.toNat).1 = 1000000001 then [] else [p.2 + (el l p.1.toNat).1]
theorem fnsP_take {l : List St} {ps : List Pa} {k : Nat} (h : k < ps.length) : fnsP l (ps.take (k + 1)) = fnsP l (ps.take k) ++ (if (el l (el ps k).1.toNat).1 = 1000000001 then [] else [(el ps k).2 + (el l (el ps k).1.toNat).1]) := by
 unfold fnsP
 rw [take_el h, List.flatMap_append]
 simp
theorem fnsP_par {l : List St} {S : List Int} (h : S.length = l.length) : fnsP l (parL S) = fnsL l S := by
 unfold fnsP fnsL parL parU
 rw [h, List.flatMap_assoc]
 congr 1
 funext q
 by_cases e : el S q = noneI
 ·rw [if_pos e, if_pos (.inl e)]; rfl
 ·rw [if_neg e]
  by_cases g : (el l q).1 = 1000000001
  ·rw [if_pos (.inr g)]; simp [g]
  ·rw [if_neg (fun k => k.elim e g)]; simp [g]
def toX (y : Int) : Int := if y = noneI then 9223372036854775807 else y
theorem toX_min {y c : Int} (hy : y ≤ noneI) (hc : c < noneI) (hc2 : c < 9223372036854775807) : (if c < toX y then c else toX y) = toX (if c < y then c else y) := by
 unfold toX
 by_cases e : y = noneI
 ·subst e
  rw [if_pos rfl, if_pos hc2, if_pos hc, if_neg (by omega)]
 ·rw [if_neg e]
  by_cases g : c < y
  ·rw [if_pos g, if_neg (by omega)]
  ·rw [if_neg g, if_neg e]
theorem fnsP_step {l : List St} {ps : List Pa} {k : Nat} (h : k < ps.length) {p : Pa} (hp : el ps k = p) {f : Int} (hf : (el l p.1.toNat).1 = f) (h0 : 0 ≤ p.2) (h1 : p.2 ≤ 1000000000000) (f0 : 0 ≤ f) (f1 : f ≤ 1000000001) :
  mnL (fnsP l (ps.take (k + 1))) = if f = 1000000001 then mnL (fnsP l (ps.take k)) else if p.2 + f < mnL (fnsP l (ps.take k)) then p.2 + f else mnL (fnsP l (ps.take k)) := by
 rw [fnsP_take h, hp, hf]
 by_cases e : f = 1000000001
 ·rw [if_pos e, if_pos e, List.append_nil]
 ·rw [if_neg e, if_neg e, mnL_snoc]
  unfold noneI
  omega
end Go.Proofs.YtfhjncpakgailaaGreatDoor.Pl
namespace Go.Proofs.YtfhjncpakgailaaGreatDoor.Wt
open Go.ChangeShapes Go.WideShapes Go.ChangeAt Go.RowKit
open Go.Proofs.YtfhjncpakgailaaGreatDoor.Pl
set_option linter.unusedVariables false
set_option linter.unusedSimpArgs false
set_option maxRecDepth 100000 in
set_option maxHeartbeats 3200000 in
theorem finalOf_any (vm : Value) (m : Mc) (base : Nat) (v : Value) (ps : List Pa) (w : World) (hM : Mach w vm m) (hf : faultM m = 0) (h : OwnP w base v ps) (hs : ∀ p ∈ ps, SmP m.2.length 1000000000000 p) (hl : ps.length ≤ 1000) (r0 r1 : Int) (hr0 : tldN (mnL (fnsP m.2 ps)) = r0) (hr1 : tldE (mnL (fnsP m.2 ps)) = r1) :
  Calls Tryz.prog 100 #[vm, v] w fun e w' => e = .returned (.tuple #[.int .i64 r0, .int .i64 r1]) ∧ Below w.heap.size w w' := by
 obtain ⟨z, l⟩ := m
 simp only at hs hr0 hr1
 obtain ⟨vs, rfl, hSt⟩ := hM
 obtain ⟨a, cap, rfl, hc⟩ := hSt.get
 simp only at hc ⊢
 have HC := hidP hc
 have HFB : Hid (∀ q, q < l.length → 0 ≤ (el l q).1 ∧ (el l q).1 ≤ 1000000001) := fun q hq => by
  have h1 := (right_states hf q hq).1
  simp [finB, inB] at h1
  omega
 have h60 := (right_size hf).1
 have HP := hidP h
 have HEL : Hid (∀ k, k < ps.length → SmP l.length 1000000000000 (el ps k)) := fun k hk => hs _ (el_mem hk)
 have HST : Hid (∀ k, k < ps.length → ∀ p, el ps k = p → ∀ f, (el l p.1.toNat).1 = f → 0 ≤ p.2 → p.2 ≤ 1000000000000 → 0 ≤ f → f ≤ 1000000001 → mnL (fnsP l (ps.take (k + 1))) = if f = 1000000001 then mnL (fnsP l (ps.take k)) else if p.2 + f < mnL (fnsP l (ps.take k)) then p.2 + f else mnL (fnsP l (ps.take k))) := fun k hk p hp f hf h0 h1 f0 f1 => fnsP_step hk hp hf h0 h1 f0 f1
 have HALL : Hid (mnL (fnsP l (ps.take ps.length)) = mnL (fnsP l ps)) := by show _ = _; rw [List.take_length]
 obtain ⟨av, cv, rfl⟩ := h.sl
 have HB0 : Hid (Below w.heap.size w (w.alloc (.cells #[.int .i64 z, .slice a l.length cap] 29))) := (Below.refl _ _).alloc (Nat.le_refl _) _
 have HK0 := hidP (Blk.made w #[.int .i64 z, .slice a l.length cap] 29)
 have HR0 := hidP hr0
 have HR1 := hidP hr1
 clear h hs hc hSt hf hr0 hr1
 obtain ⟨n, hn⟩ : ∃ n, ps.length = n := ⟨_, rfl⟩
 rw [hn] at hl HST HALL HEL ⊢
 have HN := hidP hn
 clear hn
 obtain ⟨nl, hnl⟩ : ∃ nl, l.length = nl := ⟨_, rfl⟩
 rw [hnl] at HC HFB h60 HEL HB0 HK0 ⊢
 clear hnl
 go_enter Tryz.func100, Tryz.ntmps100
 go_wp2
 go_loopw [6, 12] (fun s6 i wr => ∃ (k : Nat) (y : Int), k ≤ n ∧ s6 = .int .i64 (toX y) ∧ i = .int .i64 k ∧ y ≤ noneI ∧ Hid (mnL (fnsP l (ps.take k)) = y) ∧ Hid (Below w.heap.size w wr) ∧ Hid (Blk wr w.heap.size #[.int .i64 z, .slice a nl cap] 29)) (fun _ i _ => n - (intOf i).toNat)
 case atStart => exact ⟨0, noneI, Nat.zero_le _, rfl, rfl, Int.le_refl _, rfl, HB0, HK0⟩
 case round =>
  clear HB0 HK0
  obtain ⟨k, y, hk, rfl, rfl, hyn, hy, hW, hK⟩ := hrel
  obtain ⟨w1, hw1⟩ : ∃ w1, w1 = wr := ⟨_, rfl⟩
  subst hw1
  by_cases hlt : k < n
  ·have k0 : (0 : Int) ≤ (k : Int) := Int.natCast_nonneg _
   have k1 : (k : Int) < (n : Int) := by omega
   obtain ⟨b, off, hab, hbl, c0, c1⟩ := HP.out.cell (j := k) (by rw [HN.out]; exact hlt)
   subst hab
   have c0 := (hW.out.cell (p := ⟨b, off + k * 2, none⟩) hbl).trans c0
   have c1 := (hW.out.cell (p := ⟨b, off + k * 2 + 1, none⟩) hbl).trans c1
   have hsm := HEL.out k hlt
   have HSK := hidP (HST.out k hlt)
   obtain ⟨pk, hpk⟩ : ∃ pk, el ps k = pk := ⟨_, rfl⟩
   rw [hpk] at c0 c1 hsm HSK
   have HSK := hidP (HSK.out pk rfl)
   clear hpk
   obtain ⟨p0, p1⟩ := pk
   simp only [SmP] at hsm c0 c1 HSK
   obtain ⟨t, rfl⟩ : ∃ t : Nat, p0 = (t : Int) := ⟨p0.toNat, by omega⟩
   have t0 : (0 : Int) ≤ (t : Int) := Int.natCast_nonneg _
   have t1 : (t : Int) < (nl : Int) := hsm.2.1
   obtain ⟨b2, off2, va, ha2, hb2, x0, _⟩ := HC.out t (by omega)
   subst ha2
   have x0 := (hW.out.cell (p := ⟨b2, off2 + t * 2, none⟩) hb2).trans x0
   have hfb := HFB.out t (by omega)
   simp only [Int.toNat_natCast] at HSK
   obtain ⟨f, hf⟩ : ∃ f, (el l t).1 = f := ⟨_, rfl⟩
   rw [hf] at x0 hfb
   have HSK := hidP (HSK.out f hf hsm.2.2.1 hsm.2.2.2 hfb.1 hfb.2)
   rw [hy.out] at HSK
   clear hf
   have hlW := hW.out.size
   have hlK := hK.out.lt
   have hA := (Below.refl w1.heap.size w1).alloc (Nat.le_refl _) (.cells #[.int .i64 (t : Int), .int .i64 p1] 84)
   have W1 := hidP (hW.out.trans (hA.mono hW.out.size))
   have K1 := hidP (hK.out.alloc (.cells #[.int .i64 (t : Int), .int .i64 p1] 84))
   have d1 := hK.out.cell 1 (v := .slice (some ⟨b2, off2, none⟩) nl cap) rfl
   have hbw : b2 < w1.heap.size := by omega
   have hbw3 : b < w1.heap.size := by omega
   by_cases e1 : f = 1000000001
   ·rw [if_pos e1] at HSK
    have e1' : (f != 1000000001) = false := by rw [e1]; rfl
    clear e1
    go_wp2
    go_roundw
    case rel => exact ⟨k + 1, y, by omega, rfl, by go_num, hyn, HSK, W1, K1⟩
    case measure => simp [intOf]; omega
   ·rw [if_neg e1] at HSK
    have e1' : (f != 1000000001) = true := by simpa using e1
    have hwr : IntKind.i64.wrap (p1 + f) = p1 + f := wrapI (by omega) (by omega)
    have HMN := hidP (toX_min (y := y) (c := p1 + f) hyn (by unfold noneI; omega) (by omega))
    have hmn : min (toX y) (p1 + f) = toX (if p1 + f < y then p1 + f else y) := by rw [← HMN.out]; split <;> omega
    have hyn2 : (if p1 + f < y then p1 + f else y) ≤ noneI := by split <;> omega
    obtain ⟨y2, hy2⟩ : ∃ y2, (if p1 + f < y then p1 + f else y) = y2 := ⟨_, rfl⟩
    rw [hy2] at HSK HMN hmn hyn2
    clear hy2 e1
    by_cases hlt2 : p1 + f < toX y
    ·have hq : p1 + f = toX y2 := by rw [← HMN.out, if_pos hlt2]
     have HQ := hidP hq
     clear hq hmn
     go_wp2
     go_roundw
     case rel => exact ⟨k + 1, y2, by omega, by rw [HQ.out], by go_num, hyn2, HSK, W1, K1⟩
     case measure => simp [intOf]; omega
    ·have hq : toX y = toX y2 := by rw [← HMN.out, if_neg hlt2]
     have HQ := hidP hq
     clear hq hmn
     go_wp2
     go_roundw
     case rel => exact ⟨k + 1, y2, by omega, by rw [HQ.out], by go_num, hyn2, HSK, W1, K1⟩
     case measure => simp [intOf]; omega
  ·have hk1 : ¬ (k : Int) < (n : Int) := by omega
   obtain rfl : k = n := by omega
   rw [hy.out] at HALL
   rw [← HALL.out] at HR0 HR1
   unfold tldN at HR0
   unfold tldE at HR1
   unfold toX
   by_cases e1 : y = noneI
   ·rw [if_pos e1] at HR0 HR1 ⊢
    have q0 : r0 = 1000000001 := HR0.out.symm
    have q1 : r1 = 0 := HR1.out.symm
    subst q0 q1
    clear e1 hy HALL
    go_wp2
    go_ret2
    exact ⟨rfl, hW.out⟩
   ·rw [if_neg e1] at HR0 HR1 ⊢
    have e1' : (y == 9223372036854775807) = false := by unfold noneI at hyn; simp; omega
    by_cases e2 : 1000000000 < y
    ·rw [if_pos e2] at HR0 HR1
     have q0 : r0 = 0 := HR0.out.symm
     have q1 : r1 = 4 := HR1.out.symm
     subst q0 q1
     clear e1 hy HALL
     go_wp2
     go_ret2
     exact ⟨rfl, hW.out⟩
    ·rw [if_neg e2] at HR0 HR1
     have q0 : r0 = y := HR0.out.symm
     have q1 : r1 = 0 := HR1.out.symm
     subst q0 q1
     clear e1 hy HALL
     go_wp2
     go_ret2
     exact ⟨rfl, hW.out⟩
end Go.Proofs.YtfhjncpakgailaaGreatDoor.Wt
