/- Making certain as the program does: sets as lists of parts, and their texts (no program in sight). Making certain as the program does: a set's arcs in order, cut by their labels, put together (no program in sight). Making certain as the program does: a set's end (no program in sight). Making certain as the program does: the least of arcs, told one by one (no program in sight). Making certain as the program does: sets numbered as lists of parts (no program in sight). -/
import Derived.Test.YtfekmlblldhieaaDoorJ17f
import Derived.Test.YtfekmlblldhieaaDoorJ17g
import Derived.Test.YtfekmlblldhieaaDoorJ17b
namespace Go.Proofs.YtfekmlblldhieaaDoor.Pl
set_option linter.unusedVariables false
set_option linter.unusedSimpArgs false
/-- A part: a state and what is left of it. -/
abbrev Pa := Int × Int
def parU (S : List Int) (k : Nat) : List Pa := (List.range k).flatMap fun q => if el S q = noneI then [] else [((q : Int), el S q)]
def parL (S : List Int) : List Pa := parU S S.length
theorem mem_parU {S : List Int} {k : Nat} {p : Pa} : p ∈ parU S k ↔ ∃ q : Nat, q < k ∧ el S q ≠ noneI ∧ p = ((q : Int), el S q) := by
  unfold parU
  rw [List.mem_flatMap]
  constructor
  · rintro ⟨q, hq, h⟩
    rw [List.mem_range] at hq
    by_cases e : el S q = noneI
    · rw [if_pos e] at h; cases h
    · rw [if_neg e, List.mem_singleton] at h; exact ⟨q, hq, e, h⟩
  · rintro ⟨q, hq, e, rfl⟩
    exact ⟨q, List.mem_range.2 hq, by rw [if_neg e]; simp⟩
theorem parU_succ (S : List Int) (k : Nat) : parU S (k + 1) = parU S k ++ (if el S k = noneI then [] else [((k : Int), el S k)]) := by
  unfold parU
  rw [List.range_succ, List.flatMap_append]
  simp
theorem mem_parL {S : List Int} {p : Pa} : p ∈ parL S ↔ ∃ q : Nat, q < S.length ∧ el S q ≠ noneI ∧ p = ((q : Int), el S q) := mem_parU
theorem parL_inj {S T : List Int} (hl : S.length = T.length) (h : parL S = parL T) : S = T := by
  refine el_ext hl fun q hq => ?_
  by_cases a : el S q = noneI
  · by_cases b : el T q = noneI
    · rw [a, b]
    · exfalso
      have h1 : ((q : Int), el T q) ∈ parL S := by rw [h]; exact mem_parL.2 ⟨q, by omega, b, rfl⟩
      obtain ⟨r, _, h2, h3⟩ := mem_parL.1 h1
      simp only [Prod.mk.injEq] at h3
      have : r = q := by omega
      subst this
      exact h2 a
  · have h1 : ((q : Int), el S q) ∈ parL T := by rw [← h]; exact mem_parL.2 ⟨q, hq, a, rfl⟩
    obtain ⟨r, _, h2, h3⟩ := mem_parL.1 h1
    simp only [Prod.mk.injEq] at h3
    have : r = q := by omega
    subst this
    exact h3.2
theorem parU_pair (S : List Int) (k : Nat) : (parU S k).Pairwise fun a b => a.1 < b.1 := by
  induction k with
  | zero => simp [parU]
  | succ k ih =>
    rw [parU_succ, List.pairwise_append]
    refine ⟨ih, by split <;> simp, fun a ha b hb => ?_⟩
    obtain ⟨q, hq, _, rfl⟩ := mem_parU.1 ha
    split at hb
    · cases hb
    · rw [List.mem_singleton] at hb
      subst hb
      simp only
      omega
theorem parU_len (S : List Int) (k : Nat) : (parU S k).length ≤ k := by
  induction k with
  | zero => simp [parU]
  | succ k ih =>
    rw [parU_succ, List.length_append]
    split <;> simp <;> omega
theorem parL_len (S : List Int) : (parL S).length ≤ S.length := parU_len S _
/-- There is but one such list. -/
theorem par_one {ps : List Pa} {S : List Int} (h1 : ps.Pairwise fun a b => a.1 < b.1) (h2 : ∀ p, p ∈ ps ↔ p ∈ parL S) : ps = parL S := by
  have n1 : ps.Nodup := h1.imp fun {a b} h e => by subst e; omega
  have n2 : (parL S).Nodup := (parU_pair S S.length).imp fun {a b} h e => by subst e; omega
  refine List.Perm.eq_of_pairwise (le := fun a b => a.1 < b.1) ?_ h1 (parU_pair S S.length) ((List.perm_ext_iff_of_nodup n1 n2).2 h2)
  intro a b _ _ g1 g2
  omega
theorem parL_ini {n z : Nat} (hz : z < n) : parL (iniS n z) = [((z : Int), 0)] := by
  refine (par_one (by simp) fun p => ?_).symm
  rw [mem_parL, List.mem_singleton]
  have hl : (iniS n z).length = n := by simp [iniS]
  constructor
  · rintro rfl
    exact ⟨z, by omega, by rw [iniS_el hz hz, if_pos rfl]; decide, by rw [iniS_el hz hz, if_pos rfl]⟩
  · rintro ⟨q, hq, h1, rfl⟩
    rw [hl] at hq
    rw [iniS_el hz hq] at h1 ⊢
    by_cases e : q = z
    · rw [if_pos e, e]
    · rw [if_neg e] at h1; exact absurd rfl h1
/-- A part whose numbers are not too great. -/
def SmP (n : Nat) (B : Int) (p : Pa) : Prop := 0 ≤ p.1 ∧ p.1 < n ∧ 0 ≤ p.2 ∧ p.2 ≤ B
theorem parL_sm {n : Nat} {B : Int} {S : List Int} (h : SetN n B S) : ∀ p ∈ parL S, SmP n B p := fun p hp => by
  obtain ⟨q, hq, h1, rfl⟩ := mem_parL.1 hp
  rw [h.len] at hq
  rcases h.rng q hq with g | g
  · exact absurd g h1
  · exact ⟨by simp only; omega, by simp only; omega, g.1, g.2⟩
/-- Two texts cut at the first byte c. -/
theorem cut_one (c : UInt8) : ∀ (x y r s : List UInt8), (∀ b ∈ x, b ≠ c) → (∀ b ∈ y, b ≠ c) → x ++ c :: r = y ++ c :: s → x = y ∧ r = s
  | [], [], r, s, _, _, h => ⟨rfl, by simpa using h⟩
  | [], b :: y, r, s, _, hy, h => by
    simp only [List.nil_append, List.cons_append, List.cons.injEq] at h
    exact absurd h.1.symm (hy b List.mem_cons_self)
  | b :: x, [], r, s, hx, _, h => by
    simp only [List.nil_append, List.cons_append, List.cons.injEq] at h
    exact absurd h.1 (hx b List.mem_cons_self)
  | b :: x, d :: y, r, s, hx, hy, h => by
    simp only [List.cons_append, List.cons.injEq] at h
    obtain ⟨h1, h2⟩ := cut_one c x y r s (fun z hz => hx z (List.mem_cons_of_mem _ hz)) (fun z hz => hy z (List.mem_cons_of_mem _ hz)) h.2
    exact ⟨by rw [h.1, h1], h2⟩
def dgT (n : Int) : List UInt8 := Lib.decDigits n.toNat
theorem dgT_bytes (n : Int) : ∀ b ∈ dgT n, b ≠ 58 ∧ b ≠ 32 := by
  intro b hb
  have h := (dec_digits n.toNat).1
  rw [List.all_eq_true] at h
  have h1 := digB_true.1 (h b hb)
  constructor
  · rintro rfl
    simp at h1
  · rintro rfl
    simp at h1
theorem dgT_inj {a b : Int} (ha : 0 ≤ a) (hb : 0 ≤ b) (h : dgT a = dgT b) : a = b := by
  have h1 := (dec_digits a.toNat).2.1
  have h2 := (dec_digits b.toNat).2.1
  unfold dgT at h
  rw [h] at h1
  omega
theorem dgT_len {n : Int} (h : n ≤ 9999999999999) : (dgT n).length ≤ 13 := dec_len 12 n.toNat (by omega)
/-- A set's text. -/
def txP (p : Pa) : List UInt8 := dgT p.1 ++ 58 :: (dgT p.2 ++ [32])
def txL (l : List Pa) : List UInt8 := l.flatMap txP
theorem txL_snoc (l : List Pa) (p : Pa) : txL (l ++ [p]) = (((txL l ++ dgT p.1) ++ [58]) ++ dgT p.2) ++ [32] := by
  simp [txL, txP]
theorem txL_inj : ∀ {l r : List Pa}, (∀ p ∈ l, 0 ≤ p.1 ∧ 0 ≤ p.2) → (∀ p ∈ r, 0 ≤ p.1 ∧ 0 ≤ p.2) → txL l = txL r → l = r
  | [], [], _, _, _ => rfl
  | [], q :: r, _, _, h => by
    have h9 := congrArg List.length h
    simp [txL, txP] at h9
  | p :: l, [], _, _, h => by
    have h9 := congrArg List.length h
    simp [txL, txP] at h9
  | p :: l, q :: r, hl, hr, h => by
    have e : dgT p.1 ++ 58 :: (dgT p.2 ++ 32 :: txL l) = dgT q.1 ++ 58 :: (dgT q.2 ++ 32 :: txL r) := by simpa [txL, txP] using h
    obtain ⟨h1, h2⟩ := cut_one 58 _ _ _ _ (fun b hb => (dgT_bytes _ b hb).1) (fun b hb => (dgT_bytes _ b hb).1) e
    obtain ⟨h3, h4⟩ := cut_one 32 _ _ _ _ (fun b hb => (dgT_bytes _ b hb).2) (fun b hb => (dgT_bytes _ b hb).2) h2
    have hp := hl p List.mem_cons_self
    have hq := hr q List.mem_cons_self
    have e1 := dgT_inj hp.1 hq.1 h1
    have e2 := dgT_inj hp.2 hq.2 h3
    have e3 := txL_inj (fun x hx => hl x (List.mem_cons_of_mem _ hx)) (fun x hx => hr x (List.mem_cons_of_mem _ hx)) h4
    rw [e3, Prod.ext e1 e2]
theorem txL_len {l : List Pa} (h : ∀ p ∈ l, p.1 ≤ 9999999999999 ∧ p.2 ≤ 9999999999999) : (txL l).length ≤ l.length * 28 := by
  induction l with
  | nil => simp [txL]
  | cons p l ih =>
    have h1 := ih fun x hx => h x (List.mem_cons_of_mem _ hx)
    have h2 := h p List.mem_cons_self
    have h3 := dgT_len h2.1
    have h4 := dgT_len h2.2
    have e : txL (p :: l) = txP p ++ txL l := rfl
    rw [e, List.length_append]
    simp [txP]
    omega
end Go.Proofs.YtfekmlblldhieaaDoor.Pl
namespace Go.Proofs.YtfekmlblldhieaaDoor.Pl
set_option linter.unusedVariables false
set_option linter.unusedSimpArgs false
/-- A set's arcs, what is left put to their weights. -/
def wtA (x : Int) (a : Ar) : Ar := (a.1, a.2.1, a.2.2.1 + x, a.2.2.2)
def arcW (l : List St) (ps : List Pa) : List Ar := ps.flatMap fun p => (el l p.1.toNat).2.map (wtA p.2)
theorem arcW_snoc (l : List St) (ps : List Pa) (p : Pa) : arcW l (ps ++ [p]) = arcW l ps ++ (el l p.1.toNat).2.map (wtA p.2) := by simp [arcW]
theorem mem_arcW {l : List St} {S : List Int} {a : Ar} : a ∈ arcW l (parL S) ↔ ∃ q : Nat, q < S.length ∧ el S q ≠ noneI ∧ ∃ b ∈ (el l q).2, a = wtA (el S q) b := by
  unfold arcW
  rw [List.mem_flatMap]
  constructor
  · rintro ⟨p, hp, h⟩
    obtain ⟨q, hq, h1, rfl⟩ := mem_parL.1 hp
    obtain ⟨b, hb, rfl⟩ := List.mem_map.1 h
    exact ⟨q, hq, h1, b, by simpa using hb, rfl⟩
  · rintro ⟨q, hq, h1, b, hb, rfl⟩
    exact ⟨_, mem_parL.2 ⟨q, hq, h1, rfl⟩, List.mem_map.2 ⟨b, by simpa using hb, rfl⟩⟩
def labA (a : Ar) : Int × Int := (a.1, a.2.1)
/-- The cuts so far, and where the piece under way begins. -/
def cutS (l : List Ar) : Nat → List (Nat × Nat) × Nat
  | 0 => ([], 0)
  | i + 1 => if labA (el l i) = labA (el l (cutS l i).2) then cutS l i else ((cutS l i).1 ++ [((cutS l i).2, i - (cutS l i).2)], i)
def cutL (l : List Ar) : List (Nat × Nat) := if (cutS l l.length).2 < l.length then (cutS l l.length).1 ++ [((cutS l l.length).2, l.length - (cutS l l.length).2)] else (cutS l l.length).1
def pieA (l : List Ar) (c : Nat × Nat) : List Ar := (l.drop c.1).take c.2
theorem pie_len {l : List Ar} {c : Nat × Nat} (h : c.1 + c.2 ≤ l.length) : (pieA l c).length = c.2 := by
  unfold pieA
  rw [List.length_take, List.length_drop]
  omega
theorem pie_el {l : List Ar} {c : Nat × Nat} {j : Nat} (h : j < c.2) : el (pieA l c) j = el l (c.1 + j) := by
  unfold pieA
  rw [el_take h]
  simp [el]
structure CutI (l : List Ar) (i : Nat) (cs : List (Nat × Nat)) (f : Nat) : Prop where
  le : f ≤ i
  lt : 0 < i → f < i
  same : ∀ j, f ≤ j → j < i → labA (el l j) = labA (el l f)
  low : ∀ j, j < f → ltP (labA (el l j)) (labA (el l f))
  cov : ∀ j, j < f → ∃ c ∈ cs, c.1 ≤ j ∧ j < c.1 + c.2
  piece : ∀ c ∈ cs, c.1 + c.2 ≤ f ∧ 0 < c.2 ∧ ∀ j, c.1 ≤ j → j < c.1 + c.2 → labA (el l j) = labA (el l c.1)
  pair : cs.Pairwise fun c d => ltP (labA (el l c.1)) (labA (el l d.1))
theorem ltP_trans {p q r : Int × Int} (h1 : ltP p q) (h2 : ltP q r) : ltP p r := by
  unfold ltP at *
  omega
theorem leP_lt {p q : Int × Int} (h1 : leP p q) (h2 : p ≠ q) : ltP p q := by
  unfold leP at h1
  unfold ltP
  rcases h1 with h | ⟨h, g⟩
  · exact .inl h
  · refine .inr ⟨h, ?_⟩
    have : p.2 ≠ q.2 := fun e => h2 (Prod.ext h e)
    omega
/-- The piece that is under way, shut. -/
theorem CutI.shut {l : List Ar} {i : Nat} {cs : List (Nat × Nat)} {f : Nat} (h : CutI l i cs f) (hf : f < i) :
    (∀ j, j < i → ∃ c ∈ cs ++ [(f, i - f)], c.1 ≤ j ∧ j < c.1 + c.2) ∧ (∀ c ∈ cs ++ [(f, i - f)], c.1 + c.2 ≤ i ∧ 0 < c.2 ∧ ∀ j, c.1 ≤ j → j < c.1 + c.2 → labA (el l j) = labA (el l c.1)) ∧ (cs ++ [(f, i - f)]).Pairwise fun c d => ltP (labA (el l c.1)) (labA (el l d.1)) := by
  refine ⟨fun j hj => ?_, fun c hc => ?_, ?_⟩
  · by_cases e : j < f
    · obtain ⟨c, hc, h1⟩ := h.cov j e
      exact ⟨c, List.mem_append_left _ hc, h1⟩
    · exact ⟨(f, i - f), by simp, by simp only; omega, by simp only; omega⟩
  · rcases List.mem_append.1 hc with g | g
    · have h1 := h.piece c g
      exact ⟨by omega, h1.2⟩
    · rw [List.mem_singleton] at g
      subst g
      simp only
      exact ⟨by omega, by omega, fun j h1 h2 => h.same j h1 (by omega)⟩
  · rw [List.pairwise_append]
    refine ⟨h.pair, by simp, fun c hc d hd => ?_⟩
    rw [List.mem_singleton] at hd
    subst hd
    have h1 := h.piece c hc
    exact h.low c.1 (by omega)
theorem cut_inv {l : List Ar} (hl : ∀ i j, i < j → j < l.length → leP (labA (el l i)) (labA (el l j))) : ∀ i, i ≤ l.length → CutI l i (cutS l i).1 (cutS l i).2
  | 0, _ => ⟨Nat.le_refl _, fun h => absurd h (by omega), fun j _ h => absurd h (by omega), fun j h => absurd h (by simp [cutS]), fun j h => absurd h (by simp [cutS]), fun c h => by simp [cutS] at h, by simp [cutS]⟩
  | i + 1, hi => by
    have h := cut_inv hl i (by omega)
    unfold cutS
    split
    · rename_i e
      exact ⟨by have := h.le; omega, fun _ => by have := h.le; omega, fun j h1 h2 => by
        by_cases g : j = i
        · rw [g]; exact e
        · exact h.same j h1 (by omega), h.low, h.cov, h.piece, h.pair⟩
    · rename_i e
      have h0 : 0 < i := by
        rcases Nat.eq_zero_or_pos i with g | g
        · subst g; exact absurd rfl e
        · exact g
      have hf := h.lt h0
      obtain ⟨s1, s2, s3⟩ := h.shut hf
      have hlt : ltP (labA (el l (cutS l i).2)) (labA (el l i)) := leP_lt (hl _ _ hf (by omega)) (Ne.symm e)
      refine ⟨by simp only; omega, fun _ => by simp only; omega, fun j h1 h2 => ?_, fun j hj => ?_, s1, s2, s3⟩
      · simp only at h1
        have : j = i := by omega
        rw [this]
      · simp only at hj ⊢
        by_cases g : j < (cutS l i).2
        · exact ltP_trans (h.low j g) hlt
        · rw [h.same j (by omega) hj]; exact hlt
/-- All is cut. -/
structure CutF (l : List Ar) (cs : List (Nat × Nat)) : Prop where
  cov : ∀ j, j < l.length → ∃ c ∈ cs, c.1 ≤ j ∧ j < c.1 + c.2
  piece : ∀ c ∈ cs, c.1 + c.2 ≤ l.length ∧ 0 < c.2 ∧ ∀ j, c.1 ≤ j → j < c.1 + c.2 → labA (el l j) = labA (el l c.1)
  pair : cs.Pairwise fun c d => ltP (labA (el l c.1)) (labA (el l d.1))
theorem cut_all' {l : List Ar} (hl : ∀ i j, i < j → j < l.length → leP (labA (el l i)) (labA (el l j))) : CutF l (cutL l) := by
  have h := cut_inv hl l.length (Nat.le_refl _)
  unfold cutL
  split
  · rename_i hf
    obtain ⟨s1, s2, s3⟩ := h.shut hf
    exact ⟨s1, s2, s3⟩
  · rename_i hf
    exact ⟨fun j hj => h.cov j (by omega), fun c hc => by have h1 := h.piece c hc; have := h.le; exact ⟨by omega, h1.2⟩, h.pair⟩
theorem ltP_ne {p q : Int × Int} (h : ltP p q) : p ≠ q := fun e => by subst e; unfold ltP at h; omega
/-- A piece has just those of its labels. -/
theorem CutF.mem {l : List Ar} {cs : List (Nat × Nat)} (h : CutF l cs) {c : Nat × Nat} (hc : c ∈ cs) {a : Ar} : a ∈ pieA l c ↔ a ∈ l ∧ labA a = labA (el l c.1) := by
  have hp := h.piece c hc
  have hlen := pie_len (l := l) (c := c) hp.1
  constructor
  · intro ha
    obtain ⟨j, hj, e⟩ := mem_el ha
    rw [hlen] at hj
    rw [pie_el hj] at e
    rw [← e]
    exact ⟨el_mem (by omega), hp.2.2 _ (by omega) (by omega)⟩
  · rintro ⟨ha, he⟩
    obtain ⟨j, hj, e⟩ := mem_el ha
    obtain ⟨d, hd, h1, h2⟩ := h.cov j hj
    have h3 := (h.piece d hd).2.2 j h1 h2
    rw [e, he] at h3
    obtain ⟨x, hx, ex⟩ := mem_el hc
    obtain ⟨y, hy, ey⟩ := mem_el hd
    have hxy : x = y := by
      rcases Nat.lt_trichotomy x y with g | g | g
      · have h4 := List.pairwise_iff_getElem.1 h.pair x y hx hy g
        rw [← el_get hx, ← el_get hy, ex, ey] at h4
        exact absurd h3 (ltP_ne h4)
      · exact g
      · have h4 := List.pairwise_iff_getElem.1 h.pair y x hy hx g
        rw [← el_get hx, ← el_get hy, ex, ey] at h4
        exact absurd h3.symm (ltP_ne h4)
    subst hxy
    rw [ex] at ey
    subst ey
    have h5 : el (pieA l c) (j - c.1) = a := by
      rw [pie_el (by omega), ← e]
      congr 1
      omega
    rw [← h5]
    exact el_mem (by rw [hlen]; omega)
/-- Arcs of one pair of labels, in order. -/
structure Grp (g : List Ar) (p : Int × Int) : Prop where
  lab : ∀ i, i < g.length → labA (el g i) = p
  ord : ∀ i j, i < j → j < g.length → (el g i).2.2.2 < (el g j).2.2.2 ∨ (el g i).2.2.2 = (el g j).2.2.2 ∧ (el g i).2.2.1 ≤ (el g j).2.2.1
theorem CutF.grp {l : List Ar} {cs : List (Nat × Nat)} (h : CutF l cs) (hl : ∀ i j, i < j → j < l.length → leB (el l i) (el l j) = true) {c : Nat × Nat} (hc : c ∈ cs) : Grp (pieA l c) (labA (el l c.1)) := by
  have hp := h.piece c hc
  have hlen := pie_len (l := l) (c := c) hp.1
  refine ⟨fun i hi => ?_, fun i j hij hj => ?_⟩
  · rw [hlen] at hi
    rw [pie_el hi]
    exact hp.2.2 _ (by omega) (by omega)
  · rw [hlen] at hj
    rw [pie_el (by omega), pie_el hj]
    have h1 := hl (c.1 + i) (c.1 + j) (by omega) (by omega)
    have h2 := (hp.2.2 (c.1 + i) (by omega) (by omega)).trans (hp.2.2 (c.1 + j) (by omega) (by omega)).symm
    simp only [labA, Prod.mk.injEq] at h2
    simp only [leB, Bool.not_eq_true', aheadB_false] at h1
    omega
/-- What they lead to, each once, for its least. -/
def tgU (g : List Ar) (c : Int) (k : Nat) : List Pa := (List.range k).flatMap fun i => if i = 0 ∨ (el g i).2.2.2 ≠ (el g (i - 1)).2.2.2 then [((el g i).2.2.2, (el g i).2.2.1 - c)] else []
theorem tgU_succ (g : List Ar) (c : Int) (k : Nat) : tgU g c (k + 1) = tgU g c k ++ (if k = 0 ∨ (el g k).2.2.2 ≠ (el g (k - 1)).2.2.2 then [((el g k).2.2.2, (el g k).2.2.1 - c)] else []) := by
  unfold tgU
  rw [List.range_succ, List.flatMap_append]
  simp
theorem mem_tgU {g : List Ar} {c : Int} {k : Nat} {q : Pa} : q ∈ tgU g c k ↔ ∃ i, i < k ∧ (i = 0 ∨ (el g i).2.2.2 ≠ (el g (i - 1)).2.2.2) ∧ q = ((el g i).2.2.2, (el g i).2.2.1 - c) := by
  unfold tgU
  rw [List.mem_flatMap]
  constructor
  · rintro ⟨i, hi, h⟩
    rw [List.mem_range] at hi
    by_cases e : i = 0 ∨ (el g i).2.2.2 ≠ (el g (i - 1)).2.2.2
    · rw [if_pos e, List.mem_singleton] at h; exact ⟨i, hi, e, h⟩
    · rw [if_neg e] at h; cases h
  · rintro ⟨i, hi, e, rfl⟩
    exact ⟨i, List.mem_range.2 hi, by rw [if_pos e]; simp⟩
theorem tgU_len (g : List Ar) (c : Int) (k : Nat) : (tgU g c k).length ≤ k := by
  induction k with
  | zero => simp [tgU]
  | succ k ih =>
    rw [tgU_succ, List.length_append]
    split <;> simp <;> omega
theorem Grp.to_le {g : List Ar} {p : Int × Int} (h : Grp g p) {i j : Nat} (hij : i ≤ j) (hj : j < g.length) : (el g i).2.2.2 ≤ (el g j).2.2.2 := by
  rcases Nat.lt_or_eq_of_le hij with e | e
  · rcases h.ord i j e hj with h | h <;> omega
  · subst e; exact Int.le_refl _
theorem Grp.pairT {g : List Ar} {p : Int × Int} (h : Grp g p) (c : Int) : ∀ k, k ≤ g.length → (tgU g c k).Pairwise fun a b => a.1 < b.1
  | 0, _ => by simp [tgU]
  | k + 1, hk => by
    rw [tgU_succ, List.pairwise_append]
    refine ⟨h.pairT c k (by omega), by split <;> simp, fun a ha b hb => ?_⟩
    obtain ⟨i, hi, _, rfl⟩ := mem_tgU.1 ha
    split at hb
    · rename_i e
      rw [List.mem_singleton] at hb
      subst hb
      simp only
      rcases e with e | e
      · omega
      · have h1 := h.to_le (i := i) (j := k - 1) (by omega) (by omega)
        have h2 := h.to_le (i := k - 1) (j := k) (by omega) (by omega)
        omega
    · cases hb
theorem first_to (g : List Ar) : ∀ i, ∃ k, k ≤ i ∧ (el g k).2.2.2 = (el g i).2.2.2 ∧ (k = 0 ∨ (el g k).2.2.2 ≠ (el g (k - 1)).2.2.2)
  | 0 => ⟨0, Nat.le_refl _, rfl, .inl rfl⟩
  | i + 1 => by
    by_cases e : (el g (i + 1)).2.2.2 = (el g i).2.2.2
    · obtain ⟨k, h1, h2, h3⟩ := first_to g i
      exact ⟨k, by omega, h2.trans e.symm, h3⟩
    · exact ⟨i + 1, Nat.le_refl _, rfl, .inr (by simpa using e)⟩
theorem Grp.memT {g : List Ar} {p : Int × Int} (h : Grp g p) {c : Int} {q : Pa} : q ∈ tgU g c g.length ↔ ∃ i, i < g.length ∧ (∀ j, j < g.length → (el g j).2.2.2 = (el g i).2.2.2 → (el g i).2.2.1 ≤ (el g j).2.2.1) ∧ q = ((el g i).2.2.2, (el g i).2.2.1 - c) := by
  rw [mem_tgU]
  constructor
  · rintro ⟨i, hi, e, rfl⟩
    refine ⟨i, hi, fun j hj ej => ?_, rfl⟩
    rcases Nat.lt_trichotomy i j with g1 | g1 | g1
    · rcases h.ord i j g1 hj with k | k <;> omega
    · subst g1; exact Int.le_refl _
    · exfalso
      rcases e with e | e
      · omega
      · have h1 := h.to_le (i := j) (j := i - 1) (by omega) (by omega)
        have h2 := h.to_le (i := i - 1) (j := i) (by omega) hi
        omega
  · rintro ⟨i, hi, hm, rfl⟩
    obtain ⟨k, h1, h2, h3⟩ := first_to g i
    refine ⟨k, by omega, h3, ?_⟩
    have h4 := hm k (by omega) h2
    have h5 : (el g k).2.2.1 = (el g i).2.2.1 := by
      rcases Nat.lt_or_eq_of_le h1 with e | e
      · rcases h.ord k i e hi with g1 | g1 <;> omega
      · rw [e]
    rw [h2, h5]
theorem cut_hops {m : Mc} {S : List Int} {B : Int} (hf : faultM m = 0) (hS : SetN m.2.length B S) (hB : B + 1000000000 < noneI) {s : List Ar} (hs : sortL (arcW m.2 (parL S)) = s) {cs : List (Nat × Nat)} (hc : cutL s = cs) :
    cs.length = (hopsC m.2 S).length ∧ ∀ i, i < cs.length → (el cs i).1 + (el cs i).2 ≤ s.length ∧ 0 < (el cs i).2 ∧ labA (el s (el cs i).1) = ((el (hopsC m.2 S) i).1, (el (hopsC m.2 S) i).2.1) ∧ mnL ((pieA s (el cs i)).map fun a => a.2.2.1) = (el (hopsC m.2 S) i).2.2.1 ∧ tgU (pieA s (el cs i)) (el (hopsC m.2 S) i).2.2.1 (el cs i).2 = parL (el (hopsC m.2 S) i).2.2.2 := by
  have hpw := sortL_pair (arcW m.2 (parL S))
  rw [hs] at hpw
  have hle : ∀ i j, i < j → j < s.length → leB (el s i) (el s j) = true := fun i j hij hj => by
    have h9 := List.pairwise_iff_getElem.1 hpw i j (by omega) hj hij
    rwa [← el_get, ← el_get] at h9
  have hlp : ∀ i j, i < j → j < s.length → leP (labA (el s i)) (labA (el s j)) := fun i j hij hj => by
    have h9 := hle i j hij hj
    simp only [leB, Bool.not_eq_true', aheadB_false] at h9
    unfold leP labA
    simp only
    omega
  have hF := cut_all' hlp
  rw [hc] at hF
  have hmem : ∀ a, a ∈ s ↔ ∃ q : Nat, q < m.2.length ∧ el S q ≠ noneI ∧ ∃ b ∈ (el m.2 q).2, a = wtA (el S q) b := fun a => by
    rw [← hs, (sortL_perm _).mem_iff, mem_arcW, hS.len]
  have hheads : cs.map (fun c => labA (el s c.1)) = prsL m.2 S := by
    refine prsL_one (by rw [List.pairwise_map]; exact hF.pair) fun p => ?_
    rw [List.mem_map]
    constructor
    · rintro ⟨c, hcc, rfl⟩
      have h1 := hF.piece c hcc
      obtain ⟨q, hq, h2, b, hb, e⟩ := (hmem _).1 (el_mem (l := s) (j := c.1) (by omega))
      exact ⟨q, hq, h2, b, hb, by rw [e]; rfl⟩
    · rintro ⟨q, hq, h2, b, hb, rfl⟩
      obtain ⟨j, hj, e⟩ := mem_el ((hmem (wtA (el S q) b)).2 ⟨q, hq, h2, b, hb, rfl⟩)
      obtain ⟨c, hcc, h3, h4⟩ := hF.cov j hj
      exact ⟨c, hcc, by rw [← (hF.piece c hcc).2.2 j h3 h4, e]; rfl⟩
  have hlen : cs.length = (hopsC m.2 S).length := by
    have h9 := congrArg List.length hheads
    rw [List.length_map] at h9
    unfold hopsC
    rw [List.length_map]
    exact h9
  refine ⟨hlen, fun i hi => ?_⟩
  have hci := el_mem hi
  have hp := hF.piece _ hci
  have hG := hF.grp hle hci
  obtain ⟨P, hP⟩ : ∃ P, labA (el s (el cs i).1) = P := ⟨_, rfl⟩
  have hhop : el (hopsC m.2 S) i = hopC m.2 S P := by
    unfold hopsC
    rw [el_map (by rw [← hheads, List.length_map]; exact hi), ← hheads, el_map hi, hP]
  rw [hhop, hP]
  rw [hP] at hG
  have hgm : ∀ a, a ∈ pieA s (el cs i) ↔ ∃ q : Nat, q < m.2.length ∧ el S q ≠ noneI ∧ ∃ b ∈ (el m.2 q).2, labA b = P ∧ a = wtA (el S q) b := fun a => by
    rw [hF.mem hci, hmem, hP]
    constructor
    · rintro ⟨⟨q, hq, h2, b, hb, rfl⟩, h3⟩
      exact ⟨q, hq, h2, b, hb, h3, rfl⟩
    · rintro ⟨q, hq, h2, b, hb, h3, rfl⟩
      exact ⟨⟨q, hq, h2, b, hb, rfl⟩, h3⟩
  have hgl := pie_len (l := s) (c := el cs i) hp.1
  obtain ⟨g, hg⟩ : ∃ g, pieA s (el cs i) = g := ⟨_, rfl⟩
  rw [hg] at hG hgm hgl ⊢
  rw [← hgl]
  have hg0 : 0 < g.length := by rw [hgl]; exact hp.2.1
  obtain ⟨i0, o0⟩ := P
  have hcos : ∀ (t : Nat) (c : Int), c ∈ cosL m.2 S i0 o0 t ↔ ∃ a ∈ g, a.2.2.2 = (t : Int) ∧ c = a.2.2.1 := fun t c => by
    rw [mem_cosL]
    constructor
    · rintro ⟨q, hq, h1, b, hb, e1, e2, e3, rfl⟩
      exact ⟨_, (hgm _).2 ⟨q, hq, h1, b, hb, by unfold labA; rw [e1, e2], rfl⟩, e3, by simp only [wtA]; omega⟩
    · rintro ⟨a, ha, e3, rfl⟩
      obtain ⟨q, hq, h1, b, hb, e1, rfl⟩ := (hgm _).1 ha
      simp only [labA, Prod.mk.injEq] at e1
      exact ⟨q, hq, h1, b, hb, e1.1, e1.2, e3, by simp only [wtA]; omega⟩
  have hto : ∀ a ∈ g, ∃ t : Nat, a.2.2.2 = (t : Int) ∧ t < m.2.length := fun a ha => by
    obtain ⟨q, hq, h1, b, hb, _, rfl⟩ := (hgm _).1 ha
    exact (arc_low hf hq hb).2.2
  have hlow : ∀ t c, c ∈ cosL m.2 S i0 o0 t → 0 ≤ c ∧ c < noneI := fun t c h => by
    have h1 := cos_low hf hS (W := 1000000000) (fun q a ha => by
      by_cases hq : q < m.2.length
      · exact (arc_low hf hq ha).2.1
      · rw [show el m.2 q = default by simp [el, List.getElem?_eq_none (Nat.le_of_not_lt hq)]] at ha
        exact absurd ha (by show ¬ a ∈ ([] : List Ar); simp)) h
    omega
  have hW : mnL (g.map fun a => a.2.2.1) = mnL (behL m.2 S i0 o0) := by
    have hge : ∀ a ∈ g, mnL (behL m.2 S i0 o0) ≤ a.2.2.1 := fun a ha => by
      obtain ⟨t, ht, htl⟩ := hto a ha
      have h1 := mnL_le ((hcos t a.2.2.1).2 ⟨a, ha, ht, rfl⟩)
      have h2 : mnL (behL m.2 S i0 o0) ≤ el (behL m.2 S i0 o0) t := mnL_le (el_mem (by rw [beh_len]; exact htl))
      rw [beh_el htl] at h2
      omega
    refine mnL_one (mnL_none _) (fun c hc' => ?_) (.inl ?_)
    · obtain ⟨a, ha, rfl⟩ := List.mem_map.1 hc'
      exact hge a ha
    · have ha0 := el_mem hg0
      obtain ⟨t0, ht0, htl0⟩ := hto _ ha0
      have hlt := hge _ ha0
      have hl0 := (hlow t0 _ ((hcos t0 _).2 ⟨_, ha0, ht0, rfl⟩)).2
      rcases mnL_mem (behL m.2 S i0 o0) with h | h
      · omega
      · obtain ⟨t, ht, e⟩ := mem_el h
        rw [beh_len] at ht
        rw [beh_el ht] at e
        rcases mnL_mem (cosL m.2 S i0 o0 t) with h1 | h1
        · omega
        · rw [e] at h1
          obtain ⟨a, ha, _, e2⟩ := (hcos t _).1 h1
          rw [e2]
          exact List.mem_map.2 ⟨a, ha, rfl⟩
  have hw0 : (hopC m.2 S (i0, o0)).2.2.1 = mnL (behL m.2 S i0 o0) := rfl
  refine ⟨by rw [hgl]; exact hp.1, hg0, rfl, hW.trans hw0.symm, ?_⟩
  rw [hw0]
  have hs4 : (hopC m.2 S (i0, o0)).2.2.2 = subS (behL m.2 S i0 o0) (mnL (behL m.2 S i0 o0)) := rfl
  rw [hs4]
  obtain ⟨x, hx⟩ : ∃ x, mnL (behL m.2 S i0 o0) = x := ⟨_, rfl⟩
  rw [hx]
  refine par_one (hG.pairT x _ (Nat.le_refl _)) fun q => ?_
  have hsl : (subS (behL m.2 S i0 o0) x).length = m.2.length := by simp [subS, behL]
  have hsel : ∀ t, t < m.2.length → el (subS (behL m.2 S i0 o0) x) t = if mnL (cosL m.2 S i0 o0 t) = noneI then noneI else mnL (cosL m.2 S i0 o0 t) - x := fun t ht => by
    rw [sub_el (by rw [beh_len]; exact ht), beh_el ht]
  have hx0 : ∀ t c, c ∈ cosL m.2 S i0 o0 t → t < m.2.length → x ≤ c := fun t c h ht => by
    rw [← hx]
    have h2 : mnL (behL m.2 S i0 o0) ≤ el (behL m.2 S i0 o0) t := mnL_le (el_mem (by rw [beh_len]; exact ht))
    rw [beh_el ht] at h2
    have := mnL_le h
    omega
  have hx00 : 0 ≤ x := by
    rw [← hx]
    rcases mnL_mem (behL m.2 S i0 o0) with h | h
    · rw [h]; decide
    · obtain ⟨t, ht, e⟩ := mem_el h
      rw [beh_len] at ht
      rw [beh_el ht] at e
      rcases mnL_mem (cosL m.2 S i0 o0 t) with h1 | h1
      · rw [← e, h1]; decide
      · rw [e] at h1
        exact (hlow t _ h1).1
  rw [hG.memT, mem_parL, hsl]
  constructor
  · rintro ⟨j, hj, hm, rfl⟩
    obtain ⟨t, ht, htl⟩ := hto _ (el_mem hj)
    have hin := (hcos t _).2 ⟨_, el_mem hj, ht, rfl⟩
    have hmn : mnL (cosL m.2 S i0 o0 t) = (el g j).2.2.1 := by
      refine mnL_one (by have := (hlow t _ hin).2; omega) (fun c hc' => ?_) (.inl hin)
      obtain ⟨a, ha, e1, rfl⟩ := (hcos t c).1 hc'
      obtain ⟨k, hk, rfl⟩ := mem_el ha
      exact hm k hk (by rw [e1, ht])
    have h1 := hlow t _ hin
    have hne : (el g j).2.2.1 ≠ noneI := by omega
    have hE : el (subS (behL m.2 S i0 o0) x) t = (el g j).2.2.1 - x := by rw [hsel t htl, hmn, if_neg hne]
    exact ⟨t, htl, by rw [hE]; omega, by rw [hE, ht]⟩
  · rintro ⟨t, htl, h1, rfl⟩
    have hE := hsel t htl
    by_cases e : mnL (cosL m.2 S i0 o0 t) = noneI
    · rw [if_pos e] at hE; exact absurd hE h1
    · rw [if_neg e] at hE
      rcases mnL_mem (cosL m.2 S i0 o0 t) with h | h
      · exact absurd h e
      · obtain ⟨a, ha, e1, e2⟩ := (hcos t _).1 h
        obtain ⟨k, hk, rfl⟩ := mem_el ha
        refine ⟨k, hk, fun j hj ej => ?_, ?_⟩
        · rw [← e2]
          exact mnL_le ((hcos t _).2 ⟨_, el_mem hj, by rw [ej, e1], rfl⟩)
        · rw [hE, e1, e2]
end Go.Proofs.YtfekmlblldhieaaDoor.Pl
namespace Go.Proofs.YtfekmlblldhieaaDoor.Pl
set_option linter.unusedVariables false
set_option linter.unusedSimpArgs false
/-- What ends a set costs. -/
def fnsP (l : List St) (ps : List Pa) : List Int := ps.flatMap fun p => if (el l p.1.toNat).1 = 1000000001 then [] else [p.2 + (el l p.1.toNat).1]
theorem fnsP_take {l : List St} {ps : List Pa} {k : Nat} (h : k < ps.length) : fnsP l (ps.take (k + 1)) = fnsP l (ps.take k) ++ (if (el l (el ps k).1.toNat).1 = 1000000001 then [] else [(el ps k).2 + (el l (el ps k).1.toNat).1]) := by
  unfold fnsP
  rw [take_el h, List.flatMap_append]
  simp
theorem fnsP_par {l : List St} {S : List Int} (h : S.length = l.length) : fnsP l (parL S) = fnsL l S := by
  unfold fnsP fnsL parL parU
  rw [h, List.flatMap_assoc]
  congr 1
  funext q
  by_cases e : el S q = noneI
  · rw [if_pos e, if_pos (.inl e)]; rfl
  · rw [if_neg e]
    by_cases g : (el l q).1 = 1000000001
    · rw [if_pos (.inr g)]; simp [g]
    · rw [if_neg (fun k => k.elim e g)]; simp [g]
/-- The program's number for none. -/
def toX (y : Int) : Int := if y = noneI then 9223372036854775807 else y
theorem toX_min {y c : Int} (hy : y ≤ noneI) (hc : c < noneI) (hc2 : c < 9223372036854775807) : (if c < toX y then c else toX y) = toX (if c < y then c else y) := by
  unfold toX
  by_cases e : y = noneI
  · subst e
    rw [if_pos rfl, if_pos hc2, if_pos hc, if_neg (by omega)]
  · rw [if_neg e]
    by_cases g : c < y
    · rw [if_pos g, if_neg (by omega)]
    · rw [if_neg g, if_neg e]
theorem fnsP_step {l : List St} {ps : List Pa} {k : Nat} (h : k < ps.length) {p : Pa} (hp : el ps k = p) {f : Int} (hf : (el l p.1.toNat).1 = f) (h0 : 0 ≤ p.2) (h1 : p.2 ≤ 1000000000000) (f0 : 0 ≤ f) (f1 : f ≤ 1000000001) :
    mnL (fnsP l (ps.take (k + 1))) = if f = 1000000001 then mnL (fnsP l (ps.take k)) else if p.2 + f < mnL (fnsP l (ps.take k)) then p.2 + f else mnL (fnsP l (ps.take k)) := by
  rw [fnsP_take h, hp, hf]
  by_cases e : f = 1000000001
  · rw [if_pos e, if_pos e, List.append_nil]
  · rw [if_neg e, if_neg e, mnL_snoc]
    unfold noneI
    omega
end Go.Proofs.YtfekmlblldhieaaDoor.Pl
namespace Go.Proofs.YtfekmlblldhieaaDoor.Pl
set_option linter.unusedVariables false
set_option linter.unusedSimpArgs false
/-- The least weight of the first one and of those ahead of k. -/
def lsU (g : List Ar) (k : Nat) : Int := mnL ((el g 0).2.2.1 :: (g.take k).map fun a => a.2.2.1)
theorem lsU_zero {g : List Ar} (h : (el g 0).2.2.1 < noneI) : lsU g 0 = (el g 0).2.2.1 := by
  unfold lsU
  simp only [List.take_zero, List.map_nil, mnL]
  rw [if_pos h]
theorem lsU_succ {g : List Ar} {k : Nat} (hk : k < g.length) (h : (el g k).2.2.1 ≤ noneI) : lsU g (k + 1) = if (el g k).2.2.1 < lsU g k then (el g k).2.2.1 else lsU g k := by
  unfold lsU
  rw [take_el hk, List.map_append]
  exact mnL_snoc ((el g 0).2.2.1 :: (g.take k).map fun a => a.2.2.1) _ h
theorem lsU_all {g : List Ar} (h0 : 0 < g.length) : lsU g g.length = mnL (g.map fun a => a.2.2.1) := by
  unfold lsU
  rw [List.take_length]
  simp only [mnL]
  have h1 := mnL_le (List.mem_map.2 ⟨el g 0, el_mem h0, rfl⟩ : (el g 0).2.2.1 ∈ g.map fun a => a.2.2.1)
  rw [if_neg (by omega)]
theorem tgU_ne {g : List Ar} {c : Int} {k : Nat} (h : 0 < k) : tgU g c k ≠ [] := fun e => by
  have h1 : ((el g 0).2.2.2, (el g 0).2.2.1 - c) ∈ tgU g c k := mem_tgU.2 ⟨0, h, .inl rfl, rfl⟩
  rw [e] at h1
  cases h1
end Go.Proofs.YtfekmlblldhieaaDoor.Pl
namespace Go.Proofs.YtfekmlblldhieaaDoor.Pl
set_option linter.unusedVariables false
set_option linter.unusedSimpArgs false
theorem par_mem {n : Nat} {L : List (List Int)} {R : List Int} (hL : ∀ T ∈ L, T.length = n) (hR : R.length = n) : parL R ∈ L.map parL ↔ R ∈ L := by
  constructor
  · intro h
    obtain ⟨T, hT, e⟩ := List.mem_map.1 h
    have := parL_inj ((hL T hT).trans hR.symm) e
    rwa [← this]
  · exact fun h => List.mem_map.2 ⟨R, h, rfl⟩
theorem addG_par {n : Nat} {L : List (List Int)} {R : List Int} (hL : ∀ T ∈ L, T.length = n) (hR : R.length = n) : addG (L.map parL) (parL R) = (addG L R).map parL := by
  unfold addG
  by_cases h : R ∈ L
  · rw [if_pos h, if_pos ((par_mem hL hR).2 h)]
  · rw [if_neg h, if_neg (fun g => h ((par_mem hL hR).1 g)), List.map_append]
    rfl
theorem nodup_par {n : Nat} {L : List (List Int)} (hL : ∀ T ∈ L, T.length = n) (hN : L.Nodup) : (L.map parL).Nodup := by
  rw [List.nodup_iff_pairwise_ne, List.pairwise_map]
  exact hN.imp_of_mem fun {x y} hx hy hxy e => hxy (parL_inj ((hL x hx).trans (hL y hy).symm) e)
theorem arcG_par {n : Nat} {L : List (List Int)} {R : List Int} (hL : ∀ T ∈ L, T.length = n) (hR : R.length = n) (hN : L.Nodup) {jx : Nat} (h1 : parL R ∈ L.map parL → jx < (L.map parL).length ∧ el (L.map parL) jx = parL R) (h2 : parL R ∉ L.map parL → jx = (L.map parL).length) (x0 x1 c : Int) : arcG L (x0, x1, c, R) = (x0, x1, c, (jx : Int)) := by
  unfold arcG
  simp only
  by_cases h : R ∈ L
  · obtain ⟨g1, g2⟩ := h1 ((par_mem hL hR).2 h)
    rw [List.length_map] at g1
    rw [el_map g1] at g2
    have e := parL_inj ((hL _ (el_mem g1)).trans hR.symm) g2
    have h9 := idxG_el hN g1
    rw [e] at h9
    rw [h9]
  · have g1 := h2 (fun g => h ((par_mem hL hR).1 g))
    rw [List.length_map] at g1
    rw [idxG_new h, g1]
/-- What is known of the hops of a set. -/
theorem hops_good {m : Mc} {T : List Int} (hf : faultM m = 0) (hT : SetN m.2.length 60000000000 T) {i : Nat} (hi : i < (hopsC m.2 T).length) : SetN m.2.length 100000000000 (el (hopsC m.2 T) i).2.2.2 ∧ 0 ≤ (el (hopsC m.2 T) i).2.2.1 ∧ (el (hopsC m.2 T) i).2.2.1 ≤ 100000000000 := by
  have hi' : i < (prsL m.2 T).length := by unfold hopsC at hi; rwa [List.length_map] at hi
  have e : el (hopsC m.2 T) i = hopC m.2 T (el (prsL m.2 T) i) := by unfold hopsC; rw [el_map hi']
  rw [e]
  have h1 := hop_facts hf hT (W := 1000000000) (fun q a ha => (arc_low hf (el_in ha) ha).2.1) (by unfold noneI; omega) (el_mem hi')
  exact ⟨h1.2.2.1.mono (by omega), h1.1, by have := h1.2.1; omega⟩
theorem hpL_good {P : List Int → Prop} {hs : List (Hg (List Int))} {L : List (List Int)} (h1 : ∀ T ∈ L, P T) (h2 : ∀ i, i < hs.length → P (el hs i).2.2.2) : ∀ i, i ≤ hs.length → ∀ T ∈ hpL hs L i, P T
  | 0, _ => h1
  | i + 1, hi => fun T hT => by
    have e : hpL hs L (i + 1) = addG (hpL hs L i) (el hs i).2.2.2 := rfl
    rw [e] at hT
    unfold addG at hT
    split at hT
    · exact hpL_good h1 h2 i (by omega) T hT
    · rcases List.mem_append.1 hT with g | g
      · exact hpL_good h1 h2 i (by omega) T g
      · rw [List.mem_singleton] at g
        rw [g]
        exact h2 i (by omega)
theorem arcW_pos {m : Mc} {T : List Int} (hf : faultM m = 0) (hT : SetN m.2.length 60000000000 T) : ∀ a ∈ sortL (arcW m.2 (parL T)), 0 ≤ a.2.2.1 ∧ a.2.2.1 ≤ 2000000000000 := fun a ha => by
  rw [(sortL_perm _).mem_iff, mem_arcW] at ha
  obtain ⟨q, hq, h1, b, hb, rfl⟩ := ha
  rw [hT.len] at hq
  have h2 := arc_low hf hq hb
  rcases hT.rng q hq with g | g
  · exact absurd g h1
  · simp only [wtA]
    omega
theorem sort_leP (l : List Ar) : ∀ i j, i < j → j < (sortL l).length → leP (labA (el (sortL l) i)) (labA (el (sortL l) j)) := fun i j hij hj => by
  have h9 := List.pairwise_iff_getElem.1 (sortL_pair l) i j (by omega) hj hij
  rw [← el_get, ← el_get] at h9
  simp only [leB, Bool.not_eq_true', aheadB_false] at h9
  unfold leP labA
  simp only
  omega
end Go.Proofs.YtfekmlblldhieaaDoor.Pl
