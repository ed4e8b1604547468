/- Composing chains: of all ways to mix what is empty just one is left (no program in sight). Two chains, composed: one path or none (no program in sight). Arranged, merged or trimmed a machine costs the same (no program in sight). Trimmed, a machine without cycles has as many paths (no program in sight). OF ALL WAYS TO MIX WHAT IS EMPTY JUST ONE IS LEFT: two chains, composed and trimmed (no program in sight). Machines with one path, as the keeping statements make them (no program in sight). -/
import Derived.Test.YthcfkiinjcbajaaJ16f
import Derived.Test.YthcfkiinjcbajaaJ16d
import Derived.Test.YthcfkiinjcbajaaJ16c
import Derived.Test.YthcfkiinjcbajaaJ16a
import Derived.Test.YthcfkiinjcbajaaJ16e
namespace Go.Proofs.Ythcfkiinjcbajaa.Pl
set_option linter.unusedVariables false
set_option linter.unusedSimpArgs false
/-- The labels of a list. -/
def nzL (l : List Int) : List Int := l.filter (fun n => n != 0)
/-- No empty one comes first. -/
def nozB : List Int → Bool
  | [] => true
  | x :: _ => x != 0
/-- How many paths are left: a has yet to write A, b to read B, the filter stands at f. -/
def gvN (A B : List Int) (f : Int) : Nat := if nzL A = nzL B ∧ (f = 1 → nozB B = true) ∧ (f = 2 → nozB A = true) then 1 else 0
theorem nzL_zero (l : List Int) : nzL (0 :: l) = nzL l := by simp [nzL]
theorem nzL_lab {x : Int} (h : x ≠ 0) (l : List Int) : nzL (x :: l) = x :: nzL l := by simp [nzL, h]
/-- The steps that a pair of chains may take. -/
def gvM (A B : List Int) (f : Int) : Nat := match A, B with
  | x :: A', y :: B' => if x = y ∧ (0 < x ∨ f = 0) then gvN A' B' 0 else 0
  | _, _ => 0
def gvL (A B : List Int) (f : Int) : Nat := match A with
  | x :: A' => if x = 0 ∧ f ≠ 2 then gvN A' B 1 else 0
  | [] => 0
def gvR (A B : List Int) (f : Int) : Nat := match B with
  | y :: B' => if y = 0 ∧ f ≠ 1 then gvN A B' 2 else 0
  | [] => 0
theorem gv_step (A B : List Int) (f : Int) (hA : ∀ x ∈ A, 0 ≤ x) (hB : ∀ x ∈ B, 0 ≤ x) (hf : f = 0 ∨ f = 1 ∨ f = 2) : gvN A B f = (if A = [] ∧ B = [] then 1 else 0) + gvM A B f + gvL A B f + gvR A B f := by
  cases A with
  | nil =>
    cases B with
    | nil => simp [gvN, gvM, gvL, gvR, nozB]
    | cons y B =>
      by_cases hy : y = 0
      · subst hy
        rcases hf with rfl | rfl | rfl <;> simp [gvN, gvM, gvL, gvR, nozB, nzL_zero]
      · rcases hf with rfl | rfl | rfl <;> simp [gvN, gvM, gvL, gvR, nozB, nzL_lab hy, hy, nzL]
  | cons x A =>
    cases B with
    | nil =>
      by_cases hx : x = 0
      · subst hx
        rcases hf with rfl | rfl | rfl <;> simp [gvN, gvM, gvL, gvR, nozB, nzL_zero]
      · rcases hf with rfl | rfl | rfl <;> simp [gvN, gvM, gvL, gvR, nozB, nzL_lab hx, hx, nzL]
    | cons y B =>
      have hx0 := hA x (List.mem_cons_self ..)
      by_cases hx : x = 0
      · subst hx
        by_cases hy : y = 0
        · subst hy
          rcases hf with rfl | rfl | rfl <;> simp [gvN, gvM, gvL, gvR, nozB, nzL_zero]
        · have hy' : ¬ (0 : Int) = y := fun e => hy e.symm
          rcases hf with rfl | rfl | rfl <;> simp [gvN, gvM, gvL, gvR, nozB, nzL_zero, nzL_lab hy, hy, hy']
      · have hx' : 0 < x := by omega
        by_cases hy : y = 0
        · subst hy
          rcases hf with rfl | rfl | rfl <;> simp [gvN, gvM, gvL, gvR, nozB, nzL_zero, nzL_lab hx, hx, hx']
        · by_cases hxy : x = y
          · subst hxy
            rcases hf with rfl | rfl | rfl <;> simp [gvN, gvM, gvL, gvR, nozB, nzL_lab hx, hx, hx']
          · rcases hf with rfl | rfl | rfl <;> simp [gvN, gvM, gvL, gvR, nozB, nzL_lab hx, nzL_lab hy, hx, hy, hxy]
end Go.Proofs.Ythcfkiinjcbajaa.Pl
namespace Go.Proofs.Ythcfkiinjcbajaa.Pl
set_option linter.unusedVariables false
set_option linter.unusedSimpArgs false
/-- A machine with one path: n arcs g 0, g 1, .. behind one another. -/
structure ChnM (m : Mc) (n : Nat) (g : Nat → Ar) : Prop where
  start : m.1 = 0
  len : m.2.length = n + 1
  one : ∀ i, i < n → el m.2 i = (1000000001, [g i])
  last : el m.2 n = (0, [])
  to : ∀ i, i < n → (g i).2.2.2 = ((i + 1 : Nat) : Int)
  pos : ∀ i, i < n → 0 ≤ (g i).1 ∧ 0 ≤ (g i).2.1
def outQ (n : Nat) (g : Nat → Ar) : List Int := (List.range n).map fun i => (g i).2.1
def insQ (n : Nat) (g : Nat → Ar) : List Int := (List.range n).map fun i => (g i).1
theorem drop_map {n i : Nat} (f : Nat → Int) (h : i < n) : ((List.range n).map f).drop i = f i :: ((List.range n).map f).drop (i + 1) := by
  rw [List.drop_eq_getElem_cons (by simpa using h)]
  simp
theorem drop_end {n : Nat} (f : Nat → Int) : ((List.range n).map f).drop n = [] := by
  rw [List.drop_eq_nil_of_le (by simp)]
/-- How many paths are left behind a triple. -/
def gvT (n m : Nat) (g k : Nat → Ar) (t : Tr) : Nat := gvN ((outQ n g).drop t.1.toNat) ((insQ m k).drop t.2.1.toNat) t.2.2
theorem sumF_hops (L : List Tr) (G : Tr → Nat) : ∀ hs : List Hp, (∀ h ∈ hs, h.2.2.2 ∈ L) → sumF (fun p => G (el L p)) (hs.map (arcTr L)) = (hs.map fun h => G h.2.2.2).sum := by
  intro hs
  induction hs with
  | nil => intro _; rfl
  | cons h hs ih =>
    intro hh
    rw [List.map_cons, sumF, List.map_cons, List.sum_cons, ih fun k hk => hh k (List.mem_cons_of_mem _ hk)]
    congr 1
    simp only [arcTr, Int.toNat_natCast]
    rw [(el_idx (hh h (List.mem_cons_self ..))).2]
theorem sum_M (x y : Ar) (f : Int) (G : Hp → Nat) : ((([y].filter (metB x · f)).map (hopM x)).map G).sum = if x.2.1 = y.1 ∧ (0 < x.2.1 ∨ f = 0) then G (hopM x y) else 0 := by
  have e : metB x y f = true ↔ x.2.1 = y.1 ∧ (0 < x.2.1 ∨ f = 0) := by simp [metB]
  by_cases c : metB x y f = true
  · rw [if_pos (e.1 c)]; simp [List.filter, c]
  · rw [if_neg (fun k => c (e.2 k))]; simp [List.filter, c]
theorem sum_if (c : Prop) [Decidable c] (h : Hp) (G : Hp → Nat) : ((if c then [h] else []).map G).sum = if c then G h else 0 := by split <;> simp
theorem sum_R (y : Ar) (a f : Int) (G : Hp → Nat) : ((if f ≠ 1 then ([y].filter (fun y => y.1 == 0)).map (hopR · a) else []).map G).sum = if y.1 = 0 ∧ f ≠ 1 then G (hopR y a) else 0 := by
  by_cases c : f ≠ 1
  · rw [if_pos c]
    by_cases d : y.1 = 0
    · rw [if_pos ⟨d, c⟩]; simp [List.filter, d]
    · rw [if_neg (fun k => d k.1)]
      have : (y.1 == 0) = false := by simpa using d
      simp [List.filter, this]
  · rw [if_neg c, if_neg (fun k => c k.2)]; rfl
theorem gvT_eq {a b : Mc} {n m : Nat} {g k : Nat → Ar} (ha : ChnM a n g) (hb : ChnM b m k) {t : Tr} (ht : trB a b t = true) : gvT n m g k t = baseN (finTr a b t) + ((expT a b t).map fun h => gvT n m g k h.2.2.2).sum := by
  obtain ⟨s, r, e, h1, h2, h3, h4⟩ := trB_nat ht
  rw [ha.len] at h1
  rw [hb.len] at h2
  obtain ⟨t1, t2, f⟩ := t
  simp only [Prod.mk.injEq, and_true] at e h3 h4
  obtain ⟨rfl, rfl⟩ := e
  have hf : f = 0 ∨ f = 1 ∨ f = 2 := by omega
  have hA : ∀ x ∈ (outQ n g).drop s, 0 ≤ x := fun x hx => by
    obtain ⟨i, hi, rfl⟩ := List.mem_map.1 (List.mem_of_mem_drop hx)
    exact (ha.pos i (List.mem_range.1 hi)).2
  have hB : ∀ x ∈ (insQ m k).drop r, 0 ≤ x := fun x hx => by
    obtain ⟨i, hi, rfl⟩ := List.mem_map.1 (List.mem_of_mem_drop hx)
    exact (hb.pos i (List.mem_range.1 hi)).1
  have hst := gv_step _ _ f hA hB hf
  simp only [gvT, finTr, expT, Int.toNat_natCast]
  rw [hst]
  have eF : ∀ {p q : Int}, (p = 1000000001 ∨ q = 1000000001) → baseN (bothI p q) = 0 := fun h => by simp [bothI, baseN, h]
  rcases Nat.lt_succ_iff_lt_or_eq.1 h1 with g1 | rfl
  · have e1 : (outQ n g).drop s = (g s).2.1 :: (outQ n g).drop (s + 1) := drop_map _ g1
    rw [ha.one s g1, eF (.inl rfl)]
    have ta : (g s).2.2.2.toNat = s + 1 := by have := ha.to s g1; omega
    rcases Nat.lt_succ_iff_lt_or_eq.1 h2 with g2 | rfl
    · have e2 : (insQ m k).drop r = (k r).1 :: (insQ m k).drop (r + 1) := drop_map _ g2
      rw [hb.one r g2]
      have tb : (k r).2.2.2.toNat = r + 1 := by have := hb.to r g2; omega
      simp only [expL, expX, List.flatMap_cons, List.flatMap_nil, List.append_nil, List.map_append, List.sum_append]
      rw [sum_M, sum_if, sum_R]
      simp only [hopM, hopL, hopR, ta, tb, Int.toNat_natCast]
      rw [e1, e2]
      simp only [gvM, gvL, gvR, if_neg (show ¬ ((g s).2.1 :: (outQ n g).drop (s + 1) = [] ∧ (k r).1 :: (insQ m k).drop (r + 1) = []) from fun h => by cases h.1)]
      omega
    · have e2 : (insQ r k).drop r = [] := drop_end _
      rw [hb.last]
      simp only [expL, expX, List.flatMap_cons, List.flatMap_nil, List.append_nil, List.map_append, List.sum_append, List.filter_nil, List.map_nil, List.sum_nil, ite_self]
      rw [sum_if]
      simp only [hopL, ta, Int.toNat_natCast]
      rw [e1, e2]
      rw [if_neg (show ¬ ((g s).2.1 :: (outQ n g).drop (s + 1) = [] ∧ ([] : List Int) = []) from fun h => by cases h.1)]
      simp only [gvM, gvL, gvR]
      omega
  · have e1 : (outQ s g).drop s = [] := drop_end _
    rw [ha.last]
    rcases Nat.lt_succ_iff_lt_or_eq.1 h2 with g2 | rfl
    · have e2 : (insQ m k).drop r = (k r).1 :: (insQ m k).drop (r + 1) := drop_map _ g2
      rw [hb.one r g2, eF (.inr rfl)]
      have tb : (k r).2.2.2.toNat = r + 1 := by have := hb.to r g2; omega
      simp only [expL, List.flatMap_nil, List.nil_append]
      rw [sum_R]
      simp only [hopR, tb, Int.toNat_natCast]
      rw [e1, e2]
      rw [if_neg (show ¬ (([] : List Int) = [] ∧ (k r).1 :: (insQ m k).drop (r + 1) = []) from fun h => by cases h.2)]
      simp only [gvM, gvL, gvR]
    · have e2 : (insQ r k).drop r = [] := drop_end _
      rw [hb.last]
      simp only [expL, List.flatMap_nil, List.nil_append, List.filter_nil, List.map_nil, ite_self, List.sum_nil]
      rw [e1, e2]
      simp [gvM, gvL, gvR, bothI, baseN]
/-- So many paths begin at each state of two composed chains. -/
theorem chn_cnt {a b : Mc} {n m : Nat} {g k : Nat → Ar} (ha : ChnM a n g) (hb : ChnM b m k) {L : List Tr} {S : List St} (h : CmpI a b L.length L S) : CntEq S (fun q => gvT n m g k (el L q)) := fun q hq => by
  rw [h.len] at hq
  rw [h.sts q hq]
  simp only
  rw [sumF_hops L (gvT n m g k) _ (h.shut q hq)]
  exact gvT_eq ha hb (expE_zero (h.right q hq)).2.2.1
end Go.Proofs.Ythcfkiinjcbajaa.Pl
namespace Go.Proofs.Ythcfkiinjcbajaa.Pl
set_option linter.unusedVariables false
set_option linter.unusedSimpArgs false
theorem mapM_el {f : List Ar → List Ar} {m : Mc} {q : Nat} (h : q < m.2.length) : el (mapM f m).2 q = ((el m.2 q).1, f (el m.2 q).2) := el_map h _
theorem mapM_len (f : List Ar → List Ar) (m : Mc) : (mapM f m).2.length = m.2.length := by simp [mapM]
theorem mapM_cheap {f : List Ar → List Ar} (hf : ∀ l a, a ∈ f l → a ∈ l) {m : Mc} (h : CheapL m.2) : CheapL (mapM f m).2 := fun s hs => by
  simp only [mapM, List.mem_map] at hs
  obtain ⟨t, ht, rfl⟩ := hs
  exact ⟨(h t ht).1, fun a ha => (h t ht).2 a (hf _ a ha)⟩
theorem mapM_mem {f : List Ar → List Ar} (hf : ∀ l a, a ∈ f l → a ∈ l) {m : Mc} (q : Nat) (a : Ar) (h : a ∈ (el (mapM f m).2 q).2) : a ∈ (el m.2 q).2 := by
  have hq := el_in h
  rw [mapM_len] at hq
  rw [mapM_el hq] at h
  exact hf _ a h
/-- The same arcs in another order. -/
theorem costs_sort (s : Bool) (m : Mc) (x y : List Int) (c : Nat) : Costs (mapM (sortS s) m) x y c ↔ Costs m x y c := by
  refine costs_same (m := mapM (sortS s) m) (m' := m) rfl (mapM_len _ _) (fun q hq => by rw [mapM_el (by rwa [mapM_len] at hq)]) (fun q a => ⟨mapM_mem (fun l a h => (sortS_perm s l).mem_iff.1 h) q a, fun h => ?_⟩) x y c
  rw [mapM_el (el_in h)]
  exact (sortS_perm s _).mem_iff.2 h
theorem costs_merge (m : Mc) (x y : List Int) : (∀ c, Costs (mapM (fun l => lightL (sortS false l)) m) x y c → Costs m x y c) ∧ ∀ c, Costs m x y c → ∃ d, d ≤ c ∧ Costs (mapM (fun l => lightL (sortS false l)) m) x y d := by
  refine costs_light (m := m) (m' := mapM (fun l => lightL (sortS false l)) m) rfl (mapM_len _ _).symm (fun q hq => by rw [mapM_el hq]) (mapM_mem merge_sub) (fun q a h => ?_) x y
  rw [mapM_el (el_in h)]
  have h1 := light_count h
  have h2 : 0 < (lightL (sortS false (el m.2 q).2)).countP (fun y => lessB y a) := by omega
  obtain ⟨b, hb, hl⟩ := List.countP_pos_iff.1 h2
  obtain ⟨e1, e2, e3, e4⟩ := less_iff.1 hl
  exact ⟨b, hb, e1, e2, e3, e4⟩
section
variable {z : Int} {l : List St} {aa bs : List Bool}
theorem kept_nat {ks : List Int} (hks : ks = keptL aa bs l.length) {i : Nat} (hi : i < ks.length) : ∃ q : Nat, el ks i = (q : Int) ∧ q < l.length ∧ el aa q = true ∧ el bs q = true := by
  have := el_mem hi
  rw [hks] at this
  obtain ⟨q, h1, h2, h3, h4⟩ := keptL_mem this
  exact ⟨q, by rw [hks]; exact h1, h2, h3, h4⟩
theorem trim_way {ks : List Int} (hks : ks = keptL aa bs l.length) {i j c : Nat} {u v : List Int} (hi : i < ks.length) (h : Way (ks.map (trimS l ks)) i u v j c) : j < ks.length ∧ Way l (el ks i).toNat u v (el ks j).toNat c := by
  have hp : ks.Pairwise (· < ·) := by rw [hks]; exact keptL_sorted _ _ _
  induction h with
  | nil => exact ⟨hi, .nil⟩
  | snoc h ha ht ih =>
    rename_i u v p c a t
    obtain ⟨hpl, hw⟩ := ih
    rw [trim_el hpl] at ha
    obtain ⟨d, hd, rfl, h0⟩ := trimA_mem ha
    have hm := (placeI_nonneg hp).1 h0
    obtain ⟨k, hk, he, hpk⟩ := placeI_mem hp hm
    have hkt : k = t := by
      have : placeI ks d.2.2.2 = (t : Int) := ht
      omega
    subst hkt
    obtain ⟨q, hq, _⟩ := kept_nat hks hk
    exact ⟨hk, hw.snoc hd (by rw [he] at hq; rw [he, hq]; rfl)⟩
theorem way_trim (hf : faultM (z, l) = 0) (hA : Least (AheadC z l) l.length aa) (hB : Least (BackC l) l.length bs) {ks : List Int} (hks : ks = keptL aa bs l.length) {q p c : Nat} {u v : List Int} (hq : q < l.length) (ha : el aa q = true) (h : Way l q u v p c) :
    (p < l.length ∧ el aa p = true) ∧ (el bs p = true → el bs q = true ∧ ∀ i j : Nat, placeI ks (q : Int) = (i : Int) → placeI ks (p : Int) = (j : Int) → Way (ks.map (trimS l ks)) i u v j c) := by
  have hp : ks.Pairwise (· < ·) := by rw [hks]; exact keptL_sorted _ _ _
  induction h with
  | nil =>
    refine ⟨⟨hq, ha⟩, fun hb => ⟨hb, fun i j hi hj => ?_⟩⟩
    have hij : i = j := by omega
    rw [hij]
    exact .nil
  | snoc h hm ht ih =>
    rename_i u v p c a t
    obtain ⟨⟨hpl, hpa⟩, ih⟩ := ih
    obtain ⟨t', e1, e2⟩ := to_right hf hpl hm
    obtain rfl : t = t' := by omega
    have hta : el aa t = true := by
      have := hA.2.1.2 p hpl hpa a hm
      rwa [ht, Int.toNat_natCast] at this
    refine ⟨⟨e2, hta⟩, fun hb => ?_⟩
    have hpb : el bs p = true := hB.2.1.2 p hpl a hm (by rw [ht, Int.toNat_natCast]; exact hb)
    obtain ⟨hqb, hw⟩ := ih hpb
    refine ⟨hqb, fun i j hi hj => ?_⟩
    have hpm : (p : Int) ∈ ks := by rw [hks]; exact keptL_iff.2 ⟨hpl, hpa, hpb⟩
    obtain ⟨k, hk, hek, hpk⟩ := placeI_mem hp hpm
    have h1 := hw i k hi hpk
    have h2 : turnA ks a ∈ (el (ks.map (trimS l ks)) k).2 := by
      rw [trim_el hk, hek, Int.toNat_natCast]
      exact trimA_in hm (by rw [ht, hj]; omega)
    have h3 := h1.snoc h2 (t := j) (by unfold turnA; simp only; rw [ht, hj])
    exact h3
theorem costs_trim (hf : faultM (z, l) = 0) (hA : Least (AheadC z l) l.length aa) (hB : Least (BackC l) l.length bs) (x y : List Int) (c : Nat) : Costs (trimM z l (keptL aa bs l.length)) x y c ↔ Costs (z, l) x y c := by
  obtain ⟨ks, hks⟩ : ∃ ks, ks = keptL aa bs l.length := ⟨_, rfl⟩
  have hp : ks.Pairwise (· < ·) := by rw [hks]; exact keptL_sorted _ _ _
  rw [← hks]
  have hlen : (trimM z l ks).2.length = ks.length := by simp [trimM]
  constructor
  · rintro ⟨h0, p, d, hw, hpl, hn, rfl⟩
    have h0' : 0 ≤ placeI ks z := h0
    obtain ⟨k, hk, hek, hpk⟩ := placeI_mem hp ((placeI_nonneg hp).1 h0')
    have hw' : Way (ks.map (trimS l ks)) k x y p d := by
      have e : (trimM z l ks).1.toNat = k := by show (placeI ks z).toNat = k; rw [hpk]; rfl
      rw [e] at hw
      exact hw
    obtain ⟨hpk', hwl⟩ := trim_way hks hk hw'
    obtain ⟨q, hq1, hq2, _⟩ := kept_nat hks hpk'
    obtain ⟨q0, hz1, hz2, _⟩ := kept_nat hks hk
    have hfin : (el (trimM z l ks).2 p).1 = (el l (el ks p).toNat).1 := by
      show (el (ks.map (trimS l ks)) p).1 = _
      rw [trim_el hpk']
    rw [hek] at hwl hz1
    refine ⟨by show 0 ≤ z; omega, (el ks p).toNat, d, hwl, by rw [hq1]; exact hq2, ?_, ?_⟩
    · rw [← hfin]; exact hn
    · rw [hfin]
  · rintro ⟨h0, p, d, hw, hpl, hn, rfl⟩
    simp only at h0 hw hpl hn ⊢
    have hz := (right_parts hf).1
    simp only at hz
    have hzl : z.toNat < l.length := by omega
    have hza : el aa z.toNat = true := hA.2.1.1 z.toNat hzl (by omega)
    obtain ⟨⟨_, hpa⟩, hb⟩ := way_trim hf hA hB hks hzl hza hw
    have hpb : el bs p = true := hB.2.1.1 p hpl hn
    obtain ⟨hzb, hway⟩ := hb hpb
    have hzt : ((z.toNat : Nat) : Int) = z := by omega
    have hzm : (z.toNat : Int) ∈ ks := by rw [hks]; exact keptL_iff.2 ⟨hzl, hza, hzb⟩
    have hpm : (p : Int) ∈ ks := by rw [hks]; exact keptL_iff.2 ⟨hpl, hpa, hpb⟩
    obtain ⟨k, hk, hek, hpk⟩ := placeI_mem hp hzm
    obtain ⟨j, hj, hej, hpj⟩ := placeI_mem hp hpm
    have h1 := hway k j hpk hpj
    rw [hzt] at hpk
    have hfin : (el (trimM z l ks).2 j).1 = (el l p).1 := by
      show (el (ks.map (trimS l ks)) j).1 = _
      rw [trim_el hj, hej, Int.toNat_natCast]
    refine ⟨by show 0 ≤ placeI ks z; omega, j, d, ?_, by rw [hlen]; exact hj, by rw [hfin]; exact hn, by rw [hfin]⟩
    show Way (ks.map (trimS l ks)) (placeI ks z).toNat x y j d
    rw [hpk]
    exact h1
theorem trim_cheap {ks : List Int} (hks : ks = keptL aa bs l.length) (h : CheapL l) : CheapL (trimM z l ks).2 := fun s hs => by
  simp only [trimM, List.mem_map] at hs
  obtain ⟨x, hx, rfl⟩ := hs
  rw [hks] at hx
  obtain ⟨q, rfl, hq, _⟩ := keptL_mem hx
  unfold trimS
  rw [Int.toNat_natCast]
  refine ⟨(h _ (el_mem hq)).1, fun a ha => ?_⟩
  obtain ⟨d, hd, rfl, _⟩ := trimA_mem ha
  exact (h _ (el_mem hq)).2 d hd
end
end Go.Proofs.Ythcfkiinjcbajaa.Pl
namespace Go.Proofs.Ythcfkiinjcbajaa.Pl
set_option linter.unusedVariables false
set_option linter.unusedSimpArgs false
/-- No path begins where no end can be had. -/
theorem cnt_none {z : Int} {l : List St} {bs : List Bool} (hf : faultM (z, l) = 0) (hB : Least (BackC l) l.length bs) {f : Nat → Nat} (hc : CntEq l f) (rk : Nat → Nat) (R : Nat) (hR : ∀ q, q < l.length → rk q ≤ R)
    (hr : ∀ p, p < l.length → ∀ a ∈ (el l p).2, rk p < rk a.2.2.2.toNat) : ∀ q, q < l.length → el bs q ≠ true → f q = 0 := by
  have key : ∀ k q, q < l.length → R - rk q < k → el bs q ≠ true → f q = 0 := by
    intro k
    induction k with
    | zero => intro q _ h; omega
    | succ k ih =>
      intro q hq hk hb
      rw [hc q hq]
      have h1 : (el l q).1 = 1000000001 := by
        rcases Classical.em ((el l q).1 = 1000000001) with g | g
        · exact g
        · exact absurd (hB.2.1.1 q hq g) hb
      rw [h1, sumF_zero.2 fun a ha => ?_]
      · rfl
      · obtain ⟨t, e1, e2⟩ := to_right hf hq ha
        have h2 := hr q hq a ha
        have h3 := hR q hq
        rw [e1, Int.toNat_natCast] at h2 ⊢
        have h4 := hR t e2
        refine ih t e2 (by omega) fun hbt => hb (hB.2.1.2 q hq a ha ?_)
        rw [e1, Int.toNat_natCast]
        exact hbt
  exact fun q hq => key (R - rk q + 1) q hq (by omega)
theorem sumF_trim {ks : List Int} (hp : ks.Pairwise (· < ·)) {f : Nat → Nat} : ∀ {ar : List Ar}, (∀ a ∈ ar, ∃ t : Nat, a.2.2.2 = (t : Int) ∧ ((t : Int) ∈ ks ∨ f t = 0)) → sumF (fun i => f (el ks i).toNat) (trimA ks ar) = sumF f ar := by
  intro ar
  induction ar with
  | nil => intro _; rfl
  | cons a l ih =>
    intro h
    obtain ⟨t, e, ht⟩ := h a (List.mem_cons_self ..)
    have h1 := ih fun b hb => h b (List.mem_cons_of_mem _ hb)
    have h2 : trimA ks (a :: l) = (if 0 ≤ placeI ks (t : Int) then [turnA ks a] else []) ++ trimA ks l := by
      unfold trimA
      rw [List.map_cons, List.filter_cons]
      simp only [turnA, e]
      split <;> rename_i g <;> simp at g <;> simp [g]
    rw [h2, sumF_append, h1, sumF, e, Int.toNat_natCast]
    congr 1
    by_cases hk : (t : Int) ∈ ks
    · obtain ⟨i, hi, hei, hpi⟩ := placeI_mem hp hk
      rw [if_pos (by omega)]
      simp only [sumF, turnA, e, hpi, Int.toNat_natCast, hei, Nat.add_zero]
    · rw [placeI_not hk, if_neg (by omega)]
      rcases ht with k | k
      · exact absurd k hk
      · rw [k]; rfl
theorem trim_cnt {z : Int} {l : List St} {aa bs : List Bool} (hf : faultM (z, l) = 0) (hA : Least (AheadC z l) l.length aa) (hB : Least (BackC l) l.length bs) {f : Nat → Nat} (hc : CntEq l f) (rk : Nat → Nat) (R : Nat) (hR : ∀ q, q < l.length → rk q ≤ R)
    (hr : ∀ p, p < l.length → ∀ a ∈ (el l p).2, rk p < rk a.2.2.2.toNat) {ks : List Int} (hks : ks = keptL aa bs l.length) : CntEq (ks.map (trimS l ks)) (fun i => f (el ks i).toNat) := by
  have hp : ks.Pairwise (· < ·) := by rw [hks]; exact keptL_sorted _ _ _
  intro i hi
  rw [List.length_map] at hi
  obtain ⟨q, e1, hq, ha, hb⟩ := kept_nat hks hi
  rw [trim_el hi]
  simp only [trimS]
  rw [e1, Int.toNat_natCast, hc q hq, sumF_trim hp fun a hm => ?_]
  obtain ⟨t, e2, e3⟩ := to_right hf hq hm
  refine ⟨t, e2, ?_⟩
  by_cases hbt : el bs t = true
  · left
    have hta : el aa t = true := by
      have := hA.2.1.2 q hq ha a hm
      rwa [e2, Int.toNat_natCast] at this
    rw [hks]
    exact keptL_iff.2 ⟨e3, hta, hbt⟩
  · right
    exact cnt_none hf hB hc rk R hR hr t e3 hbt
end Go.Proofs.Ythcfkiinjcbajaa.Pl
namespace Go.Proofs.Ythcfkiinjcbajaa.Pl
set_option linter.unusedVariables false
set_option linter.unusedSimpArgs false
def rkQ (t : Tr) : Nat := t.1.toNat + t.2.1.toNat
/-- Hops of chains lead on. -/
theorem chn_hop {a b : Mc} {n m : Nat} {g k : Nat → Ar} (ha : ChnM a n g) (hb : ChnM b m k) {t : Tr} (ht : trB a b t = true) {h : Hp} (hh : h ∈ expT a b t) : rkQ t < rkQ h.2.2.2 := by
  obtain ⟨s, r, e, h1, h2, h3, h4⟩ := trB_nat ht
  rw [ha.len] at h1
  rw [hb.len] at h2
  have e1 : t.1 = (s : Int) := by rw [e]
  have e2 : t.2.1 = (r : Int) := by rw [e]
  have ka : ∀ x ∈ (el a.2 s).2, x.2.2.2 = ((s + 1 : Nat) : Int) := fun x hx => by
    rcases Nat.lt_succ_iff_lt_or_eq.1 h1 with g1 | rfl
    · rw [ha.one s g1] at hx
      rw [List.mem_singleton.1 hx]
      exact ha.to s g1
    · rw [ha.last] at hx; cases hx
  have kb : ∀ x ∈ (el b.2 r).2, x.2.2.2 = ((r + 1 : Nat) : Int) := fun x hx => by
    rcases Nat.lt_succ_iff_lt_or_eq.1 h2 with g1 | rfl
    · rw [hb.one r g1] at hx
      rw [List.mem_singleton.1 hx]
      exact hb.to r g1
    · rw [hb.last] at hx; cases hx
  unfold expT at hh
  unfold rkQ
  rw [e1, e2] at hh ⊢
  simp only [Int.toNat_natCast] at hh ⊢
  rcases mem_expL.1 hh with ⟨x, hx, y, hy, _, rfl⟩ | ⟨x, hx, _, _, rfl⟩ | ⟨y, hy, _, _, rfl⟩
  · have := ka x hx
    have := kb y hy
    simp only [hopM]
    omega
  · have := ka x hx
    simp only [hopL]
    rw [e2]
    omega
  · have := kb y hy
    simp only [hopR]
    rw [e1]
    omega
theorem chn_rank {a b : Mc} {n m : Nat} {g k : Nat → Ar} (ha : ChnM a n g) (hb : ChnM b m k) {L : List Tr} {S : List St} (h : CmpI a b L.length L S) :
    (∀ q, q < S.length → rkQ (el L q) ≤ n + m) ∧ ∀ p, p < S.length → ∀ c ∈ (el S p).2, rkQ (el L p) < rkQ (el L c.2.2.2.toNat) := by
  refine ⟨fun q hq => ?_, fun p hp c hc => ?_⟩
  · rw [h.len] at hq
    obtain ⟨s, r, e, h1, h2⟩ := h.nat (el_mem hq)
    rw [ha.len] at h1
    rw [hb.len] at h2
    rw [e]
    simp only [rkQ, Int.toNat_natCast]
    omega
  · rw [h.len] at hp
    rw [h.sts p hp] at hc
    obtain ⟨d, hd, rfl⟩ := List.mem_map.1 hc
    simp only [arcTr, Int.toNat_natCast]
    rw [(el_idx (h.shut p hp d hd)).2]
    exact chn_hop ha hb (expE_zero (h.right p hp)).2.2.1 hd
/-- Trimmed it has no cycle either. -/
theorem trim_free {l : List St} {aa bs : List Bool} (rk : Nat → Nat) (hr : ∀ p, p < l.length → ∀ a ∈ (el l p).2, rk p < rk a.2.2.2.toNat) {ks : List Int} (hks : ks = keptL aa bs l.length) : ¬ CycleL (ks.map (trimS l ks)) := by
  have hp : ks.Pairwise (· < ·) := by rw [hks]; exact keptL_sorted _ _ _
  refine ranked (fun i => rk (el ks i).toNat) fun p hpl q hl => ?_
  rw [List.length_map] at hpl
  obtain ⟨c, hc, hq⟩ := leads_mem hl
  rw [trim_el hpl] at hc
  obtain ⟨d, hd, rfl, h0⟩ := trimA_mem hc
  obtain ⟨i, hi, hei, hpi⟩ := placeI_mem hp ((placeI_nonneg hp).1 h0)
  simp only [turnA] at hq
  have : i = q := by omega
  subst this
  show rk (el ks p).toNat < rk (el ks i).toNat
  rw [hei]
  obtain ⟨s, e1, hs, _, _⟩ := kept_nat hks hpl
  rw [e1, Int.toNat_natCast] at hd ⊢
  exact hr s hs d hd
theorem chn_once {a b x : Mc} {n m : Nat} {g k : Nat → Ar} (ha : ChnM a n g) (hb : ChnM b m k) (fa : faultM a = 0) (fb : faultM b = 0) (h : cpsA a b = (x, 0)) {aa bs : List Bool} (hA : Least (AheadC x.1 x.2) x.2.length aa) (hB : Least (BackC x.2) x.2.length bs)
    {r ec : Int} (hp : PathAns (trimM x.1 x.2 (keptL aa bs x.2.length)) 0 r ec) : ec = 0 ∧ r = if nzL (outQ n g) = nzL (insQ m k) then 1 else 0 := by
  have za : 0 ≤ a.1 := by rw [ha.start]; omega
  have zb : 0 ≤ b.1 := by rw [hb.start]; omega
  obtain ⟨fx, hpos, hz⟩ := cmp_right fa fb za zb h
  obtain ⟨_, L, hI⟩ := cpsA_done fa fb za zb h
  obtain ⟨z, S⟩ := x
  simp only at hz hI hpos hA hB hp
  subst hz
  obtain ⟨hR, hr⟩ := chn_rank ha hb hI
  have hc := chn_cnt ha hb hI
  generalize hks : keptL aa bs S.length = ks at hp
  have hks := hks.symm
  have hkp : ks.Pairwise (· < ·) := by rw [hks]; exact keptL_sorted _ _ _
  have hct := trim_cnt fx hA hB hc (fun q => rkQ (el L q)) (n + m) hR hr hks
  have hfree := trim_free (aa := aa) (bs := bs) (fun q => rkQ (el L q)) hr hks
  have hf0 : gvT n m g k (el L 0) = if nzL (outQ n g) = nzL (insQ m k) then 1 else 0 := by
    rw [hI.zero.2, ha.start, hb.start]
    simp [gvT, gvN]
  unfold PathAns at hp
  rw [if_pos rfl] at hp
  rcases hp with ⟨out, hO, hpa⟩ | ⟨k, _⟩
  · simp only [trimM] at hO hpa
    unfold pathA at hpa
    have ha0 : el aa 0 = true := hA.2.1.1 0 hpos rfl
    by_cases hb0 : el bs 0 = true
    · have hin : (0 : Int) ∈ ks := by rw [hks]; exact keptL_iff.2 ⟨hpos, ha0, hb0⟩
      obtain ⟨i, hi, hei, hpi⟩ := placeI_mem hkp hin
      have hto : ∀ q, q < (ks.map (trimS S ks)).length → ∀ c ∈ (el (ks.map (trimS S ks)) q).2, ∃ t : Nat, c.2.2.2 = (t : Int) ∧ t < (ks.map (trimS S ks)).length := fun q hq c hc => by
        rw [List.length_map] at hq ⊢
        subst hks
        exact trim_to fx hq hc
      have hcc := cnt_one hO hto (hO.cnt hto) hct i (by rw [List.length_map]; exact hi)
      rw [hpi, Int.toNat_natCast, hcc, hei] at hpa
      simp only [Int.toNat_zero] at hpa
      rw [hf0] at hpa
      rw [if_neg (by omega)] at hpa
      by_cases gn : nzL (outQ n g) = nzL (insQ m k)
      · rw [if_pos gn, if_neg (by omega)] at hpa
        simp only [Prod.mk.injEq] at hpa
        rw [if_pos gn]
        exact ⟨hpa.2.symm, by have := hpa.1; omega⟩
      · rw [if_neg gn, if_neg (by omega)] at hpa
        simp only [Prod.mk.injEq] at hpa
        rw [if_neg gn]
        exact ⟨hpa.2.symm, by have := hpa.1; omega⟩
    · have hno : (0 : Int) ∉ ks := fun hin => by
        rw [hks] at hin
        obtain ⟨q, e, _, _, hq⟩ := keptL_mem hin
        have : q = 0 := by omega
        subst this
        exact hb0 hq
      have hzero := cnt_none fx hB hc (fun q => rkQ (el L q)) (n + m) hR hr 0 hpos hb0
      rw [hf0] at hzero
      rw [placeI_not hno, if_pos (by omega)] at hpa
      simp only [Prod.mk.injEq] at hpa
      refine ⟨hpa.2.symm, ?_⟩
      split at hzero
      · omega
      · rename_i gn
        rw [if_neg gn]
        exact hpa.1.symm
  · exact absurd k hfree
end Go.Proofs.Ythcfkiinjcbajaa.Pl
namespace Go.Proofs.Ythcfkiinjcbajaa.Pl
set_option linter.unusedVariables false
set_option linter.unusedSimpArgs false
/-- The arc of place i. -/
def chA (l : List Ar) (i : Nat) : Ar := (pkR (el l i).1 3, pkR (el l i).2.1 3, pkR (el l i).2.2.1 10, (i : Int) + 1)
def chS (l : List Ar) (k : Nat) : List St := (List.range k).map fun i => (1000000001, [chA l i])
def chnM (l : List Ar) (k : Nat) : Mc := (0, chS l k ++ [(0, [])])
theorem chS_len (l : List Ar) (k : Nat) : (chS l k).length = k := by simp [chS]
theorem chS_succ (l : List Ar) (k : Nat) : chS l (k + 1) = chS l k ++ [(1000000001, [chA l k])] := by simp [chS, List.range_succ]
theorem chn_len (l : List Ar) (k : Nat) : (chnM l k).2.length = k + 1 := by simp [chnM, chS]
theorem chn_at (l : List Ar) {k i : Nat} (h : i < k) : el (chnM l k).2 i = (1000000001, [chA l i]) := by
  show el (chS l k ++ [(0, [])]) i = _
  rw [el_left (by rw [chS_len]; exact h)]
  exact el_range_map _ h
theorem chn_end (l : List Ar) (k : Nat) : el (chnM l k).2 k = (0, []) := by
  show el (chS l k ++ [(0, [])]) k = _
  have := el_last (chS l k) ((0, []) : St)
  rw [chS_len] at this
  exact this
theorem chA_bd (l : List Ar) (i : Nat) : 0 ≤ (chA l i).1 ∧ (chA l i).1 ≤ 2 ∧ 0 ≤ (chA l i).2.1 ∧ (chA l i).2.1 ≤ 2 ∧ 0 ≤ (chA l i).2.2.1 ∧ (chA l i).2.2.1 ≤ 9 := by
  have h1 := pkR_bd (el l i).1 3 (by omega)
  have h2 := pkR_bd (el l i).2.1 3 (by omega)
  have h3 := pkR_bd (el l i).2.2.1 10 (by omega)
  simp only [chA]
  omega
theorem chn_chain (l : List Ar) (k : Nat) : ChnM (chnM l k) k (chA l) :=
  ⟨rfl, chn_len l k, fun i hi => chn_at l hi, chn_end l k, fun i _ => by simp [chA], fun i _ => ⟨(chA_bd l i).1, (chA_bd l i).2.2.1⟩⟩
theorem chn_mem {l : List Ar} {k : Nat} {s : St} (h : s ∈ (chnM l k).2) : (∃ i, i < k ∧ s = (1000000001, [chA l i])) ∨ s = (0, []) := by
  simp only [chnM, chS, List.mem_append, List.mem_map, List.mem_range, List.mem_singleton] at h
  rcases h with ⟨i, hi, rfl⟩ | h
  · exact .inl ⟨i, hi, rfl⟩
  · exact .inr h
theorem chn_low (l : List Ar) (k : Nat) : LowL 9 (chnM l k).2 := fun s hs => by
  rcases chn_mem hs with ⟨i, _, rfl⟩ | rfl
  · refine ⟨fun h => absurd rfl h, fun a ha => ?_⟩
    obtain rfl : a = chA l i := by simpa using ha
    exact (chA_bd l i).2.2.2.2.2
  · exact ⟨fun _ => by simp, fun a ha => by simp at ha⟩
theorem chn_arcN (l : List Ar) (k : Nat) : arcN (chnM l k).2 = k := by
  show arcN (chS l k ++ [(0, [])]) = k
  rw [arcN_append]
  have : arcN (chS l k) = k := by
    induction k with
    | zero => rfl
    | succ k ih => rw [chS_succ, arcN_append, ih]; rfl
  rw [this]; rfl
theorem chn_right (l : List Ar) {k : Nat} (h : k ≤ 6) : faultM (chnM l k) = 0 := by
  have hl := chn_len l k
  refine faultM_ok ?_ ?_
  · simp only [sizeB, hl, chn_arcN, Bool.and_eq_true, decide_eq_true_eq]
    omega
  · simp only [rangeB, Bool.and_eq_true, List.all_eq_true, hl]
    refine ⟨?_, fun s hs => ?_⟩
    · show inB 0 _ _ = true
      simp only [inB, Bool.and_eq_true, decide_eq_true_eq]
      omega
    · rcases chn_mem hs with ⟨i, hi, rfl⟩ | rfl
      · have hb := chA_bd l i
        have ht : (chA l i).2.2.2 = (i : Int) + 1 := rfl
        have e1 : arcB (k + 1) (chA l i) = true := by
          simp only [arcB, inB, Bool.and_eq_true, decide_eq_true_eq]
          omega
        simp [stB, finB, e1]
      · simp [stB, finB, inB]
theorem nz_out (g : Nat → Ar) (q : Nat) : nzL (outQ (q + 1) g) = nzL (outQ q g) ++ (if (g q).2.1 = 0 then [] else [(g q).2.1]) := by
  unfold outQ nzL
  rw [List.range_succ, List.map_append, List.filter_append]
  congr 1
  by_cases h : (g q).2.1 = 0 <;> simp [h]
theorem nz_in (g : Nat → Ar) (q : Nat) : nzL (insQ (q + 1) g) = nzL (insQ q g) ++ (if (g q).1 = 0 then [] else [(g q).1]) := by
  unfold insQ nzL
  rw [List.range_succ, List.map_append, List.filter_append]
  congr 1
  by_cases h : (g q).1 = 0 <;> simp [h]
theorem nz_out_len (g : Nat → Ar) (q : Nat) : (nzL (outQ q g)).length ≤ q := by
  have := List.length_filter_le (fun n : Int => n != 0) (outQ q g)
  unfold nzL
  simpa [outQ] using this
theorem nz_in_len (g : Nat → Ar) (q : Nat) : (nzL (insQ q g)).length ≤ q := by
  have := List.length_filter_le (fun n : Int => n != 0) (insQ q g)
  unfold nzL
  simpa [insQ] using this
end Go.Proofs.Ythcfkiinjcbajaa.Pl
