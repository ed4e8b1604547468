/- How many paths cost at most so much: counted by their arcs; as many as are wanted are found among short ones (no program in sight). -/
import Derived.Test.YtfpibdaedfilaaaGah
namespace Go.Proofs.Ytfpibdaedfilaaa.Pl
set_option linter.unusedVariables false
set_option linter.unusedSimpArgs false
def fE (l : List St) (q c : Nat) : Nat := if (el l q).1 ≠ 1000000001 ∧ (el l q).1.toNat ≤ c then 1 else 0
def eN (l : List St) : Nat → Nat → Nat → Nat
 | 0 => fE l
 | k + 1 => fun q c => ((el l q).2.map fun a => if a.2.2.1.toNat ≤ c then eN l k a.2.2.2.toNat (c - a.2.2.1.toNat) else 0).sum
def sN (l : List St) (k q c : Nat) : Nat := ((List.range k).map fun j => eN l j q c).sum
theorem sN_zero (l : List St) (q c : Nat) : sN l 0 q c = 0 := rfl
theorem sN_succ (l : List St) (k q c : Nat) : sN l (k + 1) q c = sN l k q c + eN l k q c := by
 unfold sN
 rw [List.range_succ, List.map_append, List.sum_append]
 simp
theorem sum_add {α : Type} (L : List α) (f g : α → Nat) : (L.map fun a => f a + g a).sum = (L.map f).sum + (L.map g).sum := by
 induction L with
 | nil => rfl
 | cons a L ih => simp only [List.map_cons, List.sum_cons, ih]; omega
theorem sum_none {α : Type} {L : List α} {f : α → Nat} (h : ∀ a ∈ L, f a = 0) : (L.map f).sum = 0 := by
 induction L with
 | nil => rfl
 | cons a L ih => rw [List.map_cons, List.sum_cons, h a (List.mem_cons_self ..), ih fun b hb => h b (List.mem_cons_of_mem _ hb)]
theorem one_at_most {K : Nat} {D : List Nat} (hd : D.Nodup) (h : ∀ j ∈ D, j = K) : D.length ≤ 1 := by
  match D, hd, h with
  | [], _, _ => exact Nat.zero_le _
  | [_], _, _ => exact Nat.le_refl _
  | a :: b :: D, hd, h =>
    have h1 := h a (by simp)
    have h2 := h b (by simp)
    rw [List.nodup_cons] at hd
    exact absurd (by rw [h1, h2]; simp) hd.1
theorem sN_front (l : List St) (k q c : Nat) : sN l (k + 1) q c = fE l q c + ((el l q).2.map fun a => if a.2.2.1.toNat ≤ c then sN l k a.2.2.2.toNat (c - a.2.2.1.toNat) else 0).sum := by
  induction k with
  | zero =>
    rw [sN_succ, sN_zero, Nat.zero_add]
    have : ((el l q).2.map fun a => if a.2.2.1.toNat ≤ c then sN l 0 a.2.2.2.toNat (c - a.2.2.1.toNat) else 0).sum = 0 := by
      refine sum_none fun a _ => ?_
      rw [sN_zero]
      split <;> rfl
    rw [this]; rfl
  | succ k ih =>
    rw [sN_succ, ih]
    have : ((el l q).2.map fun a => if a.2.2.1.toNat ≤ c then sN l (k + 1) a.2.2.2.toNat (c - a.2.2.1.toNat) else 0).sum = ((el l q).2.map fun a => if a.2.2.1.toNat ≤ c then sN l k a.2.2.2.toNat (c - a.2.2.1.toNat) else 0).sum + eN l (k + 1) q c := by
      show _ = _ + ((el l q).2.map fun a => if a.2.2.1.toNat ≤ c then eN l k a.2.2.2.toNat (c - a.2.2.1.toNat) else 0).sum
      rw [← sum_add]
      congr 1
      refine List.map_congr_left fun a _ => ?_
      split
      · rw [sN_succ]
      · rfl
    omega
theorem sN_mono (l : List St) {j k : Nat} (h : j ≤ k) (q c : Nat) : sN l j q c ≤ sN l k q c := by
 induction h with
 | refl => exact Nat.le_refl _
 | step _ ih => rw [sN_succ]; omega
theorem sum_pos {L : List Nat} (h : 0 < L.sum) : ∃ x ∈ L, 0 < x := by
  induction L with
  | nil => cases h
  | cons a L ih =>
    rw [List.sum_cons] at h
    by_cases ha : 0 < a
    · exact ⟨a, List.mem_cons_self .., ha⟩
    · obtain ⟨x, hx, h0⟩ := ih (by omega)
      exact ⟨x, List.mem_cons_of_mem _ hx, h0⟩
theorem sum_ge {L : List Nat} {x : Nat} (h : x ∈ L) : x ≤ L.sum := by
  induction L with
  | nil => cases h
  | cons a L ih =>
    rw [List.sum_cons]
    rcases List.mem_cons.1 h with rfl | h
    · omega
    · have := ih h; omega
theorem eN_pos {l : List St} (hto : ∀ q, q < l.length → ∀ a ∈ (el l q).2, ∃ t : Nat, a.2.2.2 = (t : Int) ∧ t < l.length) : ∀ {k q c : Nat}, q < l.length → (0 < eN l k q c ↔ ∃ p d, Run (ArcE l) q k p d ∧ p < l.length ∧ (el l p).1 ≠ 1000000001 ∧ d + (el l p).1.toNat ≤ c)
  | 0, q, c, hq => by
    show 0 < fE l q c ↔ _
    unfold fE
    constructor
    · intro h
      split at h
      · rename_i g
        exact ⟨q, 0, .nil, hq, g.1, by omega⟩
      · cases h
    · rintro ⟨p, d, h, h1, h2, h3⟩
      cases h
      rw [if_pos ⟨h2, by omega⟩]; exact Nat.one_pos
  | k + 1, q, c, hq => by
    show 0 < ((el l q).2.map _).sum ↔ _
    constructor
    · intro h
      obtain ⟨x, hx, h0⟩ := sum_pos h
      obtain ⟨a, ha, rfl⟩ := List.mem_map.1 hx
      split at h0
      · rename_i g
        obtain ⟨t, e1, e2⟩ := hto q hq a ha
        rw [e1, Int.toNat_natCast] at h0
        obtain ⟨p, d, h1, h2, h3, h4⟩ := (eN_pos hto e2).1 h0
        exact ⟨p, a.2.2.1.toNat + d, Run.first ⟨a, ha, e1, rfl⟩ h1, h2, h3, by omega⟩
      · cases h0
    · rintro ⟨p, d, h, h1, h2, h3⟩
      obtain ⟨j, w, d', ⟨a, ha, e1, rfl⟩, h4, rfl⟩ := h.head
      obtain ⟨t, f1, f2⟩ := hto q hq a ha
      have ej : j = t := by omega
      subst ej
      refine Nat.lt_of_lt_of_le ?_ (sum_ge (List.mem_map.2 ⟨a, ha, rfl⟩))
      rw [if_pos (by omega), e1, Int.toNat_natCast]
      exact (eN_pos hto f2).2 ⟨p, d', h4, h1, h2, by omega⟩
theorem split_len {α : Type} (p : α → Bool) (L : List α) : L.length = (L.filter p).length + (L.filter fun i => !p i).length := by
  induction L with
  | nil => rfl
  | cons a L ih =>
    cases h : p a <;> simp [List.filter_cons, h] <;> omega
theorem pigeonM {f : Nat → Nat} {m : Nat} : ∀ (N : Nat) (L : List Nat), (∀ i ∈ L, f i < N) → (∀ s, s < N → (L.filter fun i => f i == s).length ≤ m) → L.length ≤ N * m
  | 0, L, h, _ => by
    cases L with
    | nil => exact Nat.zero_le _
    | cons a L => exact absurd (h a (List.mem_cons_self ..)) (Nat.not_lt_zero _)
  | N + 1, L, h, g => by
    have h1 := pigeonM (f := f) (m := m) N (L.filter fun i => !(f i == N)) (fun i hi => by
      obtain ⟨a, b⟩ := List.mem_filter.1 hi
      have := h i a
      simp only [Bool.not_eq_true', beq_eq_false_iff_ne] at b
      omega) (fun s hs => by
      refine Nat.le_trans ?_ (g s (by omega))
      exact (List.Sublist.filter _ List.filter_sublist).length_le)
    have h2 := g N (Nat.lt_succ_self N)
    have h3 := split_len (fun i => f i == N) L
    rw [Nat.succ_mul]
    omega
theorem sum_many {K : Nat} {g : Nat → Nat} {D : List Nat} (hd : D.Nodup) (h : ∀ j ∈ D, j < K ∧ 0 < g j) : D.length ≤ ((List.range K).map g).sum := by
  induction K generalizing D with
  | zero =>
    cases D with
    | nil => exact Nat.zero_le _
    | cons a D => exact absurd (h a (List.mem_cons_self ..)).1 (Nat.not_lt_zero _)
  | succ K ih =>
    rw [List.range_succ, List.map_append, List.sum_append]
    have h1 := ih (D := D.filter fun j => j != K) (hd.filter _) (fun j hj => by
      obtain ⟨a, b⟩ := List.mem_filter.1 hj
      have := h j a
      simp only [bne_iff_ne, ne_eq] at b
      exact ⟨by omega, this.2⟩)
    by_cases hk : K ∈ D
    · have h2 : D.length ≤ (D.filter fun j => j != K).length + 1 := by
        have h3 := one_at_most (K := K) (hd.filter fun j => j == K) (fun j hj => by simpa using (List.mem_filter.1 hj).2)
        have h4 := split_len (fun j => j == K) D
        have h5 : (D.filter fun j => !(j == K)) = D.filter fun j => j != K := rfl
        rw [h5] at h4
        omega
      have := (h K hk).2
      simp only [List.map_cons, List.map_nil, List.sum_cons, List.sum_nil]
      omega
    · have h2 : D.filter (fun j => j != K) = D := List.filter_eq_self.2 fun j hj => by simp only [bne_iff_ne, ne_eq]; exact fun e => hk (e ▸ hj)
      rw [h2] at h1
      omega
theorem short_many {l : List St} (hto : ∀ q, q < l.length → ∀ a ∈ (el l q).2, ∃ t : Nat, a.2.2.2 = (t : Int) ∧ t < l.length) {n q c k : Nat} (hq : q < l.length) (hk : l.length * (n + 1) ≤ k) (h : 0 < eN l k q c) : ∃ D : List Nat, D.Nodup ∧ n < D.length ∧ ∀ j ∈ D, j < k ∧ 0 < eN l j q c := by
  obtain ⟨p, d, hr, hp, hf, hc⟩ := (eN_pos hto hq).1 h
  obtain ⟨f, g, f0, fk, gk, hparts, hmono⟩ := hr.parts
  have hE : ∀ k w j, ArcE l k w j → j < l.length := fun k w j ⟨a, ha, e1, _⟩ => by
    by_cases hk : k < l.length
    · obtain ⟨t, e2, e3⟩ := hto k hk a ha
      omega
    · rw [show el l k = default by simp [el, List.getElem?_eq_none (Nat.le_of_not_lt hk)]] at ha
      cases ha
  have hlt : ∀ {n k c : Nat}, Run (ArcE l) q n k c → k < l.length := fun h => by
    cases h with
    | nil => exact hq
    | step h e => exact hE _ _ _ e
  have hfl : ∀ i, i ≤ k → f i < l.length := fun i hi => hlt (hparts i hi).1
  -- some state is met often
  obtain ⟨s, hs⟩ : ∃ s, n + 1 < ((List.range (l.length * (n + 1) + 1)).filter fun i => f i == s).length := by
    refine Classical.byContradiction fun hn => ?_
    have := pigeonM (f := f) (m := n + 1) l.length (List.range (l.length * (n + 1) + 1)) (fun i hi => hfl i (by have := List.mem_range.1 hi; omega)) (fun s _ => by
      rcases Nat.lt_or_ge (n + 1) ((List.range (l.length * (n + 1) + 1)).filter fun i => f i == s).length with x | x
      · exact absurd ⟨s, x⟩ hn
      · exact x)
    rw [List.length_range] at this
    omega
  have hall : ∀ i ∈ (List.range (l.length * (n + 1) + 1)).filter (fun i => f i == s), f i = s ∧ i ≤ k := fun i hi => by
    obtain ⟨a, b⟩ := List.mem_filter.1 hi
    have := List.mem_range.1 a
    exact ⟨by simpa using b, by omega⟩
  have hpw : ((List.range (l.length * (n + 1) + 1)).filter fun i => f i == s).Pairwise (· < ·) := List.Pairwise.filter _ List.pairwise_lt_range
  generalize (List.range (l.length * (n + 1) + 1)).filter (fun i => f i == s) = P at *
  match P, hs, hall, hpw with
  | [], hs, _, _ => cases hs
  | i0 :: P, hs, hall, hpw =>
    rw [List.pairwise_cons] at hpw
    refine ⟨P.map fun i => k - (i - i0), ?_, by simpa using hs, fun j hj => ?_⟩
    · rw [List.nodup_iff_pairwise_ne, List.pairwise_map]
      refine hpw.2.imp_of_mem fun {a b} ha hb hab => ?_
      have h1 := (hall a (List.mem_cons_of_mem _ ha)).2
      have h2 := (hall b (List.mem_cons_of_mem _ hb)).2
      have h3 := hpw.1 a ha
      have h4 := hpw.1 b hb
      omega
    · obtain ⟨i, hi, rfl⟩ := List.mem_map.1 hj
      have h1 := hall i (List.mem_cons_of_mem _ hi)
      have h2 := hall i0 (List.mem_cons_self ..)
      have h3 := hpw.1 i hi
      refine ⟨by omega, (eN_pos hto hq).2 ?_⟩
      obtain ⟨r1, _⟩ := hparts i0 h2.2
      obtain ⟨_, d1, r2, e1⟩ := hparts i h1.2
      have r3 : Run (ArcE l) q (i0 + (k - i)) p (g i0 + d1) := by
        refine Run.trans (k := f i0) r1 ?_
        rw [h2.1, ← h1.1]
        rw [fk] at *
        exact r2
      have h5 := hmono i0 i (by omega) h1.2
      exact ⟨p, g i0 + d1, by rw [show k - (i - i0) = i0 + (k - i) by omega]; exact r3, hp, hf, by omega⟩
theorem sN_stable {l : List St} (hto : ∀ q, q < l.length → ∀ a ∈ (el l q).2, ∃ t : Nat, a.2.2.2 = (t : Int) ∧ t < l.length) {n q c : Nat} (hq : q < l.length) {K k : Nat} (hK : l.length * (n + 1) ≤ K) (hk : K ≤ k) : min n (sN l k q c) = min n (sN l K q c) := by
  induction hk with
  | refl => rfl
  | @step k hk ih =>
    rw [sN_succ]
    by_cases h0 : 0 < eN l k q c
    · obtain ⟨D, h1, h2, h3⟩ := short_many hto hq (Nat.le_trans hK hk) h0
      have h4 : D.length ≤ sN l k q c := sum_many h1 h3
      rw [← ih]
      omega
    · rw [show eN l k q c = 0 by omega, Nat.add_zero, ih]
def cLe (l : List Int) (c : Int) : Nat := l.countP fun x => decide (x ≤ c)
def RisL (l : List Int) : Prop := l.Pairwise (· ≤ ·)
def insS (x : Int) : List Int → List Int
 | [] => [x]
 | y :: l => if x < y then x :: y :: l else y :: insS x l
theorem insS_perm (x : Int) (l : List Int) : (insS x l).Perm (x :: l) := by
  induction l with
  | nil => exact List.Perm.refl _
  | cons y l ih =>
    unfold insS
    split
    · exact List.Perm.refl _
    · exact (List.Perm.cons y ih).trans (List.Perm.swap x y l)
theorem insS_ris {x : Int} {l : List Int} (h : RisL l) : RisL (insS x l) := by
  induction l with
  | nil => exact List.pairwise_singleton _ _
  | cons y l ih =>
    unfold RisL at *
    rw [List.pairwise_cons] at h
    unfold insS
    split
    · rename_i g
      rw [List.pairwise_cons, List.pairwise_cons]
      refine ⟨fun z hz => ?_, h⟩
      rcases List.mem_cons.1 hz with rfl | hz
      · omega
      · have := h.1 z hz; omega
    · rename_i g
      rw [List.pairwise_cons]
      refine ⟨fun z hz => ?_, ih h.2⟩
      rcases List.mem_cons.1 ((insS_perm x l).mem_iff.1 hz) with rfl | hz
      · omega
      · exact h.1 z hz
theorem cLe_perm {l r : List Int} (h : l.Perm r) (c : Int) : cLe l c = cLe r c := h.countP_eq _
theorem cLe_cons (x : Int) (l : List Int) (c : Int) : cLe (x :: l) c = cLe l c + if x ≤ c then 1 else 0 := by
 unfold cLe
 rw [List.countP_cons]
 simp
theorem cLe_ins (x : Int) (l : List Int) (c : Int) : cLe (insS x l) c = cLe l c + if x ≤ c then 1 else 0 := by
 rw [cLe_perm (insS_perm x l), cLe_cons]
theorem cLe_len (l : List Int) (c : Int) : cLe l c ≤ l.length := List.countP_le_length
theorem cLe_none {l : List Int} {c : Int} (h : ∀ x ∈ l, c < x) : cLe l c = 0 := List.countP_eq_zero.2 fun x hx => by have := h x hx; simp; omega
theorem cLe_take {l : List Int} (h : RisL l) (n : Nat) (c : Int) : cLe (l.take n) c = min n (cLe l c) := by
  induction l generalizing n with
  | nil => simp [cLe]
  | cons x l ih =>
    unfold RisL at h
    rw [List.pairwise_cons] at h
    cases n with
    | zero => simp [cLe]
    | succ n =>
      rw [List.take_succ_cons, cLe_cons, cLe_cons, ih h.2]
      split
      · omega
      · rename_i g
        have : cLe l c = 0 := cLe_none fun y hy => by have := h.1 y hy; omega
        rw [this]; omega
theorem ris_take {l : List Int} (h : RisL l) (n : Nat) : RisL (l.take n) := h.sublist (List.take_sublist n l)
theorem ris_one {l r : List Int} (hl : RisL l) (hr : RisL r) (hn : l.length = r.length) (h : ∀ c, cLe l c = cLe r c) : l = r := by
  induction l generalizing r with
  | nil => symm; exact List.eq_nil_of_length_eq_zero hn.symm
  | cons x l ih =>
    cases r with
    | nil => simp at hn
    | cons y r =>
      unfold RisL at hl hr
      rw [List.pairwise_cons] at hl hr
      have e : x = y := by
        have h1 := h x
        have h2 := h y
        rw [cLe_cons, cLe_cons] at h1 h2
        rcases Int.lt_trichotomy x y with g | g | g
        · rw [if_pos (Int.le_refl _), if_neg (by omega), cLe_none (l := r) fun z hz => by have := hr.1 z hz; omega] at h1
          omega
        · exact g
        · rw [if_neg (by omega), if_pos (Int.le_refl _), cLe_none (l := l) fun z hz => by have := hl.1 z hz; omega] at h2
          omega
      subst e
      rw [ih hl.2 hr.2 (by simpa using hn) fun c => by have := h c; rw [cLe_cons, cLe_cons] at this; omega]
theorem cLe_big {l : List Int} : ∃ c : Nat, ∀ d : Int, (c : Int) ≤ d → cLe l d = l.length := by
  induction l with
  | nil => exact ⟨0, fun _ _ => rfl⟩
  | cons x l ih =>
    obtain ⟨c, hc⟩ := ih
    refine ⟨max c x.toNat, fun d hd => ?_⟩
    rw [cLe_cons, hc d (by omega), if_pos (by omega)]
    rfl
structure CheapN (l : List St) (q n : Nat) (L : List Int) : Prop where
 ris : RisL L
 pos : ∀ x ∈ L, 0 ≤ x
 cnt : ∀ c : Nat, cLe L c = min n (sN l (l.length * (n + 1) + 1) q c)
theorem cLe_neg {L : List Int} (h : ∀ x ∈ L, 0 ≤ x) {c : Int} (hc : c < 0) : cLe L c = 0 := cLe_none fun x hx => by have := h x hx; omega
theorem CheapN.one {l : List St} {q n : Nat} {L R : List Int} (h : CheapN l q n L) (k : CheapN l q n R) : L = R := by
 have hc : ∀ c, cLe L c = cLe R c := fun c => by
  rcases Int.lt_or_le c 0 with g | g
  ·rw [cLe_neg h.pos g, cLe_neg k.pos g]
  ·have e : c = (c.toNat : Int) := by omega
   rw [e, h.cnt, k.cnt]
 refine ris_one h.ris k.ris ?_ hc
 obtain ⟨a, ha⟩ := cLe_big (l := L)
 obtain ⟨b, hb⟩ := cLe_big (l := R)
 have h1 := ha (max a b : Nat) (by omega)
 have h2 := hb (max a b : Nat) (by omega)
 rw [← h1, ← h2]; exact hc _
structure RndN (l : List St) (k q n : Nat) (L : List Int) : Prop where
 ris : RisL L
 pos : ∀ x ∈ L, 0 ≤ x
 cnt : ∀ c : Nat, cLe L c = min n (sN l k q c)
theorem RndN.done {l : List St} (hto : ∀ q, q < l.length → ∀ a ∈ (el l q).2, ∃ t : Nat, a.2.2.2 = (t : Int) ∧ t < l.length) {k q n : Nat} {L : List Int} (h : RndN l k q n L) (hq : q < l.length) (hk : l.length * (n + 1) ≤ k) : CheapN l q n L :=
  ⟨h.ris, h.pos, fun c => by rw [h.cnt]; rcases Nat.le_total k (l.length * (n + 1) + 1) with g | g
                             · exact (sN_stable hto hq hk g).symm
                             · exact sN_stable hto hq (by omega) g⟩
structure InsN (n : Nat) (P : Nat → Nat) (L : List Int) : Prop where
 ris : RisL L
 pos : ∀ x ∈ L, 0 ≤ x
 cnt : ∀ c : Nat, cLe L c = min n (P c)
theorem InsN.nil (n : Nat) : InsN n (fun _ => 0) [] := ⟨List.Pairwise.nil, fun x hx => absurd hx (by simp), fun c => by simp [cLe]⟩
theorem InsN.ins {n : Nat} {P : Nat → Nat} {L : List Int} (h : InsN n P L) {x : Int} (hx : 0 ≤ x) : InsN n (fun c => P c + if x ≤ (c : Int) then 1 else 0) ((insS x L).take n) := by
 refine ⟨ris_take (insS_ris h.ris) n, fun y hy => ?_, fun c => ?_⟩
 ·rcases List.mem_cons.1 ((insS_perm x L).mem_iff.1 (List.mem_of_mem_take hy)) with rfl | g
  ·exact hx
  ·exact h.pos y g
 ·rw [cLe_take (insS_ris h.ris), cLe_ins, h.cnt]
  split <;> omega
theorem InsN.congr {n : Nat} {P Q : Nat → Nat} {L : List Int} (h : InsN n P L) (e : ∀ c, min n (P c) = min n (Q c)) : InsN n Q L := ⟨h.ris, h.pos, fun c => by rw [h.cnt, e]⟩
def cUp (T : List Int) (w : Int) (j : Nat) (c : Nat) : Nat := cLe ((T.take j).map fun x => x + w) c
theorem cUp_zero (T : List Int) (w : Int) (c : Nat) : cUp T w 0 c = 0 := rfl
theorem cUp_succ {T : List Int} {w : Int} {j : Nat} (h : j < T.length) (c : Nat) : cUp T w (j + 1) c = cUp T w j c + if el T j + w ≤ (c : Int) then 1 else 0 := by
 unfold cUp
 rw [take_el h, List.map_append]
 unfold cLe
 rw [List.countP_append]
 simp
theorem cUp_all {l : List St} {k t n : Nat} {T : List Int} (h : RndN l k t n T) {w : Int} (hw : 0 ≤ w) (c : Nat) : cUp T w T.length c = if w.toNat ≤ c then min n (sN l k t (c - w.toNat)) else 0 := by
 unfold cUp
 rw [List.take_length]
 have e : cLe (T.map fun x => x + w) c = cLe T ((c : Int) - w) := by
  unfold cLe
  rw [List.countP_map]
  congr 1
  funext x
  simp only [Function.comp_def, decide_eq_decide]
  omega
 rw [e]
 split
 ·rw [show (c : Int) - w = ((c - w.toNat : Nat) : Int) by omega, h.cnt]
 ·exact cLe_neg h.pos (by omega)
def sA (l : List St) (k : Nat) (ar : List Ar) (c : Nat) : Nat := (ar.map fun a => if a.2.2.1.toNat ≤ c then sN l k a.2.2.2.toNat (c - a.2.2.1.toNat) else 0).sum
theorem InsN.arc {l : List St} {k n i : Nat} {ar : List Ar} {f : Nat → Nat} {T L : List Int} (hi : i < ar.length) {t : Nat} (ht : (el ar i).2.2.2 = (t : Int)) (hw : 0 ≤ (el ar i).2.2.1) (hT : RndN l k t n T) (h : InsN n (fun c => f c + sA l k (ar.take i) c + cUp T (el ar i).2.2.1 T.length c) L) : InsN n (fun c => f c + sA l k (ar.take (i + 1)) c) L := by
 refine h.congr fun c => ?_
 rw [cUp_all hT hw]
 unfold sA
 rw [take_el hi, List.map_append, List.sum_append]
 simp only [List.map_cons, List.map_nil, List.sum_cons, List.sum_nil, ht, Int.toNat_natCast, Nat.add_zero]
 split <;> omega
theorem RndN.next {l : List St} {k q n : Nat} {L : List Int} (h : InsN n (fun c => fE l q c + sA l k (el l q).2 c) L) : RndN l (k + 1) q n L :=
 ⟨h.ris, h.pos, fun c => by rw [h.cnt, sN_front]; rfl⟩
theorem RndN.zero (l : List St) (q n : Nat) : RndN l 0 q n [] := ⟨List.Pairwise.nil, fun x hx => absurd hx (by simp), fun c => by simp [cLe, sN_zero]⟩
end Go.Proofs.Ytfpibdaedfilaaa.Pl
