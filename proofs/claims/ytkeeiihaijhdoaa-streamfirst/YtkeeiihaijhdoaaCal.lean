/- What a machine costs for words: ways, the least of them (no program in sight). -/
import Derived.Test.YtkeeiihaijhdoaaCak
import Derived.Test.YtkeeiihaijhdoaaCaa
import Derived.Test.YtkeeiihaijhdoaaCab
namespace Go.Proofs.Ytkeeiihaijhdoaa.Pl
set_option linter.unusedVariables false
set_option linter.unusedSimpArgs false
def lab (a : Int) : List Int := if a = 0 then [] else [a]
inductive Way (l : List St) (q : Nat) : List Int → List Int → Nat → Nat → Prop
 | nil : Way l q [] [] q 0
 | snoc {u v : List Int} {p c : Nat} (h : Way l q u v p c) {a : Ar} (ha : a ∈ (el l p).2) {t : Nat} (ht : a.2.2.2 = (t : Int)) : Way l q (u ++ lab a.1) (v ++ lab a.2.1) t (c + a.2.2.1.toNat)
theorem Way.inside {l : List St} {q p c : Nat} {u v : List Int} (h : Way l q u v p c) (hq : q < l.length) (hto : ∀ q, q < l.length → ∀ a ∈ (el l q).2, ∃ t : Nat, a.2.2.2 = (t : Int) ∧ t < l.length) : p < l.length := by
  induction h with
  | nil => exact hq
  | snoc h ha ht ih =>
    obtain ⟨t, e, ht'⟩ := hto _ ih _ ha
    rename_i t'
    have : t = t' := by omega
    omega
def Costs (m : Mc) (x y : List Int) (c : Nat) : Prop := 0 ≤ m.1 ∧ ∃ p d, Way m.2 m.1.toNat x y p d ∧ p < m.2.length ∧ (el m.2 p).1 ≠ 1000000001 ∧ c = d + (el m.2 p).1.toNat
def CostsR (m : Mc) (x : List Int) (c : Nat) : Prop := ∃ y, Costs m x y c
def LeastP (P : Nat → Prop) (c : Nat) : Prop := P c ∧ ∀ d, P d → c ≤ d
theorem LeastP.one {P : Nat → Prop} {c d : Nat} (h : LeastP P c) (k : LeastP P d) : c = d := Nat.le_antisymm (h.2 d k.1) (k.2 c h.1)
def WghAns (P : Nat → Prop) (n e : Int) : Prop := ((∀ c, ¬ P c) ∧ n = 1000000001 ∧ e = 0) ∨ ∃ c : Nat, LeastP P c ∧ ((c ≤ 1000000000 ∧ n = (c : Int) ∧ e = 0) ∨ (1000000000 < c ∧ n = 0 ∧ e = 4))
theorem WghAns.congr {P Q : Nat → Prop} (hPQ : ∀ c, P c ↔ Q c) {n e : Int} (h : WghAns P n e) : WghAns Q n e := by
 have : P = Q := funext fun c => propext (hPQ c)
 rwa [← this]
section
variable {E : Nat → Nat → Nat → Prop} {s : Nat}
inductive Run (E : Nat → Nat → Nat → Prop) (s : Nat) : Nat → Nat → Nat → Prop
 | nil : Run E s 0 s 0
 | step {n k c w j : Nat} (h : Run E s n k c) (e : E k w j) : Run E s (n + 1) j (c + w)
theorem Run.cost {W n k c : Nat} (h : Run E s n k c) (hW : ∀ k w j, E k w j → w ≤ W) : c ≤ n * W := by
  induction h with
  | nil => simp
  | step h e ih =>
    have := hW _ _ _ e
    rw [Nat.add_mul]
    omega
theorem Run.trans {n k c m j d : Nat} (h : Run E s n k c) (g : Run E k m j d) : Run E s (n + m) j (c + d) := by
 induction g with
 | nil => exact h
 | step g e ih => rw [← Nat.add_assoc, ← Nat.add_assoc]; exact ih.step e
theorem Run.places {n k c : Nat} (h : Run E s n k c) : ∃ f : Nat → Nat, f 0 = s ∧ f n = k ∧ (∀ i, i ≤ n → ∃ d, Run E s i (f i) d ∧ ∃ d', Run E (f i) (n - i) k d') := by
  induction h with
  | nil => exact ⟨fun _ => s, rfl, rfl, fun i hi => ⟨0, by rw [show i = 0 by omega]; exact .nil, 0, by rw [show i = 0 by omega]; exact .nil⟩⟩
  | step h e ih =>
    rename_i n k c w j
    obtain ⟨f, f0, fn, hf⟩ := ih
    refine ⟨fun i => if i ≤ n then f i else j, by simp [f0], if_neg (by omega), fun i hi => ?_⟩
    by_cases g : i ≤ n
    · simp only [g, if_true]
      obtain ⟨d, h1, d', h2⟩ := hf i g
      refine ⟨d, h1, d' + w, ?_⟩
      have := h2.step e
      rwa [show n - i + 1 = n + 1 - i by omega] at this
    · obtain rfl : i = n + 1 := by omega
      simp only [g, if_false]
      exact ⟨c + w, h.step e, 0, by rw [Nat.sub_self]; exact .nil⟩
theorem twice {f : Nat → Nat} {n N : Nat} (hf : ∀ i, i ≤ n → f i < N) (hn : N ≤ n) : ∃ i j, i < j ∧ j ≤ n ∧ f i = f j := by
 by_cases h : ∃ i j, i < j ∧ j ≤ n ∧ f i = f j
 ·exact h
 ·exfalso
  have hnd : ((List.range (n + 1)).map f).Nodup := by
   unfold List.Nodup
   rw [List.pairwise_map]
   refine List.Pairwise.imp_of_mem ?_ (List.pairwise_lt_range (n := n + 1))
   intro a b ha hb hab e
   rw [List.mem_range] at hb
   exact h ⟨a, b, hab, by omega, e⟩
  have := pigeon N _ hnd (fun x hx => by
   rw [List.mem_map] at hx
   obtain ⟨i, hi, rfl⟩ := hx
   rw [List.mem_range] at hi
   exact hf i (by omega))
  simp at this
  omega
theorem Run.short {N : Nat} (hs : s < N) (hE : ∀ k w j, E k w j → j < N) : ∀ {n k c : Nat}, Run E s n k c → ∃ m d, m < N ∧ Run E s m k d := by
  have key : ∀ b n k c, n < b → Run E s n k c → ∃ m d, m < N ∧ Run E s m k d := by
    intro b
    induction b with
    | zero => intro n k c hn; omega
    | succ b ih =>
      intro n k c hn h
      by_cases g : n < N
      · exact ⟨n, c, g, h⟩
      · obtain ⟨f, f0, fn, hf⟩ := h.places
        have hin : ∀ i, i ≤ n → f i < N := fun i hi => by
          obtain ⟨d, h1, _⟩ := hf i hi
          generalize f i = y at h1
          cases h1 with
          | nil => exact hs
          | step _ e => exact hE _ _ _ e
        obtain ⟨i, j, hij, hj, e⟩ := twice hin (by omega)
        obtain ⟨d, h1, _⟩ := hf i (by omega)
        obtain ⟨_, _, d', h2⟩ := hf j hj
        rw [← e] at h2
        exact ih _ _ _ (by omega) (h1.trans h2)
  exact fun {n k c} h => key (n + 1) n k c (by omega) h
end
def ToIn (l : List St) : Prop := ∀ q, q < l.length → ∀ a ∈ (el l q).2, ∃ t : Nat, a.2.2.2 = (t : Int) ∧ t < l.length
theorem right_okM {m : Mc} (h : faultM m = 0) : okM m := by
 have h1 := right_size (z := m.1) (l := m.2) h
 exact small_ok (by omega) (by omega)
def S (f : Nat → Nat) : Nat → Nat
 | 0 => 0
 | n + 1 => S f n + f n
inductive Stc (a : Mc) : List Int → List Int → Nat → Prop
 | nil : Stc a [] [] 0
 | snoc {x y x' y' : List Int} {c d : Nat} (h : Stc a x y c) (k : Costs a x' y' d) : Stc a (x ++ x') (y ++ y') (c + d)
def wrdE (l : List Int) : Int := if 12 < l.length then 1 else if l.all (fun b => inB b 1 1000) = true then 0 else 2
theorem wrd_long {l : List Int} (h : 12 < l.length) : wrdE l = 1 := by unfold wrdE; rw [if_pos h]
theorem wrd_ok {l : List Int} (h : ¬ 12 < l.length) (ha : ∀ i, i < l.length → inB (el l i) 1 1000 = true) : wrdE l = 0 := by
 unfold wrdE
 rw [if_neg h, if_pos]
 rw [List.all_eq_true]
 intro b hb
 obtain ⟨j, hj, rfl⟩ := mem_el hb
 exact ha j hj
theorem wrd_parts {l : List Int} (h : wrdE l = 0) : l.length ≤ 12 ∧ ∀ i, i < l.length → 1 ≤ el l i ∧ el l i ≤ 1000 := by
 unfold wrdE at h
 by_cases g : 12 < l.length
 ·rw [if_pos g] at h; cases h
 ·rw [if_neg g] at h
  by_cases k : l.all (fun b => inB b 1 1000) = true
  ·refine ⟨by omega, fun i hi => ?_⟩
   rw [List.all_eq_true] at k
   have := k (el l i) (el_mem hi)
   simpa [inB] using this
  ·rw [if_neg k] at h; cases h
def atW (l : List Int) (i : Nat) : Int := if i < l.length then el l i else 0
def croE (x y : List Int) : Int := if wrdE x ≠ 0 then wrdE x else wrdE y
def fitN (l : List Int) (i : Nat) (b : Int) : Option Nat := if b = 0 then some i else if i < l.length ∧ el l i = b then some (i + 1) else none
theorem fitN_le {l : List Int} {i j : Nat} {b : Int} (h : fitN l i b = some j) (hi : i ≤ l.length) : j ≤ l.length := by
 unfold fitN at h
 split at h
 ·simp at h; omega
 ·split at h
  ·simp at h; omega
  ·simp at h
theorem take_snocW {l : List Int} {i : Nat} (h : i < l.length) : l.take (i + 1) = l.take i ++ [el l i] := by
 rw [List.take_add_one, List.getElem?_eq_getElem h, el_get h]
 rfl
theorem fitN_take {l : List Int} {i j : Nat} {b : Int} (h : fitN l i b = some j) : l.take j = l.take i ++ lab b := by
 unfold fitN at h
 unfold lab
 split at h
 ·rename_i hb
  simp at h
  rw [if_pos hb, h, List.append_nil]
 ·rename_i hb
  rw [if_neg hb]
  split at h
  ·rename_i hi
   simp at h
   rw [← h, take_snocW hi.1, hi.2]
  ·simp at h
theorem take_fitN {l u : List Int} {j : Nat} {b : Int} (hj : j ≤ l.length) (h : u ++ lab b = l.take j) : ∃ i, i ≤ l.length ∧ u = l.take i ∧ fitN l i b = some j := by
 unfold lab at h
 unfold fitN
 by_cases hb : b = 0
 ·rw [if_pos hb, List.append_nil] at h
  exact ⟨j, hj, h, by rw [if_pos hb]⟩
 ·rw [if_neg hb] at h
  rcases j with _ | j
  ·simp at h
  ·rw [take_snocW (by omega)] at h
   have h1 := List.append_inj' h rfl
   have h2 : b = el l j := by simpa using h1.2
   exact ⟨j, by omega, h1.1, by rw [if_neg hb, if_pos ⟨by omega, h2.symm⟩]⟩
def idx (X Y q i j : Nat) : Nat := (q * (X + 1) + i) * (Y + 1) + j
theorem idx_j {X Y q i j : Nat} (hj : j ≤ Y) : idx X Y q i j % (Y + 1) = j := by
 unfold idx
 rw [Nat.mul_comm, Nat.mul_add_mod]
 exact Nat.mod_eq_of_lt (by omega)
theorem idx_d {X Y q i j : Nat} (hj : j ≤ Y) : idx X Y q i j / (Y + 1) = q * (X + 1) + i := by
 unfold idx
 rw [Nat.mul_comm, Nat.mul_add_div (by omega), Nat.div_eq_of_lt (by omega), Nat.add_zero]
theorem idx_i {X Y q i j : Nat} (hi : i ≤ X) (hj : j ≤ Y) : idx X Y q i j / (Y + 1) % (X + 1) = i := by
 rw [idx_d hj, Nat.mul_comm, Nat.mul_add_mod]
 exact Nat.mod_eq_of_lt (by omega)
theorem idx_q {X Y q i j : Nat} (hi : i ≤ X) (hj : j ≤ Y) : idx X Y q i j / (Y + 1) / (X + 1) = q := by
 rw [idx_d hj, Nat.mul_comm, Nat.mul_add_div (by omega), Nat.div_eq_of_lt (by omega), Nat.add_zero]
theorem idx_one {X Y q i j q' i' j' : Nat} (hi : i ≤ X) (hj : j ≤ Y) (hi' : i' ≤ X) (hj' : j' ≤ Y) (h : idx X Y q i j = idx X Y q' i' j') : q = q' ∧ i = i' ∧ j = j' := by
 refine ⟨?_, ?_, ?_⟩
 ·have := idx_q (q := q) hi hj; rw [h, idx_q hi' hj'] at this; exact this.symm
 ·have := idx_i (q := q) hi hj; rw [h, idx_i hi' hj'] at this; exact this.symm
 ·have := idx_j (X := X) (q := q) (i := i) hj; rw [h, idx_j hj'] at this; exact this.symm
theorem idx_lt {X Y q i j n : Nat} (hq : q < n) (hi : i ≤ X) (hj : j ≤ Y) : idx X Y q i j < n * (X + 1) * (Y + 1) := by
 unfold idx
 have h1 : q * (X + 1) + i + 1 ≤ n * (X + 1) := by
  have : (q + 1) * (X + 1) ≤ n * (X + 1) := Nat.mul_le_mul_right _ (by omega)
  rw [Nat.add_mul] at this
  omega
 have h2 : (q * (X + 1) + i + 1) * (Y + 1) ≤ n * (X + 1) * (Y + 1) := Nat.mul_le_mul_right _ h1
 rw [Nat.add_mul] at h2
 omega
def fitF (free : Bool) (y : List Int) (j : Nat) (b : Int) : Option Nat := if free = true then some j else fitN y j b
theorem fitF_le {free : Bool} {l : List Int} {i j : Nat} {b : Int} (h : fitF free l i b = some j) (hi : i ≤ l.length) : j ≤ l.length := by
 unfold fitF at h
 split at h
 ·simp at h; omega
 ·exact fitN_le h hi
def Edge (l : List St) (x y : List Int) (free : Bool) (k w k' : Nat) : Prop :=
 ∃ q i j a t i' j', q < l.length ∧ i ≤ x.length ∧ j ≤ y.length ∧ a ∈ (el l q).2 ∧ a.2.2.2 = ((t : Nat) : Int) ∧ fitN x i a.1 = some i' ∧ fitF free y j a.2.1 = some j' ∧ k = idx x.length y.length q i j ∧ w = a.2.2.1.toNat ∧ k' = idx x.length y.length t i' j'
theorem run_way {l : List St} {x y : List Int} {z n k c : Nat} (hz : z < l.length) (hto : ∀ q, q < l.length → ∀ a ∈ (el l q).2, ∃ t : Nat, a.2.2.2 = (t : Int) ∧ t < l.length) (h : Run (Edge l x y false) (idx x.length y.length z 0 0) n k c) :
    ∃ q i j, q < l.length ∧ i ≤ x.length ∧ j ≤ y.length ∧ k = idx x.length y.length q i j ∧ Way l z (x.take i) (y.take j) q c := by
  induction h with
  | nil => exact ⟨z, 0, 0, hz, by omega, by omega, rfl, by simpa using Way.nil⟩
  | step h e ih =>
    obtain ⟨q, i, j, hq, hi, hj, rfl, hw⟩ := ih
    obtain ⟨q', i', j', a, t, i2, j2, hq', hi', hj', ha, ht, f1, f2, ek, rfl, rfl⟩ := e
    obtain ⟨rfl, rfl, rfl⟩ := idx_one hi hj hi' hj' ek
    obtain ⟨t', e1, e2⟩ := hto _ hq a ha
    have : t = t' := by omega
    subst this
    have f2' : fitN y j a.2.1 = some j2 := by simpa [fitF] using f2
    refine ⟨t, i2, j2, e2, fitN_le f1 hi, fitN_le f2' hj, rfl, ?_⟩
    rw [fitN_take f1, fitN_take f2']
    exact hw.snoc ha ht
theorem way_run {l : List St} {x y : List Int} {z q c : Nat} {u v : List Int} (hz : z < l.length) (hto : ∀ q, q < l.length → ∀ a ∈ (el l q).2, ∃ t : Nat, a.2.2.2 = (t : Int) ∧ t < l.length) (h : Way l z u v q c) :
    ∀ i j, i ≤ x.length → j ≤ y.length → u = x.take i → v = y.take j → ∃ n, Run (Edge l x y false) (idx x.length y.length z 0 0) n (idx x.length y.length q i j) c := by
  induction h with
  | nil =>
    intro i j hi hj hu hv
    have h1 : i = 0 := by
      have := congrArg List.length hu
      simp at this; omega
    have h2 : j = 0 := by
      have := congrArg List.length hv
      simp at this; omega
    subst h1; subst h2
    exact ⟨0, .nil⟩
  | snoc h ha ht ih =>
    intro i j hi hj hu hv
    obtain ⟨i0, hi0, hu0, f1⟩ := take_fitN hi hu
    obtain ⟨j0, hj0, hv0, f2⟩ := take_fitN hj hv
    obtain ⟨n, hn⟩ := ih i0 j0 hi0 hj0 hu0 hv0
    exact ⟨n + 1, hn.step ⟨_, i0, j0, _, _, i, j, h.inside hz hto, hi0, hj0, ha, ht, f1, by simpa [fitF] using f2, rfl, rfl, rfl⟩⟩
theorem run_wayF {l : List St} {x : List Int} {z n k c : Nat} (hz : z < l.length) (hto : ∀ q, q < l.length → ∀ a ∈ (el l q).2, ∃ t : Nat, a.2.2.2 = (t : Int) ∧ t < l.length) (h : Run (Edge l x [] true) (idx x.length 0 z 0 0) n k c) :
    ∃ q i v, q < l.length ∧ i ≤ x.length ∧ k = idx x.length 0 q i 0 ∧ Way l z (x.take i) v q c := by
  induction h with
  | nil => exact ⟨z, 0, [], hz, by omega, rfl, by simpa using Way.nil⟩
  | step h e ih =>
    obtain ⟨q, i, v, hq, hi, rfl, hw⟩ := ih
    obtain ⟨q', i', j', a, t, i2, j2, hq', hi', hj', ha, ht, f1, f2, ek, rfl, rfl⟩ := e
    simp only [List.length_nil] at hj' ek
    obtain ⟨rfl, rfl, rfl⟩ := idx_one hi (Nat.le_refl 0) hi' hj' ek
    obtain ⟨t', e1, e2⟩ := hto _ hq a ha
    have : t = t' := by omega
    subst this
    have : j2 = 0 := by simp [fitF] at f2; omega
    subst this
    refine ⟨t, i2, v ++ lab a.2.1, e2, fitN_le f1 hi, rfl, ?_⟩
    rw [fitN_take f1]
    exact hw.snoc ha ht
theorem way_runF {l : List St} {x : List Int} {z q c : Nat} {u v : List Int} (hz : z < l.length) (hto : ∀ q, q < l.length → ∀ a ∈ (el l q).2, ∃ t : Nat, a.2.2.2 = (t : Int) ∧ t < l.length) (h : Way l z u v q c) :
    ∀ i, i ≤ x.length → u = x.take i → ∃ n, Run (Edge l x [] true) (idx x.length 0 z 0 0) n (idx x.length 0 q i 0) c := by
  induction h with
  | nil =>
    intro i hi hu
    have h1 : i = 0 := by
      have := congrArg List.length hu
      simp at this; omega
    subst h1
    exact ⟨0, .nil⟩
  | snoc h ha ht ih =>
    intro i hi hu
    obtain ⟨i0, hi0, hu0, f1⟩ := take_fitN hi hu
    obtain ⟨n, hn⟩ := ih i0 hi0 hu0
    exact ⟨n + 1, hn.step ⟨_, i0, 0, _, _, i, 0, h.inside hz hto, hi0, Nat.le_refl _, ha, ht, f1, by simp [fitF], rfl, rfl, rfl⟩⟩
theorem ends_way {l : List St} {x y : List Int} {z q c : Nat} (hz : z < l.length) (hto : ∀ q, q < l.length → ∀ a ∈ (el l q).2, ∃ t : Nat, a.2.2.2 = (t : Int) ∧ t < l.length) :
  (∃ n, Run (Edge l x y false) (idx x.length y.length z 0 0) n (idx x.length y.length q x.length y.length) c) ↔ Way l z x y q c := by
 constructor
 ·rintro ⟨n, h⟩
  obtain ⟨q', i, j, hq, hi, hj, e, hw⟩ := run_way hz hto h
  obtain ⟨rfl, rfl, rfl⟩ := idx_one (Nat.le_refl _) (Nat.le_refl _) hi hj e
  simpa using hw
 ·intro h
  exact way_run hz hto h x.length y.length (Nat.le_refl _) (Nat.le_refl _) (by simp) (by simp)
theorem ends_wayF {l : List St} {x : List Int} {z q c : Nat} (hz : z < l.length) (hto : ∀ q, q < l.length → ∀ a ∈ (el l q).2, ∃ t : Nat, a.2.2.2 = (t : Int) ∧ t < l.length) :
  (∃ n, Run (Edge l x [] true) (idx x.length 0 z 0 0) n (idx x.length 0 q x.length 0) c) ↔ ∃ v, Way l z x v q c := by
 constructor
 ·rintro ⟨n, h⟩
  obtain ⟨q', i, v, hq, hi, e, hw⟩ := run_wayF hz hto h
  obtain ⟨rfl, rfl, _⟩ := idx_one (Nat.le_refl _) (Nat.le_refl 0) hi (Nat.le_refl 0) e
  exact ⟨v, by simpa using hw⟩
 ·rintro ⟨v, h⟩
  exact way_runF hz hto h x.length (Nat.le_refl _) (by simp)
def noneI : Int := 1152921504606846976
structure CostT (l : List St) (x y : List Int) (free : Bool) (z : Int) (cs : List Int) : Prop where
 len : cs.length = l.length * (x.length + 1) * (y.length + 1)
 rng : ∀ k, k < cs.length → 0 ≤ el cs k ∧ el cs k ≤ noneI
 beg : 0 ≤ z → el cs (idx x.length y.length z.toNat 0 0) = 0
 run : ∀ k, k < cs.length → el cs k < noneI → 0 ≤ z ∧ ∃ n, Run (Edge l x y free) (idx x.length y.length z.toNat 0 0) n k (el cs k).toNat
end Go.Proofs.Ytkeeiihaijhdoaa.Pl
namespace Go.Proofs.Ytkeeiihaijhdoaa.Pl
def pkR (n many : Int) : Int := (if n < 0 then -(n + 1) else n) % many
theorem pkR_bd (n many : Int) (h : 0 < many) : 0 ≤ pkR n many ∧ pkR n many < many := by
 unfold pkR
 exact ⟨Int.emod_nonneg _ (by omega), Int.emod_lt_of_pos _ h⟩
def arM (n : Nat) (full : Bool) (e : Ar) : Ar :=
 (if (full && decide (pkR e.1 3 = 0) && decide (pkR e.2.1 3 = 0)) = true then 1 else pkR e.1 3, pkR e.2.1 3, pkR e.2.2.1 10, pkR e.2.2.2 n)
def stM (n : Nat) (full : Bool) (x : Int × Bool × List Ar) : St := (if x.2.1 = true then pkR x.1 10 else 1000000001, (x.2.2.take 4).map (arM n full))
def sizeM (r : Int × List (Int × Bool × List Ar)) (states : Nat) : Nat := min (max r.2.length 1) states
def statesM (r : Int × List (Int × Bool × List Ar)) (n : Nat) (full : Bool) : List St := (List.range n).map fun q => if r.2.length ≤ q then (0, []) else stM n full (el r.2 q)
def madeM (r : Int × List (Int × Bool × List Ar)) (states : Nat) (full : Bool) : Mc := (pkR r.1 (sizeM r states), statesM r (sizeM r states) full)
theorem statesM_length (r : Int × List (Int × Bool × List Ar)) (n : Nat) (full : Bool) : (statesM r n full).length = n := by simp [statesM]
theorem arM_right {n : Nat} (hn : 0 < n) (full : Bool) (e : Ar) : arcB n (arM n full e) = true := by
 have h1 := pkR_bd e.1 3 (by omega)
 have h2 := pkR_bd e.2.1 3 (by omega)
 have h3 := pkR_bd e.2.2.1 10 (by omega)
 have h4 := pkR_bd e.2.2.2 n (by omega)
 simp only [arcB, arM, inB, Bool.and_eq_true, decide_eq_true_eq]
 refine ⟨⟨⟨?_, by omega⟩, by omega⟩, by omega⟩
 split <;> omega
theorem stM_right {n : Nat} (hn : 0 < n) (full : Bool) (x : Int × Bool × List Ar) : stB n (stM n full x) = true := by
 have h1 := pkR_bd x.1 10 (by omega)
 unfold stB stM
 simp only [Bool.and_eq_true, List.all_eq_true, List.mem_map]
 refine ⟨?_, ?_⟩
 ·split
  ·simp only [finB, inB, Bool.or_eq_true, Bool.and_eq_true, decide_eq_true_eq]; omega
  ·rfl
 ·rintro a ⟨e, _, rfl⟩
  exact arM_right hn full e
theorem stM_few (n : Nat) (full : Bool) (x : Int × Bool × List Ar) : (stM n full x).2.length ≤ 4 := by simp [stM]; omega
theorem madeM_right (r : Int × List (Int × Bool × List Ar)) (states : Nat) (hs : 0 < states) (hs8 : states ≤ 8) (full : Bool) : faultM (madeM r states full) = 0 := by
 have hn : 0 < sizeM r states := by unfold sizeM; omega
 have hn8 : sizeM r states ≤ 8 := by unfold sizeM; omega
 unfold madeM
 generalize sizeM r states = n at *
 have hl := statesM_length r n full
 have hz := pkR_bd r.1 n (by omega)
 have hk : ∀ s ∈ statesM r n full, stB n s = true ∧ s.2.length ≤ 4 := fun s hs => by
  unfold statesM at hs
  simp only [List.mem_map] at hs
  obtain ⟨q, _, rfl⟩ := hs
  split
  ·exact ⟨by simp [stB, finB, inB], by simp⟩
  ·exact ⟨stM_right hn full _, stM_few n full _⟩
 have ha : arcN (statesM r n full) ≤ (statesM r n full).length * 4 := arcN_le (fun j hj => (hk _ (el_mem hj)).2)
 refine faultM_ok ?_ ?_
 ·simp only [sizeB, Bool.and_eq_true, decide_eq_true_eq]
  rw [hl] at ha ⊢
  omega
 ·simp only [rangeB, inB, Bool.and_eq_true, decide_eq_true_eq, List.all_eq_true]
  rw [hl]
  exact ⟨by omega, fun s hs => (hk s hs).1⟩
end Go.Proofs.Ytkeeiihaijhdoaa.Pl
namespace Go.Proofs.Ytkeeiihaijhdoaa.Pl
set_option linter.unusedVariables false
set_option linter.unusedSimpArgs false
def CstIs (P : Nat → Prop) (n : Int) : Prop := (n = 1000000001 ∧ ∀ c, ¬ P c) ∨ ∃ c : Nat, LeastP P c ∧ c ≤ 100000000 ∧ n = (c : Int)
theorem CstIs.nonneg {P : Nat → Prop} {n : Int} (h : CstIs P n) : 0 ≤ n := by
 rcases h with ⟨rfl, _⟩ | ⟨c, _, _, rfl⟩ <;> omega
theorem CstIs.eq {P Q : Nat → Prop} {a b : Int} (h : CstIs P a) (k : CstIs Q b) (e : ∀ c, P c ↔ Q c) : a = b := by
 have : P = Q := funext fun c => propext (e c)
 subst this
 rcases h with ⟨rfl, h⟩ | ⟨c, hc, _, rfl⟩ <;> rcases k with ⟨rfl, k⟩ | ⟨d, hd, _, rfl⟩
 ·rfl
 ·exact absurd hd.1 (h d)
 ·exact absurd hc.1 (k c)
 ·rw [hc.one hd]
theorem cst_of {P : Nat → Prop} {n e : Int} (h : WghAns P n e) (hb : ∀ c, P c → ∃ d, d ≤ 100000000 ∧ P d) : e = 0 ∧ CstIs P n := by
 rcases h with ⟨h, rfl, rfl⟩ | ⟨c, hc, h⟩
 ·exact ⟨rfl, .inl ⟨rfl, h⟩⟩
 ·obtain ⟨d, hd, hp⟩ := hb c hc.1
  have := hc.2 d hp
  rcases h with ⟨h1, rfl, rfl⟩ | ⟨h1, rfl, rfl⟩
  ·exact ⟨rfl, .inr ⟨c, hc, by omega, rfl⟩⟩
  ·omega
def CheapL (l : List St) : Prop := ∀ s ∈ l, (s.1 ≠ 1000000001 → s.1 ≤ 8000) ∧ ∀ a ∈ s.2, a.2.2.1 ≤ 8000
theorem right_ToIn {m : Mc} (h : faultM m = 0) : ToIn m.2 := fun q hq a ha => by
 have h1 := (right_parts h).2 _ (el_mem hq)
 simp only [stB, Bool.and_eq_true, List.all_eq_true] at h1
 have h2 := h1.2 _ ha
 simp only [arcB, inB, Bool.and_eq_true, decide_eq_true_eq] at h2
 exact ⟨a.2.2.2.toNat, by omega, by omega⟩
theorem edge_small {l : List St} {x y : List Int} {fr : Bool} (hto : ToIn l) (hc : CheapL l) (hx : x.length ≤ 12) (hy : y.length ≤ 12) (hn : l.length ≤ 60) :
  l.length * (x.length + 1) * (y.length + 1) ≤ 10140 ∧ ∀ k w j, Edge l x y fr k w j → j < l.length * (x.length + 1) * (y.length + 1) ∧ w ≤ 8000 := by
 have h1 : l.length * (x.length + 1) ≤ 60 * 13 := Nat.mul_le_mul hn (by omega)
 have h2 : l.length * (x.length + 1) * (y.length + 1) ≤ 60 * 13 * 13 := Nat.mul_le_mul h1 (by omega)
 refine ⟨by omega, ?_⟩
 rintro k w j ⟨q, i, j, a, t, i', j', hq, hi, hj, ha, ht, f1, f2, rfl, rfl, rfl⟩
 obtain ⟨t', e1, e2⟩ := hto q hq a ha
 have : t = t' := by omega
 subst this
 have h3 := (hc _ (el_mem hq)).2 a ha
 exact ⟨idx_lt e2 (fitN_le f1 hi) (fitF_le f2 hj), by omega⟩
theorem costs_bound {m : Mc} {x y : List Int} (hr : faultM m = 0) (hc : CheapL m.2) (hx : x.length ≤ 12) (hy : y.length ≤ 12) (c : Nat) (h : Costs m x y c) : ∃ d, d ≤ 100000000 ∧ Costs m x y d := by
 obtain ⟨hz, p, d, hw, hp, hf, rfl⟩ := h
 have h60 := (right_size (z := m.1) (l := m.2) hr).1
 obtain ⟨⟨hz1, hz2⟩, _⟩ := right_parts hr
 have hto := right_ToIn hr
 have hzl : m.1.toNat < m.2.length := by omega
 obtain ⟨hN, hE⟩ := edge_small (fr := false) hto hc hx hy h60
 obtain ⟨n, hn⟩ := (ends_way hzl hto).2 hw
 obtain ⟨n', d', hn', hd'⟩ := hn.short (idx_lt hzl (by omega) (by omega)) (fun k w j e => (hE k w j e).1)
 have h1 := hd'.cost (W := 8000) (fun k w j e => (hE k w j e).2)
 have h2 : n' * 8000 ≤ 10140 * 8000 := Nat.mul_le_mul_right _ (by omega)
 have h3 := (hc _ (el_mem hp)).1 hf
 exact ⟨d' + (el m.2 p).1.toNat, by omega, hz, p, d', (ends_way hzl hto).1 ⟨n', hd'⟩, hp, hf, rfl⟩
theorem costsR_bound {m : Mc} {x : List Int} (hr : faultM m = 0) (hc : CheapL m.2) (hx : x.length ≤ 12) (c : Nat) (h : CostsR m x c) : ∃ d, d ≤ 100000000 ∧ CostsR m x d := by
 obtain ⟨y, hz, p, d, hw, hp, hf, rfl⟩ := h
 have h60 := (right_size (z := m.1) (l := m.2) hr).1
 obtain ⟨⟨hz1, hz2⟩, _⟩ := right_parts hr
 have hto := right_ToIn hr
 have hzl : m.1.toNat < m.2.length := by omega
 obtain ⟨hN, hE⟩ := edge_small (y := []) (fr := true) hto hc hx (by simp) h60
 obtain ⟨n, hn⟩ := (ends_wayF (x := x) (q := p) (c := d) hzl hto).2 ⟨y, hw⟩
 obtain ⟨n', d', hn', hd'⟩ := hn.short (idx_lt hzl (by omega) (by omega)) (fun k w j e => (hE k w j e).1)
 have h1 := hd'.cost (W := 8000) (fun k w j e => (hE k w j e).2)
 have h2 : n' * 8000 ≤ 10140 * 8000 := Nat.mul_le_mul_right _ (by omega)
 have h3 := (hc _ (el_mem hp)).1 hf
 obtain ⟨y', hw'⟩ := (ends_wayF (x := x) (q := p) (c := d') hzl hto).1 ⟨n', hd'⟩
 exact ⟨d' + (el m.2 p).1.toNat, by omega, y', hz, p, d', hw', hp, hf, rfl⟩
def wdL (l : List Int) (k : Nat) : List Int := (l.take k).map (fun n => 1 + pkR n 2)
theorem wdL_len (l : List Int) (k : Nat) : (wdL l k).length ≤ k := by simp [wdL]; omega
theorem wrd_12 {l : List Int} (hl : l.length ≤ 12) (h : ∀ n ∈ l, 1 ≤ n ∧ n ≤ 1000) : wrdE l = 0 := wrd_ok (by omega) fun i hi => by
 have := h _ (el_mem hi)
 simp [inB]
 omega
theorem wdL_mem {l : List Int} {k : Nat} {n : Int} (h : n ∈ wdL l k) : n = 1 ∨ n = 2 := by
 unfold wdL at h
 rw [List.mem_map] at h
 obtain ⟨a, _, rfl⟩ := h
 have := pkR_bd a 2 (by omega)
 omega
theorem wdL_wrd {l : List Int} {k : Nat} (hk : k ≤ 12) : wrdE (wdL l k) = 0 := wrd_12 (by have := wdL_len l k; omega) fun n hn => by rcases wdL_mem hn with rfl | rfl <;> omega
theorem made_cheap (r : Int × List (Int × Bool × List Ar)) (states : Nat) (full : Bool) : CheapL (madeM r states full).2 := fun s hs => by
 simp only [madeM, statesM, List.mem_map] at hs
 obtain ⟨q, _, rfl⟩ := hs
 split
 ·exact ⟨fun _ => by simp, fun a ha => absurd ha (by simp)⟩
 ·refine ⟨fun h => ?_, fun a ha => ?_⟩
  ·unfold stM at h ⊢
   simp only at h ⊢
   split
   ·have := pkR_bd (el r.2 q).1 10 (by omega); omega
   ·rename_i g; rw [if_neg g] at h; exact absurd rfl h
  ·simp only [stM, List.mem_map] at ha
   obtain ⟨e, _, rfl⟩ := ha
   unfold arM
   have := pkR_bd e.2.2.1 10 (by omega)
   simp only
   omega
end Go.Proofs.Ytkeeiihaijhdoaa.Pl
