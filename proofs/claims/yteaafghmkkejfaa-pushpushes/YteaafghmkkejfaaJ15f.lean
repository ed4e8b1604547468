/- What a machine costs for words: states and places of both words, numbered (no program in sight). What a machine costs for words: the table of costs (no program in sight). What machines that were made cost for words: as numbers (no program in sight). -/
import Derived.Test.YteaafghmkkejfaaPlainWg
import Derived.Test.YteaafghmkkejfaaPlainRa
import Derived.Test.YteaafghmkkejfaaJ15e
import Derived.Test.YteaafghmkkejfaaPlainW
namespace Go.Proofs.Yteaafghmkkejfaa.Pl
set_option linter.unusedVariables false
set_option linter.unusedSimpArgs false
/-- Where a label leads in a word from a place on. -/
def fitN (l : List Int) (i : Nat) (b : Int) : Option Nat := if b = 0 then some i else if i < l.length ∧ el l i = b then some (i + 1) else none
theorem fitN_le {l : List Int} {i j : Nat} {b : Int} (h : fitN l i b = some j) (hi : i ≤ l.length) : j ≤ l.length := by
  unfold fitN at h
  split at h
  · simp at h; omega
  · split at h
    · simp at h; omega
    · simp at h
theorem take_snocW {l : List Int} {i : Nat} (h : i < l.length) : l.take (i + 1) = l.take i ++ [el l i] := by
  rw [List.take_add_one, List.getElem?_eq_getElem h, el_get h]
  rfl
theorem fitN_take {l : List Int} {i j : Nat} {b : Int} (h : fitN l i b = some j) : l.take j = l.take i ++ lab b := by
  unfold fitN at h
  unfold lab
  split at h
  · rename_i hb
    simp at h
    rw [if_pos hb, h, List.append_nil]
  · rename_i hb
    rw [if_neg hb]
    split at h
    · rename_i hi
      simp at h
      rw [← h, take_snocW hi.1, hi.2]
    · simp at h
theorem take_fitN {l u : List Int} {j : Nat} {b : Int} (hj : j ≤ l.length) (h : u ++ lab b = l.take j) : ∃ i, i ≤ l.length ∧ u = l.take i ∧ fitN l i b = some j := by
  unfold lab at h
  unfold fitN
  by_cases hb : b = 0
  · rw [if_pos hb, List.append_nil] at h
    exact ⟨j, hj, h, by rw [if_pos hb]⟩
  · rw [if_neg hb] at h
    rcases j with _ | j
    · simp at h
    · rw [take_snocW (by omega)] at h
      have h1 := List.append_inj' h rfl
      have h2 : b = el l j := by simpa using h1.2
      exact ⟨j, by omega, h1.1, by rw [if_neg hb, if_pos ⟨by omega, h2.symm⟩]⟩
/-- The number of a state and a place in each word. -/
def idx (X Y q i j : Nat) : Nat := (q * (X + 1) + i) * (Y + 1) + j
theorem idx_j {X Y q i j : Nat} (hj : j ≤ Y) : idx X Y q i j % (Y + 1) = j := by
  unfold idx
  rw [Nat.mul_comm, Nat.mul_add_mod]
  exact Nat.mod_eq_of_lt (by omega)
theorem idx_d {X Y q i j : Nat} (hj : j ≤ Y) : idx X Y q i j / (Y + 1) = q * (X + 1) + i := by
  unfold idx
  rw [Nat.mul_comm, Nat.mul_add_div (by omega), Nat.div_eq_of_lt (by omega), Nat.add_zero]
theorem idx_i {X Y q i j : Nat} (hi : i ≤ X) (hj : j ≤ Y) : idx X Y q i j / (Y + 1) % (X + 1) = i := by
  rw [idx_d hj, Nat.mul_comm, Nat.mul_add_mod]
  exact Nat.mod_eq_of_lt (by omega)
theorem idx_q {X Y q i j : Nat} (hi : i ≤ X) (hj : j ≤ Y) : idx X Y q i j / (Y + 1) / (X + 1) = q := by
  rw [idx_d hj, Nat.mul_comm, Nat.mul_add_div (by omega), Nat.div_eq_of_lt (by omega), Nat.add_zero]
theorem idx_one {X Y q i j q' i' j' : Nat} (hi : i ≤ X) (hj : j ≤ Y) (hi' : i' ≤ X) (hj' : j' ≤ Y) (h : idx X Y q i j = idx X Y q' i' j') : q = q' ∧ i = i' ∧ j = j' := by
  refine ⟨?_, ?_, ?_⟩
  · have := idx_q (q := q) hi hj; rw [h, idx_q hi' hj'] at this; exact this.symm
  · have := idx_i (q := q) hi hj; rw [h, idx_i hi' hj'] at this; exact this.symm
  · have := idx_j (X := X) (q := q) (i := i) hj; rw [h, idx_j hj'] at this; exact this.symm
theorem idx_lt {X Y q i j n : Nat} (hq : q < n) (hi : i ≤ X) (hj : j ≤ Y) : idx X Y q i j < n * (X + 1) * (Y + 1) := by
  unfold idx
  have h1 : q * (X + 1) + i + 1 ≤ n * (X + 1) := by
    have : (q + 1) * (X + 1) ≤ n * (X + 1) := Nat.mul_le_mul_right _ (by omega)
    rw [Nat.add_mul] at this
    omega
  have h2 : (q * (X + 1) + i + 1) * (Y + 1) ≤ n * (X + 1) * (Y + 1) := Nat.mul_le_mul_right _ h1
  rw [Nat.add_mul] at h2
  omega
/-- Each number is one. -/
theorem idx_of {X Y n k : Nat} (h : k < n * (X + 1) * (Y + 1)) : k / (Y + 1) / (X + 1) < n ∧ k / (Y + 1) % (X + 1) ≤ X ∧ k % (Y + 1) ≤ Y ∧ k = idx X Y (k / (Y + 1) / (X + 1)) (k / (Y + 1) % (X + 1)) (k % (Y + 1)) := by
  have h1 : k / (Y + 1) < n * (X + 1) := (Nat.div_lt_iff_lt_mul (by omega)).2 h
  refine ⟨(Nat.div_lt_iff_lt_mul (by omega)).2 h1, ?_, ?_, ?_⟩
  · have := Nat.mod_lt (k / (Y + 1)) (show 0 < X + 1 by omega); omega
  · have := Nat.mod_lt k (show 0 < Y + 1 by omega); omega
  · unfold idx
    rw [Nat.div_add_mod', Nat.div_add_mod']
/-- What is written: it matters, or not. -/
def fitF (free : Bool) (y : List Int) (j : Nat) (b : Int) : Option Nat := if free = true then some j else fitN y j b
theorem fitF_le {free : Bool} {l : List Int} {i j : Nat} {b : Int} (h : fitF free l i b = some j) (hi : i ≤ l.length) : j ≤ l.length := by
  unfold fitF at h
  split at h
  · simp at h; omega
  · exact fitN_le h hi
/-- One arc further. -/
def Edge (l : List St) (x y : List Int) (free : Bool) (k w k' : Nat) : Prop :=
  ∃ q i j a t i' j', q < l.length ∧ i ≤ x.length ∧ j ≤ y.length ∧ a ∈ (el l q).2 ∧ a.2.2.2 = ((t : Nat) : Int) ∧ fitN x i a.1 = some i' ∧ fitF free y j a.2.1 = some j' ∧ k = idx x.length y.length q i j ∧ w = a.2.2.1.toNat ∧ k' = idx x.length y.length t i' j'
theorem run_way {l : List St} {x y : List Int} {z n k c : Nat} (hz : z < l.length) (hto : ∀ q, q < l.length → ∀ a ∈ (el l q).2, ∃ t : Nat, a.2.2.2 = (t : Int) ∧ t < l.length) (h : Run (Edge l x y false) (idx x.length y.length z 0 0) n k c) :
    ∃ q i j, q < l.length ∧ i ≤ x.length ∧ j ≤ y.length ∧ k = idx x.length y.length q i j ∧ Way l z (x.take i) (y.take j) q c := by
  induction h with
  | nil => exact ⟨z, 0, 0, hz, by omega, by omega, rfl, by simpa using Way.nil⟩
  | step h e ih =>
    obtain ⟨q, i, j, hq, hi, hj, rfl, hw⟩ := ih
    obtain ⟨q', i', j', a, t, i2, j2, hq', hi', hj', ha, ht, f1, f2, ek, rfl, rfl⟩ := e
    obtain ⟨rfl, rfl, rfl⟩ := idx_one hi hj hi' hj' ek
    obtain ⟨t', e1, e2⟩ := hto _ hq a ha
    have : t = t' := by omega
    subst this
    have f2' : fitN y j a.2.1 = some j2 := by simpa [fitF] using f2
    refine ⟨t, i2, j2, e2, fitN_le f1 hi, fitN_le f2' hj, rfl, ?_⟩
    rw [fitN_take f1, fitN_take f2']
    exact hw.snoc ha ht
theorem way_run {l : List St} {x y : List Int} {z q c : Nat} {u v : List Int} (hz : z < l.length) (hto : ∀ q, q < l.length → ∀ a ∈ (el l q).2, ∃ t : Nat, a.2.2.2 = (t : Int) ∧ t < l.length) (h : Way l z u v q c) :
    ∀ i j, i ≤ x.length → j ≤ y.length → u = x.take i → v = y.take j → ∃ n, Run (Edge l x y false) (idx x.length y.length z 0 0) n (idx x.length y.length q i j) c := by
  induction h with
  | nil =>
    intro i j hi hj hu hv
    have h1 : i = 0 := by
      have := congrArg List.length hu
      simp at this; omega
    have h2 : j = 0 := by
      have := congrArg List.length hv
      simp at this; omega
    subst h1; subst h2
    exact ⟨0, .nil⟩
  | snoc h ha ht ih =>
    intro i j hi hj hu hv
    obtain ⟨i0, hi0, hu0, f1⟩ := take_fitN hi hu
    obtain ⟨j0, hj0, hv0, f2⟩ := take_fitN hj hv
    obtain ⟨n, hn⟩ := ih i0 j0 hi0 hj0 hu0 hv0
    exact ⟨n + 1, hn.step ⟨_, i0, j0, _, _, i, j, h.inside hz hto, hi0, hj0, ha, ht, f1, by simpa [fitF] using f2, rfl, rfl, rfl⟩⟩
theorem run_wayF {l : List St} {x : List Int} {z n k c : Nat} (hz : z < l.length) (hto : ∀ q, q < l.length → ∀ a ∈ (el l q).2, ∃ t : Nat, a.2.2.2 = (t : Int) ∧ t < l.length) (h : Run (Edge l x [] true) (idx x.length 0 z 0 0) n k c) :
    ∃ q i v, q < l.length ∧ i ≤ x.length ∧ k = idx x.length 0 q i 0 ∧ Way l z (x.take i) v q c := by
  induction h with
  | nil => exact ⟨z, 0, [], hz, by omega, rfl, by simpa using Way.nil⟩
  | step h e ih =>
    obtain ⟨q, i, v, hq, hi, rfl, hw⟩ := ih
    obtain ⟨q', i', j', a, t, i2, j2, hq', hi', hj', ha, ht, f1, f2, ek, rfl, rfl⟩ := e
    simp only [List.length_nil] at hj' ek
    obtain ⟨rfl, rfl, rfl⟩ := idx_one hi (Nat.le_refl 0) hi' hj' ek
    obtain ⟨t', e1, e2⟩ := hto _ hq a ha
    have : t = t' := by omega
    subst this
    have : j2 = 0 := by simp [fitF] at f2; omega
    subst this
    refine ⟨t, i2, v ++ lab a.2.1, e2, fitN_le f1 hi, rfl, ?_⟩
    rw [fitN_take f1]
    exact hw.snoc ha ht
theorem way_runF {l : List St} {x : List Int} {z q c : Nat} {u v : List Int} (hz : z < l.length) (hto : ∀ q, q < l.length → ∀ a ∈ (el l q).2, ∃ t : Nat, a.2.2.2 = (t : Int) ∧ t < l.length) (h : Way l z u v q c) :
    ∀ i, i ≤ x.length → u = x.take i → ∃ n, Run (Edge l x [] true) (idx x.length 0 z 0 0) n (idx x.length 0 q i 0) c := by
  induction h with
  | nil =>
    intro i hi hu
    have h1 : i = 0 := by
      have := congrArg List.length hu
      simp at this; omega
    subst h1
    exact ⟨0, .nil⟩
  | snoc h ha ht ih =>
    intro i hi hu
    obtain ⟨i0, hi0, hu0, f1⟩ := take_fitN hi hu
    obtain ⟨n, hn⟩ := ih i0 hi0 hu0
    exact ⟨n + 1, hn.step ⟨_, i0, 0, _, _, i, 0, h.inside hz hto, hi0, Nat.le_refl _, ha, ht, f1, by simp [fitF], rfl, rfl, rfl⟩⟩
/-- The places at the words' ends: just the ways. -/
theorem ends_way {l : List St} {x y : List Int} {z q c : Nat} (hz : z < l.length) (hto : ∀ q, q < l.length → ∀ a ∈ (el l q).2, ∃ t : Nat, a.2.2.2 = (t : Int) ∧ t < l.length) :
    (∃ n, Run (Edge l x y false) (idx x.length y.length z 0 0) n (idx x.length y.length q x.length y.length) c) ↔ Way l z x y q c := by
  constructor
  · rintro ⟨n, h⟩
    obtain ⟨q', i, j, hq, hi, hj, e, hw⟩ := run_way hz hto h
    obtain ⟨rfl, rfl, rfl⟩ := idx_one (Nat.le_refl _) (Nat.le_refl _) hi hj e
    simpa using hw
  · intro h
    exact way_run hz hto h x.length y.length (Nat.le_refl _) (Nat.le_refl _) (by simp) (by simp)
theorem ends_wayF {l : List St} {x : List Int} {z q c : Nat} (hz : z < l.length) (hto : ∀ q, q < l.length → ∀ a ∈ (el l q).2, ∃ t : Nat, a.2.2.2 = (t : Int) ∧ t < l.length) :
    (∃ n, Run (Edge l x [] true) (idx x.length 0 z 0 0) n (idx x.length 0 q x.length 0) c) ↔ ∃ v, Way l z x v q c := by
  constructor
  · rintro ⟨n, h⟩
    obtain ⟨q', i, v, hq, hi, e, hw⟩ := run_wayF hz hto h
    obtain ⟨rfl, rfl, _⟩ := idx_one (Nat.le_refl _) (Nat.le_refl 0) hi (Nat.le_refl 0) e
    exact ⟨v, by simpa using hw⟩
  · rintro ⟨v, h⟩
    exact way_runF hz hto h x.length (Nat.le_refl _) (by simp)
end Go.Proofs.Yteaafghmkkejfaa.Pl
namespace Go.Proofs.Yteaafghmkkejfaa.Pl
set_option linter.unusedVariables false
set_option linter.unusedSimpArgs false
/-- No cost at all. -/
def noneI : Int := 1152921504606846976
def sumT : List Int → Nat
  | [] => 0
  | c :: l => c.toNat + sumT l
theorem sumT_set {v : Int} : ∀ {cs : List Int} {k : Nat}, k < cs.length → 0 ≤ v → v < el cs k → sumT (cs.set k v) < sumT cs
  | [], k, h, _, _ => absurd h (by simp)
  | c :: l, 0, _, h0, h => by
    rw [el_zero] at h
    simp only [List.set_cons_zero, sumT]
    omega
  | c :: l, k + 1, hk, h0, h => by
    rw [el_succ] at h
    have := sumT_set (cs := l) (k := k) (by simpa using hk) h0 h
    simp only [List.set_cons_succ, sumT]
    omega
theorem el_setT {l : List Int} {q j : Nat} (hq : q < l.length) (x : Int) : el (l.set q x) j = if j = q then x else el l j := by
  by_cases h : j = q
  · subst h; rw [if_pos rfl]; simp [el, hq]
  · rw [if_neg h]; simp [el, List.getElem?_set, Ne.symm h]
structure CostT (l : List St) (x y : List Int) (free : Bool) (z : Int) (cs : List Int) : Prop where
  len : cs.length = l.length * (x.length + 1) * (y.length + 1)
  rng : ∀ k, k < cs.length → 0 ≤ el cs k ∧ el cs k ≤ noneI
  beg : 0 ≤ z → el cs (idx x.length y.length z.toNat 0 0) = 0
  run : ∀ k, k < cs.length → el cs k < noneI → 0 ≤ z ∧ ∃ n, Run (Edge l x y free) (idx x.length y.length z.toNat 0 0) n k (el cs k).toNat
def ClosedT (l : List St) (x y : List Int) (free : Bool) (cs : List Int) : Prop := ∀ k w k', k < cs.length → el cs k < noneI → Edge l x y free k w k' → el cs k' ≤ el cs k + (w : Int)
theorem CostT.relax {l : List St} {x y : List Int} {free : Bool} {z : Int} {cs : List Int} (h : CostT l x y free z cs) {k w k' : Nat} (hk : k < cs.length) (hc : el cs k < noneI) (he : Edge l x y free k w k') (hk' : k' < cs.length) (hl : el cs k + (w : Int) < el cs k') :
    CostT l x y free z (cs.set k' (el cs k + (w : Int))) ∧ sumT (cs.set k' (el cs k + (w : Int))) < sumT cs := by
  have h0 := (h.rng k hk).1
  have h1 := (h.rng k' hk').2
  refine ⟨⟨by rw [List.length_set]; exact h.len, fun j hj => ?_, fun hz => ?_, fun j hj hn => ?_⟩, sumT_set hk' (by omega) hl⟩
  · rw [List.length_set] at hj
    rw [el_setT hk']
    split
    · omega
    · exact h.rng j hj
  · have := h.beg hz
    rw [el_setT hk']
    split
    · rename_i e; rw [e] at this; omega
    · exact this
  · rw [List.length_set] at hj
    rw [el_setT hk'] at hn ⊢
    split
    · rename_i e
      subst e
      obtain ⟨hz, n, hr⟩ := h.run k hk hc
      refine ⟨hz, n + 1, ?_⟩
      have := hr.step he
      rwa [show (el cs k + (w : Int)).toNat = (el cs k).toNat + w by omega]
    · rename_i e
      rw [if_neg e] at hn
      exact h.run j hj hn
theorem el_replicateT {n k : Nat} {c : Int} (h : k < n) : el (List.replicate n c) k = c := by simp [el, h]
theorem CostT.none {l : List St} {x y : List Int} {free : Bool} {z : Int} (hz : z < 0) : CostT l x y free z (List.replicate (l.length * (x.length + 1) * (y.length + 1)) noneI) :=
  ⟨by simp, fun k hk => by rw [List.length_replicate] at hk; rw [el_replicateT hk]; unfold noneI; omega, fun h => by omega, fun k hk hn => by rw [List.length_replicate] at hk; rw [el_replicateT hk] at hn; omega⟩
theorem CostT.start {l : List St} {x y : List Int} {free : Bool} {z : Nat} (hz : z < l.length) : CostT l x y free z ((List.replicate (l.length * (x.length + 1) * (y.length + 1)) noneI).set (idx x.length y.length z 0 0) 0) := by
  have hlt : idx x.length y.length z 0 0 < (List.replicate (l.length * (x.length + 1) * (y.length + 1)) noneI).length := by rw [List.length_replicate]; exact idx_lt hz (by omega) (by omega)
  refine ⟨by simp, fun k hk => ?_, fun _ => ?_, fun k hk hn => ?_⟩
  · rw [List.length_set, List.length_replicate] at hk
    rw [el_setT hlt, el_replicateT hk]
    unfold noneI
    split <;> omega
  · rw [Int.toNat_natCast, el_setT hlt, if_pos rfl]
  · rw [List.length_set, List.length_replicate] at hk
    rw [el_setT hlt, el_replicateT hk] at hn ⊢
    split
    · rename_i e
      refine ⟨by omega, 0, ?_⟩
      rw [Int.toNat_natCast, e]
      exact .nil
    · rename_i e
      rw [if_neg e] at hn
      omega
/-- What the table tells at the end. -/
theorem CostT.told {l : List St} {x y : List Int} {free : Bool} {z : Nat} {cs : List Int} (h : CostT l x y free z cs) (hc : ClosedT l x y free cs) (hz : z < l.length) (hn : l.length ≤ 60) (hx : x.length ≤ 100) (hy : y.length ≤ 100)
    (hto : ∀ q, q < l.length → ∀ a ∈ (el l q).2, (∃ t : Nat, a.2.2.2 = (t : Int) ∧ t < l.length) ∧ a.2.2.1 ≤ 1000000000) {k : Nat} (hk : k < cs.length) :
    (el cs k < 1000000000000000 ∧ LeastP (fun c => ∃ n, Run (Edge l x y free) (idx x.length y.length z 0 0) n k c) (el cs k).toNat) ∨ (el cs k = noneI ∧ ∀ n c, ¬ Run (Edge l x y free) (idx x.length y.length z 0 0) n k c) := by
  have hs : idx x.length y.length z 0 0 < cs.length := by rw [h.len]; exact idx_lt hz (by omega) (by omega)
  have hE : ∀ k w j, Edge l x y free k w j → j < cs.length ∧ w ≤ 1000000000 := by
    rintro k w j ⟨q, i, j, a, t, i', j', hq, hi, hj, ha, ht, f1, f2, rfl, rfl, rfl⟩
    obtain ⟨⟨t', e1, e2⟩, e3⟩ := hto q hq a ha
    have : t = t' := by omega
    subst this
    exact ⟨by rw [h.len]; exact idx_lt e2 (fitN_le f1 hi) (fitF_le f2 hj), by omega⟩
  have hN : cs.length ≤ 612060 := by
    rw [h.len]
    have h1 : l.length * (x.length + 1) ≤ 60 * 101 := Nat.mul_le_mul hn (by omega)
    have h2 : l.length * (x.length + 1) * (y.length + 1) ≤ 60 * 101 * 101 := Nat.mul_le_mul h1 (by omega)
    omega
  have hbig : cs.length * 1000000000 < 1000000000000000 := by
    have : cs.length * 1000000000 ≤ 612060 * 1000000000 := Nat.mul_le_mul_right _ hN
    omega
  have hB : (noneI).toNat = 1152921504606846976 := rfl
  have hbeg : el cs (idx x.length y.length z 0 0) = 0 := by have := h.beg (by omega); rwa [Int.toNat_natCast] at this
  have key := table_told (E := Edge l x y free) (s := idx x.length y.length z 0 0) (T := fun k => if k < cs.length then (el cs k).toNat else 1152921504606846976) (B := 1152921504606846976) (N := cs.length) (W := 1000000000) hs hE (by omega)
    (by rw [if_pos hs, hbeg]; rfl)
    (fun k => by
      split
      · rename_i hk; have := (h.rng k hk).2; unfold noneI at this; omega
      · omega)
    (fun k w j hk e => by
      by_cases g : k < cs.length
      · rw [if_pos g] at hk ⊢
        have h1 := (h.rng k g).1
        have h2 := hc k w j g (by unfold noneI; omega) e
        have h3 := (h.rng j (hE _ _ _ e).1).1
        rw [if_pos (hE _ _ _ e).1]
        omega
      · rw [if_neg g] at hk; omega)
    (fun k hk => by
      by_cases g : k < cs.length
      · rw [if_pos g] at hk ⊢
        obtain ⟨_, n, hr⟩ := h.run k g (by have := (h.rng k g).1; unfold noneI; omega)
        rw [Int.toNat_natCast] at hr
        exact ⟨n, hr⟩
      · rw [if_neg g] at hk; omega) k
  simp only [if_pos hk] at key
  rcases key with ⟨h1, h2⟩ | ⟨h1, h2⟩
  · refine .inl ⟨?_, h2⟩
    obtain ⟨n, hr⟩ := h2.1
    obtain ⟨m, d, hm, hd⟩ := hr.short hs (fun k w j e => (hE k w j e).1)
    have h3 := hd.cost (W := 1000000000) (fun k w j e => (hE k w j e).2)
    have h4 := h2.2 d ⟨m, hd⟩
    have h5 : m * 1000000000 ≤ cs.length * 1000000000 := Nat.mul_le_mul_right _ (by omega)
    have h6 := (h.rng k hk).1
    omega
  · refine .inr ⟨?_, h2⟩
    have := (h.rng k hk).1
    unfold noneI
    omega
/-- The least at the words' ends. -/
def bstF (cs : List Int) (l : List St) (X Y : Nat) : Nat → Int
  | 0 => noneI
  | q + 1 => if el cs (idx X Y q X Y) ≠ noneI ∧ (el l q).1 ≠ 1000000001 ∧ el cs (idx X Y q X Y) + (el l q).1 < bstF cs l X Y q then el cs (idx X Y q X Y) + (el l q).1 else bstF cs l X Y q
/-- The cheapest of all, as the reference tells it. -/
def ChpAns (P : Nat → Prop) (b : Int) : Prop := (b = noneI ∧ ∀ c, ¬ P c) ∨ ∃ c : Nat, LeastP P c ∧ b = (c : Int) ∧ c < 1152921504606846976
theorem ChpAns.one {P : Nat → Prop} {b b' : Int} (h : ChpAns P b) (k : ChpAns P b') : b = b' := by
  rcases h with ⟨rfl, h⟩ | ⟨c, hc, rfl, _⟩ <;> rcases k with ⟨rfl, k⟩ | ⟨d, hd, rfl, _⟩
  · rfl
  · exact absurd hd.1 (h d)
  · exact absurd hc.1 (k c)
  · rw [hc.one hd]
theorem ChpAns.congr {P Q : Nat → Prop} (hPQ : ∀ c, P c ↔ Q c) {b : Int} (h : ChpAns P b) : ChpAns Q b := by
  have : P = Q := funext fun c => propext (hPQ c)
  rwa [← this]
theorem ChpAns.wgh {P : Nat → Prop} {b : Int} (h : ChpAns P b) : WghAns P (if b = noneI then 1000000001 else if 1000000000 < b then 0 else b) (if b = noneI then 0 else if 1000000000 < b then 4 else 0) := by
  rcases h with ⟨rfl, h⟩ | ⟨c, hc, rfl, hlt⟩
  · exact .inl ⟨h, by rw [if_pos rfl], by rw [if_pos rfl]⟩
  · have hne : ¬ (c : Int) = noneI := by unfold noneI; omega
    rw [if_neg hne, if_neg hne]
    by_cases g : (1000000000 : Int) < c
    · rw [if_pos g, if_pos g]
      exact .inr ⟨c, hc, .inr ⟨by omega, rfl, rfl⟩⟩
    · rw [if_neg g, if_neg g]
      exact .inr ⟨c, hc, .inl ⟨by omega, rfl, rfl⟩⟩
/-- The costs of all states together. -/
theorem bst_ans {cs : List Int} {l : List St} {X Y : Nat} {R : Nat → Nat → Prop} (hfin : ∀ q, q < l.length → (el l q).1 ≠ 1000000001 → 0 ≤ (el l q).1 ∧ (el l q).1 ≤ 1000000000)
    (h : ∀ q, q < l.length → (0 ≤ el cs (idx X Y q X Y) ∧ el cs (idx X Y q X Y) < 1000000000000000 ∧ LeastP (R q) (el cs (idx X Y q X Y)).toNat) ∨ (el cs (idx X Y q X Y) = noneI ∧ ∀ c, ¬ R q c)) :
    ∀ n, n ≤ l.length → ChpAns (fun c => ∃ q d, q < n ∧ R q d ∧ (el l q).1 ≠ 1000000001 ∧ c = d + (el l q).1.toNat) (bstF cs l X Y n) ∧ 0 ≤ bstF cs l X Y n := by
  intro n
  induction n with
  | zero => intro _; exact ⟨.inl ⟨rfl, fun c ⟨q, d, hq, _⟩ => by omega⟩, by simp [bstF, noneI]⟩
  | succ n ih =>
    intro hn
    obtain ⟨ih, ih0⟩ := ih (by omega)
    simp only [bstF]
    have old : ∀ {c}, (∃ q d, q < n ∧ R q d ∧ (el l q).1 ≠ 1000000001 ∧ c = d + (el l q).1.toNat) → ∃ q d, q < n + 1 ∧ R q d ∧ (el l q).1 ≠ 1000000001 ∧ c = d + (el l q).1.toNat := fun {c} ⟨q, d, hq, h⟩ => ⟨q, d, by omega, h⟩
    have same : (∀ d, R n d → (el l n).1 = 1000000001) → ChpAns (fun c => ∃ q d, q < n + 1 ∧ R q d ∧ (el l q).1 ≠ 1000000001 ∧ c = d + (el l q).1.toNat) (bstF cs l X Y n) := fun hno => by
      refine ih.congr fun c => ⟨old, fun ⟨q, d, hq, h1, h2, h3⟩ => ?_⟩
      by_cases e : q = n
      · subst e; exact absurd (hno d h1) h2
      · exact ⟨q, d, by omega, h1, h2, h3⟩
    rcases h n (by omega) with ⟨h0, h1, h2⟩ | ⟨h1, h2⟩
    · have hne : el cs (idx X Y n X Y) ≠ noneI := by unfold noneI; omega
      by_cases hf : (el l n).1 = 1000000001
      · rw [if_neg (by simp [hf])]
        exact ⟨same fun _ _ => hf, ih0⟩
      · obtain ⟨f0, f1⟩ := hfin n (by omega) hf
        have least : ∀ d, R n d → (el cs (idx X Y n X Y)).toNat ≤ d := h2.2
        by_cases hlt : el cs (idx X Y n X Y) + (el l n).1 < bstF cs l X Y n
        · rw [if_pos ⟨hne, hf, hlt⟩]
          refine ⟨.inr ⟨(el cs (idx X Y n X Y)).toNat + (el l n).1.toNat, ⟨⟨n, _, by omega, h2.1, hf, rfl⟩, ?_⟩, by omega, by omega⟩, by omega⟩
          rintro c ⟨q, d, hq, k1, k2, rfl⟩
          by_cases e : q = n
          · subst e; have := least d k1; omega
          · rcases ih with ⟨_, hno⟩ | ⟨b, hb, hbe, _⟩
            · exact absurd ⟨q, d, by omega, k1, k2, rfl⟩ (hno _)
            · have := hb.2 _ ⟨q, d, by omega, k1, k2, rfl⟩
              omega
        · rw [if_neg (fun g => hlt g.2.2)]
          refine ⟨?_, ih0⟩
          rcases ih with ⟨hb, hno⟩ | ⟨b, hb, hbe, hbl⟩
          · unfold noneI at hb; omega
          · refine .inr ⟨b, ⟨old hb.1, ?_⟩, hbe, hbl⟩
            rintro c ⟨q, d, hq, k1, k2, rfl⟩
            by_cases e : q = n
            · subst e; have := least d k1; omega
            · exact hb.2 _ ⟨q, d, by omega, k1, k2, rfl⟩
    · rw [if_neg (fun g => g.1 h1)]
      exact ⟨same fun d hd => absurd hd (h2 d), ih0⟩
end Go.Proofs.Yteaafghmkkejfaa.Pl
namespace Go.Proofs.Yteaafghmkkejfaa.Pl
set_option linter.unusedVariables false
set_option linter.unusedSimpArgs false
/-- A cost as a number. -/
def CstIs (P : Nat → Prop) (n : Int) : Prop := (n = 1000000001 ∧ ∀ c, ¬ P c) ∨ ∃ c : Nat, LeastP P c ∧ c ≤ 100000000 ∧ n = (c : Int)
theorem CstIs.nonneg {P : Nat → Prop} {n : Int} (h : CstIs P n) : 0 ≤ n := by
  rcases h with ⟨rfl, _⟩ | ⟨c, _, _, rfl⟩ <;> omega
theorem CstIs.eq {P Q : Nat → Prop} {a b : Int} (h : CstIs P a) (k : CstIs Q b) (e : ∀ c, P c ↔ Q c) : a = b := by
  have : P = Q := funext fun c => propext (e c)
  subst this
  rcases h with ⟨rfl, h⟩ | ⟨c, hc, _, rfl⟩ <;> rcases k with ⟨rfl, k⟩ | ⟨d, hd, _, rfl⟩
  · rfl
  · exact absurd hd.1 (h d)
  · exact absurd hc.1 (k c)
  · rw [hc.one hd]
theorem CstIs.or {P Q R : Nat → Prop} {a b u : Int} (h : CstIs P a) (k : CstIs Q b) (hu : CstIs R u) (e : ∀ c, R c ↔ P c ∨ Q c) : u = min a b := by
  rcases hu with ⟨rfl, hu⟩ | ⟨c, hc, hcb, rfl⟩
  · rcases h with ⟨rfl, _⟩ | ⟨d, hd, _⟩
    · rcases k with ⟨rfl, _⟩ | ⟨d, hd, _⟩
      · rfl
      · exact absurd ((e d).2 (.inr hd.1)) (hu d)
    · exact absurd ((e d).2 (.inl hd.1)) (hu d)
  · have hP : ∀ d, P d → c ≤ d := fun d hd => hc.2 d ((e d).2 (.inl hd))
    have hQ : ∀ d, Q d → c ≤ d := fun d hd => hc.2 d ((e d).2 (.inr hd))
    have ha : (c : Int) ≤ a := by
      rcases h with ⟨rfl, _⟩ | ⟨d, hd, _, rfl⟩
      · omega
      · have := hP d hd.1; omega
    have hb : (c : Int) ≤ b := by
      rcases k with ⟨rfl, _⟩ | ⟨d, hd, _, rfl⟩
      · omega
      · have := hQ d hd.1; omega
    rcases (e c).1 hc.1 with g | g
    · rcases h with ⟨_, h⟩ | ⟨d, hd, _, rfl⟩
      · exact absurd g (h c)
      · have := hd.2 c g
        omega
    · rcases k with ⟨_, k⟩ | ⟨d, hd, _, rfl⟩
      · exact absurd g (k c)
      · have := hd.2 c g
        omega
theorem CstIs.le {P Q : Nat → Prop} {a b : Int} (h : CstIs P a) (k : CstIs Q b) (e : ∀ c, P c → Q c) : b ≤ a := by
  rcases h with ⟨rfl, h⟩ | ⟨c, hc, _, rfl⟩ <;> rcases k with ⟨rfl, k⟩ | ⟨d, hd, _, rfl⟩
  · omega
  · omega
  · exact absurd (e c hc.1) (k c)
  · have := hd.2 c (e c hc.1); omega
theorem cst_of {P : Nat → Prop} {n e : Int} (h : WghAns P n e) (hb : ∀ c, P c → ∃ d, d ≤ 100000000 ∧ P d) : e = 0 ∧ CstIs P n := by
  rcases h with ⟨h, rfl, rfl⟩ | ⟨c, hc, h⟩
  · exact ⟨rfl, .inl ⟨rfl, h⟩⟩
  · obtain ⟨d, hd, hp⟩ := hb c hc.1
    have := hc.2 d hp
    rcases h with ⟨h1, rfl, rfl⟩ | ⟨h1, rfl, rfl⟩
    · exact ⟨rfl, .inr ⟨c, hc, by omega, rfl⟩⟩
    · omega
/-- Small weights. -/
def CheapL (l : List St) : Prop := ∀ s ∈ l, (s.1 ≠ 1000000001 → s.1 ≤ 1000) ∧ ∀ a ∈ s.2, a.2.2.1 ≤ 1000
theorem right_ToIn {m : Mc} (h : faultM m = 0) : ToIn m.2 := fun q hq a ha => by
  have h1 := (right_parts h).2 _ (el_mem hq)
  simp only [stB, Bool.and_eq_true, List.all_eq_true] at h1
  have h2 := h1.2 _ ha
  simp only [arcB, inB, Bool.and_eq_true, decide_eq_true_eq] at h2
  exact ⟨a.2.2.2.toNat, by omega, by omega⟩
theorem edge_small {l : List St} {x y : List Int} {fr : Bool} (hto : ToIn l) (hc : CheapL l) (hx : x.length ≤ 12) (hy : y.length ≤ 12) (hn : l.length ≤ 60) :
    l.length * (x.length + 1) * (y.length + 1) ≤ 10140 ∧ ∀ k w j, Edge l x y fr k w j → j < l.length * (x.length + 1) * (y.length + 1) ∧ w ≤ 1000 := by
  have h1 : l.length * (x.length + 1) ≤ 60 * 13 := Nat.mul_le_mul hn (by omega)
  have h2 : l.length * (x.length + 1) * (y.length + 1) ≤ 60 * 13 * 13 := Nat.mul_le_mul h1 (by omega)
  refine ⟨by omega, ?_⟩
  rintro k w j ⟨q, i, j, a, t, i', j', hq, hi, hj, ha, ht, f1, f2, rfl, rfl, rfl⟩
  obtain ⟨t', e1, e2⟩ := hto q hq a ha
  have : t = t' := by omega
  subst this
  have h3 := (hc _ (el_mem hq)).2 a ha
  exact ⟨idx_lt e2 (fitN_le f1 hi) (fitF_le f2 hj), by omega⟩
theorem costs_bound {m : Mc} {x y : List Int} (hr : faultM m = 0) (hc : CheapL m.2) (hx : x.length ≤ 12) (hy : y.length ≤ 12) (c : Nat) (h : Costs m x y c) : ∃ d, d ≤ 100000000 ∧ Costs m x y d := by
  obtain ⟨hz, p, d, hw, hp, hf, rfl⟩ := h
  have h60 := (right_size (z := m.1) (l := m.2) hr).1
  obtain ⟨⟨hz1, hz2⟩, _⟩ := right_parts hr
  have hto := right_ToIn hr
  have hzl : m.1.toNat < m.2.length := by omega
  obtain ⟨hN, hE⟩ := edge_small (fr := false) hto hc hx hy h60
  obtain ⟨n, hn⟩ := (ends_way hzl hto).2 hw
  obtain ⟨n', d', hn', hd'⟩ := hn.short (idx_lt hzl (by omega) (by omega)) (fun k w j e => (hE k w j e).1)
  have h1 := hd'.cost (W := 1000) (fun k w j e => (hE k w j e).2)
  have h2 : n' * 1000 ≤ 10140 * 1000 := Nat.mul_le_mul_right _ (by omega)
  have h3 := (hc _ (el_mem hp)).1 hf
  exact ⟨d' + (el m.2 p).1.toNat, by omega, hz, p, d', (ends_way hzl hto).1 ⟨n', hd'⟩, hp, hf, rfl⟩
theorem costsR_bound {m : Mc} {x : List Int} (hr : faultM m = 0) (hc : CheapL m.2) (hx : x.length ≤ 12) (c : Nat) (h : CostsR m x c) : ∃ d, d ≤ 100000000 ∧ CostsR m x d := by
  obtain ⟨y, hz, p, d, hw, hp, hf, rfl⟩ := h
  have h60 := (right_size (z := m.1) (l := m.2) hr).1
  obtain ⟨⟨hz1, hz2⟩, _⟩ := right_parts hr
  have hto := right_ToIn hr
  have hzl : m.1.toNat < m.2.length := by omega
  obtain ⟨hN, hE⟩ := edge_small (y := []) (fr := true) hto hc hx (by simp) h60
  obtain ⟨n, hn⟩ := (ends_wayF (x := x) (q := p) (c := d) hzl hto).2 ⟨y, hw⟩
  obtain ⟨n', d', hn', hd'⟩ := hn.short (idx_lt hzl (by omega) (by omega)) (fun k w j e => (hE k w j e).1)
  have h1 := hd'.cost (W := 1000) (fun k w j e => (hE k w j e).2)
  have h2 : n' * 1000 ≤ 10140 * 1000 := Nat.mul_le_mul_right _ (by omega)
  have h3 := (hc _ (el_mem hp)).1 hf
  obtain ⟨y', hw'⟩ := (ends_wayF (x := x) (q := p) (c := d') hzl hto).1 ⟨n', hd'⟩
  exact ⟨d' + (el m.2 p).1.toNat, by omega, y', hz, p, d', hw', hp, hf, rfl⟩
/-- Words that were made. -/
def wdL (l : List Int) (k : Nat) : List Int := (l.take k).map (fun n => 1 + pkR n 2)
theorem wdL_len (l : List Int) (k : Nat) : (wdL l k).length ≤ k := by simp [wdL]; omega
theorem wrd_12 {l : List Int} (hl : l.length ≤ 12) (h : ∀ n ∈ l, 1 ≤ n ∧ n ≤ 1000) : wrdE l = 0 := wrd_ok (by omega) fun i hi => by
  have := h _ (el_mem hi)
  simp [inB]
  omega
theorem wdL_mem {l : List Int} {k : Nat} {n : Int} (h : n ∈ wdL l k) : n = 1 ∨ n = 2 := by
  unfold wdL at h
  rw [List.mem_map] at h
  obtain ⟨a, _, rfl⟩ := h
  have := pkR_bd a 2 (by omega)
  omega
theorem wdL_wrd {l : List Int} {k : Nat} (hk : k ≤ 12) : wrdE (wdL l k) = 0 := wrd_12 (by have := wdL_len l k; omega) fun n hn => by rcases wdL_mem hn with rfl | rfl <;> omega
theorem made_cheap (r : Int × List (Int × Bool × List Ar)) (states : Nat) (full : Bool) : CheapL (madeM r states full).2 := fun s hs => by
  simp only [madeM, statesM, List.mem_map] at hs
  obtain ⟨q, _, rfl⟩ := hs
  split
  · exact ⟨fun _ => by simp, fun a ha => absurd ha (by simp)⟩
  · refine ⟨fun h => ?_, fun a ha => ?_⟩
    · unfold stM at h ⊢
      simp only at h ⊢
      split
      · have := pkR_bd (el r.2 q).1 10 (by omega); omega
      · rename_i g; rw [if_neg g] at h; exact absurd rfl h
    · simp only [stM, List.mem_map] at ha
      obtain ⟨e, _, rfl⟩ := ha
      unfold arM
      have := pkR_bd e.2.2.1 10 (by omega)
      simp only
      omega
theorem cheap_sh {l : List St} {d : Int} (h : CheapL l) : CheapL (l.map (fun s => shS d s.1 [] s)) := fun s hs => by
  rw [List.mem_map] at hs
  obtain ⟨t, ht, rfl⟩ := hs
  refine ⟨(h t ht).1, fun a ha => ?_⟩
  simp only [shS, List.append_nil, List.mem_map] at ha
  obtain ⟨b, hb, rfl⟩ := ha
  exact (h t ht).2 b hb
theorem cheap_hop (z d x : Int) (hx : x ≤ 1000) : ∀ a ∈ hopA z d x, a.2.2.1 ≤ 1000 := fun a ha => by
  unfold hopA at ha
  split at ha
  · simp at ha
  · simp at ha
    subst ha
    exact hx
theorem cheap_append {l r : List St} (h : CheapL l) (k : CheapL r) : CheapL (l ++ r) := fun s hs => by
  rcases List.mem_append.1 hs with g | g
  · exact h s g
  · exact k s g
theorem cheap_cons {s : St} {l : List St} (hs : (s.1 ≠ 1000000001 → s.1 ≤ 1000) ∧ ∀ a ∈ s.2, a.2.2.1 ≤ 1000) (h : CheapL l) : CheapL (s :: l) := fun t ht => by
  rcases List.mem_cons.1 ht with rfl | g
  · exact hs
  · exact h t g
theorem uni_cheap {a b : Mc} (ha : CheapL a.2) (hb : CheapL b.2) : CheapL (uniM a b).2 := by
  refine cheap_cons ⟨fun h => absurd rfl h, fun e he => ?_⟩ (cheap_append (cheap_sh ha) (cheap_sh hb))
  rcases List.mem_append.1 he with g | g
  · exact cheap_hop _ _ _ (by omega) e g
  · exact cheap_hop _ _ _ (by omega) e g
theorem cheap_end {l : List St} {d z e : Int} (h : CheapL l) : CheapL (l.map (fun s => shS d 1000000001 (endA s.1 z e) s)) := fun s hs => by
  rw [List.mem_map] at hs
  obtain ⟨t, ht, rfl⟩ := hs
  refine ⟨fun g => absurd rfl g, fun a ha => ?_⟩
  simp only [shS] at ha
  rcases List.mem_append.1 ha with g | g
  · rw [List.mem_map] at g
    obtain ⟨b, hb, rfl⟩ := g
    exact (h t ht).2 b hb
  · unfold endA at g
    split at g
    · simp at g
    · rename_i hne
      exact cheap_hop _ _ _ ((h t ht).1 hne) a g
theorem cat_cheap {a b : Mc} (ha : CheapL a.2) (hb : CheapL b.2) : CheapL (catM a b).2 := cheap_append (cheap_end ha) (cheap_sh hb)
theorem sta_cheap {a : Mc} (ha : CheapL a.2) : CheapL (staM a).2 := cheap_cons ⟨fun _ => by simp, cheap_hop _ _ _ (by omega)⟩ (cheap_end ha)
theorem tu_cheap {k : Int} {a : Mc} (ha : CheapL a.2) : CheapL (tuM k a).2 := fun s hs => by
  simp only [tuM, List.mem_map] at hs
  obtain ⟨t, ht, rfl⟩ := hs
  refine ⟨(ha t ht).1, fun e he => ?_⟩
  simp only [tuS, List.mem_map] at he
  obtain ⟨b, hb, rfl⟩ := he
  have := (ha t ht).2 b hb
  unfold tuA
  simpa using this
theorem into_cheap {l : List St} {t : Nat} (h : CheapL l) : ∀ k, k ≤ l.length → ∀ a ∈ intoL l t k, a.2.2.1 ≤ 1000
  | 0, _, a, ha => by simp [intoL] at ha
  | k + 1, hk, a, ha => by
    simp only [intoL, List.mem_append] at ha
    rcases ha with g | g
    · exact into_cheap h k (by omega) a g
    · simp only [intoA, List.mem_map, List.mem_filter] at g
      obtain ⟨b, ⟨hb, _⟩, rfl⟩ := g
      exact (h _ (el_mem (by omega))).2 b hb
theorem first_cheap {l : List St} (h : CheapL l) : ∀ k, k ≤ l.length → ∀ a ∈ firstL l k, a.2.2.1 ≤ 1000
  | 0, _, a, ha => by simp [firstL] at ha
  | k + 1, hk, a, ha => by
    simp only [firstL, List.mem_append] at ha
    rcases ha with g | g
    · exact first_cheap h k (by omega) a g
    · split at g
      · simp at g
      · rename_i hne
        simp at g
        subst g
        exact (h _ (el_mem (by omega))).1 hne
theorem rev_cheap {m : Mc} (h : CheapL m.2) : CheapL (revM m).2 := by
  refine cheap_cons ⟨fun g => absurd rfl g, first_cheap h _ (Nat.le_refl _)⟩ fun s hs => ?_
  rw [List.mem_map] at hs
  obtain ⟨q, _, rfl⟩ := hs
  refine ⟨fun g => ?_, into_cheap h _ (Nat.le_refl _)⟩
  unfold revS at g ⊢
  simp only at g ⊢
  split
  · omega
  · rename_i e; rw [if_neg e] at g; exact absurd rfl g
theorem wrd_rev {l : List Int} (h : wrdE l = 0) : wrdE l.reverse = 0 := by
  obtain ⟨h1, h2⟩ := wrd_parts h
  refine wrd_12 (by simpa using h1) fun n hn => ?_
  rw [List.mem_reverse] at hn
  obtain ⟨i, hi, e⟩ := List.getElem_of_mem hn
  have := h2 i hi
  rw [el_get hi, e] at this
  exact this
end Go.Proofs.Yteaafghmkkejfaa.Pl
