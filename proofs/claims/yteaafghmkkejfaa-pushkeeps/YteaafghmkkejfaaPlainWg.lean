/- What a machine costs for words: ways, the least of them (no program in sight). -/
import Derived.Test.YteaafghmkkejfaaJ15c
namespace Go.Proofs.Yteaafghmkkejfaa.Pl
set_option linter.unusedVariables false
set_option linter.unusedSimpArgs false
/-- What a label reads or writes: 0 is nothing. -/
def lab (a : Int) : List Int := if a = 0 then [] else [a]
/-- From state q to p, reading u, writing v, for c. -/
inductive Way (l : List St) (q : Nat) : List Int → List Int → Nat → Nat → Prop
  | nil : Way l q [] [] q 0
  | snoc {u v : List Int} {p c : Nat} (h : Way l q u v p c) {a : Ar} (ha : a ∈ (el l p).2) {t : Nat} (ht : a.2.2.2 = (t : Int)) : Way l q (u ++ lab a.1) (v ++ lab a.2.1) t (c + a.2.2.1.toNat)
theorem Way.trans {l : List St} {q p r c d : Nat} {u v u' v' : List Int} (h : Way l q u v p c) (k : Way l p u' v' r d) : Way l q (u ++ u') (v ++ v') r (c + d) := by
  induction k with
  | nil => simpa using h
  | snoc k ha ht ih =>
    have := Way.snoc ih ha ht
    rwa [List.append_assoc, List.append_assoc, Nat.add_assoc] at this
theorem Way.cons {l : List St} {q t p c : Nat} {u v : List Int} {a : Ar} (ha : a ∈ (el l q).2) (ht : a.2.2.2 = (t : Int)) (h : Way l t u v p c) : Way l q (lab a.1 ++ u) (lab a.2.1 ++ v) p (a.2.2.1.toNat + c) := by
  have h1 := Way.snoc (Way.nil (l := l) (q := q)) ha ht
  have := h1.trans h
  simpa using this
/-- The first arc of a way. -/
theorem Way.first {l : List St} {q p c : Nat} {u v : List Int} (h : Way l q u v p c) :
    (u = [] ∧ v = [] ∧ p = q ∧ c = 0) ∨ ∃ a ∈ (el l q).2, ∃ (t : Nat) (u' v' : List Int) (c' : Nat), a.2.2.2 = (t : Int) ∧ Way l t u' v' p c' ∧ u = lab a.1 ++ u' ∧ v = lab a.2.1 ++ v' ∧ c = a.2.2.1.toNat + c' := by
  induction h with
  | nil => exact .inl ⟨rfl, rfl, rfl, rfl⟩
  | snoc h ha ht ih =>
    rename_i u v p c a t
    rcases ih with ⟨rfl, rfl, rfl, rfl⟩ | ⟨b, hb, s, u', v', c', hs, hw, rfl, rfl, rfl⟩
    · exact .inr ⟨a, ha, t, [], [], 0, ht, .nil, by simp, by simp, by simp⟩
    · exact .inr ⟨b, hb, s, u' ++ lab a.1, v' ++ lab a.2.1, c' + a.2.2.1.toNat, hs, hw.snoc ha ht, by simp, by simp, by omega⟩
/-- Where a way leads, if the arcs lead to states. -/
theorem Way.inside {l : List St} {q p c : Nat} {u v : List Int} (h : Way l q u v p c) (hq : q < l.length) (hto : ∀ q, q < l.length → ∀ a ∈ (el l q).2, ∃ t : Nat, a.2.2.2 = (t : Int) ∧ t < l.length) : p < l.length := by
  induction h with
  | nil => exact hq
  | snoc h ha ht ih =>
    obtain ⟨t, e, ht'⟩ := hto _ ih _ ha
    rename_i t'
    have : t = t' := by omega
    omega
/-- P12.3: what a path costs that reads x and writes y. -/
def Costs (m : Mc) (x y : List Int) (c : Nat) : Prop := 0 ≤ m.1 ∧ ∃ p d, Way m.2 m.1.toNat x y p d ∧ p < m.2.length ∧ (el m.2 p).1 ≠ 1000000001 ∧ c = d + (el m.2 p).1.toNat
/-- P12.4. -/
def CostsR (m : Mc) (x : List Int) (c : Nat) : Prop := ∃ y, Costs m x y c
def LeastP (P : Nat → Prop) (c : Nat) : Prop := P c ∧ ∀ d, P d → c ≤ d
theorem LeastP.one {P : Nat → Prop} {c d : Nat} (h : LeastP P c) (k : LeastP P d) : c = d := Nat.le_antisymm (h.2 d k.1) (k.2 c h.1)
/-- What is answered. -/
def WghAns (P : Nat → Prop) (n e : Int) : Prop := ((∀ c, ¬ P c) ∧ n = 1000000001 ∧ e = 0) ∨ ∃ c : Nat, LeastP P c ∧ ((c ≤ 1000000000 ∧ n = (c : Int) ∧ e = 0) ∨ (1000000000 < c ∧ n = 0 ∧ e = 4))
theorem WghAns.one {P : Nat → Prop} {n e n' e' : Int} (h : WghAns P n e) (k : WghAns P n' e') : n = n' ∧ e = e' := by
  rcases h with ⟨h, rfl, rfl⟩ | ⟨c, hc, h⟩
  · rcases k with ⟨k, rfl, rfl⟩ | ⟨d, hd, _⟩
    · exact ⟨rfl, rfl⟩
    · exact absurd hd.1 (h d)
  · rcases k with ⟨k, _⟩ | ⟨d, hd, k⟩
    · exact absurd hc.1 (k c)
    · have := hc.one hd
      subst this
      rcases h with ⟨h1, rfl, rfl⟩ | ⟨h1, rfl, rfl⟩ <;> rcases k with ⟨k1, rfl, rfl⟩ | ⟨k1, rfl, rfl⟩ <;> first | exact ⟨rfl, rfl⟩ | omega
theorem WghAns.congr {P Q : Nat → Prop} (hPQ : ∀ c, P c ↔ Q c) {n e : Int} (h : WghAns P n e) : WghAns Q n e := by
  have : P = Q := funext fun c => propext (hPQ c)
  rwa [← this]
/-! A table of costs over numbered places. -/
section
variable {E : Nat → Nat → Nat → Prop} {s : Nat}
/-- From place s to k for c; E k w j: from k to j for w. -/
inductive Run (E : Nat → Nat → Nat → Prop) (s : Nat) : Nat → Nat → Nat → Prop
  | nil : Run E s 0 s 0
  | step {n k c w j : Nat} (h : Run E s n k c) (e : E k w j) : Run E s (n + 1) j (c + w)
/-- Where nothing gets cheaper, the table is at most what each run costs. -/
theorem Run.least {T : Nat → Nat} {B n k c : Nat} (h : Run E s n k c) (h0 : T s = 0) (hB : ∀ k, T k ≤ B) (hc : ∀ k w j, T k < B → E k w j → T j ≤ T k + w) : T k ≤ c := by
  induction h with
  | nil => omega
  | step h e ih =>
    rename_i n k c w j
    by_cases hk : T k < B
    · have := hc k w j hk e
      omega
    · have := hB j
      omega
theorem Run.cost {W n k c : Nat} (h : Run E s n k c) (hW : ∀ k w j, E k w j → w ≤ W) : c ≤ n * W := by
  induction h with
  | nil => simp
  | step h e ih =>
    have := hW _ _ _ e
    rw [Nat.add_mul]
    omega
theorem Run.trans {n k c m j d : Nat} (h : Run E s n k c) (g : Run E k m j d) : Run E s (n + m) j (c + d) := by
  induction g with
  | nil => exact h
  | step g e ih => rw [← Nat.add_assoc, ← Nat.add_assoc]; exact ih.step e
/-- The places of a run, one behind the other. -/
theorem Run.places {n k c : Nat} (h : Run E s n k c) : ∃ f : Nat → Nat, f 0 = s ∧ f n = k ∧ (∀ i, i ≤ n → ∃ d, Run E s i (f i) d ∧ ∃ d', Run E (f i) (n - i) k d') := by
  induction h with
  | nil => exact ⟨fun _ => s, rfl, rfl, fun i hi => ⟨0, by rw [show i = 0 by omega]; exact .nil, 0, by rw [show i = 0 by omega]; exact .nil⟩⟩
  | step h e ih =>
    rename_i n k c w j
    obtain ⟨f, f0, fn, hf⟩ := ih
    refine ⟨fun i => if i ≤ n then f i else j, by simp [f0], if_neg (by omega), fun i hi => ?_⟩
    by_cases g : i ≤ n
    · simp only [g, if_true]
      obtain ⟨d, h1, d', h2⟩ := hf i g
      refine ⟨d, h1, d' + w, ?_⟩
      have := h2.step e
      rwa [show n - i + 1 = n + 1 - i by omega] at this
    · obtain rfl : i = n + 1 := by omega
      simp only [g, if_false]
      exact ⟨c + w, h.step e, 0, by rw [Nat.sub_self]; exact .nil⟩
theorem twice {f : Nat → Nat} {n N : Nat} (hf : ∀ i, i ≤ n → f i < N) (hn : N ≤ n) : ∃ i j, i < j ∧ j ≤ n ∧ f i = f j := by
  by_cases h : ∃ i j, i < j ∧ j ≤ n ∧ f i = f j
  · exact h
  · exfalso
    have hnd : ((List.range (n + 1)).map f).Nodup := by
      unfold List.Nodup
      rw [List.pairwise_map]
      refine List.Pairwise.imp_of_mem ?_ (List.pairwise_lt_range (n := n + 1))
      intro a b ha hb hab e
      rw [List.mem_range] at hb
      exact h ⟨a, b, hab, by omega, e⟩
    have := pigeon N _ hnd (fun x hx => by
      rw [List.mem_map] at hx
      obtain ⟨i, hi, rfl⟩ := hx
      rw [List.mem_range] at hi
      exact hf i (by omega))
    simp at this
    omega
/-- A run need not be longer than there are places. -/
theorem Run.short {N : Nat} (hs : s < N) (hE : ∀ k w j, E k w j → j < N) : ∀ {n k c : Nat}, Run E s n k c → ∃ m d, m < N ∧ Run E s m k d := by
  have key : ∀ b n k c, n < b → Run E s n k c → ∃ m d, m < N ∧ Run E s m k d := by
    intro b
    induction b with
    | zero => intro n k c hn; omega
    | succ b ih =>
      intro n k c hn h
      by_cases g : n < N
      · exact ⟨n, c, g, h⟩
      · obtain ⟨f, f0, fn, hf⟩ := h.places
        have hin : ∀ i, i ≤ n → f i < N := fun i hi => by
          obtain ⟨d, h1, _⟩ := hf i hi
          generalize f i = y at h1
          cases h1 with
          | nil => exact hs
          | step _ e => exact hE _ _ _ e
        obtain ⟨i, j, hij, hj, e⟩ := twice hin (by omega)
        obtain ⟨d, h1, _⟩ := hf i (by omega)
        obtain ⟨_, _, d', h2⟩ := hf j hj
        rw [← e] at h2
        exact ih _ _ _ (by omega) (h1.trans h2)
  exact fun {n k c} h => key (n + 1) n k c (by omega) h
/-- A table where nothing gets cheaper tells the least cost, or that there is no run at all. -/
theorem table_told {T : Nat → Nat} {B N W : Nat} (hs : s < N) (hE : ∀ k w j, E k w j → j < N ∧ w ≤ W) (hNW : N * W < B) (h0 : T s = 0) (hB : ∀ k, T k ≤ B) (hc : ∀ k w j, T k < B → E k w j → T j ≤ T k + w) (hr : ∀ k, T k < B → ∃ n, Run E s n k (T k)) (k : Nat) :
    (T k < B ∧ LeastP (fun c => ∃ n, Run E s n k c) (T k)) ∨ (T k = B ∧ ∀ n c, ¬ Run E s n k c) := by
  by_cases h : T k < B
  · exact .inl ⟨h, hr k h, fun d ⟨n, hd⟩ => hd.least h0 hB hc⟩
  · refine .inr ⟨by have := hB k; omega, fun n c hk => h ?_⟩
    obtain ⟨m, d, hm, hd⟩ := hk.short hs (fun k w j e => (hE k w j e).1)
    have h1 := hd.cost (W := W) (fun k w j e => (hE k w j e).2)
    have h2 := hd.least h0 hB hc
    have h3 : m * W ≤ N * W := Nat.mul_le_mul_right _ (by omega)
    omega
end
end Go.Proofs.Yteaafghmkkejfaa.Pl
