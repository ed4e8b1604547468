/- What comes ahead of what: the order is the only one; paths counted along it (no program in sight). What a machine costs for words: ways, the least of them (no program in sight). One machine or the other, one behind the other, again and again: what the document's answers are, how large, and that they are right (no program in sight). Machines the other way round: labels exchanged (no program in sight). Machines that are right, turned round (no program in sight). What is answered of orders, paths, the longest path: it is but one (no program in sight). Machines whose arcs lead to later states alone: their order, their paths (no program in sight). Where there is no order: what a cycle leads to; where there is one: places in it (no program in sight). From behind there are as many paths (no program in sight). What a machine costs for words: turned round (no program in sight). One machine or the other, one behind the other: how many paths, the longest one (no program in sight). What a machine costs for words: one machine or the other, one behind the other (no program in sight). What a machine costs for words: one behind the other, again and again (no program in sight). Words: what is wrong with them; a machine that reads one and writes another (no program in sight). What a machine costs for words: states and places of both words, numbered (no program in sight). What a machine costs for words: the table of costs (no program in sight). Plain facts on what machines are like (no program in sight). The machine that the keeping statements make of raw numbers (no program in sight). What machines that were made cost for words: as numbers (no program in sight). The best of all cuts of two words (no program in sight). What leads somewhere: the least sets that are closed (no program in sight). -/
import Derived.Test.YtfekmlblldhieaaDoorPlainK
namespace Go.Proofs.YtfekmlblldhieaaDoor.Pl
theorem all_any_take {ar : List Ar} {j : Nat} (h : j < ar.length) (p : Ar → Bool) : (ar.take (j + 1)).any p = ((ar.take j).any p || p (el ar j)) := by
  rw [take_el h]; simp
/-- Does an arc lead from p to q? -/
def leadsB (l : List St) (p q : Nat) : Bool := (el l p).2.any fun a => decide (a.2.2.2 = (q : Int))
/-- q may come next: it is not told yet, and all states from which an arc leads to it are. -/
def FreeQ (l : List St) (out : List Int) (q : Nat) : Prop := (q : Int) ∉ out ∧ ∀ p, p < l.length → leadsB l p q = true → (p : Int) ∈ out
/-- The lowest one that may come next. -/
def NextQ (l : List St) (out : List Int) (x : Int) : Prop := ∃ q : Nat, x = (q : Int) ∧ q < l.length ∧ FreeQ l out q ∧ ∀ p, p < q → ¬ FreeQ l out p
theorem NextQ.one {l : List St} {out : List Int} {x y : Int} (h : NextQ l out x) (k : NextQ l out y) : x = y := by
  obtain ⟨q, rfl, hq, h1, h2⟩ := h
  obtain ⟨p, rfl, hp, k1, k2⟩ := k
  rcases Nat.lt_trichotomy q p with e | e | e
  · exact absurd h1 (k2 q e)
  · rw [e]
  · exact absurd k1 (h2 p e)
/-- Each one comes next behind those ahead of it. -/
def StepsL (l : List St) (out : List Int) : Prop := ∀ i, i < out.length → NextQ l (out.take i) (el out i)
theorem StepsL.nil (l : List St) : StepsL l [] := fun _ hi => absurd hi (Nat.not_lt_zero _)
theorem StepsL.snoc {l : List St} {out : List Int} {x : Int} (h : StepsL l out) (hx : NextQ l out x) : StepsL l (out ++ [x]) := by
  intro i hi
  by_cases e : i < out.length
  · rw [el_left e, List.take_append_of_le_length (by omega)]
    exact h i e
  · have : i = out.length := by simp at hi; omega
    subst this
    rw [el_last, List.take_left]
    exact hx
theorem StepsL.take {l : List St} {a b : List Int} (ha : StepsL l a) (hb : StepsL l b) : ∀ i, i ≤ a.length → i ≤ b.length → a.take i = b.take i := by
  intro i
  induction i with
  | zero => simp
  | succ i ih =>
    intro h1 h2
    have h3 := ih (by omega) (by omega)
    have h4 := ha i (by omega)
    have h5 := hb i (by omega)
    rw [← h3] at h5
    rw [take_el (by omega), take_el (by omega), h3, h4.one h5]
/-- There is an order, and it is this one. -/
def OrderL (l : List St) (out : List Int) : Prop := StepsL l out ∧ out.length = l.length
/-- There is none. -/
def CycleL (l : List St) : Prop := ∃ out, StepsL l out ∧ out.length < l.length ∧ ∀ q, q < l.length → ¬ FreeQ l out q
theorem OrderL.one {l : List St} {a b : List Int} (ha : OrderL l a) (hb : OrderL l b) : a = b := by
  have := ha.1.take hb.1 a.length (Nat.le_refl _) (by rw [ha.2, hb.2]; exact Nat.le_refl _)
  rw [List.take_length] at this
  rw [this, List.take_of_length_le (by rw [ha.2, hb.2]; exact Nat.le_refl _)]
theorem OrderL.noCycle {l : List St} {a : List Int} (ha : OrderL l a) : ¬ CycleL l := by
  rintro ⟨b, hb, hl, hs⟩
  have h1 := ha.1.take hb b.length (by rw [ha.2]; omega) (Nat.le_refl _)
  rw [List.take_length] at h1
  obtain ⟨q, _, hq, hf, _⟩ := ha.1 b.length (by rw [ha.2]; exact hl)
  rw [h1] at hf
  exact hs q hq hf
theorem StepsL.mem {l : List St} {out : List Int} (h : StepsL l out) {x : Int} (hx : x ∈ out) : ∃ q : Nat, x = (q : Int) ∧ q < l.length := by
  obtain ⟨i, hi, rfl⟩ := mem_el hx
  obtain ⟨q, h1, h2, _⟩ := h i hi
  exact ⟨q, h1, h2⟩
theorem StepsL.nodup {l : List St} {out : List Int} (h : StepsL l out) : out.Nodup := by
  rw [List.nodup_iff_pairwise_ne, List.pairwise_iff_getElem]
  intro i j hi hj hij
  obtain ⟨q, h1, _, h2, _⟩ := h j hj
  rw [el_get hj] at h1
  rw [h1]
  intro e
  refine h2.1 (e ▸ ?_)
  have : (out.take j)[i]'(by rw [List.length_take]; omega) = out[i] := List.getElem_take
  rw [← this]
  exact List.getElem_mem _
theorem pigeon : ∀ (n : Nat) (l : List Nat), l.Nodup → (∀ x ∈ l, x < n) → l.length ≤ n := by
  intro n
  induction n with
  | zero =>
    intro l _ h
    cases l with
    | nil => simp
    | cons a l => exact absurd (h a (by simp)) (Nat.not_lt_zero _)
  | succ n ih =>
    intro l hn h
    have h1 := ih (l.erase n) (hn.erase n) (fun x hx => by
      have h2 := h x (List.mem_of_mem_erase hx)
      have h3 : x ≠ n := fun e => by subst e; exact hn.not_mem_erase hx
      omega)
    rw [List.length_erase] at h1
    split at h1 <;> omega
theorem pigeon_all {n : Nat} {l : List Nat} (hn : l.Nodup) (h : ∀ x ∈ l, x < n) (hl : l.length = n) {q : Nat} (hq : q < n) : q ∈ l := by
  by_cases e : q ∈ l
  · exact e
  · have := pigeon n (q :: l) (List.nodup_cons.2 ⟨e, hn⟩) (fun x hx => by
      rcases List.mem_cons.1 hx with rfl | hx
      · exact hq
      · exact h x hx)
    simp at this
    omega
/-- In an order all states are told. -/
theorem OrderL.all {l : List St} {out : List Int} (h : OrderL l out) {q : Nat} (hq : q < l.length) : (q : Int) ∈ out := by
  have hs : ∀ x ∈ out.map Int.toNat, x < l.length := by
    intro x hx
    obtain ⟨y, hy, rfl⟩ := List.mem_map.1 hx
    obtain ⟨p, rfl, hp⟩ := h.1.mem hy
    simpa using hp
  have hn : (out.map Int.toNat).Nodup := by
    rw [List.nodup_iff_pairwise_ne, List.pairwise_map]
    have := h.1.nodup
    rw [List.nodup_iff_pairwise_ne] at this
    refine List.Pairwise.imp_of_mem ?_ this
    intro a b ha hb hab e
    obtain ⟨p, rfl, _⟩ := h.1.mem ha
    obtain ⟨p', rfl, _⟩ := h.1.mem hb
    simp at e
    exact hab (by rw [e])
  have : q ∈ out.map Int.toNat := pigeon_all hn hs (by simp [h.2]) hq
  obtain ⟨y, hy, e⟩ := List.mem_map.1 this
  obtain ⟨p, rfl, _⟩ := h.1.mem hy
  simp at e
  rw [← e]; exact hy
/-! Counting from behind. -/
def baseN (f : Int) : Nat := if f = 1000000001 then 0 else 1
def sumF (f : Nat → Nat) : List Ar → Nat
  | [] => 0
  | a :: l => f a.2.2.2.toNat + sumF f l
theorem sumF_append (f : Nat → Nat) (a b : List Ar) : sumF f (a ++ b) = sumF f a + sumF f b := by
  induction a with
  | nil => simp [sumF]
  | cons x a ih => simp [sumF, ih]; omega
theorem sumF_take (f : Nat → Nat) {ar : List Ar} {j : Nat} (h : j < ar.length) : sumF f (ar.take (j + 1)) = sumF f (ar.take j) + f (el ar j).2.2.2.toNat := by
  rw [take_el h, sumF_append]; simp [sumF]
theorem sumF_congr {f g : Nat → Nat} {ar : List Ar} (h : ∀ a ∈ ar, f a.2.2.2.toNat = g a.2.2.2.toNat) : sumF f ar = sumF g ar := by
  induction ar with
  | nil => rfl
  | cons a l ih => rw [sumF, sumF, h a (by simp), ih (fun b hb => h b (by simp [hb]))]
/-- How many paths begin at each of these, the last one first. -/
def cntF (l : List St) : List Int → Nat → Nat
  | [] => fun _ => 0
  | x :: out => fun p => if p = x.toNat then baseN (el l p).1 + sumF (cntF l out) (el l p).2 else cntF l out p
/-- So many paths begin at each state. -/
def CntEq (l : List St) (f : Nat → Nat) : Prop := ∀ q, q < l.length → f q = baseN (el l q).1 + sumF f (el l q).2
/-- At most this. -/
def capN (k : Nat) : Nat := if k ≤ 1000000001 then k else 1000000001
theorem capN_add (a b : Nat) : capN (capN a + capN b) = capN (a + b) := by
  unfold capN
  split <;> split <;> split <;> (try split) <;> omega
theorem capN_le (a : Nat) : capN a ≤ 1000000001 := by unfold capN; split <;> omega
theorem capN_gt {a : Nat} : 1000000000 < capN a ↔ 1000000000 < a := by unfold capN; split <;> omega
theorem capN_eq {a : Nat} (h : a ≤ 1000000000) : capN a = a := by unfold capN; rw [if_pos (by omega)]
/-- How far it is at most. -/
def stepD (n d : Int) : Int := if 0 ≤ d ∧ n < d + 1 then d + 1 else n
def maxF (f : Nat → Int) (n : Int) : List Ar → Int
  | [] => n
  | a :: l => maxF f (stepD n (f a.2.2.2.toNat)) l
theorem maxF_append (f : Nat → Int) (n : Int) (a b : List Ar) : maxF f n (a ++ b) = maxF f (maxF f n a) b := by
  induction a generalizing n with
  | nil => rfl
  | cons x a ih => exact ih _
theorem maxF_take (f : Nat → Int) (n : Int) {ar : List Ar} {j : Nat} (h : j < ar.length) : maxF f n (ar.take (j + 1)) = stepD (maxF f n (ar.take j)) (f (el ar j).2.2.2.toNat) := by
  rw [take_el h, maxF_append]; rfl
theorem maxF_congr {f g : Nat → Int} {ar : List Ar} (h : ∀ a ∈ ar, f a.2.2.2.toNat = g a.2.2.2.toNat) (n : Int) : maxF f n ar = maxF g n ar := by
  induction ar generalizing n with
  | nil => rfl
  | cons a l ih => rw [maxF, maxF, h a (by simp)]; exact ih (fun b hb => h b (by simp [hb])) _
def baseD (f : Int) : Int := if f = 1000000001 then -1 else 0
def farF (l : List St) : List Int → Nat → Int
  | [] => fun _ => 0
  | x :: out => fun p => if p = x.toNat then maxF (farF l out) (baseD (el l p).1) (el l p).2 else farF l out p
def FarEq (l : List St) (f : Nat → Int) : Prop := ∀ q, q < l.length → f q = maxF f (baseD (el l q).1) (el l q).2
/-- In an order each arc leads to what comes later. -/
theorem OrderL.later {l : List St} {out : List Int} (h : OrderL l out) {i q : Nat} (hi : i < out.length) (hq : el out i = (q : Int)) {a : Ar} (ha : a ∈ (el l q).2) {t : Nat} (ht : a.2.2.2 = (t : Int)) (htn : t < l.length) : (t : Int) ∈ out.drop (i + 1) := by
  have hqn : q < l.length := by
    obtain ⟨p, e, hp, _⟩ := h.1 i hi
    rw [hq] at e
    omega
  obtain ⟨j, hj, hej⟩ := mem_el (h.all htn)
  obtain ⟨t', e1, _, e2, _⟩ := h.1 j hj
  rw [hej] at e1
  obtain rfl : t = t' := by omega
  have h1 := e2.2 q hqn (List.any_eq_true.2 ⟨a, ha, by simpa using ht⟩)
  obtain ⟨k, hk, hek⟩ := mem_el h1
  rw [List.length_take] at hk
  rw [el_take (by omega)] at hek
  have hki : k = i := by
    have hnd := h.1.nodup
    have := (List.getElem_inj (h₀ := (by omega : k < out.length)) (h₁ := hi) hnd).1 (by rw [← el_get, ← el_get, hek, hq])
    exact this
  have hij : i < j := by omega
  refine List.mem_iff_getElem.2 ⟨j - (i + 1), by rw [List.length_drop]; omega, ?_⟩
  rw [List.getElem_drop, ← hej, el_get hj]
  congr 1
  omega
theorem cnt_not {l : List St} {out : List Int} {p : Nat} (h : ∀ x ∈ out, p ≠ x.toNat) : cntF l out p = 0 := by
  induction out with
  | nil => rfl
  | cons x out ih =>
    show (if p = x.toNat then _ else _) = _
    rw [if_neg (h x (by simp))]
    exact ih (fun y hy => h y (by simp [hy]))
end Go.Proofs.YtfekmlblldhieaaDoor.Pl
namespace Go.Proofs.YtfekmlblldhieaaDoor.Pl
set_option linter.unusedVariables false
set_option linter.unusedSimpArgs false
/-- What a label reads or writes: 0 is nothing. -/
def lab (a : Int) : List Int := if a = 0 then [] else [a]
/-- From state q to p, reading u, writing v, for c. -/
inductive Way (l : List St) (q : Nat) : List Int → List Int → Nat → Nat → Prop
  | nil : Way l q [] [] q 0
  | snoc {u v : List Int} {p c : Nat} (h : Way l q u v p c) {a : Ar} (ha : a ∈ (el l p).2) {t : Nat} (ht : a.2.2.2 = (t : Int)) : Way l q (u ++ lab a.1) (v ++ lab a.2.1) t (c + a.2.2.1.toNat)
theorem Way.trans {l : List St} {q p r c d : Nat} {u v u' v' : List Int} (h : Way l q u v p c) (k : Way l p u' v' r d) : Way l q (u ++ u') (v ++ v') r (c + d) := by
  induction k with
  | nil => simpa using h
  | snoc k ha ht ih =>
    have := Way.snoc ih ha ht
    rwa [List.append_assoc, List.append_assoc, Nat.add_assoc] at this
theorem Way.cons {l : List St} {q t p c : Nat} {u v : List Int} {a : Ar} (ha : a ∈ (el l q).2) (ht : a.2.2.2 = (t : Int)) (h : Way l t u v p c) : Way l q (lab a.1 ++ u) (lab a.2.1 ++ v) p (a.2.2.1.toNat + c) := by
  have h1 := Way.snoc (Way.nil (l := l) (q := q)) ha ht
  have := h1.trans h
  simpa using this
/-- The first arc of a way. -/
theorem Way.first {l : List St} {q p c : Nat} {u v : List Int} (h : Way l q u v p c) :
    (u = [] ∧ v = [] ∧ p = q ∧ c = 0) ∨ ∃ a ∈ (el l q).2, ∃ (t : Nat) (u' v' : List Int) (c' : Nat), a.2.2.2 = (t : Int) ∧ Way l t u' v' p c' ∧ u = lab a.1 ++ u' ∧ v = lab a.2.1 ++ v' ∧ c = a.2.2.1.toNat + c' := by
  induction h with
  | nil => exact .inl ⟨rfl, rfl, rfl, rfl⟩
  | snoc h ha ht ih =>
    rename_i u v p c a t
    rcases ih with ⟨rfl, rfl, rfl, rfl⟩ | ⟨b, hb, s, u', v', c', hs, hw, rfl, rfl, rfl⟩
    · exact .inr ⟨a, ha, t, [], [], 0, ht, .nil, by simp, by simp, by simp⟩
    · exact .inr ⟨b, hb, s, u' ++ lab a.1, v' ++ lab a.2.1, c' + a.2.2.1.toNat, hs, hw.snoc ha ht, by simp, by simp, by omega⟩
/-- Where a way leads, if the arcs lead to states. -/
theorem Way.inside {l : List St} {q p c : Nat} {u v : List Int} (h : Way l q u v p c) (hq : q < l.length) (hto : ∀ q, q < l.length → ∀ a ∈ (el l q).2, ∃ t : Nat, a.2.2.2 = (t : Int) ∧ t < l.length) : p < l.length := by
  induction h with
  | nil => exact hq
  | snoc h ha ht ih =>
    obtain ⟨t, e, ht'⟩ := hto _ ih _ ha
    rename_i t'
    have : t = t' := by omega
    omega
/-- P12.3: what a path costs that reads x and writes y. -/
def Costs (m : Mc) (x y : List Int) (c : Nat) : Prop := 0 ≤ m.1 ∧ ∃ p d, Way m.2 m.1.toNat x y p d ∧ p < m.2.length ∧ (el m.2 p).1 ≠ 1000000001 ∧ c = d + (el m.2 p).1.toNat
/-- P12.4. -/
def CostsR (m : Mc) (x : List Int) (c : Nat) : Prop := ∃ y, Costs m x y c
def LeastP (P : Nat → Prop) (c : Nat) : Prop := P c ∧ ∀ d, P d → c ≤ d
theorem LeastP.one {P : Nat → Prop} {c d : Nat} (h : LeastP P c) (k : LeastP P d) : c = d := Nat.le_antisymm (h.2 d k.1) (k.2 c h.1)
/-- What is answered. -/
def WghAns (P : Nat → Prop) (n e : Int) : Prop := ((∀ c, ¬ P c) ∧ n = 1000000001 ∧ e = 0) ∨ ∃ c : Nat, LeastP P c ∧ ((c ≤ 1000000000 ∧ n = (c : Int) ∧ e = 0) ∨ (1000000000 < c ∧ n = 0 ∧ e = 4))
theorem WghAns.one {P : Nat → Prop} {n e n' e' : Int} (h : WghAns P n e) (k : WghAns P n' e') : n = n' ∧ e = e' := by
  rcases h with ⟨h, rfl, rfl⟩ | ⟨c, hc, h⟩
  · rcases k with ⟨k, rfl, rfl⟩ | ⟨d, hd, _⟩
    · exact ⟨rfl, rfl⟩
    · exact absurd hd.1 (h d)
  · rcases k with ⟨k, _⟩ | ⟨d, hd, k⟩
    · exact absurd hc.1 (k c)
    · have := hc.one hd
      subst this
      rcases h with ⟨h1, rfl, rfl⟩ | ⟨h1, rfl, rfl⟩ <;> rcases k with ⟨k1, rfl, rfl⟩ | ⟨k1, rfl, rfl⟩ <;> first | exact ⟨rfl, rfl⟩ | omega
theorem WghAns.congr {P Q : Nat → Prop} (hPQ : ∀ c, P c ↔ Q c) {n e : Int} (h : WghAns P n e) : WghAns Q n e := by
  have : P = Q := funext fun c => propext (hPQ c)
  rwa [← this]
/-! A table of costs over numbered places. -/
section
variable {E : Nat → Nat → Nat → Prop} {s : Nat}
/-- From place s to k for c; E k w j: from k to j for w. -/
inductive Run (E : Nat → Nat → Nat → Prop) (s : Nat) : Nat → Nat → Nat → Prop
  | nil : Run E s 0 s 0
  | step {n k c w j : Nat} (h : Run E s n k c) (e : E k w j) : Run E s (n + 1) j (c + w)
/-- Where nothing gets cheaper, the table is at most what each run costs. -/
theorem Run.least {T : Nat → Nat} {B n k c : Nat} (h : Run E s n k c) (h0 : T s = 0) (hB : ∀ k, T k ≤ B) (hc : ∀ k w j, T k < B → E k w j → T j ≤ T k + w) : T k ≤ c := by
  induction h with
  | nil => omega
  | step h e ih =>
    rename_i n k c w j
    by_cases hk : T k < B
    · have := hc k w j hk e
      omega
    · have := hB j
      omega
theorem Run.cost {W n k c : Nat} (h : Run E s n k c) (hW : ∀ k w j, E k w j → w ≤ W) : c ≤ n * W := by
  induction h with
  | nil => simp
  | step h e ih =>
    have := hW _ _ _ e
    rw [Nat.add_mul]
    omega
theorem Run.trans {n k c m j d : Nat} (h : Run E s n k c) (g : Run E k m j d) : Run E s (n + m) j (c + d) := by
  induction g with
  | nil => exact h
  | step g e ih => rw [← Nat.add_assoc, ← Nat.add_assoc]; exact ih.step e
/-- The places of a run, one behind the other. -/
theorem Run.places {n k c : Nat} (h : Run E s n k c) : ∃ f : Nat → Nat, f 0 = s ∧ f n = k ∧ (∀ i, i ≤ n → ∃ d, Run E s i (f i) d ∧ ∃ d', Run E (f i) (n - i) k d') := by
  induction h with
  | nil => exact ⟨fun _ => s, rfl, rfl, fun i hi => ⟨0, by rw [show i = 0 by omega]; exact .nil, 0, by rw [show i = 0 by omega]; exact .nil⟩⟩
  | step h e ih =>
    rename_i n k c w j
    obtain ⟨f, f0, fn, hf⟩ := ih
    refine ⟨fun i => if i ≤ n then f i else j, by simp [f0], if_neg (by omega), fun i hi => ?_⟩
    by_cases g : i ≤ n
    · simp only [g, if_true]
      obtain ⟨d, h1, d', h2⟩ := hf i g
      refine ⟨d, h1, d' + w, ?_⟩
      have := h2.step e
      rwa [show n - i + 1 = n + 1 - i by omega] at this
    · obtain rfl : i = n + 1 := by omega
      simp only [g, if_false]
      exact ⟨c + w, h.step e, 0, by rw [Nat.sub_self]; exact .nil⟩
theorem twice {f : Nat → Nat} {n N : Nat} (hf : ∀ i, i ≤ n → f i < N) (hn : N ≤ n) : ∃ i j, i < j ∧ j ≤ n ∧ f i = f j := by
  by_cases h : ∃ i j, i < j ∧ j ≤ n ∧ f i = f j
  · exact h
  · exfalso
    have hnd : ((List.range (n + 1)).map f).Nodup := by
      unfold List.Nodup
      rw [List.pairwise_map]
      refine List.Pairwise.imp_of_mem ?_ (List.pairwise_lt_range (n := n + 1))
      intro a b ha hb hab e
      rw [List.mem_range] at hb
      exact h ⟨a, b, hab, by omega, e⟩
    have := pigeon N _ hnd (fun x hx => by
      rw [List.mem_map] at hx
      obtain ⟨i, hi, rfl⟩ := hx
      rw [List.mem_range] at hi
      exact hf i (by omega))
    simp at this
    omega
/-- A run need not be longer than there are places. -/
theorem Run.short {N : Nat} (hs : s < N) (hE : ∀ k w j, E k w j → j < N) : ∀ {n k c : Nat}, Run E s n k c → ∃ m d, m < N ∧ Run E s m k d := by
  have key : ∀ b n k c, n < b → Run E s n k c → ∃ m d, m < N ∧ Run E s m k d := by
    intro b
    induction b with
    | zero => intro n k c hn; omega
    | succ b ih =>
      intro n k c hn h
      by_cases g : n < N
      · exact ⟨n, c, g, h⟩
      · obtain ⟨f, f0, fn, hf⟩ := h.places
        have hin : ∀ i, i ≤ n → f i < N := fun i hi => by
          obtain ⟨d, h1, _⟩ := hf i hi
          generalize f i = y at h1
          cases h1 with
          | nil => exact hs
          | step _ e => exact hE _ _ _ e
        obtain ⟨i, j, hij, hj, e⟩ := twice hin (by omega)
        obtain ⟨d, h1, _⟩ := hf i (by omega)
        obtain ⟨_, _, d', h2⟩ := hf j hj
        rw [← e] at h2
        exact ih _ _ _ (by omega) (h1.trans h2)
  exact fun {n k c} h => key (n + 1) n k c (by omega) h
/-- A table where nothing gets cheaper tells the least cost, or that there is no run at all. -/
theorem table_told {T : Nat → Nat} {B N W : Nat} (hs : s < N) (hE : ∀ k w j, E k w j → j < N ∧ w ≤ W) (hNW : N * W < B) (h0 : T s = 0) (hB : ∀ k, T k ≤ B) (hc : ∀ k w j, T k < B → E k w j → T j ≤ T k + w) (hr : ∀ k, T k < B → ∃ n, Run E s n k (T k)) (k : Nat) :
    (T k < B ∧ LeastP (fun c => ∃ n, Run E s n k c) (T k)) ∨ (T k = B ∧ ∀ n c, ¬ Run E s n k c) := by
  by_cases h : T k < B
  · exact .inl ⟨h, hr k h, fun d ⟨n, hd⟩ => hd.least h0 hB hc⟩
  · refine .inr ⟨by have := hB k; omega, fun n c hk => h ?_⟩
    obtain ⟨m, d, hm, hd⟩ := hk.short hs (fun k w j e => (hE k w j e).1)
    have h1 := hd.cost (W := W) (fun k w j e => (hE k w j e).2)
    have h2 := hd.least h0 hB hc
    have h3 : m * W ≤ N * W := Nat.mul_le_mul_right _ (by omega)
    omega
end
end Go.Proofs.YtfekmlblldhieaaDoor.Pl
namespace Go.Proofs.YtfekmlblldhieaaDoor.Pl
set_option linter.unusedVariables false
set_option linter.unusedSimpArgs false
/-- An arc that leads d states further. -/
def shA (d : Int) (a : Ar) : Ar := (a.1, a.2.1, a.2.2.1, a.2.2.2 + d)
/-- A state whose arcs lead d states further, with other arcs behind them. -/
def shS (d f : Int) (more : List Ar) (s : St) : St := (f, s.2.map (shA d) ++ more)
/-- An empty arc to a state; none where there is no such state. -/
def hopA (z d x : Int) : List Ar := if z < 0 then [] else [(0, 0, x, z + d)]
/-- What leaves a state that may end. -/
def endA (f z d : Int) : List Ar := if f = 1000000001 then [] else hopA z d f
def uniM (a b : Mc) : Mc := (0, (1000000001, hopA a.1 1 0 ++ hopA b.1 (1 + (a.2.length : Int)) 0) :: (a.2.map (fun s => shS 1 s.1 [] s) ++ b.2.map (fun s => shS (1 + (a.2.length : Int)) s.1 [] s)))
def catM (a b : Mc) : Mc := (a.1, a.2.map (fun s => shS 0 1000000001 (endA s.1 b.1 (a.2.length : Int)) s) ++ b.2.map (fun s => shS (a.2.length : Int) s.1 [] s))
def staM (a : Mc) : Mc := (0, (0, hopA a.1 1 0) :: a.2.map (fun s => shS 1 1000000001 (endA s.1 0 0) s))
/-- P10.1. -/
def fitE (m : Mc) : Int := if sizeB m = true then 0 else 5
def fitM (m : Mc) : Mc := if sizeB m = true then m else (0, [])
def ratE (a b x : Mc) : Int := if faultM a ≠ 0 then faultM a else if faultM b ≠ 0 then faultM b else fitE x
def ratM (a b x : Mc) : Mc := if faultM a ≠ 0 then (0, []) else if faultM b ≠ 0 then (0, []) else fitM x
theorem arcN_takeR (l : List St) (k : Nat) : arcN (l.take k) ≤ arcN l := by
  conv => rhs; rw [← List.take_append_drop k l, arcN_append]
  omega
theorem shA_zero (a : Ar) : shA 0 a = a := by obtain ⟨p, q, r, s⟩ := a; simp [shA]
theorem hopA_len (z d x : Int) : (hopA z d x).length = if z < 0 then 0 else 1 := by unfold hopA; split <;> rfl
theorem hopA_le (z d x : Int) : (hopA z d x).length ≤ 1 := by rw [hopA_len]; split <;> omega
theorem endA_le (f z d : Int) : (endA f z d).length ≤ 1 := by unfold endA; split; exact Nat.zero_le _; exact hopA_le _ _ _
theorem shS_len (d f : Int) (more : List Ar) (s : St) : (shS d f more s).2.length = s.2.length + more.length := by simp [shS]
theorem uniM_len (a b : Mc) : (uniM a b).2.length = a.2.length + b.2.length + 1 := by simp [uniM]
theorem catM_len (a b : Mc) : (catM a b).2.length = a.2.length + b.2.length := by simp [catM]
theorem staM_len (a : Mc) : (staM a).2.length = a.2.length + 1 := by simp [staM]
theorem arcN_sh (l : List St) (d : Int) (f : St → Int) : arcN (l.map (fun s => shS d (f s) [] s)) = arcN l := by
  induction l with
  | nil => rfl
  | cons s l ih => simp only [List.map_cons, arcN, ih, shS_len, List.length_nil]; omega
theorem arcN_end (l : List St) (d e : Int) (z : Int) (f : Int) : arcN (l.map (fun s => shS d f (endA s.1 z e) s)) ≤ arcN l + l.length := by
  induction l with
  | nil => simp [arcN]
  | cons s l ih =>
    have := endA_le s.1 z e
    simp only [List.map_cons, arcN, shS_len, List.length_cons]
    omega
theorem uniM_arcs (a b : Mc) : arcN (uniM a b).2 ≤ arcN a.2 + arcN b.2 + 2 := by
  have h1 := hopA_le a.1 1 0
  have h2 := hopA_le b.1 (1 + (a.2.length : Int)) 0
  simp only [uniM, arcN, arcN_append, arcN_sh, List.length_append]
  omega
theorem catM_arcs (a b : Mc) : arcN (catM a b).2 ≤ arcN a.2 + arcN b.2 + a.2.length := by
  have h1 := arcN_end a.2 0 (a.2.length : Int) b.1 1000000001
  simp only [catM, arcN_append, arcN_sh]
  omega
theorem staM_arcs (a : Mc) : arcN (staM a).2 ≤ arcN a.2 + a.2.length + 1 := by
  have h1 := arcN_end a.2 1 0 0 1000000001
  have h2 := hopA_le a.1 1 0
  simp only [staM, arcN]
  omega
theorem small_ok {m : Mc} (h1 : m.2.length ≤ 100000) (h2 : arcN m.2 ≤ 100000) : okM m := ⟨by omega, fun j hj => by
  have h3 := arcN_take hj
  have h4 := arcN_takeR m.2 (j + 1)
  omega⟩
/-- An arc moved within a larger machine is right. -/
theorem arcB_sh {n N : Nat} {d : Nat} {a : Ar} (h : arcB n a = true) (hN : n + d ≤ N) : arcB N (shA (d : Int) a) = true := by
  obtain ⟨p, q, r, t⟩ := a
  simp only [arcB, inB, Bool.and_eq_true, decide_eq_true_eq] at h ⊢
  simp only [shA]
  obtain ⟨⟨⟨h1, h2⟩, h3⟩, h4⟩ := h
  exact ⟨⟨⟨h1, h2⟩, h3⟩, by omega, by omega⟩
theorem arcB_hop {N : Nat} {z d x : Int} {n : Nat} (hz : z ≤ (n : Int) - 1) (hd : 0 ≤ d) (hN : (n : Int) + d ≤ (N : Int)) (hx : 0 ≤ x ∧ x ≤ 1000000000) : (hopA z d x).all (arcB N) = true := by
  unfold hopA
  split
  · rfl
  · simp [arcB, inB]; omega
theorem arcB_end {N : Nat} {f z d : Int} {n : Nat} (hf : finB f = true) (hz : z ≤ (n : Int) - 1) (hd : 0 ≤ d) (hN : (n : Int) + d ≤ (N : Int)) : (endA f z d).all (arcB N) = true := by
  unfold endA
  split
  · rfl
  · rename_i h
    refine arcB_hop hz hd hN ?_
    simp [finB, inB] at hf
    omega
theorem stB_sh {n N : Nat} {d : Nat} {s : St} {f : Int} {more : List Ar} (h : stB n s = true) (hN : n + d ≤ N) (hf : finB f = true) (hm : more.all (arcB N) = true) : stB N (shS (d : Int) f more s) = true := by
  simp only [stB, shS, Bool.and_eq_true, List.all_append, List.all_map] at h ⊢
  refine ⟨hf, ?_, hm⟩
  rw [List.all_eq_true] at h ⊢
  exact fun a ha => arcB_sh (h.2 a ha) hN
theorem right_parts {m : Mc} (h : faultM m = 0) : (-1 ≤ m.1 ∧ m.1 ≤ (m.2.length : Int) - 1) ∧ ∀ s ∈ m.2, stB m.2.length s = true := by
  have h1 := (faultM_zero h).2
  simp only [rangeB, Bool.and_eq_true, inB, decide_eq_true_eq, List.all_eq_true] at h1
  exact h1
theorem stB_fin {n : Nat} {s : St} (h : stB n s = true) : finB s.1 = true := by
  simp only [stB, Bool.and_eq_true] at h
  exact h.1
theorem uniM_right {a b : Mc} (ha : faultM a = 0) (hb : faultM b = 0) (hs : sizeB (uniM a b) = true) : faultM (uniM a b) = 0 := by
  refine faultM_ok hs ?_
  obtain ⟨a1, a2⟩ := right_parts ha
  obtain ⟨b1, b2⟩ := right_parts hb
  unfold rangeB
  rw [uniM_len]
  simp only [Bool.and_eq_true, inB, decide_eq_true_eq, List.all_eq_true]
  refine ⟨by simp only [uniM]; omega, ?_⟩
  intro s hsm
  simp only [uniM, List.mem_cons, List.mem_append, List.mem_map] at hsm
  rcases hsm with rfl | ⟨t, ht, rfl⟩ | ⟨t, ht, rfl⟩
  · simp only [stB, Bool.and_eq_true, List.all_append]
    exact ⟨by simp [finB], arcB_hop (n := a.2.length) a1.2 (by omega) (by omega) (by omega), arcB_hop (n := b.2.length) b1.2 (by omega) (by omega) (by omega)⟩
  · exact stB_sh (d := 1) (a2 t ht) (by omega) (stB_fin (a2 t ht)) rfl
  · have := stB_sh (d := 1 + a.2.length) (N := a.2.length + b.2.length + 1) (f := t.1) (more := []) (b2 t ht) (by omega) (stB_fin (b2 t ht)) rfl
    simpa using this
theorem catM_right {a b : Mc} (ha : faultM a = 0) (hb : faultM b = 0) (hs : sizeB (catM a b) = true) : faultM (catM a b) = 0 := by
  refine faultM_ok hs ?_
  obtain ⟨a1, a2⟩ := right_parts ha
  obtain ⟨b1, b2⟩ := right_parts hb
  unfold rangeB
  rw [catM_len]
  simp only [Bool.and_eq_true, inB, decide_eq_true_eq, List.all_eq_true]
  refine ⟨by simp only [catM]; omega, ?_⟩
  intro s hsm
  simp only [catM, List.mem_append, List.mem_map] at hsm
  rcases hsm with ⟨t, ht, rfl⟩ | ⟨t, ht, rfl⟩
  · exact stB_sh (d := 0) (a2 t ht) (by omega) (by simp [finB]) (arcB_end (n := b.2.length) (stB_fin (a2 t ht)) b1.2 (by omega) (by omega))
  · exact stB_sh (d := a.2.length) (b2 t ht) (by omega) (stB_fin (b2 t ht)) rfl
theorem staM_right {a : Mc} (ha : faultM a = 0) (hs : sizeB (staM a) = true) : faultM (staM a) = 0 := by
  refine faultM_ok hs ?_
  obtain ⟨a1, a2⟩ := right_parts ha
  unfold rangeB
  rw [staM_len]
  simp only [Bool.and_eq_true, inB, decide_eq_true_eq, List.all_eq_true]
  refine ⟨by simp only [staM]; omega, ?_⟩
  intro s hsm
  simp only [staM, List.mem_cons, List.mem_map] at hsm
  rcases hsm with rfl | ⟨t, ht, rfl⟩
  · simp only [stB, Bool.and_eq_true]
    exact ⟨by simp [finB, inB], arcB_hop (n := a.2.length) a1.2 (by omega) (by omega) (by omega)⟩
  · exact stB_sh (d := 1) (a2 t ht) (by omega) (by simp [finB]) (arcB_end (n := 1) (stB_fin (a2 t ht)) (by omega) (by omega) (by omega))
end Go.Proofs.YtfekmlblldhieaaDoor.Pl
namespace Go.Proofs.YtfekmlblldhieaaDoor.Pl
set_option linter.unusedVariables false
set_option linter.unusedSimpArgs false
/-- P11.1 to P11.3, an arc: 0 over, 1 what is read, 2 what is written. -/
def tuA (k : Int) (a : Ar) : Ar := (if k = 1 then a.1 else a.2.1, if k = 2 then a.2.1 else a.1, a.2.2.1, a.2.2.2)
def tuS (k : Int) (s : St) : St := (s.1, s.2.map (tuA k))
def tuM (k : Int) (m : Mc) : Mc := (m.1, m.2.map (tuS k))
/-- What is answered. -/
def turM (k : Int) (m : Mc) : Mc := if faultM m = 0 then tuM k m else (0, [])
theorem tuM_len (k : Int) (m : Mc) : (tuM k m).2.length = m.2.length := by simp [tuM]
theorem tuM_el (k : Int) (m : Mc) {j : Nat} (h : j < m.2.length) : el (tuM k m).2 j = tuS k (el m.2 j) := el_map h _
theorem arcN_tu (k : Int) (l : List St) : arcN (l.map (tuS k)) = arcN l := by
  induction l with
  | nil => rfl
  | cons s l ih => simp only [List.map_cons, arcN, ih, tuS, List.length_map]
theorem arcB_tu {n : Nat} {k : Int} {a : Ar} (h : arcB n a = true) : arcB n (tuA k a) = true := by
  obtain ⟨p, q, r, t⟩ := a
  simp only [arcB, inB, Bool.and_eq_true, decide_eq_true_eq, tuA] at h ⊢
  obtain ⟨⟨⟨h1, h2⟩, h3⟩, h4⟩ := h
  refine ⟨⟨⟨?_, ?_⟩, h3⟩, h4⟩
  · split
    · exact h1
    · exact h2
  · split
    · exact h2
    · exact h1
theorem stB_tu {n : Nat} {k : Int} {s : St} (h : stB n s = true) : stB n (tuS k s) = true := by
  simp only [stB, tuS, Bool.and_eq_true, List.all_map] at h ⊢
  refine ⟨h.1, ?_⟩
  rw [List.all_eq_true] at h ⊢
  exact fun a ha => arcB_tu (h.2 a ha)
theorem tuM_right {k : Int} {m : Mc} (h : faultM m = 0) : faultM (tuM k m) = 0 := by
  have h1 := (faultM_zero h).1
  obtain ⟨h2, h3⟩ := right_parts h
  refine faultM_ok ?_ ?_
  · simp only [sizeB, tuM, List.length_map, arcN_tu] at h1 ⊢
    exact h1
  · unfold rangeB
    rw [tuM_len]
    simp only [Bool.and_eq_true, inB, decide_eq_true_eq, List.all_eq_true]
    refine ⟨h2, ?_⟩
    intro s hs
    simp only [tuM, List.mem_map] at hs
    obtain ⟨t, ht, rfl⟩ := hs
    exact stB_tu (h3 t ht)
theorem turM_ok (k : Int) (m : Mc) : okM (turM k m) := by
  unfold turM
  split
  · rename_i h
    have := right_size (z := m.1) (l := m.2) h
    refine small_ok (by rw [tuM_len]; omega) ?_
    show arcN (m.2.map (tuS k)) ≤ _
    rw [arcN_tu]; omega
  · exact ⟨by simp, fun j hj => absurd hj (by simp)⟩
theorem tuM_tuM {j k i : Int} (h : ∀ a, tuA j (tuA k a) = tuA i a) (m : Mc) : tuM j (tuM k m) = tuM i m := by
  obtain ⟨z, l⟩ := m
  simp only [tuM, List.map_map]
  congr 2
  funext s
  simp only [Function.comp, tuS, List.map_map]
  congr 2
  funext a
  exact h a
theorem over_over (m : Mc) : tuM 0 (tuM 0 m) = m := by
  obtain ⟨z, l⟩ := m
  simp only [tuM, List.map_map]
  congr 1
  conv => rhs; rw [← List.map_id l]
  apply List.map_congr_left
  intro s _
  obtain ⟨f, ar⟩ := s
  simp only [Function.comp, tuS, List.map_map, id]
  congr 1
  conv => rhs; rw [← List.map_id ar]
  apply List.map_congr_left
  intro a _
  obtain ⟨p, q, r, t⟩ := a
  simp [tuA]
theorem writes_over (m : Mc) : tuM 2 (tuM 0 m) = tuM 1 m := tuM_tuM (fun a => by simp [tuA]) m
theorem reads_reads (m : Mc) : tuM 1 (tuM 1 m) = tuM 1 m := tuM_tuM (fun a => by simp [tuA]) m
theorem writes_reads (m : Mc) : tuM 2 (tuM 1 m) = tuM 1 m := tuM_tuM (fun a => by simp [tuA]) m
/-! From behind. -/
def intoA (q : Nat) (t : Nat) (l : List Ar) : List Ar := (l.filter fun a => decide (a.2.2.2 = (t : Int))).map fun a => (a.1, a.2.1, a.2.2.1, (q : Int) + 1)
def intoL (l : List St) (t : Nat) : Nat → List Ar
  | 0 => []
  | q + 1 => intoL l t q ++ intoA q t (el l q).2
def firstL (l : List St) : Nat → List Ar
  | 0 => []
  | q + 1 => firstL l q ++ (if (el l q).1 = 1000000001 then [] else [(0, 0, (el l q).1, (q : Int) + 1)])
def revS (z : Int) (l : List St) (q : Nat) : St := (if (q : Int) = z then 0 else 1000000001, intoL l q l.length)
def revM (m : Mc) : Mc := (0, (1000000001, firstL m.2 m.2.length) :: (List.range m.2.length).map (revS m.1 m.2))
theorem revM_len (m : Mc) : (revM m).2.length = m.2.length + 1 := by simp [revM]
theorem intoA_take {q t : Nat} {l : List Ar} {j : Nat} (h : j < l.length) : intoA q t (l.take (j + 1)) = intoA q t (l.take j) ++ (if (el l j).2.2.2 = (t : Int) then [((el l j).1, (el l j).2.1, (el l j).2.2.1, (q : Int) + 1)] else []) := by
  unfold intoA
  rw [take_el h, List.filter_append, List.map_append]
  congr 1
  by_cases e : (el l j).2.2.2 = (t : Int)
  · simp [e]
  · simp [e]
theorem firstL_le (l : List St) (q : Nat) : (firstL l q).length ≤ q := by
  induction q with
  | zero => simp [firstL]
  | succ q ih =>
    simp only [firstL, List.length_append]
    split <;> simp <;> omega
theorem intoA_le (q t : Nat) (l : List Ar) : (intoA q t l).length ≤ l.length := by
  unfold intoA
  rw [List.length_map]
  exact List.length_filter_le _ _
theorem intoL_le (l : List St) (t : Nat) : ∀ q, q ≤ l.length → (intoL l t q).length ≤ arcN (l.take q)
  | 0, _ => by simp [intoL]
  | q + 1, h => by
    have h1 := intoL_le l t q (by omega)
    have h2 := intoA_le q t (el l q).2
    have h3 := arcN_take (show q < l.length by omega)
    simp only [intoL, List.length_append]
    omega
end Go.Proofs.YtfekmlblldhieaaDoor.Pl
namespace Go.Proofs.YtfekmlblldhieaaDoor.Pl
set_option linter.unusedVariables false
set_option linter.unusedSimpArgs false
theorem right_okM {m : Mc} (h : faultM m = 0) : okM m := by
  have h1 := right_size (z := m.1) (l := m.2) h
  exact small_ok (by omega) (by omega)
theorem tur_right {k : Int} {m : Mc} (h : faultM m = 0) : turM k m = tuM k m := by unfold turM; rw [if_pos h]
end Go.Proofs.YtfekmlblldhieaaDoor.Pl
namespace Go.Proofs.YtfekmlblldhieaaDoor.Pl
/-- What is answered: the number, the error. -/
def pathA (z : Int) (c : Nat) : Int × Int := if z < 0 then (0, 0) else if 1000000000 < c then (0, 4) else ((c : Int), 0)
def farA (z d : Int) : Int × Int := if z < 0 ∨ d < 0 then (0, 12) else (d, 0)
def OrdAns (m : Mc) (r ec : Int) (out : List Int) : Prop := if r = 0 then ((ec = 0 ∧ OrderL m.2 out) ∨ (ec = 6 ∧ CycleL m.2 ∧ out = [])) else ec = r ∧ out = []
def PathAns (m : Mc) (r x ec : Int) : Prop := if r = 0 then ((∃ out, OrderL m.2 out ∧ pathA m.1 (cntF m.2 out m.1.toNat) = (x, ec)) ∨ (CycleL m.2 ∧ x = 0 ∧ ec = 6)) else x = 0 ∧ ec = r
def FarAns (m : Mc) (r x ec : Int) : Prop := if r = 0 then ((∃ out, OrderL m.2 out ∧ farA m.1 (farF m.2 out m.1.toNat) = (x, ec)) ∨ (CycleL m.2 ∧ x = 0 ∧ ec = 6)) else x = 0 ∧ ec = r
theorem OrdAns.one {m : Mc} {r e1 e2 : Int} {o1 o2 : List Int} (h : OrdAns m r e1 o1) (k : OrdAns m r e2 o2) : e1 = e2 ∧ o1 = o2 := by
  unfold OrdAns at h k
  split at h
  · rename_i h0
    rw [if_pos h0] at k
    rcases h with ⟨rfl, h1⟩ | ⟨rfl, h1, rfl⟩
    · rcases k with ⟨rfl, k1⟩ | ⟨rfl, k1, rfl⟩
      · exact ⟨rfl, h1.one k1⟩
      · exact absurd k1 h1.noCycle
    · rcases k with ⟨rfl, k1⟩ | ⟨rfl, k1, rfl⟩
      · exact absurd h1 k1.noCycle
      · exact ⟨rfl, rfl⟩
  · rename_i h0
    rw [if_neg h0] at k
    exact ⟨h.1.trans k.1.symm, h.2.trans k.2.symm⟩
theorem OrdAns.len {m : Mc} {r e : Int} {o : List Int} (h : OrdAns m r e o) : o.length ≤ m.2.length := by
  unfold OrdAns at h
  split at h
  · rcases h with ⟨_, h1⟩ | ⟨_, _, rfl⟩
    · rw [h1.2]; exact Nat.le_refl _
    · simp
  · rw [h.2]; simp
theorem PathAns.one {m : Mc} {r x1 e1 x2 e2 : Int} (h : PathAns m r x1 e1) (k : PathAns m r x2 e2) : x1 = x2 ∧ e1 = e2 := by
  unfold PathAns at h k
  split at h
  · rename_i h0
    rw [if_pos h0] at k
    rcases h with ⟨o1, h1, h2⟩ | ⟨h1, rfl, rfl⟩
    · rcases k with ⟨o2, k1, k2⟩ | ⟨k1, rfl, rfl⟩
      · rw [h1.one k1, k2] at h2
        simp only [Prod.mk.injEq] at h2
        exact ⟨h2.1.symm, h2.2.symm⟩
      · exact absurd k1 h1.noCycle
    · rcases k with ⟨o2, k1, k2⟩ | ⟨k1, rfl, rfl⟩
      · exact absurd h1 k1.noCycle
      · exact ⟨rfl, rfl⟩
  · rename_i h0
    rw [if_neg h0] at k
    exact ⟨h.1.trans k.1.symm, h.2.trans k.2.symm⟩
theorem FarAns.one {m : Mc} {r x1 e1 x2 e2 : Int} (h : FarAns m r x1 e1) (k : FarAns m r x2 e2) : x1 = x2 ∧ e1 = e2 := by
  unfold FarAns at h k
  split at h
  · rename_i h0
    rw [if_pos h0] at k
    rcases h with ⟨o1, h1, h2⟩ | ⟨h1, rfl, rfl⟩
    · rcases k with ⟨o2, k1, k2⟩ | ⟨k1, rfl, rfl⟩
      · rw [h1.one k1, k2] at h2
        simp only [Prod.mk.injEq] at h2
        exact ⟨h2.1.symm, h2.2.symm⟩
      · exact absurd k1 h1.noCycle
    · rcases k with ⟨o2, k1, k2⟩ | ⟨k1, rfl, rfl⟩
      · exact absurd h1 k1.noCycle
      · exact ⟨rfl, rfl⟩
  · rename_i h0
    rw [if_neg h0] at k
    exact ⟨h.1.trans k.1.symm, h.2.trans k.2.symm⟩
/-! Along an order the equations hold, and they have but one solution. -/
theorem cnt_mem_not {l : List St} {a b : List Int} {p : Nat} (h : ∀ x ∈ a, p ≠ x.toNat) : cntF l (a ++ b) p = cntF l b p := by
  induction a with
  | nil => rfl
  | cons x a ih =>
    show (if p = x.toNat then _ else _) = _
    rw [if_neg (h x (by simp))]
    exact ih (fun y hy => h y (by simp [hy]))
theorem far_mem_not {l : List St} {a b : List Int} {p : Nat} (h : ∀ x ∈ a, p ≠ x.toNat) : farF l (a ++ b) p = farF l b p := by
  induction a with
  | nil => rfl
  | cons x a ih =>
    show (if p = x.toNat then _ else _) = _
    rw [if_neg (h x (by simp))]
    exact ih (fun y hy => h y (by simp [hy]))
theorem OrderL.ahead {l : List St} {out : List Int} (h : OrderL l out) {i : Nat} {t : Nat} (ht : (t : Int) ∈ out.drop i) : ∀ x ∈ out.take i, t ≠ x.toNat := by
  intro x hx e
  obtain ⟨q, rfl, _⟩ := h.1.mem (List.mem_of_mem_take hx)
  have hnd := h.1.nodup
  rw [← List.take_append_drop i out, List.nodup_append] at hnd
  simp at e
  subst e
  exact hnd.2.2 _ hx _ ht rfl
theorem OrderL.cnt {l : List St} {out : List Int} (h : OrderL l out) (hto : ∀ q, q < l.length → ∀ a ∈ (el l q).2, ∃ t : Nat, a.2.2.2 = (t : Int) ∧ t < l.length) : CntEq l (cntF l out) := by
  intro q hq
  obtain ⟨i, hi, he⟩ := mem_el (h.all hq)
  have hd : out.drop i = (q : Int) :: out.drop (i + 1) := by rw [List.drop_eq_getElem_cons hi, ← el_get hi, he]
  have h1 : cntF l out q = cntF l (out.drop i) q := by
    conv => lhs; rw [← List.take_append_drop i out]
    exact cnt_mem_not (h.ahead (i := i) (by rw [hd]; simp))
  rw [h1, hd]
  show (if q = ((q : Int)).toNat then _ else _) = _
  rw [if_pos (by simp)]
  congr 1
  refine sumF_congr fun a ha => ?_
  obtain ⟨t, ht, htn⟩ := hto q hq a ha
  have h2 := h.later hi he ha ht htn
  rw [ht, Int.toNat_natCast]
  conv => rhs; rw [← List.take_append_drop (i + 1) out]
  exact (cnt_mem_not (h.ahead h2)).symm
theorem OrderL.far {l : List St} {out : List Int} (h : OrderL l out) (hto : ∀ q, q < l.length → ∀ a ∈ (el l q).2, ∃ t : Nat, a.2.2.2 = (t : Int) ∧ t < l.length) : FarEq l (farF l out) := by
  intro q hq
  obtain ⟨i, hi, he⟩ := mem_el (h.all hq)
  have hd : out.drop i = (q : Int) :: out.drop (i + 1) := by rw [List.drop_eq_getElem_cons hi, ← el_get hi, he]
  have h1 : farF l out q = farF l (out.drop i) q := by
    conv => lhs; rw [← List.take_append_drop i out]
    exact far_mem_not (h.ahead (i := i) (by rw [hd]; simp))
  rw [h1, hd]
  show (if q = ((q : Int)).toNat then _ else _) = _
  rw [if_pos (by simp)]
  refine maxF_congr (fun a ha => ?_) _
  obtain ⟨t, ht, htn⟩ := hto q hq a ha
  have h2 := h.later hi he ha ht htn
  rw [ht, Int.toNat_natCast]
  conv => rhs; rw [← List.take_append_drop (i + 1) out]
  exact (far_mem_not (h.ahead h2)).symm
/-- From behind along an order. -/
theorem OrderL.ind {l : List St} {out : List Int} (h : OrderL l out) (hto : ∀ q, q < l.length → ∀ a ∈ (el l q).2, ∃ t : Nat, a.2.2.2 = (t : Int) ∧ t < l.length) {P : Nat → Prop} (step : ∀ q, q < l.length → (∀ a ∈ (el l q).2, P a.2.2.2.toNat) → P q) : ∀ q, q < l.length → P q := by
  have key : ∀ k i, i < out.length → out.length - i ≤ k → P (el out i).toNat := by
    intro k
    induction k with
    | zero => intro i hi hk; omega
    | succ k ih =>
      intro i hi hk
      obtain ⟨q, he, hq, _⟩ := h.1 i hi
      rw [he, Int.toNat_natCast]
      refine step q hq fun a ha => ?_
      obtain ⟨t, ht, htn⟩ := hto q hq a ha
      have h2 := h.later hi he ha ht htn
      obtain ⟨j, hj, hej⟩ := List.mem_iff_getElem.1 h2
      rw [List.length_drop] at hj
      rw [List.getElem_drop] at hej
      have h3 := ih (i + 1 + j) (by omega) (by omega)
      rw [el_get (by omega), hej] at h3
      rw [ht]; exact h3
  intro q hq
  obtain ⟨i, hi, he⟩ := mem_el (h.all hq)
  have := key out.length i hi (by omega)
  rw [he, Int.toNat_natCast] at this
  exact this
theorem cnt_one {l : List St} {out : List Int} (h : OrderL l out) (hto : ∀ q, q < l.length → ∀ a ∈ (el l q).2, ∃ t : Nat, a.2.2.2 = (t : Int) ∧ t < l.length) {f g : Nat → Nat} (hf : CntEq l f) (hg : CntEq l g) : ∀ q, q < l.length → f q = g q :=
  h.ind hto fun q hq ih => by rw [hf q hq, hg q hq, sumF_congr ih]
theorem far_one {l : List St} {out : List Int} (h : OrderL l out) (hto : ∀ q, q < l.length → ∀ a ∈ (el l q).2, ∃ t : Nat, a.2.2.2 = (t : Int) ∧ t < l.length) {f g : Nat → Int} (hf : FarEq l f) (hg : FarEq l g) : ∀ q, q < l.length → f q = g q :=
  h.ind hto fun q hq ih => by rw [hf q hq, hg q hq, maxF_congr ih]
end Go.Proofs.YtfekmlblldhieaaDoor.Pl
namespace Go.Proofs.YtfekmlblldhieaaDoor.Pl
/-- Each arc leads to a later state. -/
def Fwd (l : List St) : Prop := ∀ q, q < l.length → ∀ a ∈ (el l q).2, ∃ t : Nat, a.2.2.2 = (t : Int) ∧ q < t ∧ t < l.length
theorem Fwd.to {l : List St} (h : Fwd l) : ∀ q, q < l.length → ∀ a ∈ (el l q).2, ∃ t : Nat, a.2.2.2 = (t : Int) ∧ t < l.length := fun q hq a ha => by
  obtain ⟨t, h1, _, h2⟩ := h q hq a ha
  exact ⟨t, h1, h2⟩
def numsL (n : Nat) : List Int := (List.range n).map fun q : Nat => (q : Int)
theorem numsL_length (n : Nat) : (numsL n).length = n := by simp [numsL]
theorem numsL_el {n q : Nat} (h : q < n) : el (numsL n) q = (q : Int) := el_range_map _ h
theorem numsL_mem {n q : Nat} : (q : Int) ∈ numsL n ↔ q < n := by
  unfold numsL
  rw [List.mem_map]
  constructor
  · rintro ⟨p, hp, e⟩
    have := List.mem_range.1 hp
    omega
  · intro h; exact ⟨q, List.mem_range.2 h, rfl⟩
theorem numsL_take {n i : Nat} (h : i ≤ n) : (numsL n).take i = numsL i := by
  apply el_ext (by rw [List.length_take, numsL_length, numsL_length]; omega)
  intro j hj
  rw [List.length_take, numsL_length] at hj
  rw [el_take (by omega), numsL_el (by omega), numsL_el (by omega)]
theorem Fwd.order {l : List St} (h : Fwd l) : OrderL l (numsL l.length) := by
  refine ⟨fun i hi => ?_, numsL_length _⟩
  rw [numsL_length] at hi
  rw [numsL_el hi, numsL_take (by omega)]
  refine ⟨i, rfl, hi, ⟨fun h9 => absurd (numsL_mem.1 h9) (Nat.lt_irrefl _), fun p hp hl => ?_⟩, fun p hp hf => hf.1 (numsL_mem.2 hp)⟩
  obtain ⟨a, ha, he⟩ := List.any_eq_true.1 hl
  obtain ⟨t, h1, h2, _⟩ := h p hp a ha
  simp only [decide_eq_true_eq] at he
  exact numsL_mem.2 (by omega)
theorem sumF_le {f : Nat → Nat} {k : Nat} {ar : List Ar} (h : ∀ a ∈ ar, f a.2.2.2.toNat ≤ k) : sumF f ar ≤ ar.length * k := by
  induction ar with
  | nil => simp [sumF]
  | cons a l ih =>
    have h1 := h a (by simp)
    have h2 := ih (fun b hb => h b (by simp [hb]))
    simp only [sumF, List.length_cons, Nat.add_mul, Nat.one_mul]
    omega
theorem sumF_zero {f : Nat → Nat} {ar : List Ar} : sumF f ar = 0 ↔ ∀ a ∈ ar, f a.2.2.2.toNat = 0 := by
  induction ar with
  | nil => simp [sumF]
  | cons a l ih => simp [sumF, ih]
theorem cnt_bound {l : List St} {f : Nat → Nat} (h : Fwd l) (hf : CntEq l f) (h4 : ∀ q, q < l.length → (el l q).2.length ≤ 4) : ∀ k q, q < l.length → l.length - q ≤ k → f q ≤ 5 ^ k := by
  intro k
  induction k with
  | zero => intro q hq hk; omega
  | succ k ih =>
    intro q hq hk
    rw [hf q hq]
    have h1 : sumF f (el l q).2 ≤ (el l q).2.length * 5 ^ k := sumF_le (fun a ha => by
      obtain ⟨t, e, h2, h3⟩ := h q hq a ha
      rw [e, Int.toNat_natCast]
      exact ih t h3 (by omega))
    have h2 : (el l q).2.length * 5 ^ k ≤ 4 * 5 ^ k := Nat.mul_le_mul_right _ (h4 q hq)
    have h3 : 0 < 5 ^ k := Nat.pow_pos (by omega)
    have h5 : baseN (el l q).1 ≤ 1 := by unfold baseN; split <;> omega
    rw [Nat.pow_succ]
    omega
theorem maxF_neg {f : Nat → Int} {ar : List Ar} {n : Int} : maxF f n ar < 0 ↔ n < 0 ∧ ∀ a ∈ ar, f a.2.2.2.toNat < 0 := by
  induction ar generalizing n with
  | nil => simp [maxF]
  | cons a l ih =>
    rw [maxF, ih]
    simp only [List.mem_cons, forall_eq_or_imp]
    unfold stepD
    constructor
    · rintro ⟨h1, h2⟩
      split at h1
      · rename_i h; omega
      · rename_i h
        refine ⟨h1, ?_, h2⟩
        by_cases e : f a.2.2.2.toNat < 0
        · exact e
        · exact absurd ⟨by omega, by omega⟩ h
    · rintro ⟨h1, h2, h3⟩
      rw [if_neg (fun h => by omega)]
      exact ⟨h1, h3⟩
theorem maxF_ge {f : Nat → Int} {ar : List Ar} {n : Int} : n ≤ maxF f n ar := by
  induction ar generalizing n with
  | nil => exact Int.le_refl _
  | cons a l ih =>
    rw [maxF]
    refine Int.le_trans ?_ ih
    unfold stepD
    split <;> omega
theorem maxF_zero {f : Nat → Int} {ar : List Ar} {n : Int} (hn : -1 ≤ n) (h : maxF f n ar = 0) : n = 0 ∧ ∀ a ∈ ar, f a.2.2.2.toNat < 0 := by
  induction ar generalizing n with
  | nil => exact ⟨h, by simp⟩
  | cons a l ih =>
    rw [maxF] at h
    by_cases e : f a.2.2.2.toNat < 0
    · have hs : stepD n (f a.2.2.2.toNat) = n := by unfold stepD; rw [if_neg (fun h9 => by omega)]
      rw [hs] at h
      obtain ⟨h1, h2⟩ := ih hn h
      exact ⟨h1, fun b hb => by rcases List.mem_cons.1 hb with rfl | hb; exact e; exact h2 b hb⟩
    · have hs : 1 ≤ stepD n (f a.2.2.2.toNat) := by unfold stepD; split <;> omega
      have := maxF_ge (f := f) (ar := l) (n := stepD n (f a.2.2.2.toNat))
      omega
theorem maxF_le {f : Nat → Int} {k : Int} {ar : List Ar} {n : Int} (hn : n ≤ k) (h : ∀ a ∈ ar, f a.2.2.2.toNat + 1 ≤ k) : maxF f n ar ≤ k := by
  induction ar generalizing n with
  | nil => exact hn
  | cons a l ih =>
    rw [maxF]
    refine ih ?_ (fun b hb => h b (by simp [hb]))
    have := h a (by simp)
    unfold stepD
    split <;> omega
theorem far_cnt {l : List St} {out : List Int} (ho : OrderL l out) (hto : ∀ q, q < l.length → ∀ a ∈ (el l q).2, ∃ t : Nat, a.2.2.2 = (t : Int) ∧ t < l.length) {c : Nat → Nat} {d : Nat → Int} (hc : CntEq l c) (hd : FarEq l d) : ∀ q, q < l.length → (d q < 0 ↔ c q = 0) := by
  refine ho.ind hto fun q hq ih => ?_
  rw [hd q hq, hc q hq, maxF_neg, Nat.add_eq_zero_iff, sumF_zero]
  have hb : baseD (el l q).1 < 0 ↔ baseN (el l q).1 = 0 := by unfold baseD baseN; split <;> simp
  rw [hb]
  constructor
  · rintro ⟨h1, h2⟩; exact ⟨h1, fun a ha => (ih a ha).1 (h2 a ha)⟩
  · rintro ⟨h1, h2⟩; exact ⟨h1, fun a ha => (ih a ha).2 (h2 a ha)⟩
theorem far_zero {l : List St} {out : List Int} (ho : OrderL l out) (hto : ∀ q, q < l.length → ∀ a ∈ (el l q).2, ∃ t : Nat, a.2.2.2 = (t : Int) ∧ t < l.length) {c : Nat → Nat} {d : Nat → Int} (hc : CntEq l c) (hd : FarEq l d) {q : Nat} (hq : q < l.length) (h : d q = 0) : c q = 1 := by
  rw [hd q hq] at h
  have hb : -1 ≤ baseD (el l q).1 := by unfold baseD; split <;> omega
  obtain ⟨h1, h2⟩ := maxF_zero hb h
  have h3 : sumF c (el l q).2 = 0 := sumF_zero.2 (fun a ha => by
    obtain ⟨t, e, ht⟩ := hto q hq a ha
    have := h2 a ha
    rw [e, Int.toNat_natCast] at this ⊢
    exact (far_cnt ho hto hc hd t ht).1 this)
  rw [hc q hq, h3]
  unfold baseD at h1
  unfold baseN
  split at h1 <;> simp_all
theorem Fwd.far {l : List St} (h : Fwd l) {d : Nat → Int} (hd : FarEq l d) : ∀ q, q < l.length → d q ≤ (l.length : Int) - 1 - (q : Int) := by
  refine h.order.ind h.to fun q hq ih => ?_
  rw [hd q hq]
  refine maxF_le (by unfold baseD; split <;> omega) fun a ha => ?_
  obtain ⟨t, e, h1, h2⟩ := h q hq a ha
  have := ih a ha
  rw [e, Int.toNat_natCast] at this
  rw [e, Int.toNat_natCast]
  omega
end Go.Proofs.YtfekmlblldhieaaDoor.Pl
namespace Go.Proofs.YtfekmlblldhieaaDoor.Pl
/-- Does an arc lead to q from one of the first states of the list that is left? -/
def ledB (l : List St) (bs : List Bool) (p q : Nat) : Bool := (List.range p).any fun x => el bs x && leadsB l x q
theorem ledB_succ (l : List St) (bs : List Bool) (p q : Nat) : ledB l bs (p + 1) q = (ledB l bs p q || (el bs p && leadsB l p q)) := by
  unfold ledB
  rw [List.range_succ, List.any_append]; simp
theorem sub_len : ∀ (a b : List Int), a.Nodup → (∀ x ∈ a, x ∈ b) → a.length ≤ b.length := by
  intro a
  induction a with
  | nil => intro b _ _; simp
  | cons x a ih =>
    intro b hn h
    have h1 := h x (by simp)
    have h2 := ih (b.erase x) (List.nodup_cons.1 hn).2 (fun y hy => by
      have hne : y ≠ x := fun e => by subst e; exact (List.nodup_cons.1 hn).1 hy
      exact (List.mem_erase_of_ne hne).2 (h y (by simp [hy])))
    rw [List.length_erase_of_mem h1] at h2
    have h3 : 0 < b.length := List.length_pos_of_mem h1
    simp only [List.length_cons]
    omega
/-- What is left has all that can't be told. -/
def Sup (n : Nat) (out : List Int) (bs : List Bool) : Prop := bs.length = n ∧ ∀ q, q < n → (q : Int) ∉ out → el bs q = true
theorem stuck_some {l : List St} {out : List Int} (hl : out.length < l.length) : ∃ q, q < l.length ∧ (q : Int) ∉ out := by
  by_cases h : ∃ q, q < l.length ∧ (q : Int) ∉ out
  · exact h
  · exfalso
    have h1 := sub_len (numsL l.length) out (by
      unfold numsL
      rw [List.nodup_iff_pairwise_ne, List.pairwise_map]
      refine (List.pairwise_lt_range (n := l.length)).imp ?_
      intro a b hab; omega) (fun x hx => by
      unfold numsL at hx
      obtain ⟨q, hq, rfl⟩ := List.mem_map.1 hx
      by_cases e : (q : Int) ∈ out
      · exact e
      · exact absurd ⟨q, List.mem_range.1 hq, e⟩ h)
    rw [numsL_length] at h1
    omega
theorem stuck_led {l : List St} {out : List Int} (hf : ∀ q, q < l.length → ¬ FreeQ l out q) {bs : List Bool} (hb : Sup l.length out bs) {q : Nat} (hq : q < l.length) (hn : (q : Int) ∉ out) : ledB l bs l.length q = true := by
  have h1 := hf q hq
  by_cases h : ∃ p, p < l.length ∧ leadsB l p q = true ∧ (p : Int) ∉ out
  · obtain ⟨p, hp, h2, h3⟩ := h
    unfold ledB
    exact List.any_eq_true.2 ⟨p, List.mem_range.2 hp, by rw [hb.2 p hp h3, h2]; rfl⟩
  · exfalso
    refine h1 ⟨hn, fun p hp h2 => ?_⟩
    by_cases e : (p : Int) ∈ out
    · exact e
    · exact absurd ⟨p, hp, h2, e⟩ h
theorem el_setAny {l : List Bool} {q j : Nat} (hq : q < l.length) (b : Bool) : el (l.set q b) j = if j = q then b else el l j := by
  by_cases h : j = q
  · subst h; rw [if_pos rfl, el_get (by simpa using hq)]; simp
  · rw [if_neg h]; simp [el, List.getElem?_set_ne (Ne.symm h)]
theorem Sup.set {l : List St} {out : List Int} (hf : ∀ q, q < l.length → ¬ FreeQ l out q) {bs : List Bool} (hb : Sup l.length out bs) {q : Nat} (hq : q < l.length) : Sup l.length out (bs.set q (el bs q && ledB l bs l.length q)) := by
  refine ⟨by simpa using hb.1, fun p hp hn => ?_⟩
  rw [el_setAny (by rw [hb.1]; exact hq)]
  split
  · rename_i e
    subst e
    rw [hb.2 p hp hn, stuck_led hf hb hp hn]; rfl
  · exact hb.2 p hp hn
theorem Sup.some {l : List St} {out : List Int} (hl : out.length < l.length) {bs : List Bool} (hb : Sup l.length out bs) : (List.range l.length).any (fun q => el bs q) = true := by
  obtain ⟨q, hq, hn⟩ := stuck_some hl
  exact List.any_eq_true.2 ⟨q, List.mem_range.2 hq, hb.2 q hq hn⟩
/-- The places of the first i of an order, plus 1. -/
def AtI (n : Nat) (out : List Int) (i : Nat) (ps : List Int) : Prop := ps.length = n ∧ (∀ j, j < i → el ps (el out j).toNat = (j : Int) + 1) ∧ ∀ q, q < n → (q : Int) ∉ out.take i → el ps q = 0
theorem AtI.start (n : Nat) (out : List Int) : AtI n out 0 (List.replicate n 0) := ⟨by simp, fun j hj => absurd hj (Nat.not_lt_zero _), fun q hq _ => by simp [el, hq]⟩
theorem el_setI {l : List Int} {q j : Nat} (hq : q < l.length) (x : Int) : el (l.set q x) j = if j = q then x else el l j := by
  by_cases h : j = q
  · subst h; rw [if_pos rfl, el_get (by simpa using hq)]; simp
  · rw [if_neg h]; simp [el, List.getElem?_set_ne (Ne.symm h)]
theorem AtI.next {l : List St} {out : List Int} (ho : OrderL l out) {i : Nat} (hi : i < l.length) {ps : List Int} (h : AtI l.length out i ps) {q : Nat} (hq : el out i = (q : Int)) (hqn : q < l.length) : el ps q = 0 ∧ AtI l.length out (i + 1) (ps.set q ((i : Int) + 1)) := by
  have hio : i < out.length := by rw [ho.2]; exact hi
  have hno : (q : Int) ∉ out.take i := by
    obtain ⟨q', e, _, hf, _⟩ := ho.1 i hio
    rw [hq] at e
    rw [e]; exact hf.1
  refine ⟨h.2.2 q hqn hno, by simpa using h.1, fun j hj => ?_, fun p hp hn => ?_⟩
  · by_cases e : j = i
    · subst e
      rw [hq, Int.toNat_natCast, el_setI (by rw [h.1]; exact hqn), if_pos rfl]
    · obtain ⟨p, e2, hp, _⟩ := ho.1 j (by omega)
      rw [e2, Int.toNat_natCast, el_setI (by rw [h.1]; exact hqn), if_neg]
      · have := h.2.1 j (by omega)
        rw [e2, Int.toNat_natCast] at this
        exact this
      · intro e3
        refine hno ?_
        rw [← e3, ← e2]
        have : el (out.take i) j = el out j := el_take (by omega)
        rw [← this]
        exact el_mem (by rw [List.length_take]; omega)
  · rw [el_setI (by rw [h.1]; exact hqn)]
    rw [take_el hio, List.mem_append, List.mem_singleton, hq] at hn
    split
    · rename_i e; subst e; exact absurd (.inr rfl) hn
    · exact h.2.2 p hp (fun h9 => hn (.inl h9))
theorem AtI.all {l : List St} {out : List Int} (ho : OrderL l out) {ps : List Int} (h : AtI l.length out l.length ps) {q : Nat} (hq : q < l.length) : ∃ j, j < l.length ∧ el out j = (q : Int) ∧ el ps q = (j : Int) + 1 := by
  obtain ⟨j, hj, he⟩ := mem_el (ho.all hq)
  rw [ho.2] at hj
  have := h.2.1 j hj
  rw [he, Int.toNat_natCast] at this
  exact ⟨j, hj, he, this⟩
theorem AtI.later {l : List St} {out : List Int} (ho : OrderL l out) {ps : List Int} (h : AtI l.length out l.length ps) {q : Nat} (hq : q < l.length) {a : Ar} (ha : a ∈ (el l q).2) {t : Nat} (ht : a.2.2.2 = (t : Int)) (htn : t < l.length) : el ps q < el ps t := by
  obtain ⟨j, hj, he, hp⟩ := h.all ho hq
  have h1 := ho.later (by rw [ho.2]; exact hj) he ha ht htn
  obtain ⟨i, hi, e⟩ := List.mem_iff_getElem.1 h1
  rw [List.length_drop, ho.2] at hi
  rw [List.getElem_drop] at e
  have h2 := h.2.1 (j + 1 + i) (by omega)
  have e2 : el out (j + 1 + i) = (t : Int) := by rw [el_get (by rw [ho.2]; omega)]; exact e
  rw [e2, Int.toNat_natCast] at h2
  rw [hp, h2]
  omega
end Go.Proofs.YtfekmlblldhieaaDoor.Pl
namespace Go.Proofs.YtfekmlblldhieaaDoor.Pl
set_option linter.unusedVariables false
set_option linter.unusedSimpArgs false
/-! Sums. -/
def S (f : Nat → Nat) : Nat → Nat
  | 0 => 0
  | n + 1 => S f n + f n
theorem S_congr {f g : Nat → Nat} : ∀ {n : Nat}, (∀ q, q < n → f q = g q) → S f n = S g n
  | 0, _ => rfl
  | n + 1, h => by simp only [S]; rw [S_congr (fun q hq => h q (by omega)), h n (by omega)]
theorem S_add (f g : Nat → Nat) : ∀ n, S (fun q => f q + g q) n = S f n + S g n
  | 0 => rfl
  | n + 1 => by simp only [S]; rw [S_add f g n]; omega
theorem S_mul (f : Nat → Nat) (c : Nat) : ∀ n, S (fun q => f q * c) n = S f n * c
  | 0 => by simp [S]
  | n + 1 => by simp only [S]; rw [S_mul f c n, Nat.add_mul]
theorem S_zero : ∀ n, S (fun _ => 0) n = 0
  | 0 => rfl
  | n + 1 => by simp only [S]; rw [S_zero n]
theorem S_swap (f : Nat → Nat → Nat) (k : Nat) : ∀ n, S (fun q => S (fun t => f q t) k) n = S (fun t => S (fun q => f q t) n) k
  | 0 => by simp only [S]; rw [S_zero]
  | n + 1 => by simp only [S]; rw [S_swap f k n, ← S_add]
theorem S_one (F : Nat → Nat) (z : Nat) : ∀ n, S (fun t => (if t = z then 1 else 0) * F t) n = if z < n then F z else 0
  | 0 => by simp [S]
  | n + 1 => by
    simp only [S]
    rw [S_one F z n]
    by_cases e : n = z
    · subst e; rw [if_neg (Nat.lt_irrefl n), if_pos rfl, if_pos (Nat.lt_succ_self n)]; omega
    · rw [if_neg e]
      by_cases h : z < n
      · rw [if_pos h, if_pos (show z < n + 1 by omega)]; omega
      · rw [if_neg h, if_neg (show ¬ z < n + 1 by omega)]; omega
/-- How many arcs lead to t. -/
def ctA (t : Nat) (ar : List Ar) : Nat := (ar.filter fun a => decide (a.2.2.2 = (t : Int))).length
theorem sumF_ct {F : Nat → Nat} {n : Nat} {ar : List Ar} (h : ∀ a ∈ ar, ∃ t : Nat, a.2.2.2 = (t : Int) ∧ t < n) : sumF F ar = S (fun t => ctA t ar * F t) n := by
  induction ar with
  | nil =>
    have : S (fun t => ctA t [] * F t) n = S (fun _ => 0) n := S_congr fun q _ => by simp [ctA]
    rw [this, S_zero]; rfl
  | cons a ar ih =>
    obtain ⟨z, hz, hn⟩ := h a (by simp)
    have e : S (fun t => ctA t (a :: ar) * F t) n = S (fun t => (if t = z then 1 else 0) * F t + ctA t ar * F t) n := S_congr fun t _ => by
      simp only [ctA, List.filter_cons, hz]
      by_cases g : t = z
      · subst g; simp [Nat.add_mul]; omega
      · rw [if_neg (by simpa using fun h => g (by omega)), if_neg g]; omega
    rw [e, S_add, S_one, if_pos hn, ← ih (fun a ha => h a (by simp [ha]))]
    simp only [sumF, hz, Int.toNat_natCast]
theorem sumF_into (G : Nat → Nat) (p t : Nat) (ar : List Ar) : sumF G (intoA p t ar) = ctA t ar * G (p + 1) := by
  unfold intoA ctA
  generalize ar.filter (fun a => decide (a.2.2.2 = (t : Int))) = l
  induction l with
  | nil => simp [sumF]
  | cons a l ih =>
    simp only [List.map_cons, sumF, ih, List.length_cons, Nat.add_mul]
    have : ((p : Int) + 1).toNat = p + 1 := by omega
    rw [this]; omega
theorem sumF_intoL (G : Nat → Nat) (l : List St) (t : Nat) : ∀ k, sumF G (intoL l t k) = S (fun p => ctA t (el l p).2 * G (p + 1)) k
  | 0 => rfl
  | k + 1 => by simp only [intoL, sumF_append, S]; rw [sumF_intoL G l t k, sumF_into]
theorem sumF_first (G : Nat → Nat) (l : List St) : ∀ k, sumF G (firstL l k) = S (fun q => baseN (el l q).1 * G (q + 1)) k
  | 0 => rfl
  | k + 1 => by
    simp only [firstL, sumF_append, S]
    rw [sumF_first G l k]
    congr 1
    have : ((k : Int) + 1).toNat = k + 1 := by omega
    by_cases h : (el l k).1 = 1000000001
    · simp [h, sumF, baseN]
    · simp [h, sumF, baseN, this]
theorem rev_el0 (m : Mc) : el (revM m).2 0 = (1000000001, firstL m.2 m.2.length) := rfl
theorem rev_elS (m : Mc) {q : Nat} (h : q < m.2.length) : el (revM m).2 (q + 1) = revS m.1 m.2 q := by
  show el (_ :: _) (q + 1) = _
  rw [el_succ, el_range_map _ h]
theorem rev_cases (m : Mc) {q : Nat} (h : q < (revM m).2.length) : q = 0 ∨ ∃ p, q = p + 1 ∧ p < m.2.length := by
  rw [revM_len] at h
  rcases q with _ | q
  · exact .inl rfl
  · exact .inr ⟨q, rfl, by omega⟩
/-- Counted the one way and the other. -/
theorem rev_count {m : Mc} (hto : ∀ q, q < m.2.length → ∀ a ∈ (el m.2 q).2, ∃ t : Nat, a.2.2.2 = (t : Int) ∧ t < m.2.length) {z : Nat} (hz : m.1 = (z : Int)) (hzn : z < m.2.length) {F G : Nat → Nat} (hF : CntEq m.2 F) (hG : CntEq (revM m).2 G) : G 0 = F z := by
  have h0 := hG 0 (by rw [revM_len]; omega)
  rw [rev_el0] at h0
  simp only [sumF_first] at h0
  have h1 : ∀ t, t < m.2.length → G (t + 1) = (if t = z then 1 else 0) + S (fun p => ctA t (el m.2 p).2 * G (p + 1)) m.2.length := fun t ht => by
    have := hG (t + 1) (by rw [revM_len]; omega)
    rw [rev_elS m ht] at this
    rw [this]
    simp only [revS, sumF_intoL, hz]
    congr 1
    by_cases e : t = z
    · subst e; simp [baseN]
    · rw [if_neg (by omega), if_neg e]; rfl
  have h2 : ∀ q, q < m.2.length → F q = baseN (el m.2 q).1 + S (fun t => ctA t (el m.2 q).2 * F t) m.2.length := fun q hq => by
    rw [← sumF_ct (hto q hq)]
    exact hF q hq
  have e1 : S (fun q => F q * G (q + 1)) m.2.length = S (fun q => baseN (el m.2 q).1 * G (q + 1)) m.2.length + S (fun q => S (fun t => ctA t (el m.2 q).2 * F t * G (q + 1)) m.2.length) m.2.length := by
    rw [← S_add]
    refine S_congr fun q hq => ?_
    rw [S_mul (fun t => ctA t (el m.2 q).2 * F t), ← Nat.add_mul, ← h2 q hq]
  have e2 : S (fun q => F q * G (q + 1)) m.2.length = F z + S (fun t => S (fun p => ctA t (el m.2 p).2 * G (p + 1) * F t) m.2.length) m.2.length := by
    have : S (fun t => (if t = z then 1 else 0) * F t) m.2.length = F z := by rw [S_one, if_pos hzn]
    rw [← this, ← S_add]
    refine S_congr fun t ht => ?_
    rw [S_mul (fun p => ctA t (el m.2 p).2 * G (p + 1)), ← Nat.add_mul, ← h1 t ht, Nat.mul_comm]
  have e3 : S (fun q => S (fun t => ctA t (el m.2 q).2 * F t * G (q + 1)) m.2.length) m.2.length = S (fun t => S (fun p => ctA t (el m.2 p).2 * G (p + 1) * F t) m.2.length) m.2.length := by
    rw [S_swap]
    refine S_congr fun t _ => S_congr fun q _ => ?_
    rw [Nat.mul_assoc, Nat.mul_comm (F t), ← Nat.mul_assoc]
  rw [h0, show baseN 1000000001 = 0 from rfl]
  omega
/-! What leads where. -/
theorem mem_first {l : List St} {c : Ar} : ∀ {k : Nat}, c ∈ firstL l k → ∃ q, q < k ∧ (el l q).1 ≠ 1000000001 ∧ c = (0, 0, (el l q).1, (q : Int) + 1)
  | 0, h => absurd h (by simp [firstL])
  | k + 1, h => by
    simp only [firstL, List.mem_append] at h
    rcases h with h | h
    · obtain ⟨q, h1, h2⟩ := mem_first h
      exact ⟨q, by omega, h2⟩
    · by_cases e : (el l k).1 = 1000000001
      · rw [if_pos e] at h; exact absurd h (by simp)
      · rw [if_neg e] at h
        exact ⟨k, by omega, e, by simpa using h⟩
theorem mem_into {l : List St} {t : Nat} {c : Ar} : ∀ {k : Nat}, c ∈ intoL l t k → ∃ q, q < k ∧ ∃ a ∈ (el l q).2, a.2.2.2 = (t : Int) ∧ c = (a.1, a.2.1, a.2.2.1, (q : Int) + 1)
  | 0, h => absurd h (by simp [intoL])
  | k + 1, h => by
    simp only [intoL, List.mem_append] at h
    rcases h with h | h
    · obtain ⟨q, h1, h2⟩ := mem_into h
      exact ⟨q, by omega, h2⟩
    · simp only [intoA, List.mem_map, List.mem_filter, decide_eq_true_eq] at h
      obtain ⟨a, ⟨h1, h2⟩, rfl⟩ := h
      exact ⟨k, by omega, a, h1, h2, rfl⟩
/-- Where each arc leads to a later rank there is no cycle. -/
theorem ranked {l : List St} (rk : Nat → Nat) (h : ∀ p, p < l.length → ∀ q, leadsB l p q = true → rk p < rk q) : ¬ CycleL l := by
  rintro ⟨out, _, hl, hf⟩
  have key : ∀ k q, rk q < k → q < l.length → (q : Int) ∈ out := by
    intro k
    induction k with
    | zero => intro q hq; omega
    | succ k ih =>
      intro q hq hql
      by_cases e : (q : Int) ∈ out
      · exact e
      · exact absurd ⟨e, fun p hp hlp => ih p (by have := h p hp q hlp; omega) hp⟩ (hf q hql)
  obtain ⟨q, hq, hn⟩ := stuck_some hl
  exact hn (key (rk q + 1) q (by omega) hq)
theorem leads_mem {l : List St} {p q : Nat} (h : leadsB l p q = true) : ∃ a ∈ (el l p).2, a.2.2.2 = (q : Int) := by
  simpa [leadsB] using h
theorem rev_noCycle {m : Mc} (fw : Fwd m.2) : ¬ CycleL (revM m).2 := by
  refine ranked (fun q => if q = 0 then 0 else m.2.length + 1 - q) fun p hp q hl => ?_
  obtain ⟨c, hc, hq⟩ := leads_mem hl
  rcases rev_cases m hp with rfl | ⟨t, rfl, ht⟩
  · rw [rev_el0] at hc
    obtain ⟨j, hj, _, rfl⟩ := mem_first hc
    simp only at hq
    rw [if_pos rfl, if_neg (by omega)]
    omega
  · rw [rev_elS m ht] at hc
    obtain ⟨j, hj, a, ha, hat, rfl⟩ := mem_into hc
    simp only at hq
    obtain ⟨t', e1, e2, e3⟩ := fw j hj a ha
    rw [if_neg (by omega), if_neg (by omega)]
    omega
theorem rev_to {m : Mc} : ∀ q, q < (revM m).2.length → ∀ a ∈ (el (revM m).2 q).2, ∃ t : Nat, a.2.2.2 = (t : Int) ∧ t < (revM m).2.length := fun q hq c hc => by
  rw [revM_len]
  rcases rev_cases m hq with rfl | ⟨t, rfl, ht⟩
  · rw [rev_el0] at hc
    obtain ⟨j, hj, _, rfl⟩ := mem_first hc
    exact ⟨j + 1, by simp, by omega⟩
  · rw [rev_elS m ht] at hc
    obtain ⟨j, hj, a, ha, hat, rfl⟩ := mem_into hc
    exact ⟨j + 1, by simp, by omega⟩
/-- As many paths. -/
theorem rev_paths {m : Mc} (fw : Fwd m.2) (hz : m.1 = 0) (hl : 0 < m.2.length) (h8 : m.2.length ≤ 8) (h4 : ∀ q, q < m.2.length → (el m.2 q).2.length ≤ 4) {n f k g : Int} (h1 : PathAns m 0 n f) (h2 : PathAns (revM m) 0 k g) : f = 0 ∧ g = 0 ∧ n = k := by
  have hF := fw.order.cnt fw.to
  have hb := cnt_bound fw hF h4 8 0 hl (by omega)
  have hb' : cntF m.2 (numsL m.2.length) 0 ≤ 390625 := by simpa using hb
  unfold PathAns at h1 h2
  rw [if_pos rfl] at h1 h2
  have a1 : f = 0 ∧ n = (cntF m.2 (numsL m.2.length) 0 : Int) := by
    rcases h1 with ⟨out, ho, he⟩ | ⟨hc, _⟩
    · have e1 := cnt_one ho fw.to (ho.cnt fw.to) hF 0 hl
      rw [hz] at he
      simp only [Int.toNat_zero, e1, pathA] at he
      rw [if_neg (by omega), if_neg (by omega)] at he
      simp only [Prod.mk.injEq] at he
      exact ⟨he.2.symm, he.1.symm⟩
    · exact absurd hc fw.order.noCycle
  have a2 : g = 0 ∧ k = (cntF m.2 (numsL m.2.length) 0 : Int) := by
    rcases h2 with ⟨out, ho, he⟩ | ⟨hc, _⟩
    · have e1 := rev_count fw.to (z := 0) hz hl hF (ho.cnt rev_to)
      have e0 : (revM m).1 = 0 := rfl
      rw [e0] at he
      simp only [Int.toNat_zero, e1, pathA] at he
      rw [if_neg (by omega), if_neg (by omega)] at he
      simp only [Prod.mk.injEq] at he
      exact ⟨he.2.symm, he.1.symm⟩
    · exact absurd hc (rev_noCycle fw)
  exact ⟨a1.1, a2.1, by rw [a1.2, a2.2]⟩
/-- A machine turned round is right if it is small. -/
theorem arcN_each {l : List St} {k : Nat} (h : ∀ s ∈ l, s.2.length ≤ k) : arcN l ≤ l.length * k := by
  induction l with
  | nil => simp [arcN]
  | cons s l ih =>
    have h1 := h s (by simp)
    have h2 := ih (fun s hs => h s (by simp [hs]))
    simp only [arcN, List.length_cons, Nat.add_mul]
    omega
theorem revM_each (m : Mc) : ∀ s ∈ (revM m).2, s.2.length ≤ m.2.length + arcN m.2 := fun s hs => by
  obtain ⟨q, hq, rfl⟩ := mem_el hs
  rcases rev_cases m hq with rfl | ⟨t, rfl, ht⟩
  · rw [rev_el0]
    have := firstL_le m.2 m.2.length
    simp only
    omega
  · rw [rev_elS m ht]
    have := intoL_le m.2 t m.2.length (Nat.le_refl _)
    rw [List.take_length] at this
    simp only [revS]
    omega
theorem revM_right {m : Mc} (h : faultM m = 0) (hs : sizeB (revM m) = true) : faultM (revM m) = 0 := by
  obtain ⟨h2, h3⟩ := right_parts h
  refine faultM_ok hs ?_
  unfold rangeB
  rw [revM_len]
  simp only [Bool.and_eq_true, inB, decide_eq_true_eq, List.all_eq_true]
  refine ⟨by simp [revM], ?_⟩
  intro s hs'
  obtain ⟨q, hq, rfl⟩ := mem_el hs'
  have hst : ∀ j, j < m.2.length → stB m.2.length (el m.2 j) = true := fun j hj => h3 _ (el_mem hj)
  simp only [stB, Bool.and_eq_true, List.all_eq_true] at hst ⊢
  rcases rev_cases m hq with rfl | ⟨t, rfl, ht⟩
  · rw [rev_el0]
    refine ⟨by simp [finB], fun c hc => ?_⟩
    obtain ⟨j, hj, hne, rfl⟩ := mem_first hc
    have := (hst j hj).1
    simp only [finB, inB, Bool.or_eq_true, Bool.and_eq_true, decide_eq_true_eq] at this
    simp only [arcB, inB, Bool.and_eq_true, decide_eq_true_eq]
    omega
  · rw [rev_elS m ht]
    refine ⟨?_, fun c hc => ?_⟩
    · simp only [revS]
      split <;> simp [finB, inB]
    · obtain ⟨j, hj, a, ha, hat, rfl⟩ := mem_into hc
      have := (hst j hj).2 a ha
      simp only [arcB, inB, Bool.and_eq_true, decide_eq_true_eq] at this ⊢
      omega
end Go.Proofs.YtfekmlblldhieaaDoor.Pl
namespace Go.Proofs.YtfekmlblldhieaaDoor.Pl
set_option linter.unusedVariables false
set_option linter.unusedSimpArgs false
theorem el_in {l : List St} {p : Nat} {a : Ar} (h : a ∈ (el l p).2) : p < l.length := by
  rcases Nat.lt_or_ge p l.length with g | g
  · exact g
  · have : el l p = default := by simp [el, g]
    rw [this] at h
    exact absurd h (by simp [default])
/-- The labels of all arcs exchanged, or put for each other. -/
theorem Way.map {l : List St} {k : Int} {q p c : Nat} {u v : List Int} (h : Way l q u v p c) {U V : List Int → List Int → List Int}
    (hU0 : U [] [] = []) (hV0 : V [] [] = []) (hU : ∀ u v (a : Ar), U (u ++ lab a.1) (v ++ lab a.2.1) = U u v ++ lab (tuA k a).1) (hV : ∀ u v (a : Ar), V (u ++ lab a.1) (v ++ lab a.2.1) = V u v ++ lab (tuA k a).2.1) : Way (l.map (tuS k)) q (U u v) (V u v) p c := by
  induction h with
  | nil => rw [hU0, hV0]; exact .nil
  | snoc h ha ht ih =>
    rw [hU, hV]
    refine ih.snoc (a := tuA k _) ?_ ht
    rw [el_map (el_in ha)]
    exact List.mem_map_of_mem ha
theorem way_over {l : List St} {q p c : Nat} {u v : List Int} (h : Way l q u v p c) : Way (l.map (tuS 0)) q v u p c :=
  h.map (U := fun _ v => v) (V := fun u _ => u) rfl rfl (fun u v a => by simp [tuA]) (fun u v a => by simp [tuA])
theorem over_list (l : List St) : (l.map (tuS 0)).map (tuS 0) = l := by
  have := over_over (0, l)
  simp only [tuM, Prod.mk.injEq, true_and] at this
  exact this
theorem way_over_iff {l : List St} {q p c : Nat} {u v : List Int} : Way (l.map (tuS 0)) q u v p c ↔ Way l q v u p c :=
  ⟨fun h => by have := way_over h; rwa [over_list] at this, way_over⟩
theorem way_reads {l : List St} {q p c : Nat} {u v : List Int} (h : Way l q u v p c) : Way (l.map (tuS 1)) q u u p c :=
  h.map (U := fun u _ => u) (V := fun u _ => u) rfl rfl (fun u v a => by simp [tuA]) (fun u v a => by simp [tuA])
theorem reads_way {l : List St} {q p c : Nat} {u v : List Int} (h : Way (l.map (tuS 1)) q u v p c) : v = u ∧ ∃ v', Way l q u v' p c := by
  induction h with
  | nil => exact ⟨rfl, [], .nil⟩
  | snoc h ha ht ih =>
    obtain ⟨rfl, v', hw⟩ := ih
    have hp := el_in ha
    rw [List.length_map] at hp
    rw [el_map hp] at ha
    simp only [tuS, List.mem_map] at ha
    obtain ⟨b, hb, rfl⟩ := ha
    refine ⟨by simp [tuA], v' ++ lab b.2.1, ?_⟩
    have := hw.snoc hb (t := _) ht
    simpa [tuA] using this
theorem tu_final {k : Int} {l : List St} {p : Nat} (h : p < l.length) : (el (l.map (tuS k)) p).1 = (el l p).1 := by rw [el_map h]; rfl
/-- P11.1: inverted it costs the same for the words exchanged. -/
theorem costs_over (m : Mc) (x y : List Int) (c : Nat) : Costs (tuM 0 m) x y c ↔ Costs m y x c := by
  constructor
  · rintro ⟨h0, p, d, hw, hp, hf, rfl⟩
    have hp' : p < m.2.length := by simpa [tuM] using hp
    refine ⟨h0, p, d, way_over_iff.1 hw, hp', ?_, ?_⟩
    · rw [← tu_final (k := 0) hp']; exact hf
    · rw [← tu_final (k := 0) hp']; rfl
  · rintro ⟨h0, p, d, hw, hp, hf, rfl⟩
    refine ⟨h0, p, d, way_over_iff.2 hw, by simpa [tuM] using hp, ?_, ?_⟩
    · show (el (m.2.map (tuS 0)) p).1 ≠ _
      rw [tu_final hp]; exact hf
    · show _ = d + (el (m.2.map (tuS 0)) p).1.toNat
      rw [tu_final hp]
/-- P11.2: what is read, whatever is written. -/
theorem costs_reads (m : Mc) (x : List Int) (c : Nat) : Costs (tuM 1 m) x x c ↔ CostsR m x c := by
  constructor
  · rintro ⟨h0, p, d, hw, hp, hf, rfl⟩
    have hp' : p < m.2.length := by simpa [tuM] using hp
    obtain ⟨_, v', hw'⟩ := reads_way hw
    refine ⟨v', h0, p, d, hw', hp', ?_, ?_⟩
    · rw [← tu_final (k := 1) hp']; exact hf
    · rw [← tu_final (k := 1) hp']; rfl
  · rintro ⟨v, h0, p, d, hw, hp, hf, rfl⟩
    refine ⟨h0, p, d, way_reads hw, by simpa [tuM] using hp, ?_, ?_⟩
    · show (el (m.2.map (tuS 1)) p).1 ≠ _
      rw [tu_final hp]; exact hf
    · show _ = d + (el (m.2.map (tuS 1)) p).1.toNat
      rw [tu_final hp]
/-! From behind. -/
theorem lab_rev (a : Int) : (lab a).reverse = lab a := by unfold lab; split <;> rfl
theorem into_mem {l : List St} {t q : Nat} {a : Ar} (ha : a ∈ (el l q).2) (ht : a.2.2.2 = (t : Int)) : ∀ {k : Nat}, q < k → (a.1, a.2.1, a.2.2.1, (q : Int) + 1) ∈ intoL l t k
  | 0, h => by omega
  | k + 1, h => by
    simp only [intoL, List.mem_append]
    by_cases e : q = k
    · subst e
      right
      simp only [intoA, List.mem_map, List.mem_filter, decide_eq_true_eq]
      exact ⟨a, ⟨ha, ht⟩, rfl⟩
    · exact .inl (into_mem ha ht (by omega))
theorem first_mem {l : List St} {q : Nat} (hf : (el l q).1 ≠ 1000000001) : ∀ {k : Nat}, q < k → (0, 0, (el l q).1, (q : Int) + 1) ∈ firstL l k
  | 0, h => by omega
  | k + 1, h => by
    simp only [firstL, List.mem_append]
    by_cases e : q = k
    · subst e
      right
      rw [if_neg hf]
      simp
    · exact .inl (first_mem hf (by omega))
theorem way_back {m : Mc} (hto : ∀ q, q < m.2.length → ∀ a ∈ (el m.2 q).2, ∃ t : Nat, a.2.2.2 = (t : Int) ∧ t < m.2.length) {q p c : Nat} {u v : List Int} (h : Way m.2 q u v p c) : Way (revM m).2 (p + 1) u.reverse v.reverse (q + 1) c := by
  induction h with
  | nil => exact .nil
  | snoc h ha ht ih =>
    rename_i u v p c a t
    have hp := el_in ha
    obtain ⟨t', e1, e2⟩ := hto _ hp a ha
    have : t = t' := by omega
    subst this
    rw [List.reverse_append, List.reverse_append, lab_rev, lab_rev, Nat.add_comm c]
    have hm : (a.1, a.2.1, a.2.2.1, (p : Int) + 1) ∈ (el (revM m).2 (t + 1)).2 := by
      rw [rev_elS m e2]
      exact into_mem ha ht hp
    exact Way.cons (a := (a.1, a.2.1, a.2.2.1, (p : Int) + 1)) hm (t := p + 1) (by simp) ih
theorem back_way {m : Mc} {p r c : Nat} {u v : List Int} (hp : p < m.2.length) (h : Way (revM m).2 (p + 1) u v r c) : ∃ q, r = q + 1 ∧ q < m.2.length ∧ Way m.2 q u.reverse v.reverse p c := by
  induction h with
  | nil => exact ⟨p, rfl, hp, .nil⟩
  | snoc h ha ht ih =>
    obtain ⟨q, rfl, hq, hw⟩ := ih
    rw [rev_elS m hq] at ha
    obtain ⟨j, hj, b, hb, hbt, rfl⟩ := mem_into ha
    simp only at ht
    refine ⟨j, by omega, hj, ?_⟩
    have := Way.cons hb hbt hw
    rw [List.reverse_append, List.reverse_append, lab_rev, lab_rev, Nat.add_comm]
    exact this
/-- P11.4: reversed it costs the same for the words from behind. -/
theorem costs_rev {m : Mc} (hto : ∀ q, q < m.2.length → ∀ a ∈ (el m.2 q).2, ∃ t : Nat, a.2.2.2 = (t : Int) ∧ t < m.2.length) (hz : m.1 < (m.2.length : Int)) (x y : List Int) (c : Nat) : Costs (revM m) x.reverse y.reverse c ↔ Costs m x y c := by
  constructor
  · rintro ⟨_, p, d, hw, hp, hf, rfl⟩
    have e0 : (revM m).1.toNat = 0 := rfl
    rw [e0] at hw
    rcases hw.first with ⟨_, _, rfl, _⟩ | ⟨a, ha, t, u', v', c', ht, hw', hu, hv, rfl⟩
    · rw [rev_el0] at hf; exact absurd rfl hf
    · rw [rev_el0] at ha
      obtain ⟨j, hj, hfj, rfl⟩ := mem_first ha
      simp only at ht
      obtain rfl : t = j + 1 := by omega
      obtain ⟨q, rfl, hq, hq'⟩ := back_way hj hw'
      rw [rev_elS m hq] at hf ⊢
      simp only [revS] at hf ⊢
      by_cases hqz : (q : Int) = m.1
      · rw [if_pos hqz]
        simp only [lab, if_true, List.nil_append] at hu hv
        rw [← hu, ← hv, List.reverse_reverse, List.reverse_reverse] at hq'
        refine ⟨by omega, j, c', ?_, hj, hfj, by simp; omega⟩
        rw [show m.1.toNat = q by omega]
        exact hq'
      · rw [if_neg hqz] at hf; exact absurd rfl hf
  · rintro ⟨h0, p, d, hw, hp, hf, rfl⟩
    refine ⟨Int.le_refl 0, m.1.toNat + 1, (el m.2 p).1.toNat + d, ?_, by rw [revM_len]; omega, ?_, ?_⟩
    · have h1 := way_back hto hw
      have hm : (0, 0, (el m.2 p).1, (p : Int) + 1) ∈ (el (revM m).2 0).2 := by
        rw [rev_el0]
        exact first_mem hf hp
      have := Way.cons (a := (0, 0, (el m.2 p).1, (p : Int) + 1)) hm (t := p + 1) (by simp) h1
      have e0 : (revM m).1.toNat = 0 := rfl
      rw [e0]
      simpa [lab] using this
    · rw [rev_elS m (by omega)]
      simp only [revS]
      rw [if_pos (by omega)]
      decide
    · rw [rev_elS m (by omega)]
      simp only [revS]
      rw [if_pos (by omega)]
      simp; omega
end Go.Proofs.YtfekmlblldhieaaDoor.Pl
namespace Go.Proofs.YtfekmlblldhieaaDoor.Pl
set_option linter.unusedVariables false
set_option linter.unusedSimpArgs false
theorem uni_el0 (a b : Mc) : el (uniM a b).2 0 = (1000000001, hopA a.1 1 0 ++ hopA b.1 (1 + (a.2.length : Int)) 0) := rfl
theorem uni_elA (a b : Mc) {q : Nat} (h : q < a.2.length) : el (uniM a b).2 (q + 1) = shS 1 (el a.2 q).1 [] (el a.2 q) := by
  show el (_ :: _) (q + 1) = _
  rw [el_succ, el_left (by simpa using h), el_map h]
theorem uni_elB (a b : Mc) {q : Nat} (h : q < b.2.length) : el (uniM a b).2 (a.2.length + 1 + q) = shS (1 + (a.2.length : Int)) (el b.2 q).1 [] (el b.2 q) := by
  show el (_ :: _) _ = _
  rw [show a.2.length + 1 + q = (a.2.length + q) + 1 by omega, el_succ, el_right (by simp), List.length_map, Nat.add_sub_cancel_left, el_map h]
theorem cat_elA (a b : Mc) {q : Nat} (h : q < a.2.length) : el (catM a b).2 q = shS 0 1000000001 (endA (el a.2 q).1 b.1 (a.2.length : Int)) (el a.2 q) := by
  show el (_ ++ _) q = _
  rw [el_left (by simpa using h), el_map h]
theorem cat_elB (a b : Mc) {q : Nat} (h : q < b.2.length) : el (catM a b).2 (a.2.length + q) = shS (a.2.length : Int) (el b.2 q).1 [] (el b.2 q) := by
  show el (_ ++ _) _ = _
  rw [el_right (by simp), List.length_map, Nat.add_sub_cancel_left, el_map h]
theorem sta_el0 (a : Mc) : el (staM a).2 0 = (0, hopA a.1 1 0) := rfl
theorem sta_elA (a : Mc) {q : Nat} (h : q < a.2.length) : el (staM a).2 (q + 1) = shS 1 1000000001 (endA (el a.2 q).1 0 0) (el a.2 q) := by
  show el (_ :: _) (q + 1) = _
  rw [el_succ, el_map h]
/-- Where a state of the union comes from. -/
theorem uni_cases (a b : Mc) {q : Nat} (h : q < (uniM a b).2.length) : q = 0 ∨ (∃ p, q = p + 1 ∧ p < a.2.length) ∨ ∃ p, q = a.2.length + 1 + p ∧ p < b.2.length := by
  rw [uniM_len] at h
  by_cases h0 : q = 0
  · exact .inl h0
  · by_cases h1 : q - 1 < a.2.length
    · exact .inr (.inl ⟨q - 1, by omega, h1⟩)
    · exact .inr (.inr ⟨q - 1 - a.2.length, by omega, by omega⟩)
theorem cat_cases (a b : Mc) {q : Nat} (h : q < (catM a b).2.length) : q < a.2.length ∨ ∃ p, q = a.2.length + p ∧ p < b.2.length := by
  rw [catM_len] at h
  by_cases h1 : q < a.2.length
  · exact .inl h1
  · exact .inr ⟨q - a.2.length, by omega, by omega⟩
theorem mem_hop {z d x : Int} {c : Ar} (h : c ∈ hopA z d x) : 0 ≤ z ∧ c = (0, 0, x, z + d) := by
  unfold hopA at h
  split at h
  · simp at h
  · rename_i hz
    simp at h
    exact ⟨by omega, h⟩
theorem mem_end {f z d : Int} {c : Ar} (h : c ∈ endA f z d) : f ≠ 1000000001 ∧ 0 ≤ z ∧ c = (0, 0, f, z + d) := by
  unfold endA at h
  split at h
  · simp at h
  · rename_i hf
    exact ⟨hf, mem_hop h⟩
theorem uni_fwd {a b : Mc} (ha : Fwd a.2) (hb : Fwd b.2) (sa : a.1 < (a.2.length : Int)) (sb : b.1 < (b.2.length : Int)) : Fwd (uniM a b).2 := by
  intro q hq c hc
  have hlen := uniM_len a b
  rcases uni_cases a b hq with rfl | ⟨p, rfl, hp⟩ | ⟨p, rfl, hp⟩
  · rw [uni_el0] at hc
    rcases List.mem_append.1 hc with h | h
    · obtain ⟨h1, rfl⟩ := mem_hop h
      exact ⟨(a.1 + 1).toNat, by simp only; omega, by omega, by omega⟩
    · obtain ⟨h1, rfl⟩ := mem_hop h
      exact ⟨(b.1 + (1 + (a.2.length : Int))).toNat, by simp only; omega, by omega, by omega⟩
  · rw [uni_elA a b hp] at hc
    simp only [shS, List.append_nil, List.mem_map] at hc
    obtain ⟨x, hx, rfl⟩ := hc
    obtain ⟨t, h1, h2, h3⟩ := ha p hp x hx
    exact ⟨t + 1, by simp only [shA]; omega, by omega, by omega⟩
  · rw [uni_elB a b hp] at hc
    simp only [shS, List.append_nil, List.mem_map] at hc
    obtain ⟨x, hx, rfl⟩ := hc
    obtain ⟨t, h1, h2, h3⟩ := hb p hp x hx
    exact ⟨a.2.length + 1 + t, by simp only [shA]; omega, by omega, by omega⟩
theorem cat_fwd {a b : Mc} (ha : Fwd a.2) (hb : Fwd b.2) (sb : b.1 < (b.2.length : Int)) : Fwd (catM a b).2 := by
  intro q hq c hc
  have hlen := catM_len a b
  rcases cat_cases a b hq with hp | ⟨p, rfl, hp⟩
  · rw [cat_elA a b hp] at hc
    simp only [shS, List.mem_append, List.mem_map] at hc
    rcases hc with ⟨x, hx, rfl⟩ | h
    · obtain ⟨t, h1, h2, h3⟩ := ha q hp x hx
      exact ⟨t, by simp only [shA]; omega, by omega, by omega⟩
    · obtain ⟨_, h1, rfl⟩ := mem_end h
      exact ⟨(b.1 + (a.2.length : Int)).toNat, by simp only; omega, by omega, by omega⟩
  · rw [cat_elB a b hp] at hc
    simp only [shS, List.append_nil, List.mem_map] at hc
    obtain ⟨x, hx, rfl⟩ := hc
    obtain ⟨t, h1, h2, h3⟩ := hb p hp x hx
    exact ⟨a.2.length + t, by simp only [shA]; omega, by omega, by omega⟩
theorem sumF_map (f : Nat → Nat) (g : Ar → Ar) (l : List Ar) : sumF f (l.map g) = sumF (fun t => 0) l + (l.map fun x => f (g x).2.2.2.toNat).sum := by
  induction l with
  | nil => rfl
  | cons x l ih => simp only [List.map_cons, sumF, ih, List.sum_cons]; omega
/-- Arcs that lead further. -/
theorem sumF_sh {f g : Nat → Nat} {d : Nat} {ar : List Ar} (h : ∀ x ∈ ar, 0 ≤ x.2.2.2 ∧ f (x.2.2.2.toNat + d) = g x.2.2.2.toNat) : sumF f (ar.map (shA (d : Int))) = sumF g ar := by
  induction ar with
  | nil => rfl
  | cons x l ih =>
    obtain ⟨h1, h2⟩ := h x (by simp)
    rw [List.map_cons, sumF, sumF, ih (fun y hy => h y (by simp [hy])), ← h2]
    congr 2
    simp only [shA]
    omega
theorem sumF_mul (g : Nat → Nat) (k : Nat) (ar : List Ar) : sumF (fun t => g t * k) ar = sumF g ar * k := by
  induction ar with
  | nil => simp [sumF]
  | cons x l ih => simp only [sumF, ih, Nat.add_mul]
theorem maxF_sh {f g : Nat → Int} {d : Nat} {ar : List Ar} (h : ∀ x ∈ ar, 0 ≤ x.2.2.2 ∧ f (x.2.2.2.toNat + d) = g x.2.2.2.toNat) (n : Int) : maxF f n (ar.map (shA (d : Int))) = maxF g n ar := by
  induction ar generalizing n with
  | nil => rfl
  | cons x l ih =>
    obtain ⟨h1, h2⟩ := h x (by simp)
    rw [List.map_cons, maxF, maxF, ← ih (fun y hy => h y (by simp [hy])), ← h2]
    congr 2
    simp only [shA]
    congr 1
    omega
def startN (f : Nat → Nat) (z : Int) : Nat := if z < 0 then 0 else f z.toNat
def startD (f : Nat → Int) (z : Int) : Int := if z < 0 then -1 else f z.toNat
theorem sumF_hop (F : Nat → Nat) (z d x : Int) : sumF F (hopA z d x) = if z < 0 then 0 else F (z + d).toNat := by
  unfold hopA
  split <;> simp [sumF]
/-- As many paths as both together. -/
def uniF (n : Nat) (za zb : Int) (f g : Nat → Nat) (q : Nat) : Nat := if q = 0 then startN f za + startN g zb else if q ≤ n then f (q - 1) else g (q - 1 - n)
theorem uniF_a {n : Nat} {za zb : Int} {f g : Nat → Nat} {q : Nat} (h : q < n) : uniF n za zb f g (q + 1) = f q := by
  unfold uniF
  rw [if_neg (by omega), if_pos (by omega)]
  rfl
theorem uniF_b {n : Nat} {za zb : Int} {f g : Nat → Nat} (q : Nat) : uniF n za zb f g (n + 1 + q) = g q := by
  unfold uniF
  rw [if_neg (by omega), if_neg (by omega)]
  congr 1
  omega
theorem uni_cnt {a b : Mc} (ha : Fwd a.2) (hb : Fwd b.2) (sa : a.1 < (a.2.length : Int)) (sb : b.1 < (b.2.length : Int)) {f g : Nat → Nat} (hf : CntEq a.2 f) (hg : CntEq b.2 g) : CntEq (uniM a b).2 (uniF a.2.length a.1 b.1 f g) := by
  intro q hq
  rcases uni_cases a b hq with rfl | ⟨p, rfl, hp⟩ | ⟨p, rfl, hp⟩
  · rw [uni_el0]
    simp only [sumF_append, sumF_hop]
    have h1 : (if a.1 < 0 then 0 else uniF a.2.length a.1 b.1 f g (a.1 + 1).toNat) = startN f a.1 := by
      unfold startN
      split
      · rfl
      · rw [show (a.1 + 1).toNat = a.1.toNat + 1 by omega]
        exact uniF_a (by omega)
    have h2 : (if b.1 < 0 then 0 else uniF a.2.length a.1 b.1 f g (b.1 + (1 + (a.2.length : Int))).toNat) = startN g b.1 := by
      unfold startN
      split
      · rfl
      · rw [show (b.1 + (1 + (a.2.length : Int))).toNat = a.2.length + 1 + b.1.toNat by omega]
        exact uniF_b _
    rw [h1, h2]
    simp [uniF, baseN]
  · rw [uni_elA a b hp, uniF_a hp]
    simp only [shS, List.append_nil]
    rw [show (shA (1 : Int)) = shA ((1 : Nat) : Int) from rfl, sumF_sh (g := f)]
    · exact hf p hp
    · intro x hx
      obtain ⟨t, h1, h2, h3⟩ := ha p hp x hx
      refine ⟨by omega, ?_⟩
      rw [h1, Int.toNat_natCast]
      exact uniF_a h3
  · rw [uni_elB a b hp, uniF_b]
    simp only [shS, List.append_nil]
    rw [show (1 + (a.2.length : Int)) = ((a.2.length + 1 : Nat) : Int) by omega, sumF_sh (g := g)]
    · exact hg p hp
    · intro x hx
      obtain ⟨t, h1, h2, h3⟩ := hb p hp x hx
      refine ⟨by omega, ?_⟩
      rw [h1, Int.toNat_natCast, Nat.add_comm]
      exact uniF_b _
/-- As many as both times each other. -/
def catF (n : Nat) (zb : Int) (f g : Nat → Nat) (q : Nat) : Nat := if q < n then f q * startN g zb else g (q - n)
theorem catF_a {n : Nat} {zb : Int} {f g : Nat → Nat} {q : Nat} (h : q < n) : catF n zb f g q = f q * startN g zb := by
  unfold catF
  rw [if_pos h]
theorem catF_b {n : Nat} {zb : Int} {f g : Nat → Nat} (q : Nat) : catF n zb f g (n + q) = g q := by
  unfold catF
  rw [if_neg (by omega), Nat.add_sub_cancel_left]
theorem cat_cnt {a b : Mc} (ha : Fwd a.2) (hb : Fwd b.2) {f g : Nat → Nat} (hf : CntEq a.2 f) (hg : CntEq b.2 g) : CntEq (catM a b).2 (catF a.2.length b.1 f g) := by
  intro q hq
  rcases cat_cases a b hq with hp | ⟨p, rfl, hp⟩
  · rw [cat_elA a b hp, catF_a hp]
    simp only [shS, sumF_append]
    rw [show (shA (0 : Int)) = shA ((0 : Nat) : Int) from rfl, sumF_sh (g := fun t => f t * startN g b.1)]
    · rw [sumF_mul, hf q hp, Nat.add_mul]
      have h1 : sumF (catF a.2.length b.1 f g) (endA (el a.2 q).1 b.1 (a.2.length : Int)) = baseN (el a.2 q).1 * startN g b.1 := by
        unfold endA baseN
        split
        · simp [sumF]
        · rw [sumF_hop]
          unfold startN
          split
          · rfl
          · rw [show (b.1 + (a.2.length : Int)).toNat = a.2.length + b.1.toNat by omega, catF_b, Nat.one_mul]
      rw [h1]
      simp [baseN]
      omega
    · intro x hx
      obtain ⟨t, h1, h2, h3⟩ := ha q hp x hx
      refine ⟨by omega, ?_⟩
      rw [h1, Int.toNat_natCast]
      exact catF_a h3
  · rw [cat_elB a b hp, catF_b]
    simp only [shS, List.append_nil]
    rw [sumF_sh (g := g)]
    · exact hg p hp
    · intro x hx
      obtain ⟨t, h1, h2, h3⟩ := hb p hp x hx
      refine ⟨by omega, ?_⟩
      rw [h1, Int.toNat_natCast, Nat.add_comm]
      exact catF_b _
/-! The longest path. -/
theorem stepD_comm (n x y : Int) : stepD (stepD n x) y = stepD (stepD n y) x := by
  unfold stepD
  split <;> split <;> (try split) <;> (try split) <;> omega
theorem maxF_step (F : Nat → Int) (n x : Int) (ar : List Ar) : maxF F (stepD n x) ar = stepD (maxF F n ar) x := by
  induction ar generalizing n with
  | nil => rfl
  | cons c l ih => rw [maxF, maxF, stepD_comm, ih]
/-- What comes behind it: one arc, and as far as it is there. -/
def farB (L x : Int) : Int := if x < 0 ∨ L < 0 then -1 else x + 1 + L
theorem farB_step (L n d : Int) (hn : -1 ≤ n) : stepD (farB L n) (farB L d) = farB L (stepD n d) := by
  unfold stepD farB
  split <;> split <;> (try split) <;> (try split) <;> omega
theorem stepD_ge {n d : Int} (h : -1 ≤ n) : -1 ≤ stepD n d := by
  unfold stepD
  split <;> omega
theorem maxF_farB {F f : Nat → Int} {L : Int} {ar : List Ar} (h : ∀ x ∈ ar, F x.2.2.2.toNat = farB L (f x.2.2.2.toNat)) {n : Int} (hn : -1 ≤ n) : maxF F (farB L n) ar = farB L (maxF f n ar) := by
  induction ar generalizing n with
  | nil => rfl
  | cons x l ih => rw [maxF, maxF, h x (by simp), farB_step _ _ _ hn, ih (fun y hy => h y (by simp [hy])) (stepD_ge hn)]
def catD (n : Nat) (zb : Int) (f g : Nat → Int) (q : Nat) : Int := if q < n then farB (startD g zb) (f q) else g (q - n)
theorem catD_a {n : Nat} {zb : Int} {f g : Nat → Int} {q : Nat} (h : q < n) : catD n zb f g q = farB (startD g zb) (f q) := by
  unfold catD
  rw [if_pos h]
theorem catD_b {n : Nat} {zb : Int} {f g : Nat → Int} (q : Nat) : catD n zb f g (n + q) = g q := by
  unfold catD
  rw [if_neg (by omega), Nat.add_sub_cancel_left]
theorem cat_far {a b : Mc} (ha : Fwd a.2) (hb : Fwd b.2) {f g : Nat → Int} (hf : FarEq a.2 f) (hg : FarEq b.2 g) (hgb : -1 ≤ startD g b.1) : FarEq (catM a b).2 (catD a.2.length b.1 f g) := by
  intro q hq
  rcases cat_cases a b hq with hp | ⟨p, rfl, hp⟩
  · rw [cat_elA a b hp, catD_a hp]
    simp only [shS, maxF_append]
    have hsh : maxF (catD a.2.length b.1 f g) (baseD 1000000001) ((el a.2 q).2.map (shA 0)) = maxF (fun t => farB (startD g b.1) (f t)) (-1) (el a.2 q).2 := by
      rw [show (shA (0 : Int)) = shA ((0 : Nat) : Int) from rfl]
      refine maxF_sh (fun x hx => ?_) _
      obtain ⟨t, h1, h2, h3⟩ := ha q hp x hx
      refine ⟨by omega, ?_⟩
      rw [h1, Int.toNat_natCast]
      exact catD_a h3
    rw [hsh, hf q hp]
    have hend : maxF (catD a.2.length b.1 f g) (maxF (fun t => farB (startD g b.1) (f t)) (-1) (el a.2 q).2) (endA (el a.2 q).1 b.1 (a.2.length : Int)) = maxF (fun t => farB (startD g b.1) (f t)) (farB (startD g b.1) (baseD (el a.2 q).1)) (el a.2 q).2 := by
      unfold endA baseD
      split
      · rfl
      · unfold hopA
        by_cases hz : b.1 < 0
        · rw [if_pos hz]
          have : startD g b.1 = -1 := by unfold startD; rw [if_pos hz]
          rw [this]
          rfl
        · rw [if_neg hz]
          have hs : startD g b.1 = g b.1.toNat := by unfold startD; rw [if_neg hz]
          show stepD _ (catD a.2.length b.1 f g (b.1 + (a.2.length : Int)).toNat) = _
          rw [show (b.1 + (a.2.length : Int)).toNat = a.2.length + b.1.toNat by omega, catD_b, ← maxF_step, hs]
          congr 1
          rw [hs] at hgb
          unfold stepD farB
          split <;> split <;> omega
    rw [hend]
    exact (maxF_farB (fun _ _ => rfl) (by unfold baseD; split <;> omega)).symm
  · rw [cat_elB a b hp, catD_b]
    simp only [shS, List.append_nil]
    rw [maxF_sh (g := g)]
    · exact hg p hp
    · intro x hx
      obtain ⟨t, h1, h2, h3⟩ := hb p hp x hx
      refine ⟨by omega, ?_⟩
      rw [h1, Int.toNat_natCast, Nat.add_comm]
      exact catD_b _
end Go.Proofs.YtfekmlblldhieaaDoor.Pl
namespace Go.Proofs.YtfekmlblldhieaaDoor.Pl
set_option linter.unusedVariables false
set_option linter.unusedSimpArgs false
def ToIn (l : List St) : Prop := ∀ q, q < l.length → ∀ a ∈ (el l q).2, ∃ t : Nat, a.2.2.2 = (t : Int) ∧ t < l.length
/-- A machine within another one, s states further. -/
theorem shift_way {l L : List St} {s : Nat} (hto : ToIn l) (hin : ∀ q, q < l.length → ∀ a ∈ (el l q).2, shA (s : Int) a ∈ (el L (q + s)).2) {q p c : Nat} {u v : List Int} (h : Way l q u v p c) : Way L (q + s) u v (p + s) c := by
  induction h with
  | nil => exact .nil
  | snoc h ha ht ih => exact ih.snoc (hin _ (el_in ha) _ ha) (by simp [shA, ht])
theorem unshift_way {l L : List St} {s : Nat} (hto : ToIn l) (hout : ∀ q, q < l.length → ∀ a ∈ (el L (q + s)).2, ∃ b ∈ (el l q).2, a = shA (s : Int) b) {q r c : Nat} {u v : List Int} (hq : q < l.length) (h : Way L (q + s) u v r c) : ∃ p, r = p + s ∧ p < l.length ∧ Way l q u v p c := by
  induction h with
  | nil => exact ⟨q, rfl, hq, .nil⟩
  | snoc h ha ht ih =>
    obtain ⟨p, rfl, hp, hw⟩ := ih
    obtain ⟨b, hb, rfl⟩ := hout p hp _ ha
    obtain ⟨t, e1, e2⟩ := hto p hp b hb
    simp only [shA] at ht
    refine ⟨t, by omega, e2, ?_⟩
    exact hw.snoc hb e1
theorem shS_arcs (d f : Int) (ex : List Ar) (s : St) : (shS d f ex s).2 = s.2.map (shA d) ++ ex := rfl
/-- P10.2. -/
theorem costs_uni {a b : Mc} (ta : ToIn a.2) (tb : ToIn b.2) (sa : a.1 < (a.2.length : Int)) (sb : b.1 < (b.2.length : Int)) (x y : List Int) (c : Nat) : Costs (uniM a b) x y c ↔ Costs a x y c ∨ Costs b x y c := by
  have inA : ∀ q, q < a.2.length → ∀ e ∈ (el a.2 q).2, shA ((1 : Nat) : Int) e ∈ (el (uniM a b).2 (q + 1)).2 := fun q hq e he => by
    rw [uni_elA a b hq, shS_arcs, List.append_nil]
    exact List.mem_map_of_mem he
  have outA : ∀ q, q < a.2.length → ∀ e ∈ (el (uniM a b).2 (q + 1)).2, ∃ d ∈ (el a.2 q).2, e = shA ((1 : Nat) : Int) d := fun q hq e he => by
    rw [uni_elA a b hq, shS_arcs, List.append_nil, List.mem_map] at he
    obtain ⟨d, hd, rfl⟩ := he
    exact ⟨d, hd, rfl⟩
  have elB : ∀ q, q < b.2.length → el (uniM a b).2 (q + (a.2.length + 1)) = shS (1 + (a.2.length : Int)) (el b.2 q).1 [] (el b.2 q) := fun q hq => by rw [Nat.add_comm q]; exact uni_elB a b hq
  have hs : ((a.2.length + 1 : Nat) : Int) = 1 + (a.2.length : Int) := by omega
  have inB' : ∀ q, q < b.2.length → ∀ e ∈ (el b.2 q).2, shA ((a.2.length + 1 : Nat) : Int) e ∈ (el (uniM a b).2 (q + (a.2.length + 1))).2 := fun q hq e he => by
    rw [elB q hq, shS_arcs, List.append_nil, hs]
    exact List.mem_map_of_mem he
  have outB : ∀ q, q < b.2.length → ∀ e ∈ (el (uniM a b).2 (q + (a.2.length + 1))).2, ∃ d ∈ (el b.2 q).2, e = shA ((a.2.length + 1 : Nat) : Int) d := fun q hq e he => by
    rw [elB q hq, shS_arcs, List.append_nil, List.mem_map] at he
    obtain ⟨d, hd, rfl⟩ := he
    exact ⟨d, hd, by rw [hs]⟩
  constructor
  · rintro ⟨_, p, d, hw, hp, hf, rfl⟩
    have e0 : (uniM a b).1.toNat = 0 := rfl
    rw [e0] at hw
    rcases hw.first with ⟨_, _, rfl, _⟩ | ⟨e, he, t, u', v', c', ht, hw', hu, hv, rfl⟩
    · rw [uni_el0] at hf; exact absurd rfl hf
    · rw [uni_el0, List.mem_append] at he
      rcases he with he | he
      · obtain ⟨hz, rfl⟩ := mem_hop he
        simp only at ht
        obtain rfl : t = a.1.toNat + 1 := by omega
        obtain ⟨r, rfl, hr, hw2⟩ := unshift_way ta outA (by omega) hw'
        rw [uni_elA a b hr] at hf ⊢
        simp only [lab, if_true, List.nil_append] at hu hv
        subst hu; subst hv
        exact .inl ⟨hz, r, c', hw2, hr, hf, by simp [shS]⟩
      · obtain ⟨hz, rfl⟩ := mem_hop he
        simp only at ht
        obtain rfl : t = b.1.toNat + (a.2.length + 1) := by omega
        obtain ⟨r, rfl, hr, hw2⟩ := unshift_way tb outB (by omega) hw'
        rw [elB r hr] at hf ⊢
        simp only [lab, if_true, List.nil_append] at hu hv
        subst hu; subst hv
        exact .inr ⟨hz, r, c', hw2, hr, hf, by simp [shS]⟩
  · rintro (⟨hz, p, d, hw, hp, hf, rfl⟩ | ⟨hz, p, d, hw, hp, hf, rfl⟩)
    · have h1 := shift_way ta inA hw
      have hm : (0, 0, 0, a.1 + 1) ∈ (el (uniM a b).2 0).2 := by
        rw [uni_el0]
        refine List.mem_append_left _ ?_
        unfold hopA
        rw [if_neg (by omega)]
        simp
      have h2 := Way.cons (a := (0, 0, 0, a.1 + 1)) hm (t := a.1.toNat + 1) (by simp only; omega) h1
      refine ⟨Int.le_refl 0, p + 1, d, ?_, by rw [uniM_len]; omega, ?_, ?_⟩
      · have e0 : (uniM a b).1.toNat = 0 := rfl
        rw [e0]
        simpa [lab] using h2
      · rw [uni_elA a b hp]; exact hf
      · rw [uni_elA a b hp]; rfl
    · have h1 := shift_way tb inB' hw
      have hm : (0, 0, 0, b.1 + (1 + (a.2.length : Int))) ∈ (el (uniM a b).2 0).2 := by
        rw [uni_el0]
        refine List.mem_append_right _ ?_
        unfold hopA
        rw [if_neg (by omega)]
        simp
      have h2 := Way.cons (a := (0, 0, 0, b.1 + (1 + (a.2.length : Int)))) hm (t := b.1.toNat + (a.2.length + 1)) (by simp only; omega) h1
      refine ⟨Int.le_refl 0, p + (a.2.length + 1), d, ?_, by rw [uniM_len]; omega, ?_, ?_⟩
      · have e0 : (uniM a b).1.toNat = 0 := rfl
        rw [e0]
        simpa [lab] using h2
      · rw [elB p hp]; exact hf
      · rw [elB p hp]; rfl
end Go.Proofs.YtfekmlblldhieaaDoor.Pl
namespace Go.Proofs.YtfekmlblldhieaaDoor.Pl
set_option linter.unusedVariables false
set_option linter.unusedSimpArgs false
theorem shA_same (a : Ar) : shA 0 a = a := by obtain ⟨p, q, r, t⟩ := a; simp [shA]
theorem cat_arcA {a b : Mc} {q : Nat} (hq : q < a.2.length) {e : Ar} : e ∈ (el (catM a b).2 q).2 ↔ e ∈ (el a.2 q).2 ∨ ((el a.2 q).1 ≠ 1000000001 ∧ 0 ≤ b.1 ∧ e = (0, 0, (el a.2 q).1, b.1 + (a.2.length : Int))) := by
  rw [cat_elA a b hq, shS_arcs, List.mem_append]
  constructor
  · rintro (h | h)
    · rw [List.mem_map] at h
      obtain ⟨d, hd, rfl⟩ := h
      rw [shA_same]; exact .inl hd
    · exact .inr (mem_end h)
  · rintro (h | ⟨h1, h2, rfl⟩)
    · exact .inl (List.mem_map.2 ⟨e, h, shA_same e⟩)
    · right
      unfold endA hopA
      rw [if_neg h1, if_neg (by omega)]
      simp
/-- A way in both, one behind the other. -/
theorem cat_way {a b : Mc} (ta : ToIn a.2) (tb : ToIn b.2) (sb : b.1 < (b.2.length : Int)) {q r c : Nat} {u v : List Int} (hq : q < a.2.length) (h : Way (catM a b).2 q u v r c) :
    (r < a.2.length ∧ Way a.2 q u v r c) ∨ ∃ p r' u1 u2 v1 v2 c1 c2, Way a.2 q u1 v1 p c1 ∧ p < a.2.length ∧ (el a.2 p).1 ≠ 1000000001 ∧ 0 ≤ b.1 ∧ Way b.2 b.1.toNat u2 v2 r' c2 ∧ r = r' + a.2.length ∧ r' < b.2.length ∧ u = u1 ++ u2 ∧ v = v1 ++ v2 ∧ c = c1 + (el a.2 p).1.toNat + c2 := by
  induction h with
  | nil => exact .inl ⟨hq, .nil⟩
  | snoc h ha ht ih =>
    rename_i u v r c e t
    rcases ih with ⟨hr, hw⟩ | ⟨p, r', u1, u2, v1, v2, c1, c2, w1, hp, hf, hb, w2, rfl, hr', rfl, rfl, rfl⟩
    · rcases (cat_arcA hr).1 ha with he | ⟨hf, hb, rfl⟩
      · obtain ⟨t', e1, e2⟩ := ta r hr e he
        have : t = t' := by omega
        subst this
        exact .inl ⟨e2, hw.snoc he ht⟩
      · simp only at ht
        refine .inr ⟨r, b.1.toNat, u, [], v, [], c, 0, hw, hr, hf, hb, .nil, by omega, by omega, by simp [lab], by simp [lab], by simp⟩
    · rw [Nat.add_comm r', cat_elB a b hr', shS_arcs, List.append_nil, List.mem_map] at ha
      obtain ⟨d, hd, rfl⟩ := ha
      obtain ⟨t', e1, e2⟩ := tb r' hr' d hd
      simp only [shA] at ht
      exact .inr ⟨p, t', u1, u2 ++ lab d.1, v1, v2 ++ lab d.2.1, c1, c2 + d.2.2.1.toNat, w1, hp, hf, hb, w2.snoc hd e1, by omega, e2, by simp [shA], by simp [shA], by simp [shA]; omega⟩
/-- P10.3. -/
theorem costs_cat {a b : Mc} (ta : ToIn a.2) (tb : ToIn b.2) (sa : a.1 < (a.2.length : Int)) (sb : b.1 < (b.2.length : Int)) (x y : List Int) (c : Nat) : Costs (catM a b) x y c ↔ ∃ x1 x2 y1 y2 c1 c2, x = x1 ++ x2 ∧ y = y1 ++ y2 ∧ Costs a x1 y1 c1 ∧ Costs b x2 y2 c2 ∧ c = c1 + c2 := by
  constructor
  · rintro ⟨hz, p, d, hw, hp, hf, rfl⟩
    have hz' : 0 ≤ a.1 := hz
    have hw' : Way (catM a b).2 a.1.toNat x y p d := hw
    rcases cat_way ta tb sb (by omega) hw' with ⟨hr, _⟩ | ⟨p', r', u1, u2, v1, v2, c1, c2, w1, hp', hf', hb, w2, rfl, hr', rfl, rfl, rfl⟩
    · rw [cat_elA a b hr] at hf; exact absurd rfl hf
    · rw [Nat.add_comm r', cat_elB a b hr'] at hf ⊢
      exact ⟨u1, u2, v1, v2, _, _, rfl, rfl, ⟨hz', p', c1, w1, hp', hf', rfl⟩, ⟨hb, r', c2, w2, hr', hf, rfl⟩, by simp only [shS]; omega⟩
  · rintro ⟨x1, x2, y1, y2, _, _, rfl, rfl, ⟨hz, p, d, hw, hp, hf, rfl⟩, ⟨hb, r, e, hw2, hr, hf2, rfl⟩, rfl⟩
    have h1 : Way (catM a b).2 a.1.toNat x1 y1 p d := by
      have := shift_way (L := (catM a b).2) (s := 0) ta (fun q hq e he => by
        have : shA ((0 : Nat) : Int) e = e := shA_same e
        rw [this]
        exact (cat_arcA hq).2 (.inl he)) hw
      simpa using this
    have h2 : Way (catM a b).2 (b.1.toNat + a.2.length) x2 y2 (r + a.2.length) e := shift_way tb (fun q hq e he => by
      rw [Nat.add_comm q, cat_elB a b hq, shS_arcs, List.append_nil]
      exact List.mem_map_of_mem he) hw2
    have hm : (0, 0, (el a.2 p).1, b.1 + (a.2.length : Int)) ∈ (el (catM a b).2 p).2 := (cat_arcA hp).2 (.inr ⟨hf, hb, rfl⟩)
    have h3 := Way.cons (a := (0, 0, (el a.2 p).1, b.1 + (a.2.length : Int))) hm (t := b.1.toNat + a.2.length) (by simp only; omega) h2
    have h4 := h1.trans h3
    refine ⟨hz, r + a.2.length, d + ((el a.2 p).1.toNat + e), ?_, by rw [catM_len]; omega, ?_, ?_⟩
    · have e0 : (catM a b).1 = a.1 := rfl
      rw [e0]
      simpa [lab] using h4
    · rw [Nat.add_comm r, cat_elB a b hr]; exact hf2
    · rw [Nat.add_comm r, cat_elB a b hr]; simp only [shS]; omega
/-- P10.4: pieces one behind the other. -/
inductive Stc (a : Mc) : List Int → List Int → Nat → Prop
  | nil : Stc a [] [] 0
  | snoc {x y x' y' : List Int} {c d : Nat} (h : Stc a x y c) (k : Costs a x' y' d) : Stc a (x ++ x') (y ++ y') (c + d)
theorem sta_arcS {a : Mc} {q : Nat} (hq : q < a.2.length) {e : Ar} : e ∈ (el (staM a).2 (q + 1)).2 ↔ (∃ d ∈ (el a.2 q).2, e = shA 1 d) ∨ ((el a.2 q).1 ≠ 1000000001 ∧ e = (0, 0, (el a.2 q).1, 0)) := by
  rw [sta_elA a hq, shS_arcs, List.mem_append]
  constructor
  · rintro (h | h)
    · rw [List.mem_map] at h
      obtain ⟨d, hd, rfl⟩ := h
      exact .inl ⟨d, hd, rfl⟩
    · obtain ⟨h1, _, h3⟩ := mem_end h
      exact .inr ⟨h1, h3⟩
  · rintro (⟨d, hd, rfl⟩ | ⟨h1, rfl⟩)
    · exact .inl (List.mem_map_of_mem hd)
    · right
      unfold endA hopA
      rw [if_neg h1, if_neg (by omega)]
      simp
/-- A way in a star: whole pieces, and a piece that is under way. -/
theorem sta_way {a : Mc} (ta : ToIn a.2) (sa : a.1 < (a.2.length : Int)) {r c : Nat} {u v : List Int} (h : Way (staM a).2 0 u v r c) :
    (r = 0 ∧ Stc a u v c) ∨ ∃ p u1 u2 v1 v2 c1 c2, r = p + 1 ∧ p < a.2.length ∧ 0 ≤ a.1 ∧ Stc a u1 v1 c1 ∧ Way a.2 a.1.toNat u2 v2 p c2 ∧ u = u1 ++ u2 ∧ v = v1 ++ v2 ∧ c = c1 + c2 := by
  induction h with
  | nil => exact .inl ⟨rfl, .nil⟩
  | snoc h ha ht ih =>
    rename_i u v r c e t
    rcases ih with ⟨rfl, hs⟩ | ⟨p, u1, u2, v1, v2, c1, c2, rfl, hp, hz, hs, hw, rfl, rfl, rfl⟩
    · rw [sta_el0] at ha
      obtain ⟨hz, rfl⟩ := mem_hop ha
      simp only at ht
      exact .inr ⟨a.1.toNat, u, [], v, [], c, 0, by omega, by omega, hz, hs, .nil, by simp [lab], by simp [lab], by simp⟩
    · rcases (sta_arcS hp).1 ha with ⟨d, hd, rfl⟩ | ⟨hf, rfl⟩
      · obtain ⟨t', e1, e2⟩ := ta p hp d hd
        simp only [shA] at ht
        exact .inr ⟨t', u1, u2 ++ lab d.1, v1, v2 ++ lab d.2.1, c1, c2 + d.2.2.1.toNat, by omega, e2, hz, hs, hw.snoc hd e1, by simp [shA], by simp [shA], by simp [shA]; omega⟩
      · simp only at ht
        obtain rfl : t = 0 := by omega
        left
        refine ⟨rfl, ?_⟩
        have := hs.snoc ⟨hz, p, c2, hw, hp, hf, rfl⟩
        simpa [lab, Nat.add_assoc] using this
theorem way_sta {a : Mc} (ta : ToIn a.2) (sa : a.1 < (a.2.length : Int)) {u v : List Int} {c : Nat} (h : Stc a u v c) : Way (staM a).2 0 u v 0 c := by
  induction h with
  | nil => exact .nil
  | snoc h k ih =>
    obtain ⟨hz, p, d, hw, hp, hf, rfl⟩ := k
    have h1 := shift_way (L := (staM a).2) (s := 1) ta (fun q hq e he => (sta_arcS hq).2 (.inl ⟨e, he, rfl⟩)) hw
    have hm : (0, 0, 0, a.1 + 1) ∈ (el (staM a).2 0).2 := by
      rw [sta_el0]
      unfold hopA
      rw [if_neg (by omega)]
      simp
    have h2 := Way.cons (a := (0, 0, 0, a.1 + 1)) hm (t := a.1.toNat + 1) (by simp only; omega) h1
    have h3 := h2.snoc (a := (0, 0, (el a.2 p).1, 0)) ((sta_arcS hp).2 (.inr ⟨hf, rfl⟩)) (t := 0) rfl
    have h4 := ih.trans h3
    simpa [lab, Nat.add_assoc] using h4
theorem costs_sta {a : Mc} (ta : ToIn a.2) (sa : a.1 < (a.2.length : Int)) (x y : List Int) (c : Nat) : Costs (staM a) x y c ↔ Stc a x y c := by
  constructor
  · rintro ⟨_, p, d, hw, hp, hf, rfl⟩
    have hw' : Way (staM a).2 0 x y p d := hw
    rcases sta_way ta sa hw' with ⟨rfl, hs⟩ | ⟨q, _, _, _, _, _, _, rfl, hq, _⟩
    · rw [sta_el0]
      simpa using hs
    · rw [sta_elA a hq] at hf; exact absurd rfl hf
  · intro h
    refine ⟨Int.le_refl 0, 0, c, way_sta ta sa h, by rw [staM_len]; omega, ?_, ?_⟩
    · rw [sta_el0]; simp
    · rw [sta_el0]; simp
end Go.Proofs.YtfekmlblldhieaaDoor.Pl
namespace Go.Proofs.YtfekmlblldhieaaDoor.Pl
set_option linter.unusedVariables false
set_option linter.unusedSimpArgs false
/-- P12.1. -/
def wrdE (l : List Int) : Int := if 12 < l.length then 1 else if l.all (fun b => inB b 1 1000) = true then 0 else 2
theorem wrd_long {l : List Int} (h : 12 < l.length) : wrdE l = 1 := by unfold wrdE; rw [if_pos h]
theorem wrd_bad {l : List Int} (h : ¬ 12 < l.length) {i : Nat} (hi : i < l.length) (hb : inB (el l i) 1 1000 = false) : wrdE l = 2 := by
  unfold wrdE
  rw [if_neg h, if_neg]
  rw [List.all_eq_true]
  intro g
  have := g (el l i) (el_mem hi)
  rw [hb] at this
  cases this
theorem wrd_ok {l : List Int} (h : ¬ 12 < l.length) (ha : ∀ i, i < l.length → inB (el l i) 1 1000 = true) : wrdE l = 0 := by
  unfold wrdE
  rw [if_neg h, if_pos]
  rw [List.all_eq_true]
  intro b hb
  obtain ⟨j, hj, rfl⟩ := mem_el hb
  exact ha j hj
theorem wrd_parts {l : List Int} (h : wrdE l = 0) : l.length ≤ 12 ∧ ∀ i, i < l.length → 1 ≤ el l i ∧ el l i ≤ 1000 := by
  unfold wrdE at h
  by_cases g : 12 < l.length
  · rw [if_pos g] at h; cases h
  · rw [if_neg g] at h
    by_cases k : l.all (fun b => inB b 1 1000) = true
    · refine ⟨by omega, fun i hi => ?_⟩
      rw [List.all_eq_true] at k
      have := k (el l i) (el_mem hi)
      simpa [inB] using this
    · rw [if_neg k] at h; cases h
/-- P12.2. -/
def atW (l : List Int) (i : Nat) : Int := if i < l.length then el l i else 0
def croS (x y : List Int) (i : Nat) : St := (1000000001, [(atW x i, atW y i, 0, (i : Int) + 1)])
def croM (x y : List Int) : Mc := (0, (List.range (max x.length y.length)).map (croS x y) ++ [(0, [])])
def croE (x y : List Int) : Int := if wrdE x ≠ 0 then wrdE x else wrdE y
def croR (x y : List Int) : Mc := if croE x y = 0 then croM x y else (0, [])
theorem croR_ok (x y : List Int) : okM (croR x y) := by
  have hz : okM (0, []) := ⟨by simp, fun j hj => absurd hj (by simp)⟩
  unfold croR
  split
  · rename_i h
    have hx : wrdE x = 0 := by
      by_cases g : wrdE x = 0
      · exact g
      · unfold croE at h; rw [if_pos g] at h; exact h
    have hy : wrdE y = 0 := by unfold croE at h; rw [if_neg (by simp [hx])] at h; exact h
    have h1 := (wrd_parts hx).1
    have h2 := (wrd_parts hy).1
    have hlen : (croM x y).2.length ≤ 13 := by simp [croM]; omega
    refine ⟨by omega, fun j hj => ?_⟩
    have : (el (croM x y).2 j).2.length ≤ 1 := by
      have hm := el_mem hj
      simp only [croM, List.mem_append, List.mem_map, List.mem_singleton] at hm
      rcases hm with ⟨i, _, e⟩ | e
      · rw [← show croS x y i = el (croM x y).2 j from e]; simp [croS]
      · rw [show el (croM x y).2 j = (0, []) from e]; simp
    omega
  · exact hz
end Go.Proofs.YtfekmlblldhieaaDoor.Pl
namespace Go.Proofs.YtfekmlblldhieaaDoor.Pl
set_option linter.unusedVariables false
set_option linter.unusedSimpArgs false
/-- Where a label leads in a word from a place on. -/
def fitN (l : List Int) (i : Nat) (b : Int) : Option Nat := if b = 0 then some i else if i < l.length ∧ el l i = b then some (i + 1) else none
theorem fitN_le {l : List Int} {i j : Nat} {b : Int} (h : fitN l i b = some j) (hi : i ≤ l.length) : j ≤ l.length := by
  unfold fitN at h
  split at h
  · simp at h; omega
  · split at h
    · simp at h; omega
    · simp at h
theorem take_snocW {l : List Int} {i : Nat} (h : i < l.length) : l.take (i + 1) = l.take i ++ [el l i] := by
  rw [List.take_add_one, List.getElem?_eq_getElem h, el_get h]
  rfl
theorem fitN_take {l : List Int} {i j : Nat} {b : Int} (h : fitN l i b = some j) : l.take j = l.take i ++ lab b := by
  unfold fitN at h
  unfold lab
  split at h
  · rename_i hb
    simp at h
    rw [if_pos hb, h, List.append_nil]
  · rename_i hb
    rw [if_neg hb]
    split at h
    · rename_i hi
      simp at h
      rw [← h, take_snocW hi.1, hi.2]
    · simp at h
theorem take_fitN {l u : List Int} {j : Nat} {b : Int} (hj : j ≤ l.length) (h : u ++ lab b = l.take j) : ∃ i, i ≤ l.length ∧ u = l.take i ∧ fitN l i b = some j := by
  unfold lab at h
  unfold fitN
  by_cases hb : b = 0
  · rw [if_pos hb, List.append_nil] at h
    exact ⟨j, hj, h, by rw [if_pos hb]⟩
  · rw [if_neg hb] at h
    rcases j with _ | j
    · simp at h
    · rw [take_snocW (by omega)] at h
      have h1 := List.append_inj' h rfl
      have h2 : b = el l j := by simpa using h1.2
      exact ⟨j, by omega, h1.1, by rw [if_neg hb, if_pos ⟨by omega, h2.symm⟩]⟩
/-- The number of a state and a place in each word. -/
def idx (X Y q i j : Nat) : Nat := (q * (X + 1) + i) * (Y + 1) + j
theorem idx_j {X Y q i j : Nat} (hj : j ≤ Y) : idx X Y q i j % (Y + 1) = j := by
  unfold idx
  rw [Nat.mul_comm, Nat.mul_add_mod]
  exact Nat.mod_eq_of_lt (by omega)
theorem idx_d {X Y q i j : Nat} (hj : j ≤ Y) : idx X Y q i j / (Y + 1) = q * (X + 1) + i := by
  unfold idx
  rw [Nat.mul_comm, Nat.mul_add_div (by omega), Nat.div_eq_of_lt (by omega), Nat.add_zero]
theorem idx_i {X Y q i j : Nat} (hi : i ≤ X) (hj : j ≤ Y) : idx X Y q i j / (Y + 1) % (X + 1) = i := by
  rw [idx_d hj, Nat.mul_comm, Nat.mul_add_mod]
  exact Nat.mod_eq_of_lt (by omega)
theorem idx_q {X Y q i j : Nat} (hi : i ≤ X) (hj : j ≤ Y) : idx X Y q i j / (Y + 1) / (X + 1) = q := by
  rw [idx_d hj, Nat.mul_comm, Nat.mul_add_div (by omega), Nat.div_eq_of_lt (by omega), Nat.add_zero]
theorem idx_one {X Y q i j q' i' j' : Nat} (hi : i ≤ X) (hj : j ≤ Y) (hi' : i' ≤ X) (hj' : j' ≤ Y) (h : idx X Y q i j = idx X Y q' i' j') : q = q' ∧ i = i' ∧ j = j' := by
  refine ⟨?_, ?_, ?_⟩
  · have := idx_q (q := q) hi hj; rw [h, idx_q hi' hj'] at this; exact this.symm
  · have := idx_i (q := q) hi hj; rw [h, idx_i hi' hj'] at this; exact this.symm
  · have := idx_j (X := X) (q := q) (i := i) hj; rw [h, idx_j hj'] at this; exact this.symm
theorem idx_lt {X Y q i j n : Nat} (hq : q < n) (hi : i ≤ X) (hj : j ≤ Y) : idx X Y q i j < n * (X + 1) * (Y + 1) := by
  unfold idx
  have h1 : q * (X + 1) + i + 1 ≤ n * (X + 1) := by
    have : (q + 1) * (X + 1) ≤ n * (X + 1) := Nat.mul_le_mul_right _ (by omega)
    rw [Nat.add_mul] at this
    omega
  have h2 : (q * (X + 1) + i + 1) * (Y + 1) ≤ n * (X + 1) * (Y + 1) := Nat.mul_le_mul_right _ h1
  rw [Nat.add_mul] at h2
  omega
/-- Each number is one. -/
theorem idx_of {X Y n k : Nat} (h : k < n * (X + 1) * (Y + 1)) : k / (Y + 1) / (X + 1) < n ∧ k / (Y + 1) % (X + 1) ≤ X ∧ k % (Y + 1) ≤ Y ∧ k = idx X Y (k / (Y + 1) / (X + 1)) (k / (Y + 1) % (X + 1)) (k % (Y + 1)) := by
  have h1 : k / (Y + 1) < n * (X + 1) := (Nat.div_lt_iff_lt_mul (by omega)).2 h
  refine ⟨(Nat.div_lt_iff_lt_mul (by omega)).2 h1, ?_, ?_, ?_⟩
  · have := Nat.mod_lt (k / (Y + 1)) (show 0 < X + 1 by omega); omega
  · have := Nat.mod_lt k (show 0 < Y + 1 by omega); omega
  · unfold idx
    rw [Nat.div_add_mod', Nat.div_add_mod']
/-- What is written: it matters, or not. -/
def fitF (free : Bool) (y : List Int) (j : Nat) (b : Int) : Option Nat := if free = true then some j else fitN y j b
theorem fitF_le {free : Bool} {l : List Int} {i j : Nat} {b : Int} (h : fitF free l i b = some j) (hi : i ≤ l.length) : j ≤ l.length := by
  unfold fitF at h
  split at h
  · simp at h; omega
  · exact fitN_le h hi
/-- One arc further. -/
def Edge (l : List St) (x y : List Int) (free : Bool) (k w k' : Nat) : Prop :=
  ∃ q i j a t i' j', q < l.length ∧ i ≤ x.length ∧ j ≤ y.length ∧ a ∈ (el l q).2 ∧ a.2.2.2 = ((t : Nat) : Int) ∧ fitN x i a.1 = some i' ∧ fitF free y j a.2.1 = some j' ∧ k = idx x.length y.length q i j ∧ w = a.2.2.1.toNat ∧ k' = idx x.length y.length t i' j'
theorem run_way {l : List St} {x y : List Int} {z n k c : Nat} (hz : z < l.length) (hto : ∀ q, q < l.length → ∀ a ∈ (el l q).2, ∃ t : Nat, a.2.2.2 = (t : Int) ∧ t < l.length) (h : Run (Edge l x y false) (idx x.length y.length z 0 0) n k c) :
    ∃ q i j, q < l.length ∧ i ≤ x.length ∧ j ≤ y.length ∧ k = idx x.length y.length q i j ∧ Way l z (x.take i) (y.take j) q c := by
  induction h with
  | nil => exact ⟨z, 0, 0, hz, by omega, by omega, rfl, by simpa using Way.nil⟩
  | step h e ih =>
    obtain ⟨q, i, j, hq, hi, hj, rfl, hw⟩ := ih
    obtain ⟨q', i', j', a, t, i2, j2, hq', hi', hj', ha, ht, f1, f2, ek, rfl, rfl⟩ := e
    obtain ⟨rfl, rfl, rfl⟩ := idx_one hi hj hi' hj' ek
    obtain ⟨t', e1, e2⟩ := hto _ hq a ha
    have : t = t' := by omega
    subst this
    have f2' : fitN y j a.2.1 = some j2 := by simpa [fitF] using f2
    refine ⟨t, i2, j2, e2, fitN_le f1 hi, fitN_le f2' hj, rfl, ?_⟩
    rw [fitN_take f1, fitN_take f2']
    exact hw.snoc ha ht
theorem way_run {l : List St} {x y : List Int} {z q c : Nat} {u v : List Int} (hz : z < l.length) (hto : ∀ q, q < l.length → ∀ a ∈ (el l q).2, ∃ t : Nat, a.2.2.2 = (t : Int) ∧ t < l.length) (h : Way l z u v q c) :
    ∀ i j, i ≤ x.length → j ≤ y.length → u = x.take i → v = y.take j → ∃ n, Run (Edge l x y false) (idx x.length y.length z 0 0) n (idx x.length y.length q i j) c := by
  induction h with
  | nil =>
    intro i j hi hj hu hv
    have h1 : i = 0 := by
      have := congrArg List.length hu
      simp at this; omega
    have h2 : j = 0 := by
      have := congrArg List.length hv
      simp at this; omega
    subst h1; subst h2
    exact ⟨0, .nil⟩
  | snoc h ha ht ih =>
    intro i j hi hj hu hv
    obtain ⟨i0, hi0, hu0, f1⟩ := take_fitN hi hu
    obtain ⟨j0, hj0, hv0, f2⟩ := take_fitN hj hv
    obtain ⟨n, hn⟩ := ih i0 j0 hi0 hj0 hu0 hv0
    exact ⟨n + 1, hn.step ⟨_, i0, j0, _, _, i, j, h.inside hz hto, hi0, hj0, ha, ht, f1, by simpa [fitF] using f2, rfl, rfl, rfl⟩⟩
theorem run_wayF {l : List St} {x : List Int} {z n k c : Nat} (hz : z < l.length) (hto : ∀ q, q < l.length → ∀ a ∈ (el l q).2, ∃ t : Nat, a.2.2.2 = (t : Int) ∧ t < l.length) (h : Run (Edge l x [] true) (idx x.length 0 z 0 0) n k c) :
    ∃ q i v, q < l.length ∧ i ≤ x.length ∧ k = idx x.length 0 q i 0 ∧ Way l z (x.take i) v q c := by
  induction h with
  | nil => exact ⟨z, 0, [], hz, by omega, rfl, by simpa using Way.nil⟩
  | step h e ih =>
    obtain ⟨q, i, v, hq, hi, rfl, hw⟩ := ih
    obtain ⟨q', i', j', a, t, i2, j2, hq', hi', hj', ha, ht, f1, f2, ek, rfl, rfl⟩ := e
    simp only [List.length_nil] at hj' ek
    obtain ⟨rfl, rfl, rfl⟩ := idx_one hi (Nat.le_refl 0) hi' hj' ek
    obtain ⟨t', e1, e2⟩ := hto _ hq a ha
    have : t = t' := by omega
    subst this
    have : j2 = 0 := by simp [fitF] at f2; omega
    subst this
    refine ⟨t, i2, v ++ lab a.2.1, e2, fitN_le f1 hi, rfl, ?_⟩
    rw [fitN_take f1]
    exact hw.snoc ha ht
theorem way_runF {l : List St} {x : List Int} {z q c : Nat} {u v : List Int} (hz : z < l.length) (hto : ∀ q, q < l.length → ∀ a ∈ (el l q).2, ∃ t : Nat, a.2.2.2 = (t : Int) ∧ t < l.length) (h : Way l z u v q c) :
    ∀ i, i ≤ x.length → u = x.take i → ∃ n, Run (Edge l x [] true) (idx x.length 0 z 0 0) n (idx x.length 0 q i 0) c := by
  induction h with
  | nil =>
    intro i hi hu
    have h1 : i = 0 := by
      have := congrArg List.length hu
      simp at this; omega
    subst h1
    exact ⟨0, .nil⟩
  | snoc h ha ht ih =>
    intro i hi hu
    obtain ⟨i0, hi0, hu0, f1⟩ := take_fitN hi hu
    obtain ⟨n, hn⟩ := ih i0 hi0 hu0
    exact ⟨n + 1, hn.step ⟨_, i0, 0, _, _, i, 0, h.inside hz hto, hi0, Nat.le_refl _, ha, ht, f1, by simp [fitF], rfl, rfl, rfl⟩⟩
/-- The places at the words' ends: just the ways. -/
theorem ends_way {l : List St} {x y : List Int} {z q c : Nat} (hz : z < l.length) (hto : ∀ q, q < l.length → ∀ a ∈ (el l q).2, ∃ t : Nat, a.2.2.2 = (t : Int) ∧ t < l.length) :
    (∃ n, Run (Edge l x y false) (idx x.length y.length z 0 0) n (idx x.length y.length q x.length y.length) c) ↔ Way l z x y q c := by
  constructor
  · rintro ⟨n, h⟩
    obtain ⟨q', i, j, hq, hi, hj, e, hw⟩ := run_way hz hto h
    obtain ⟨rfl, rfl, rfl⟩ := idx_one (Nat.le_refl _) (Nat.le_refl _) hi hj e
    simpa using hw
  · intro h
    exact way_run hz hto h x.length y.length (Nat.le_refl _) (Nat.le_refl _) (by simp) (by simp)
theorem ends_wayF {l : List St} {x : List Int} {z q c : Nat} (hz : z < l.length) (hto : ∀ q, q < l.length → ∀ a ∈ (el l q).2, ∃ t : Nat, a.2.2.2 = (t : Int) ∧ t < l.length) :
    (∃ n, Run (Edge l x [] true) (idx x.length 0 z 0 0) n (idx x.length 0 q x.length 0) c) ↔ ∃ v, Way l z x v q c := by
  constructor
  · rintro ⟨n, h⟩
    obtain ⟨q', i, v, hq, hi, e, hw⟩ := run_wayF hz hto h
    obtain ⟨rfl, rfl, _⟩ := idx_one (Nat.le_refl _) (Nat.le_refl 0) hi (Nat.le_refl 0) e
    exact ⟨v, by simpa using hw⟩
  · rintro ⟨v, h⟩
    exact way_runF hz hto h x.length (Nat.le_refl _) (by simp)
end Go.Proofs.YtfekmlblldhieaaDoor.Pl
namespace Go.Proofs.YtfekmlblldhieaaDoor.Pl
set_option linter.unusedVariables false
set_option linter.unusedSimpArgs false
/-- No cost at all. -/
def noneI : Int := 1152921504606846976
def sumT : List Int → Nat
  | [] => 0
  | c :: l => c.toNat + sumT l
theorem sumT_set {v : Int} : ∀ {cs : List Int} {k : Nat}, k < cs.length → 0 ≤ v → v < el cs k → sumT (cs.set k v) < sumT cs
  | [], k, h, _, _ => absurd h (by simp)
  | c :: l, 0, _, h0, h => by
    rw [el_zero] at h
    simp only [List.set_cons_zero, sumT]
    omega
  | c :: l, k + 1, hk, h0, h => by
    rw [el_succ] at h
    have := sumT_set (cs := l) (k := k) (by simpa using hk) h0 h
    simp only [List.set_cons_succ, sumT]
    omega
theorem el_setT {l : List Int} {q j : Nat} (hq : q < l.length) (x : Int) : el (l.set q x) j = if j = q then x else el l j := by
  by_cases h : j = q
  · subst h; rw [if_pos rfl]; simp [el, hq]
  · rw [if_neg h]; simp [el, List.getElem?_set, Ne.symm h]
structure CostT (l : List St) (x y : List Int) (free : Bool) (z : Int) (cs : List Int) : Prop where
  len : cs.length = l.length * (x.length + 1) * (y.length + 1)
  rng : ∀ k, k < cs.length → 0 ≤ el cs k ∧ el cs k ≤ noneI
  beg : 0 ≤ z → el cs (idx x.length y.length z.toNat 0 0) = 0
  run : ∀ k, k < cs.length → el cs k < noneI → 0 ≤ z ∧ ∃ n, Run (Edge l x y free) (idx x.length y.length z.toNat 0 0) n k (el cs k).toNat
def ClosedT (l : List St) (x y : List Int) (free : Bool) (cs : List Int) : Prop := ∀ k w k', k < cs.length → el cs k < noneI → Edge l x y free k w k' → el cs k' ≤ el cs k + (w : Int)
theorem CostT.relax {l : List St} {x y : List Int} {free : Bool} {z : Int} {cs : List Int} (h : CostT l x y free z cs) {k w k' : Nat} (hk : k < cs.length) (hc : el cs k < noneI) (he : Edge l x y free k w k') (hk' : k' < cs.length) (hl : el cs k + (w : Int) < el cs k') :
    CostT l x y free z (cs.set k' (el cs k + (w : Int))) ∧ sumT (cs.set k' (el cs k + (w : Int))) < sumT cs := by
  have h0 := (h.rng k hk).1
  have h1 := (h.rng k' hk').2
  refine ⟨⟨by rw [List.length_set]; exact h.len, fun j hj => ?_, fun hz => ?_, fun j hj hn => ?_⟩, sumT_set hk' (by omega) hl⟩
  · rw [List.length_set] at hj
    rw [el_setT hk']
    split
    · omega
    · exact h.rng j hj
  · have := h.beg hz
    rw [el_setT hk']
    split
    · rename_i e; rw [e] at this; omega
    · exact this
  · rw [List.length_set] at hj
    rw [el_setT hk'] at hn ⊢
    split
    · rename_i e
      subst e
      obtain ⟨hz, n, hr⟩ := h.run k hk hc
      refine ⟨hz, n + 1, ?_⟩
      have := hr.step he
      rwa [show (el cs k + (w : Int)).toNat = (el cs k).toNat + w by omega]
    · rename_i e
      rw [if_neg e] at hn
      exact h.run j hj hn
theorem el_replicateT {n k : Nat} {c : Int} (h : k < n) : el (List.replicate n c) k = c := by simp [el, h]
theorem CostT.none {l : List St} {x y : List Int} {free : Bool} {z : Int} (hz : z < 0) : CostT l x y free z (List.replicate (l.length * (x.length + 1) * (y.length + 1)) noneI) :=
  ⟨by simp, fun k hk => by rw [List.length_replicate] at hk; rw [el_replicateT hk]; unfold noneI; omega, fun h => by omega, fun k hk hn => by rw [List.length_replicate] at hk; rw [el_replicateT hk] at hn; omega⟩
theorem CostT.start {l : List St} {x y : List Int} {free : Bool} {z : Nat} (hz : z < l.length) : CostT l x y free z ((List.replicate (l.length * (x.length + 1) * (y.length + 1)) noneI).set (idx x.length y.length z 0 0) 0) := by
  have hlt : idx x.length y.length z 0 0 < (List.replicate (l.length * (x.length + 1) * (y.length + 1)) noneI).length := by rw [List.length_replicate]; exact idx_lt hz (by omega) (by omega)
  refine ⟨by simp, fun k hk => ?_, fun _ => ?_, fun k hk hn => ?_⟩
  · rw [List.length_set, List.length_replicate] at hk
    rw [el_setT hlt, el_replicateT hk]
    unfold noneI
    split <;> omega
  · rw [Int.toNat_natCast, el_setT hlt, if_pos rfl]
  · rw [List.length_set, List.length_replicate] at hk
    rw [el_setT hlt, el_replicateT hk] at hn ⊢
    split
    · rename_i e
      refine ⟨by omega, 0, ?_⟩
      rw [Int.toNat_natCast, e]
      exact .nil
    · rename_i e
      rw [if_neg e] at hn
      omega
/-- What the table tells at the end. -/
theorem CostT.told {l : List St} {x y : List Int} {free : Bool} {z : Nat} {cs : List Int} (h : CostT l x y free z cs) (hc : ClosedT l x y free cs) (hz : z < l.length) (hn : l.length ≤ 60) (hx : x.length ≤ 100) (hy : y.length ≤ 100)
    (hto : ∀ q, q < l.length → ∀ a ∈ (el l q).2, (∃ t : Nat, a.2.2.2 = (t : Int) ∧ t < l.length) ∧ a.2.2.1 ≤ 1000000000) {k : Nat} (hk : k < cs.length) :
    (el cs k < 1000000000000000 ∧ LeastP (fun c => ∃ n, Run (Edge l x y free) (idx x.length y.length z 0 0) n k c) (el cs k).toNat) ∨ (el cs k = noneI ∧ ∀ n c, ¬ Run (Edge l x y free) (idx x.length y.length z 0 0) n k c) := by
  have hs : idx x.length y.length z 0 0 < cs.length := by rw [h.len]; exact idx_lt hz (by omega) (by omega)
  have hE : ∀ k w j, Edge l x y free k w j → j < cs.length ∧ w ≤ 1000000000 := by
    rintro k w j ⟨q, i, j, a, t, i', j', hq, hi, hj, ha, ht, f1, f2, rfl, rfl, rfl⟩
    obtain ⟨⟨t', e1, e2⟩, e3⟩ := hto q hq a ha
    have : t = t' := by omega
    subst this
    exact ⟨by rw [h.len]; exact idx_lt e2 (fitN_le f1 hi) (fitF_le f2 hj), by omega⟩
  have hN : cs.length ≤ 612060 := by
    rw [h.len]
    have h1 : l.length * (x.length + 1) ≤ 60 * 101 := Nat.mul_le_mul hn (by omega)
    have h2 : l.length * (x.length + 1) * (y.length + 1) ≤ 60 * 101 * 101 := Nat.mul_le_mul h1 (by omega)
    omega
  have hbig : cs.length * 1000000000 < 1000000000000000 := by
    have : cs.length * 1000000000 ≤ 612060 * 1000000000 := Nat.mul_le_mul_right _ hN
    omega
  have hB : (noneI).toNat = 1152921504606846976 := rfl
  have hbeg : el cs (idx x.length y.length z 0 0) = 0 := by have := h.beg (by omega); rwa [Int.toNat_natCast] at this
  have key := table_told (E := Edge l x y free) (s := idx x.length y.length z 0 0) (T := fun k => if k < cs.length then (el cs k).toNat else 1152921504606846976) (B := 1152921504606846976) (N := cs.length) (W := 1000000000) hs hE (by omega)
    (by rw [if_pos hs, hbeg]; rfl)
    (fun k => by
      split
      · rename_i hk; have := (h.rng k hk).2; unfold noneI at this; omega
      · omega)
    (fun k w j hk e => by
      by_cases g : k < cs.length
      · rw [if_pos g] at hk ⊢
        have h1 := (h.rng k g).1
        have h2 := hc k w j g (by unfold noneI; omega) e
        have h3 := (h.rng j (hE _ _ _ e).1).1
        rw [if_pos (hE _ _ _ e).1]
        omega
      · rw [if_neg g] at hk; omega)
    (fun k hk => by
      by_cases g : k < cs.length
      · rw [if_pos g] at hk ⊢
        obtain ⟨_, n, hr⟩ := h.run k g (by have := (h.rng k g).1; unfold noneI; omega)
        rw [Int.toNat_natCast] at hr
        exact ⟨n, hr⟩
      · rw [if_neg g] at hk; omega) k
  simp only [if_pos hk] at key
  rcases key with ⟨h1, h2⟩ | ⟨h1, h2⟩
  · refine .inl ⟨?_, h2⟩
    obtain ⟨n, hr⟩ := h2.1
    obtain ⟨m, d, hm, hd⟩ := hr.short hs (fun k w j e => (hE k w j e).1)
    have h3 := hd.cost (W := 1000000000) (fun k w j e => (hE k w j e).2)
    have h4 := h2.2 d ⟨m, hd⟩
    have h5 : m * 1000000000 ≤ cs.length * 1000000000 := Nat.mul_le_mul_right _ (by omega)
    have h6 := (h.rng k hk).1
    omega
  · refine .inr ⟨?_, h2⟩
    have := (h.rng k hk).1
    unfold noneI
    omega
/-- The least at the words' ends. -/
def bstF (cs : List Int) (l : List St) (X Y : Nat) : Nat → Int
  | 0 => noneI
  | q + 1 => if el cs (idx X Y q X Y) ≠ noneI ∧ (el l q).1 ≠ 1000000001 ∧ el cs (idx X Y q X Y) + (el l q).1 < bstF cs l X Y q then el cs (idx X Y q X Y) + (el l q).1 else bstF cs l X Y q
/-- The cheapest of all, as the reference tells it. -/
def ChpAns (P : Nat → Prop) (b : Int) : Prop := (b = noneI ∧ ∀ c, ¬ P c) ∨ ∃ c : Nat, LeastP P c ∧ b = (c : Int) ∧ c < 1152921504606846976
theorem ChpAns.one {P : Nat → Prop} {b b' : Int} (h : ChpAns P b) (k : ChpAns P b') : b = b' := by
  rcases h with ⟨rfl, h⟩ | ⟨c, hc, rfl, _⟩ <;> rcases k with ⟨rfl, k⟩ | ⟨d, hd, rfl, _⟩
  · rfl
  · exact absurd hd.1 (h d)
  · exact absurd hc.1 (k c)
  · rw [hc.one hd]
theorem ChpAns.congr {P Q : Nat → Prop} (hPQ : ∀ c, P c ↔ Q c) {b : Int} (h : ChpAns P b) : ChpAns Q b := by
  have : P = Q := funext fun c => propext (hPQ c)
  rwa [← this]
theorem ChpAns.wgh {P : Nat → Prop} {b : Int} (h : ChpAns P b) : WghAns P (if b = noneI then 1000000001 else if 1000000000 < b then 0 else b) (if b = noneI then 0 else if 1000000000 < b then 4 else 0) := by
  rcases h with ⟨rfl, h⟩ | ⟨c, hc, rfl, hlt⟩
  · exact .inl ⟨h, by rw [if_pos rfl], by rw [if_pos rfl]⟩
  · have hne : ¬ (c : Int) = noneI := by unfold noneI; omega
    rw [if_neg hne, if_neg hne]
    by_cases g : (1000000000 : Int) < c
    · rw [if_pos g, if_pos g]
      exact .inr ⟨c, hc, .inr ⟨by omega, rfl, rfl⟩⟩
    · rw [if_neg g, if_neg g]
      exact .inr ⟨c, hc, .inl ⟨by omega, rfl, rfl⟩⟩
/-- The costs of all states together. -/
theorem bst_ans {cs : List Int} {l : List St} {X Y : Nat} {R : Nat → Nat → Prop} (hfin : ∀ q, q < l.length → (el l q).1 ≠ 1000000001 → 0 ≤ (el l q).1 ∧ (el l q).1 ≤ 1000000000)
    (h : ∀ q, q < l.length → (0 ≤ el cs (idx X Y q X Y) ∧ el cs (idx X Y q X Y) < 1000000000000000 ∧ LeastP (R q) (el cs (idx X Y q X Y)).toNat) ∨ (el cs (idx X Y q X Y) = noneI ∧ ∀ c, ¬ R q c)) :
    ∀ n, n ≤ l.length → ChpAns (fun c => ∃ q d, q < n ∧ R q d ∧ (el l q).1 ≠ 1000000001 ∧ c = d + (el l q).1.toNat) (bstF cs l X Y n) ∧ 0 ≤ bstF cs l X Y n := by
  intro n
  induction n with
  | zero => intro _; exact ⟨.inl ⟨rfl, fun c ⟨q, d, hq, _⟩ => by omega⟩, by simp [bstF, noneI]⟩
  | succ n ih =>
    intro hn
    obtain ⟨ih, ih0⟩ := ih (by omega)
    simp only [bstF]
    have old : ∀ {c}, (∃ q d, q < n ∧ R q d ∧ (el l q).1 ≠ 1000000001 ∧ c = d + (el l q).1.toNat) → ∃ q d, q < n + 1 ∧ R q d ∧ (el l q).1 ≠ 1000000001 ∧ c = d + (el l q).1.toNat := fun {c} ⟨q, d, hq, h⟩ => ⟨q, d, by omega, h⟩
    have same : (∀ d, R n d → (el l n).1 = 1000000001) → ChpAns (fun c => ∃ q d, q < n + 1 ∧ R q d ∧ (el l q).1 ≠ 1000000001 ∧ c = d + (el l q).1.toNat) (bstF cs l X Y n) := fun hno => by
      refine ih.congr fun c => ⟨old, fun ⟨q, d, hq, h1, h2, h3⟩ => ?_⟩
      by_cases e : q = n
      · subst e; exact absurd (hno d h1) h2
      · exact ⟨q, d, by omega, h1, h2, h3⟩
    rcases h n (by omega) with ⟨h0, h1, h2⟩ | ⟨h1, h2⟩
    · have hne : el cs (idx X Y n X Y) ≠ noneI := by unfold noneI; omega
      by_cases hf : (el l n).1 = 1000000001
      · rw [if_neg (by simp [hf])]
        exact ⟨same fun _ _ => hf, ih0⟩
      · obtain ⟨f0, f1⟩ := hfin n (by omega) hf
        have least : ∀ d, R n d → (el cs (idx X Y n X Y)).toNat ≤ d := h2.2
        by_cases hlt : el cs (idx X Y n X Y) + (el l n).1 < bstF cs l X Y n
        · rw [if_pos ⟨hne, hf, hlt⟩]
          refine ⟨.inr ⟨(el cs (idx X Y n X Y)).toNat + (el l n).1.toNat, ⟨⟨n, _, by omega, h2.1, hf, rfl⟩, ?_⟩, by omega, by omega⟩, by omega⟩
          rintro c ⟨q, d, hq, k1, k2, rfl⟩
          by_cases e : q = n
          · subst e; have := least d k1; omega
          · rcases ih with ⟨_, hno⟩ | ⟨b, hb, hbe, _⟩
            · exact absurd ⟨q, d, by omega, k1, k2, rfl⟩ (hno _)
            · have := hb.2 _ ⟨q, d, by omega, k1, k2, rfl⟩
              omega
        · rw [if_neg (fun g => hlt g.2.2)]
          refine ⟨?_, ih0⟩
          rcases ih with ⟨hb, hno⟩ | ⟨b, hb, hbe, hbl⟩
          · unfold noneI at hb; omega
          · refine .inr ⟨b, ⟨old hb.1, ?_⟩, hbe, hbl⟩
            rintro c ⟨q, d, hq, k1, k2, rfl⟩
            by_cases e : q = n
            · subst e; have := least d k1; omega
            · exact hb.2 _ ⟨q, d, by omega, k1, k2, rfl⟩
    · rw [if_neg (fun g => g.1 h1)]
      exact ⟨same fun d hd => absurd hd (h2 d), ih0⟩
end Go.Proofs.YtfekmlblldhieaaDoor.Pl
namespace Go.Proofs.YtfekmlblldhieaaDoor.Pl
/-- P4.4: does a stand ahead of b? -/
def aheadB (a b : Ar) : Bool := if a.1 = b.1 then (if a.2.1 = b.2.1 then (if a.2.2.2 = b.2.2.2 then decide (a.2.2.1 < b.2.2.1) else decide (a.2.2.2 < b.2.2.2)) else decide (a.2.1 < b.2.1)) else decide (a.1 < b.1)
theorem aheadB_iff {a b : Ar} : aheadB a b = true ↔ (a.1 < b.1 ∨ a.1 = b.1 ∧ (a.2.1 < b.2.1 ∨ a.2.1 = b.2.1 ∧ (a.2.2.2 < b.2.2.2 ∨ a.2.2.2 = b.2.2.2 ∧ a.2.2.1 < b.2.2.1))) := by
  unfold aheadB
  repeat' split
  all_goals (simp only [decide_eq_true_eq]; omega)
theorem aheadB_false {a b : Ar} : aheadB a b = false ↔ ¬ (a.1 < b.1 ∨ a.1 = b.1 ∧ (a.2.1 < b.2.1 ∨ a.2.1 = b.2.1 ∧ (a.2.2.2 < b.2.2.2 ∨ a.2.2.2 = b.2.2.2 ∧ a.2.2.1 < b.2.2.1))) := by
  rw [← aheadB_iff]; simp
theorem ahead_trans {a b c : Ar} (h1 : aheadB b a = false) (h2 : aheadB c b = false) : aheadB c a = false := by
  rw [aheadB_false] at *
  omega
def cmpI (a b : Int) : Int := if a < b then -1 else if b < a then 1 else 0
def orI (c0 c1 c2 c3 : Int) : Int := if c0 = 0 then (if c1 = 0 then (if c2 = 0 then c3 else c2) else c1) else c0
theorem orI_neg (a b : Ar) : decide (orI (cmpI a.1 b.1) (cmpI a.2.1 b.2.1) (cmpI a.2.2.2 b.2.2.2) (cmpI a.2.2.1 b.2.2.1) < 0) = aheadB a b := by
  rw [Bool.eq_iff_iff, aheadB_iff, decide_eq_true_eq]
  unfold orI cmpI
  repeat' split
  all_goals omega
def sortB (l : List Ar) : Bool := (List.range (l.length - 1)).all fun i => !aheadB (el l (i + 1)) (el l i)
def ordB (l : List Ar) : Bool := (List.range l.length).all fun k => (List.range k).all fun j => !aheadB (el l k) (el l j)
theorem sortB_iff {l : List Ar} : sortB l = true ↔ ∀ i, i + 1 < l.length → aheadB (el l (i + 1)) (el l i) = false := by
  simp only [sortB, List.all_eq_true, List.mem_range, Bool.not_eq_true']
  exact ⟨fun h i hi => h i (by omega), fun h i hi => h i (by omega)⟩
theorem ordB_iff {l : List Ar} : ordB l = true ↔ ∀ k, k < l.length → ∀ j, j < k → aheadB (el l k) (el l j) = false := by
  simp only [ordB, List.all_eq_true, List.mem_range, Bool.not_eq_true']
theorem ordB_sortB (l : List Ar) : ordB l = sortB l := by
  rw [Bool.eq_iff_iff, ordB_iff, sortB_iff]
  constructor
  · intro h i hi
    exact h (i + 1) hi i (by omega)
  · intro h k
    induction k with
    | zero => intro _ j hj; omega
    | succ k ih =>
      intro hk j hj
      by_cases e : j = k
      · subst e; exact h j hk
      · exact ahead_trans (ih (by omega) j (by omega)) (h k hk)
def pairB (a b : Ar) : Bool := decide (a.1 = b.1) && decide (a.2.1 = b.2.1)
def onceB (l : List Ar) : Bool := (List.range l.length).all fun k => (List.range k).all fun j => !pairB (el l k) (el l j)
theorem onceB_iff {l : List Ar} : onceB l = true ↔ ∀ k, k < l.length → ∀ j, j < k → pairB (el l k) (el l j) = false := by
  simp only [onceB, List.all_eq_true, List.mem_range, Bool.not_eq_true']
theorem pairB_iff {a b : Ar} : pairB a b = true ↔ a.1 = b.1 ∧ a.2.1 = b.2.1 := by simp [pairB]
theorem ret_int3 {k : IntKind} {a b : Int} (h : a = b) : Ending.returned (.int k a) = .returned (.int k b) := by rw [h]
end Go.Proofs.YtfekmlblldhieaaDoor.Pl
namespace Go.Proofs.YtfekmlblldhieaaDoor.Pl
/-- A number brought into bounds. -/
def pkR (n many : Int) : Int := (if n < 0 then -(n + 1) else n) % many
theorem pkR_bd (n many : Int) (h : 0 < many) : 0 ≤ pkR n many ∧ pkR n many < many := by
  unfold pkR
  exact ⟨Int.emod_nonneg _ (by omega), Int.emod_lt_of_pos _ h⟩
def arM (n : Nat) (full : Bool) (e : Ar) : Ar :=
  (if (full && decide (pkR e.1 3 = 0) && decide (pkR e.2.1 3 = 0)) = true then 1 else pkR e.1 3, pkR e.2.1 3, pkR e.2.2.1 10, pkR e.2.2.2 n)
def stM (n : Nat) (full : Bool) (x : Int × Bool × List Ar) : St := (if x.2.1 = true then pkR x.1 10 else 1000000001, (x.2.2.take 4).map (arM n full))
def sizeM (r : Int × List (Int × Bool × List Ar)) (states : Nat) : Nat := min (max r.2.length 1) states
def statesM (r : Int × List (Int × Bool × List Ar)) (n : Nat) (full : Bool) : List St := (List.range n).map fun q => if r.2.length ≤ q then (0, []) else stM n full (el r.2 q)
def madeM (r : Int × List (Int × Bool × List Ar)) (states : Nat) (full : Bool) : Mc := (pkR r.1 (sizeM r states), statesM r (sizeM r states) full)
theorem statesM_length (r : Int × List (Int × Bool × List Ar)) (n : Nat) (full : Bool) : (statesM r n full).length = n := by simp [statesM]
theorem arM_right {n : Nat} (hn : 0 < n) (full : Bool) (e : Ar) : arcB n (arM n full e) = true := by
  have h1 := pkR_bd e.1 3 (by omega)
  have h2 := pkR_bd e.2.1 3 (by omega)
  have h3 := pkR_bd e.2.2.1 10 (by omega)
  have h4 := pkR_bd e.2.2.2 n (by omega)
  simp only [arcB, arM, inB, Bool.and_eq_true, decide_eq_true_eq]
  refine ⟨⟨⟨?_, by omega⟩, by omega⟩, by omega⟩
  split <;> omega
theorem arM_full {n : Nat} (e : Ar) : ¬ ((arM n true e).1 = 0 ∧ (arM n true e).2.1 = 0) := by
  intro h
  obtain ⟨h1, h2⟩ := h
  unfold arM at h1 h2
  simp only at h1 h2
  split at h1
  · omega
  · rename_i h3
    exact h3 (by simp [h1, h2])
theorem stM_right {n : Nat} (hn : 0 < n) (full : Bool) (x : Int × Bool × List Ar) : stB n (stM n full x) = true := by
  have h1 := pkR_bd x.1 10 (by omega)
  unfold stB stM
  simp only [Bool.and_eq_true, List.all_eq_true, List.mem_map]
  refine ⟨?_, ?_⟩
  · split
    · simp only [finB, inB, Bool.or_eq_true, Bool.and_eq_true, decide_eq_true_eq]; omega
    · rfl
  · rintro a ⟨e, _, rfl⟩
    exact arM_right hn full e
theorem stM_few (n : Nat) (full : Bool) (x : Int × Bool × List Ar) : (stM n full x).2.length ≤ 4 := by simp [stM]; omega
theorem madeM_right (r : Int × List (Int × Bool × List Ar)) (states : Nat) (hs : 0 < states) (hs8 : states ≤ 8) (full : Bool) : faultM (madeM r states full) = 0 := by
  have hn : 0 < sizeM r states := by unfold sizeM; omega
  have hn8 : sizeM r states ≤ 8 := by unfold sizeM; omega
  unfold madeM
  generalize sizeM r states = n at *
  have hl := statesM_length r n full
  have hz := pkR_bd r.1 n (by omega)
  have hk : ∀ s ∈ statesM r n full, stB n s = true ∧ s.2.length ≤ 4 := fun s hs => by
    unfold statesM at hs
    simp only [List.mem_map] at hs
    obtain ⟨q, _, rfl⟩ := hs
    split
    · exact ⟨by simp [stB, finB, inB], by simp⟩
    · exact ⟨stM_right hn full _, stM_few n full _⟩
  have ha : arcN (statesM r n full) ≤ (statesM r n full).length * 4 := arcN_le (fun j hj => (hk _ (el_mem hj)).2)
  refine faultM_ok ?_ ?_
  · simp only [sizeB, Bool.and_eq_true, decide_eq_true_eq]
    rw [hl] at ha ⊢
    omega
  · simp only [rangeB, inB, Bool.and_eq_true, decide_eq_true_eq, List.all_eq_true]
    rw [hl]
    exact ⟨by omega, fun s hs => (hk s hs).1⟩
end Go.Proofs.YtfekmlblldhieaaDoor.Pl
namespace Go.Proofs.YtfekmlblldhieaaDoor.Pl
set_option linter.unusedVariables false
set_option linter.unusedSimpArgs false
/-- A cost as a number. -/
def CstIs (P : Nat → Prop) (n : Int) : Prop := (n = 1000000001 ∧ ∀ c, ¬ P c) ∨ ∃ c : Nat, LeastP P c ∧ c ≤ 100000000 ∧ n = (c : Int)
theorem CstIs.nonneg {P : Nat → Prop} {n : Int} (h : CstIs P n) : 0 ≤ n := by
  rcases h with ⟨rfl, _⟩ | ⟨c, _, _, rfl⟩ <;> omega
theorem CstIs.eq {P Q : Nat → Prop} {a b : Int} (h : CstIs P a) (k : CstIs Q b) (e : ∀ c, P c ↔ Q c) : a = b := by
  have : P = Q := funext fun c => propext (e c)
  subst this
  rcases h with ⟨rfl, h⟩ | ⟨c, hc, _, rfl⟩ <;> rcases k with ⟨rfl, k⟩ | ⟨d, hd, _, rfl⟩
  · rfl
  · exact absurd hd.1 (h d)
  · exact absurd hc.1 (k c)
  · rw [hc.one hd]
theorem CstIs.or {P Q R : Nat → Prop} {a b u : Int} (h : CstIs P a) (k : CstIs Q b) (hu : CstIs R u) (e : ∀ c, R c ↔ P c ∨ Q c) : u = min a b := by
  rcases hu with ⟨rfl, hu⟩ | ⟨c, hc, hcb, rfl⟩
  · rcases h with ⟨rfl, _⟩ | ⟨d, hd, _⟩
    · rcases k with ⟨rfl, _⟩ | ⟨d, hd, _⟩
      · rfl
      · exact absurd ((e d).2 (.inr hd.1)) (hu d)
    · exact absurd ((e d).2 (.inl hd.1)) (hu d)
  · have hP : ∀ d, P d → c ≤ d := fun d hd => hc.2 d ((e d).2 (.inl hd))
    have hQ : ∀ d, Q d → c ≤ d := fun d hd => hc.2 d ((e d).2 (.inr hd))
    have ha : (c : Int) ≤ a := by
      rcases h with ⟨rfl, _⟩ | ⟨d, hd, _, rfl⟩
      · omega
      · have := hP d hd.1; omega
    have hb : (c : Int) ≤ b := by
      rcases k with ⟨rfl, _⟩ | ⟨d, hd, _, rfl⟩
      · omega
      · have := hQ d hd.1; omega
    rcases (e c).1 hc.1 with g | g
    · rcases h with ⟨_, h⟩ | ⟨d, hd, _, rfl⟩
      · exact absurd g (h c)
      · have := hd.2 c g
        omega
    · rcases k with ⟨_, k⟩ | ⟨d, hd, _, rfl⟩
      · exact absurd g (k c)
      · have := hd.2 c g
        omega
theorem CstIs.le {P Q : Nat → Prop} {a b : Int} (h : CstIs P a) (k : CstIs Q b) (e : ∀ c, P c → Q c) : b ≤ a := by
  rcases h with ⟨rfl, h⟩ | ⟨c, hc, _, rfl⟩ <;> rcases k with ⟨rfl, k⟩ | ⟨d, hd, _, rfl⟩
  · omega
  · omega
  · exact absurd (e c hc.1) (k c)
  · have := hd.2 c (e c hc.1); omega
theorem cst_of {P : Nat → Prop} {n e : Int} (h : WghAns P n e) (hb : ∀ c, P c → ∃ d, d ≤ 100000000 ∧ P d) : e = 0 ∧ CstIs P n := by
  rcases h with ⟨h, rfl, rfl⟩ | ⟨c, hc, h⟩
  · exact ⟨rfl, .inl ⟨rfl, h⟩⟩
  · obtain ⟨d, hd, hp⟩ := hb c hc.1
    have := hc.2 d hp
    rcases h with ⟨h1, rfl, rfl⟩ | ⟨h1, rfl, rfl⟩
    · exact ⟨rfl, .inr ⟨c, hc, by omega, rfl⟩⟩
    · omega
/-- Small weights. -/
def CheapL (l : List St) : Prop := ∀ s ∈ l, (s.1 ≠ 1000000001 → s.1 ≤ 1000) ∧ ∀ a ∈ s.2, a.2.2.1 ≤ 1000
theorem right_ToIn {m : Mc} (h : faultM m = 0) : ToIn m.2 := fun q hq a ha => by
  have h1 := (right_parts h).2 _ (el_mem hq)
  simp only [stB, Bool.and_eq_true, List.all_eq_true] at h1
  have h2 := h1.2 _ ha
  simp only [arcB, inB, Bool.and_eq_true, decide_eq_true_eq] at h2
  exact ⟨a.2.2.2.toNat, by omega, by omega⟩
theorem edge_small {l : List St} {x y : List Int} {fr : Bool} (hto : ToIn l) (hc : CheapL l) (hx : x.length ≤ 12) (hy : y.length ≤ 12) (hn : l.length ≤ 60) :
    l.length * (x.length + 1) * (y.length + 1) ≤ 10140 ∧ ∀ k w j, Edge l x y fr k w j → j < l.length * (x.length + 1) * (y.length + 1) ∧ w ≤ 1000 := by
  have h1 : l.length * (x.length + 1) ≤ 60 * 13 := Nat.mul_le_mul hn (by omega)
  have h2 : l.length * (x.length + 1) * (y.length + 1) ≤ 60 * 13 * 13 := Nat.mul_le_mul h1 (by omega)
  refine ⟨by omega, ?_⟩
  rintro k w j ⟨q, i, j, a, t, i', j', hq, hi, hj, ha, ht, f1, f2, rfl, rfl, rfl⟩
  obtain ⟨t', e1, e2⟩ := hto q hq a ha
  have : t = t' := by omega
  subst this
  have h3 := (hc _ (el_mem hq)).2 a ha
  exact ⟨idx_lt e2 (fitN_le f1 hi) (fitF_le f2 hj), by omega⟩
theorem costs_bound {m : Mc} {x y : List Int} (hr : faultM m = 0) (hc : CheapL m.2) (hx : x.length ≤ 12) (hy : y.length ≤ 12) (c : Nat) (h : Costs m x y c) : ∃ d, d ≤ 100000000 ∧ Costs m x y d := by
  obtain ⟨hz, p, d, hw, hp, hf, rfl⟩ := h
  have h60 := (right_size (z := m.1) (l := m.2) hr).1
  obtain ⟨⟨hz1, hz2⟩, _⟩ := right_parts hr
  have hto := right_ToIn hr
  have hzl : m.1.toNat < m.2.length := by omega
  obtain ⟨hN, hE⟩ := edge_small (fr := false) hto hc hx hy h60
  obtain ⟨n, hn⟩ := (ends_way hzl hto).2 hw
  obtain ⟨n', d', hn', hd'⟩ := hn.short (idx_lt hzl (by omega) (by omega)) (fun k w j e => (hE k w j e).1)
  have h1 := hd'.cost (W := 1000) (fun k w j e => (hE k w j e).2)
  have h2 : n' * 1000 ≤ 10140 * 1000 := Nat.mul_le_mul_right _ (by omega)
  have h3 := (hc _ (el_mem hp)).1 hf
  exact ⟨d' + (el m.2 p).1.toNat, by omega, hz, p, d', (ends_way hzl hto).1 ⟨n', hd'⟩, hp, hf, rfl⟩
theorem costsR_bound {m : Mc} {x : List Int} (hr : faultM m = 0) (hc : CheapL m.2) (hx : x.length ≤ 12) (c : Nat) (h : CostsR m x c) : ∃ d, d ≤ 100000000 ∧ CostsR m x d := by
  obtain ⟨y, hz, p, d, hw, hp, hf, rfl⟩ := h
  have h60 := (right_size (z := m.1) (l := m.2) hr).1
  obtain ⟨⟨hz1, hz2⟩, _⟩ := right_parts hr
  have hto := right_ToIn hr
  have hzl : m.1.toNat < m.2.length := by omega
  obtain ⟨hN, hE⟩ := edge_small (y := []) (fr := true) hto hc hx (by simp) h60
  obtain ⟨n, hn⟩ := (ends_wayF (x := x) (q := p) (c := d) hzl hto).2 ⟨y, hw⟩
  obtain ⟨n', d', hn', hd'⟩ := hn.short (idx_lt hzl (by omega) (by omega)) (fun k w j e => (hE k w j e).1)
  have h1 := hd'.cost (W := 1000) (fun k w j e => (hE k w j e).2)
  have h2 : n' * 1000 ≤ 10140 * 1000 := Nat.mul_le_mul_right _ (by omega)
  have h3 := (hc _ (el_mem hp)).1 hf
  obtain ⟨y', hw'⟩ := (ends_wayF (x := x) (q := p) (c := d') hzl hto).1 ⟨n', hd'⟩
  exact ⟨d' + (el m.2 p).1.toNat, by omega, y', hz, p, d', hw', hp, hf, rfl⟩
/-- Words that were made. -/
def wdL (l : List Int) (k : Nat) : List Int := (l.take k).map (fun n => 1 + pkR n 2)
theorem wdL_len (l : List Int) (k : Nat) : (wdL l k).length ≤ k := by simp [wdL]; omega
theorem wrd_12 {l : List Int} (hl : l.length ≤ 12) (h : ∀ n ∈ l, 1 ≤ n ∧ n ≤ 1000) : wrdE l = 0 := wrd_ok (by omega) fun i hi => by
  have := h _ (el_mem hi)
  simp [inB]
  omega
theorem wdL_mem {l : List Int} {k : Nat} {n : Int} (h : n ∈ wdL l k) : n = 1 ∨ n = 2 := by
  unfold wdL at h
  rw [List.mem_map] at h
  obtain ⟨a, _, rfl⟩ := h
  have := pkR_bd a 2 (by omega)
  omega
theorem wdL_wrd {l : List Int} {k : Nat} (hk : k ≤ 12) : wrdE (wdL l k) = 0 := wrd_12 (by have := wdL_len l k; omega) fun n hn => by rcases wdL_mem hn with rfl | rfl <;> omega
theorem made_cheap (r : Int × List (Int × Bool × List Ar)) (states : Nat) (full : Bool) : CheapL (madeM r states full).2 := fun s hs => by
  simp only [madeM, statesM, List.mem_map] at hs
  obtain ⟨q, _, rfl⟩ := hs
  split
  · exact ⟨fun _ => by simp, fun a ha => absurd ha (by simp)⟩
  · refine ⟨fun h => ?_, fun a ha => ?_⟩
    · unfold stM at h ⊢
      simp only at h ⊢
      split
      · have := pkR_bd (el r.2 q).1 10 (by omega); omega
      · rename_i g; rw [if_neg g] at h; exact absurd rfl h
    · simp only [stM, List.mem_map] at ha
      obtain ⟨e, _, rfl⟩ := ha
      unfold arM
      have := pkR_bd e.2.2.1 10 (by omega)
      simp only
      omega
theorem cheap_sh {l : List St} {d : Int} (h : CheapL l) : CheapL (l.map (fun s => shS d s.1 [] s)) := fun s hs => by
  rw [List.mem_map] at hs
  obtain ⟨t, ht, rfl⟩ := hs
  refine ⟨(h t ht).1, fun a ha => ?_⟩
  simp only [shS, List.append_nil, List.mem_map] at ha
  obtain ⟨b, hb, rfl⟩ := ha
  exact (h t ht).2 b hb
theorem cheap_hop (z d x : Int) (hx : x ≤ 1000) : ∀ a ∈ hopA z d x, a.2.2.1 ≤ 1000 := fun a ha => by
  unfold hopA at ha
  split at ha
  · simp at ha
  · simp at ha
    subst ha
    exact hx
theorem cheap_append {l r : List St} (h : CheapL l) (k : CheapL r) : CheapL (l ++ r) := fun s hs => by
  rcases List.mem_append.1 hs with g | g
  · exact h s g
  · exact k s g
theorem cheap_cons {s : St} {l : List St} (hs : (s.1 ≠ 1000000001 → s.1 ≤ 1000) ∧ ∀ a ∈ s.2, a.2.2.1 ≤ 1000) (h : CheapL l) : CheapL (s :: l) := fun t ht => by
  rcases List.mem_cons.1 ht with rfl | g
  · exact hs
  · exact h t g
theorem uni_cheap {a b : Mc} (ha : CheapL a.2) (hb : CheapL b.2) : CheapL (uniM a b).2 := by
  refine cheap_cons ⟨fun h => absurd rfl h, fun e he => ?_⟩ (cheap_append (cheap_sh ha) (cheap_sh hb))
  rcases List.mem_append.1 he with g | g
  · exact cheap_hop _ _ _ (by omega) e g
  · exact cheap_hop _ _ _ (by omega) e g
theorem cheap_end {l : List St} {d z e : Int} (h : CheapL l) : CheapL (l.map (fun s => shS d 1000000001 (endA s.1 z e) s)) := fun s hs => by
  rw [List.mem_map] at hs
  obtain ⟨t, ht, rfl⟩ := hs
  refine ⟨fun g => absurd rfl g, fun a ha => ?_⟩
  simp only [shS] at ha
  rcases List.mem_append.1 ha with g | g
  · rw [List.mem_map] at g
    obtain ⟨b, hb, rfl⟩ := g
    exact (h t ht).2 b hb
  · unfold endA at g
    split at g
    · simp at g
    · rename_i hne
      exact cheap_hop _ _ _ ((h t ht).1 hne) a g
theorem cat_cheap {a b : Mc} (ha : CheapL a.2) (hb : CheapL b.2) : CheapL (catM a b).2 := cheap_append (cheap_end ha) (cheap_sh hb)
theorem sta_cheap {a : Mc} (ha : CheapL a.2) : CheapL (staM a).2 := cheap_cons ⟨fun _ => by simp, cheap_hop _ _ _ (by omega)⟩ (cheap_end ha)
theorem tu_cheap {k : Int} {a : Mc} (ha : CheapL a.2) : CheapL (tuM k a).2 := fun s hs => by
  simp only [tuM, List.mem_map] at hs
  obtain ⟨t, ht, rfl⟩ := hs
  refine ⟨(ha t ht).1, fun e he => ?_⟩
  simp only [tuS, List.mem_map] at he
  obtain ⟨b, hb, rfl⟩ := he
  have := (ha t ht).2 b hb
  unfold tuA
  simpa using this
theorem into_cheap {l : List St} {t : Nat} (h : CheapL l) : ∀ k, k ≤ l.length → ∀ a ∈ intoL l t k, a.2.2.1 ≤ 1000
  | 0, _, a, ha => by simp [intoL] at ha
  | k + 1, hk, a, ha => by
    simp only [intoL, List.mem_append] at ha
    rcases ha with g | g
    · exact into_cheap h k (by omega) a g
    · simp only [intoA, List.mem_map, List.mem_filter] at g
      obtain ⟨b, ⟨hb, _⟩, rfl⟩ := g
      exact (h _ (el_mem (by omega))).2 b hb
theorem first_cheap {l : List St} (h : CheapL l) : ∀ k, k ≤ l.length → ∀ a ∈ firstL l k, a.2.2.1 ≤ 1000
  | 0, _, a, ha => by simp [firstL] at ha
  | k + 1, hk, a, ha => by
    simp only [firstL, List.mem_append] at ha
    rcases ha with g | g
    · exact first_cheap h k (by omega) a g
    · split at g
      · simp at g
      · rename_i hne
        simp at g
        subst g
        exact (h _ (el_mem (by omega))).1 hne
theorem rev_cheap {m : Mc} (h : CheapL m.2) : CheapL (revM m).2 := by
  refine cheap_cons ⟨fun g => absurd rfl g, first_cheap h _ (Nat.le_refl _)⟩ fun s hs => ?_
  rw [List.mem_map] at hs
  obtain ⟨q, _, rfl⟩ := hs
  refine ⟨fun g => ?_, into_cheap h _ (Nat.le_refl _)⟩
  unfold revS at g ⊢
  simp only at g ⊢
  split
  · omega
  · rename_i e; rw [if_neg e] at g; exact absurd rfl g
theorem wrd_rev {l : List Int} (h : wrdE l = 0) : wrdE l.reverse = 0 := by
  obtain ⟨h1, h2⟩ := wrd_parts h
  refine wrd_12 (by simpa using h1) fun n hn => ?_
  rw [List.mem_reverse] at hn
  obtain ⟨i, hi, e⟩ := List.getElem_of_mem hn
  have := h2 i hi
  rw [el_get hi, e] at this
  exact this
end Go.Proofs.YtfekmlblldhieaaDoor.Pl
namespace Go.Proofs.YtfekmlblldhieaaDoor.Pl
set_option linter.unusedVariables false
set_option linter.unusedSimpArgs false
/-- Both costs together. -/
def bothI (a b : Int) : Int := if a = 1000000001 ∨ b = 1000000001 then 1000000001 else a + b
/-- The least of what is told of the pairs in S. -/
def MinOf (S : Nat → Nat → Prop) (g : Nat → Nat → Int) (v : Int) : Prop := (v = 1000000001 ∨ ∃ i j, S i j ∧ v = g i j) ∧ v ≤ 1000000001 ∧ ∀ i j, S i j → v ≤ g i j
theorem MinOf.none {S : Nat → Nat → Prop} {g : Nat → Nat → Int} (h : ∀ i j, ¬ S i j) : MinOf S g 1000000001 := ⟨.inl rfl, by omega, fun i j hs => absurd hs (h i j)⟩
theorem MinOf.same {S T : Nat → Nat → Prop} {g : Nat → Nat → Int} {v : Int} (h : MinOf S g v) (e : ∀ i j, S i j ↔ T i j) : MinOf T g v := by
  have : S = T := funext fun i => funext fun j => propext (e i j)
  rwa [← this]
theorem MinOf.more {S T : Nat → Nat → Prop} {g : Nat → Nat → Int} {v : Int} (h : MinOf S g v) {i j : Nat} (e : ∀ i' j', T i' j' ↔ S i' j' ∨ (i' = i ∧ j' = j)) : MinOf T g (min v (g i j)) := by
  obtain ⟨h1, h2, h3⟩ := h
  refine ⟨?_, by omega, fun i' j' ht => ?_⟩
  · by_cases hl : v ≤ g i j
    · rw [Int.min_eq_left hl]
      rcases h1 with h1 | ⟨a, b, hs, he⟩
      · exact .inl h1
      · exact .inr ⟨a, b, (e a b).2 (.inl hs), he⟩
    · rw [Int.min_eq_right (by omega)]
      exact .inr ⟨i, j, (e i j).2 (.inr ⟨rfl, rfl⟩), rfl⟩
  · rcases (e i' j').1 ht with hs | ⟨rfl, rfl⟩
    · have := h3 i' j' hs
      omega
    · omega
theorem CstIs.range {P : Nat → Prop} {n : Int} (h : CstIs P n) : 0 ≤ n ∧ n ≤ 1000000001 := by
  rcases h with ⟨rfl, _⟩ | ⟨c, _, _, rfl⟩ <;> omega
theorem CstIs.inf {P : Nat → Prop} {n : Int} (h : CstIs P n) (hn : n ≠ 1000000001) : P n.toNat ∧ n ≤ 100000000 := by
  rcases h with ⟨rfl, _⟩ | ⟨c, hc, hb, rfl⟩
  · exact absurd rfl hn
  · rw [Int.toNat_natCast]; exact ⟨hc.1, by omega⟩
theorem CstIs.low {P : Nat → Prop} {n : Int} (h : CstIs P n) {c : Nat} (hc : P c) : n ≠ 1000000001 ∧ n ≤ (c : Int) := by
  rcases h with ⟨_, h⟩ | ⟨d, hd, hb, rfl⟩
  · exact absurd hc (h c)
  · have := hd.2 c hc; omega
/-- The best cut is what all together cost. -/
theorem best_cut {P1 P2 : Nat → Nat → Nat → Prop} {R : Nat → Prop} {A B : Nat → Nat → Int} {S : Nat → Nat → Prop} {n v : Int} (hA : ∀ i j, S i j → CstIs (P1 i j) (A i j)) (hB : ∀ i j, S i j → CstIs (P2 i j) (B i j))
    (h1 : ∀ i j c1 c2, S i j → P1 i j c1 → P2 i j c2 → R (c1 + c2)) (h2 : ∀ c, R c → ∃ i j c1 c2, S i j ∧ P1 i j c1 ∧ P2 i j c2 ∧ c1 + c2 ≤ c) (hn : CstIs R n) (hv : MinOf S (fun i j => bothI (A i j) (B i j)) v) : n = v := by
  obtain ⟨v1, v2, v3⟩ := hv
  simp only at v1 v3
  have fin : ∀ i j, S i j → bothI (A i j) (B i j) ≠ 1000000001 → ∃ c : Nat, R c ∧ bothI (A i j) (B i j) = (c : Int) := fun i j hs hne => by
    unfold bothI at hne ⊢
    by_cases h : A i j = 1000000001 ∨ B i j = 1000000001
    · rw [if_pos h] at hne; exact absurd rfl hne
    · rw [if_neg h]
      have ha := (hA i j hs).inf (fun e => h (.inl e))
      have hb := (hB i j hs).inf (fun e => h (.inr e))
      have r1 := (hA i j hs).range
      have r2 := (hB i j hs).range
      exact ⟨_, h1 i j _ _ hs ha.1 hb.1, by omega⟩
  have low : ∀ c, R c → v ≤ (c : Int) := fun c hc => by
    obtain ⟨i, j, c1, c2, hs, p1, p2, hle⟩ := h2 c hc
    have ha := (hA i j hs).low p1
    have hb := (hB i j hs).low p2
    have h3 := v3 i j hs
    unfold bothI at h3
    rw [if_neg (fun h => h.elim ha.1 hb.1)] at h3
    omega
  rcases hn with ⟨rfl, hn⟩ | ⟨c, hc, hb, rfl⟩
  · rcases v1 with rfl | ⟨i, j, hs, hv⟩
    · rfl
    · by_cases h : bothI (A i j) (B i j) = 1000000001
      · rw [hv, h]
      · obtain ⟨d, hd, _⟩ := fin i j hs h
        exact absurd hd (hn d)
  · have hle := low c hc.1
    rcases v1 with rfl | ⟨i, j, hs, hv⟩
    · omega
    · by_cases h : bothI (A i j) (B i j) = 1000000001
      · omega
      · obtain ⟨d, hd, he⟩ := fin i j hs h
        have := hc.2 d hd
        omega
/-- A cost is always told. -/
theorem cst_exists {P : Nat → Prop} (hb : ∀ c, P c → ∃ d, d ≤ 100000000 ∧ P d) : ∃ n, CstIs P n := by
  by_cases h : ∃ c, P c
  · obtain ⟨c, hc⟩ := h
    have key : ∀ k, (∃ d, d ≤ k ∧ P d) → ∃ c, LeastP P c ∧ c ≤ k := by
      intro k
      induction k with
      | zero =>
        rintro ⟨d, hd, hp⟩
        obtain rfl : d = 0 := by omega
        exact ⟨0, ⟨hp, fun _ _ => Nat.zero_le _⟩, Nat.le_refl _⟩
      | succ k ih =>
        rintro ⟨d, hd, hp⟩
        by_cases g : ∃ d, d ≤ k ∧ P d
        · obtain ⟨c, h1, h2⟩ := ih g
          exact ⟨c, h1, by omega⟩
        · have hdk : d = k + 1 := by
            by_cases e : d ≤ k
            · exact absurd ⟨d, e, hp⟩ g
            · omega
          subst hdk
          refine ⟨k + 1, ⟨hp, fun e he => ?_⟩, Nat.le_refl _⟩
          by_cases g2 : e ≤ k
          · exact absurd ⟨e, g2, he⟩ g
          · omega
    obtain ⟨c, h1, h2⟩ := key 100000000 (hb c hc)
    exact ⟨_, .inr ⟨c, h1, h2, rfl⟩⟩
  · exact ⟨_, .inl ⟨rfl, fun c hc => h ⟨c, hc⟩⟩⟩
/-- All pairs up to one of them, row by row. -/
def Upto (Y : Nat) (i j i' j' : Nat) : Prop := i' < i ∧ j' ≤ Y ∨ i' = i ∧ j' < j
theorem upto_step {Y i j : Nat} (i' j' : Nat) : Upto Y i (j + 1) i' j' ↔ Upto Y i j i' j' ∨ (i' = i ∧ j' = j) := by unfold Upto; omega
theorem upto_row {Y i : Nat} (i' j' : Nat) : Upto Y i (Y + 1) i' j' ↔ Upto Y (i + 1) 0 i' j' := by unfold Upto; omega
/-- Cuts of two words. -/
theorem cut_all {a b : Mc} (ta : ToIn a.2) (tb : ToIn b.2) (sa : a.1 < (a.2.length : Int)) (sb : b.1 < (b.2.length : Int)) (x y : List Int) :
    (∀ i j c1 c2, i ≤ x.length ∧ j ≤ y.length → Costs a (x.take i) (y.take j) c1 → Costs b (x.drop i) (y.drop j) c2 → Costs (catM a b) x y (c1 + c2)) ∧
    (∀ c, Costs (catM a b) x y c → ∃ i j c1 c2, (i ≤ x.length ∧ j ≤ y.length) ∧ Costs a (x.take i) (y.take j) c1 ∧ Costs b (x.drop i) (y.drop j) c2 ∧ c1 + c2 ≤ c) := by
  refine ⟨fun i j c1 c2 _ h1 h2 => (costs_cat ta tb sa sb x y _).2 ⟨_, _, _, _, c1, c2, (List.take_append_drop i x).symm, (List.take_append_drop j y).symm, h1, h2, rfl⟩, fun c h => ?_⟩
  obtain ⟨x1, x2, y1, y2, c1, c2, rfl, rfl, h1, h2, rfl⟩ := (costs_cat ta tb sa sb x y c).1 h
  exact ⟨x1.length, y1.length, c1, c2, ⟨by simp, by simp⟩, by simpa using h1, by simpa using h2, Nat.le_refl _⟩
theorem Stc.cons {a : Mc} {x' y' : List Int} {d : Nat} (k : Costs a x' y' d) {x y : List Int} {c : Nat} (h : Stc a x y c) : Stc a (x' ++ x) (y' ++ y) (d + c) := by
  induction h with
  | nil => simpa using Stc.snoc Stc.nil k
  | snoc h k' ih =>
    have := Stc.snoc ih k'
    rwa [List.append_assoc, List.append_assoc, Nat.add_assoc] at this
theorem Stc.first {a : Mc} {x y : List Int} {c : Nat} (h : Stc a x y c) : (x = [] ∧ y = []) ∨ ∃ x1 y1 c1 x2 y2 c2, 0 < x1.length + y1.length ∧ Costs a x1 y1 c1 ∧ Stc a x2 y2 c2 ∧ x = x1 ++ x2 ∧ y = y1 ++ y2 ∧ c1 + c2 ≤ c := by
  induction h with
  | nil => exact .inl ⟨rfl, rfl⟩
  | snoc h k ih =>
    rename_i x y x' y' c d
    rcases ih with ⟨rfl, rfl⟩ | ⟨x1, y1, c1, x2, y2, c2, h0, h1, h2, rfl, rfl, hle⟩
    · by_cases g : 0 < x'.length + y'.length
      · exact .inr ⟨x', y', d, [], [], 0, g, k, Stc.nil, by simp, by simp, by omega⟩
      · have e1 : x' = [] := List.eq_nil_of_length_eq_zero (by omega)
        have e2 : y' = [] := List.eq_nil_of_length_eq_zero (by omega)
        subst e1 e2
        exact .inl ⟨rfl, rfl⟩
    · exact .inr ⟨x1, y1, c1, x2 ++ x', y2 ++ y', c2 + d, h0, h1, Stc.snoc h2 k, by simp, by simp, by omega⟩
theorem cut_star {a : Mc} (ta : ToIn a.2) (sa : a.1 < (a.2.length : Int)) (x y : List Int) (hne : 0 < x.length + y.length) :
    (∀ i j c1 c2, (i ≤ x.length ∧ j ≤ y.length) ∧ 0 < i + j → Costs a (x.take i) (y.take j) c1 → Costs (staM a) (x.drop i) (y.drop j) c2 → Costs (staM a) x y (c1 + c2)) ∧
    (∀ c, Costs (staM a) x y c → ∃ i j c1 c2, ((i ≤ x.length ∧ j ≤ y.length) ∧ 0 < i + j) ∧ Costs a (x.take i) (y.take j) c1 ∧ Costs (staM a) (x.drop i) (y.drop j) c2 ∧ c1 + c2 ≤ c) := by
  refine ⟨fun i j c1 c2 _ h1 h2 => (costs_sta ta sa x y _).2 ?_, fun c h => ?_⟩
  · have := Stc.cons h1 ((costs_sta ta sa _ _ _).1 h2)
    rwa [List.take_append_drop, List.take_append_drop] at this
  · rcases ((costs_sta ta sa x y c).1 h).first with ⟨rfl, rfl⟩ | ⟨x1, y1, c1, x2, y2, c2, h0, h1, h2, rfl, rfl, hle⟩
    · simp at hne
    · exact ⟨x1.length, y1.length, c1, c2, ⟨⟨by simp, by simp⟩, h0⟩, by simpa using h1, by simpa using (costs_sta ta sa _ _ _).2 h2, hle⟩
theorem star_nil {a : Mc} (ta : ToIn a.2) (sa : a.1 < (a.2.length : Int)) {n : Int} (h : CstIs (Costs (staM a) [] []) n) : n = 0 := by
  have h1 := h.low ((costs_sta ta sa [] [] 0).2 Stc.nil)
  have h2 := h.range
  omega
end Go.Proofs.YtfekmlblldhieaaDoor.Pl
namespace Go.Proofs.YtfekmlblldhieaaDoor.Pl
/-- Holds at Start, and is handed on along arcs. -/
def AheadC (z : Int) (l : List St) (T : Nat → Prop) : Prop := (∀ q, q < l.length → (q : Int) = z → T q) ∧ ∀ q, q < l.length → T q → ∀ a ∈ (el l q).2, T a.2.2.2.toNat
/-- Holds where a state may end, and is handed back along arcs. -/
def BackC (l : List St) (T : Nat → Prop) : Prop := (∀ q, q < l.length → (el l q).1 ≠ 1000000001 → T q) ∧ ∀ q, q < l.length → ∀ a ∈ (el l q).2, T a.2.2.2.toNat → T q
/-- The least such set, as a list. -/
def Least (C : (Nat → Prop) → Prop) (n : Nat) (bs : List Bool) : Prop := bs.length = n ∧ C (fun q => el bs q = true) ∧ ∀ T, C T → ∀ q, q < n → el bs q = true → T q
theorem Least.one {C : (Nat → Prop) → Prop} {n : Nat} {a b : List Bool} (ha : Least C n a) (hb : Least C n b) : a = b := by
  apply el_ext (by rw [ha.1, hb.1])
  intro j hj
  have hj' : j < n := by rw [ha.1] at hj; exact hj
  have h1 := ha.2.2 _ hb.2.1 j hj'
  have h2 := hb.2.2 _ ha.2.1 j hj'
  rw [Bool.eq_iff_iff]
  exact ⟨h1, h2⟩
def leL (a b : List Bool) : Prop := a.length = b.length ∧ ∀ j, j < a.length → el a j = true → el b j = true
theorem leL.refl (a : List Bool) : leL a a := ⟨rfl, fun _ _ h => h⟩
theorem leL.trans {a b c : List Bool} (h : leL a b) (k : leL b c) : leL a c := ⟨h.1.trans k.1, fun j hj e => k.2 j (by rw [← h.1]; exact hj) (h.2 j hj e)⟩
theorem el_setB {l : List Bool} {q j : Nat} (hq : q < l.length) : el (l.set q true) j = if j = q then true else el l j := by
  by_cases h : j = q
  · subst h; rw [if_pos rfl, el_get (by simpa using hq)]; simp
  · rw [if_neg h]; simp [el, List.getElem?_set_ne (Ne.symm h)]
theorem leL.set (a : List Bool) {q : Nat} (hq : q < a.length) : leL a (a.set q true) := by
  refine ⟨by simp, fun j hj h => ?_⟩
  rw [el_setB hq]
  split
  · rfl
  · exact h
theorem leL.same {a b : List Bool} (h : leL a b) (k : leL b a) : a = b := by
  apply el_ext h.1
  intro j hj
  rw [Bool.eq_iff_iff]
  exact ⟨h.2 j hj, k.2 j (by rw [← h.1]; exact hj)⟩
theorem count_mono {a b : List Bool} (h : leL a b) : a.count true ≤ b.count true := by
  induction a generalizing b with
  | nil => simp
  | cons x a ih =>
    cases b with
    | nil => simp [leL] at h
    | cons y b =>
      have h0 := h.2 0 (by simp)
      rw [el_zero, el_zero] at h0
      have := ih (b := b) ⟨by simpa using h.1, fun j hj e => by have := h.2 (j + 1) (by simpa using hj); rw [el_succ, el_succ] at this; exact this e⟩
      simp only [List.count_cons]
      cases x <;> cases y <;> simp_all <;> omega
theorem count_lt {a b : List Bool} (h : leL a b) (hne : a ≠ b) : a.count true < b.count true := by
  induction a generalizing b with
  | nil =>
    cases b with
    | nil => exact absurd rfl hne
    | cons y b => simp [leL] at h
  | cons x a ih =>
    cases b with
    | nil => simp [leL] at h
    | cons y b =>
      have h0 := h.2 0 (by simp)
      rw [el_zero, el_zero] at h0
      have ht : leL a b := ⟨by simpa using h.1, fun j hj e => by have := h.2 (j + 1) (by simpa using hj); rw [el_succ, el_succ] at this; exact this e⟩
      have hm := count_mono ht
      simp only [List.count_cons]
      by_cases hxy : x = y
      · subst hxy
        have := ih ht (fun e => hne (by rw [e]))
        omega
      · cases x <;> cases y <;> simp_all <;> omega
/-- Once round: b0 ahead of it, bs behind it; 'chk' is so up to where it went, as long as nothing was new. -/
structure Pass (C : (Nat → Prop) → Prop) (n : Nat) (b0 bs : List Bool) (chk : Prop) : Prop where
  len : bs.length = n
  le : leL b0 bs
  sound : ∀ T, C T → ∀ q, q < n → el bs q = true → T q
  chk : bs = b0 → chk
theorem Pass.set {C : (Nat → Prop) → Prop} {n q : Nat} {b0 bs : List Bool} {chk chk' : Prop} (h : Pass C n b0 bs chk) (hq : q < n) (hs : ∀ T, C T → T q) (hc : el b0 q = true → chk → chk') : Pass C n b0 (bs.set q true) chk' := by
  refine ⟨by simpa using h.len, h.le.trans (leL.set bs (by rw [h.len]; exact hq)), fun T hT j hj e => ?_, fun e => ?_⟩
  · rw [el_setB (by rw [h.len]; exact hq)] at e
    split at e
    · rename_i hjq; subst hjq; exact hs T hT
    · exact h.sound T hT j hj e
  · have h1 : el b0 q = true := by rw [← e, el_setB (by rw [h.len]; exact hq), if_pos rfl]
    have h2 : bs = b0 := h.le.same ⟨h.le.1.symm, fun j hj e' => by
      have := leL.set bs (q := q) (by rw [h.len]; exact hq)
      have := this.2 j hj e'
      rwa [e] at this⟩ |>.symm
    exact hc h1 (h.chk h2)
theorem Pass.keep {C : (Nat → Prop) → Prop} {n : Nat} {b0 bs : List Bool} {chk chk' : Prop} (h : Pass C n b0 bs chk) (hc : bs = b0 → chk → chk') : Pass C n b0 bs chk' := ⟨h.len, h.le, h.sound, fun e => hc e (h.chk e)⟩
/-- Rounds: closed, or each round has found one more. -/
structure Rounds (C : (Nat → Prop) → Prop) (n k : Nat) (bs : List Bool) : Prop where
  len : bs.length = n
  sound : ∀ T, C T → ∀ q, q < n → el bs q = true → T q
  more : C (fun q => el bs q = true) ∨ k ≤ bs.count true
theorem Rounds.begin {C : (Nat → Prop) → Prop} {n k : Nat} {bs : List Bool} (h : Rounds C n k bs) {chk : Prop} (hc : chk) : Pass C n bs bs chk := ⟨h.len, leL.refl _, h.sound, fun _ => hc⟩
theorem Rounds.next {C : (Nat → Prop) → Prop} {n k : Nat} {b0 bs : List Bool} {chk : Prop} (h : Rounds C n k b0) (p : Pass C n b0 bs chk) (hc : chk → C (fun q => el b0 q = true)) : Rounds C n (k + 1) bs := by
  refine ⟨p.len, p.sound, ?_⟩
  by_cases e : bs = b0
  · rw [e]; exact .inl (hc (p.chk e))
  · rcases h.more with hcl | hk
    · exact absurd (p.le.same ⟨p.le.1.symm, fun j hj e' => p.sound _ hcl j (by rw [p.len] at hj; exact hj) e'⟩).symm e
    · have := count_lt p.le (fun e' => e e'.symm)
      exact .inr (by omega)
theorem Rounds.least {C : (Nat → Prop) → Prop} {n : Nat} {bs : List Bool} (h : Rounds C n (n + 1) bs) : Least C n bs := by
  refine ⟨h.len, ?_, h.sound⟩
  rcases h.more with hc | hk
  · exact hc
  · have := List.count_le_length (a := true) (l := bs)
    rw [h.len] at this
    omega
theorem el_false {n j : Nat} : el (List.replicate n false) j = false := by
  unfold el
  rw [List.getElem?_replicate]
  split <;> rfl
theorem Rounds.start (C : (Nat → Prop) → Prop) (n : Nat) : Rounds C n 0 (List.replicate n false) := ⟨by simp, fun T _ q _ e => absurd e (by rw [el_false]; simp), .inr (Nat.zero_le _)⟩
end Go.Proofs.YtfekmlblldhieaaDoor.Pl
