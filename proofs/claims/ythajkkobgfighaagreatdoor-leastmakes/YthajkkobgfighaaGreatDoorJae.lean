/- What a machine costs for words: ways, the least of them (no program in sight). -/
import Derived.Test.YthajkkobgfighaaGreatDoorJad
import Derived.Test.YthajkkobgfighaaGreatDoorJaa
namespace Go.Proofs.YthajkkobgfighaaGreatDoor.Pl
set_option linter.unusedVariables false
set_option linter.unusedSimpArgs false
def lab (a : Int) : List Int := if a = 0 then [] else [a]
inductive Way (l : List St) (q : Nat) : List Int → List Int → Nat → Nat → Prop
 | nil : Way l q [] [] q 0
 | snoc {u v : List Int} {p c : Nat} (h : Way l q u v p c) {a : Ar} (ha : a ∈ (el l p).2) {t : Nat} (ht : a.2.2.2 = (t : Int)) : Way l q (u ++ lab a.1) (v ++ lab a.2.1) t (c + a.2.2.1.toNat)
theorem Way.trans {l : List St} {q p r c d : Nat} {u v u' v' : List Int} (h : Way l q u v p c) (k : Way l p u' v' r d) : Way l q (u ++ u') (v ++ v') r (c + d) := by
  induction k with
  | nil => simpa using h
  | snoc k ha ht ih =>
    have := Way.snoc ih ha ht
    rwa [List.append_assoc, List.append_assoc, Nat.add_assoc] at this
theorem Way.cons {l : List St} {q t p c : Nat} {u v : List Int} {a : Ar} (ha : a ∈ (el l q).2) (ht : a.2.2.2 = (t : Int)) (h : Way l t u v p c) : Way l q (lab a.1 ++ u) (lab a.2.1 ++ v) p (a.2.2.1.toNat + c) := by
 have h1 := Way.snoc (Way.nil (l := l) (q := q)) ha ht
 have := h1.trans h
 simpa using this
theorem Way.first {l : List St} {q p c : Nat} {u v : List Int} (h : Way l q u v p c) :
    (u = [] ∧ v = [] ∧ p = q ∧ c = 0) ∨ ∃ a ∈ (el l q).2, ∃ (t : Nat) (u' v' : List Int) (c' : Nat), a.2.2.2 = (t : Int) ∧ Way l t u' v' p c' ∧ u = lab a.1 ++ u' ∧ v = lab a.2.1 ++ v' ∧ c = a.2.2.1.toNat + c' := by
  induction h with
  | nil => exact .inl ⟨rfl, rfl, rfl, rfl⟩
  | snoc h ha ht ih =>
    rename_i u v p c a t
    rcases ih with ⟨rfl, rfl, rfl, rfl⟩ | ⟨b, hb, s, u', v', c', hs, hw, rfl, rfl, rfl⟩
    · exact .inr ⟨a, ha, t, [], [], 0, ht, .nil, by simp, by simp, by simp⟩
    · exact .inr ⟨b, hb, s, u' ++ lab a.1, v' ++ lab a.2.1, c' + a.2.2.1.toNat, hs, hw.snoc ha ht, by simp, by simp, by omega⟩
def LeastP (P : Nat → Prop) (c : Nat) : Prop := P c ∧ ∀ d, P d → c ≤ d
theorem LeastP.one {P : Nat → Prop} {c d : Nat} (h : LeastP P c) (k : LeastP P d) : c = d := Nat.le_antisymm (h.2 d k.1) (k.2 c h.1)
def WghAns (P : Nat → Prop) (n e : Int) : Prop := ((∀ c, ¬ P c) ∧ n = 1000000001 ∧ e = 0) ∨ ∃ c : Nat, LeastP P c ∧ ((c ≤ 1000000000 ∧ n = (c : Int) ∧ e = 0) ∨ (1000000000 < c ∧ n = 0 ∧ e = 4))
theorem WghAns.one {P : Nat → Prop} {n e n' e' : Int} (h : WghAns P n e) (k : WghAns P n' e') : n = n' ∧ e = e' := by
 rcases h with ⟨h, rfl, rfl⟩ | ⟨c, hc, h⟩
 ·rcases k with ⟨k, rfl, rfl⟩ | ⟨d, hd, _⟩
  ·exact ⟨rfl, rfl⟩
  ·exact absurd hd.1 (h d)
 ·rcases k with ⟨k, _⟩ | ⟨d, hd, k⟩
  ·exact absurd hc.1 (k c)
  ·have := hc.one hd
   subst this
   rcases h with ⟨h1, rfl, rfl⟩ | ⟨h1, rfl, rfl⟩ <;> rcases k with ⟨k1, rfl, rfl⟩ | ⟨k1, rfl, rfl⟩ <;> first | exact ⟨rfl, rfl⟩ | omega
theorem WghAns.congr {P Q : Nat → Prop} (hPQ : ∀ c, P c ↔ Q c) {n e : Int} (h : WghAns P n e) : WghAns Q n e := by
 have : P = Q := funext fun c => propext (hPQ c)
 rwa [← this]
section
variable {E : Nat → Nat → Nat → Prop} {s : Nat}
inductive Run (E : Nat → Nat → Nat → Prop) (s : Nat) : Nat → Nat → Nat → Prop
 | nil : Run E s 0 s 0
 | step {n k c w j : Nat} (h : Run E s n k c) (e : E k w j) : Run E s (n + 1) j (c + w)
theorem Run.least {T : Nat → Nat} {B n k c : Nat} (h : Run E s n k c) (h0 : T s = 0) (hB : ∀ k, T k ≤ B) (hc : ∀ k w j, T k < B → E k w j → T j ≤ T k + w) : T k ≤ c := by
  induction h with
  | nil => omega
  | step h e ih =>
    rename_i n k c w j
    by_cases hk : T k < B
    · have := hc k w j hk e
      omega
    · have := hB j
      omega
theorem Run.cost {W n k c : Nat} (h : Run E s n k c) (hW : ∀ k w j, E k w j → w ≤ W) : c ≤ n * W := by
  induction h with
  | nil => simp
  | step h e ih =>
    have := hW _ _ _ e
    rw [Nat.add_mul]
    omega
theorem Run.trans {n k c m j d : Nat} (h : Run E s n k c) (g : Run E k m j d) : Run E s (n + m) j (c + d) := by
 induction g with
 | nil => exact h
 | step g e ih => rw [← Nat.add_assoc, ← Nat.add_assoc]; exact ih.step e
theorem Run.places {n k c : Nat} (h : Run E s n k c) : ∃ f : Nat → Nat, f 0 = s ∧ f n = k ∧ (∀ i, i ≤ n → ∃ d, Run E s i (f i) d ∧ ∃ d', Run E (f i) (n - i) k d') := by
  induction h with
  | nil => exact ⟨fun _ => s, rfl, rfl, fun i hi => ⟨0, by rw [show i = 0 by omega]; exact .nil, 0, by rw [show i = 0 by omega]; exact .nil⟩⟩
  | step h e ih =>
    rename_i n k c w j
    obtain ⟨f, f0, fn, hf⟩ := ih
    refine ⟨fun i => if i ≤ n then f i else j, by simp [f0], if_neg (by omega), fun i hi => ?_⟩
    by_cases g : i ≤ n
    · simp only [g, if_true]
      obtain ⟨d, h1, d', h2⟩ := hf i g
      refine ⟨d, h1, d' + w, ?_⟩
      have := h2.step e
      rwa [show n - i + 1 = n + 1 - i by omega] at this
    · obtain rfl : i = n + 1 := by omega
      simp only [g, if_false]
      exact ⟨c + w, h.step e, 0, by rw [Nat.sub_self]; exact .nil⟩
theorem twice {f : Nat → Nat} {n N : Nat} (hf : ∀ i, i ≤ n → f i < N) (hn : N ≤ n) : ∃ i j, i < j ∧ j ≤ n ∧ f i = f j := by
 by_cases h : ∃ i j, i < j ∧ j ≤ n ∧ f i = f j
 ·exact h
 ·exfalso
  have hnd : ((List.range (n + 1)).map f).Nodup := by
   unfold List.Nodup
   rw [List.pairwise_map]
   refine List.Pairwise.imp_of_mem ?_ (List.pairwise_lt_range (n := n + 1))
   intro a b ha hb hab e
   rw [List.mem_range] at hb
   exact h ⟨a, b, hab, by omega, e⟩
  have := pigeon N _ hnd (fun x hx => by
   rw [List.mem_map] at hx
   obtain ⟨i, hi, rfl⟩ := hx
   rw [List.mem_range] at hi
   exact hf i (by omega))
  simp at this
  omega
theorem Run.short {N : Nat} (hs : s < N) (hE : ∀ k w j, E k w j → j < N) : ∀ {n k c : Nat}, Run E s n k c → ∃ m d, m < N ∧ Run E s m k d := by
  have key : ∀ b n k c, n < b → Run E s n k c → ∃ m d, m < N ∧ Run E s m k d := by
    intro b
    induction b with
    | zero => intro n k c hn; omega
    | succ b ih =>
      intro n k c hn h
      by_cases g : n < N
      · exact ⟨n, c, g, h⟩
      · obtain ⟨f, f0, fn, hf⟩ := h.places
        have hin : ∀ i, i ≤ n → f i < N := fun i hi => by
          obtain ⟨d, h1, _⟩ := hf i hi
          generalize f i = y at h1
          cases h1 with
          | nil => exact hs
          | step _ e => exact hE _ _ _ e
        obtain ⟨i, j, hij, hj, e⟩ := twice hin (by omega)
        obtain ⟨d, h1, _⟩ := hf i (by omega)
        obtain ⟨_, _, d', h2⟩ := hf j hj
        rw [← e] at h2
        exact ih _ _ _ (by omega) (h1.trans h2)
  exact fun {n k c} h => key (n + 1) n k c (by omega) h
theorem table_told {T : Nat → Nat} {B N W : Nat} (hs : s < N) (hE : ∀ k w j, E k w j → j < N ∧ w ≤ W) (hNW : N * W < B) (h0 : T s = 0) (hB : ∀ k, T k ≤ B) (hc : ∀ k w j, T k < B → E k w j → T j ≤ T k + w) (hr : ∀ k, T k < B → ∃ n, Run E s n k (T k)) (k : Nat) :
  (T k < B ∧ LeastP (fun c => ∃ n, Run E s n k c) (T k)) ∨ (T k = B ∧ ∀ n c, ¬ Run E s n k c) := by
 by_cases h : T k < B
 ·exact .inl ⟨h, hr k h, fun d ⟨n, hd⟩ => hd.least h0 hB hc⟩
 ·refine .inr ⟨by have := hB k; omega, fun n c hk => h ?_⟩
  obtain ⟨m, d, hm, hd⟩ := hk.short hs (fun k w j e => (hE k w j e).1)
  have h1 := hd.cost (W := W) (fun k w j e => (hE k w j e).2)
  have h2 := hd.least h0 hB hc
  have h3 : m * W ≤ N * W := Nat.mul_le_mul_right _ (by omega)
  omega
end
theorem el_appendL {α : Type} [Inhabited α] {l k : List α} {i : Nat} (h : i < l.length) : el (l ++ k) i = el l i := by
 simp [el, List.getElem?_append_left h, h]
theorem el_appendE {α : Type} [Inhabited α] {l : List α} {x : α} : el (l ++ [x]) l.length = x := by
 simp [el]
theorem el_in {l : List St} {p : Nat} {a : Ar} (h : a ∈ (el l p).2) : p < l.length := by
 rcases Nat.lt_or_ge p l.length with g | g
 ·exact g
 ·have : el l p = default := by simp [el, g]
  rw [this] at h
  exact absurd h (by simp [default])
def empB (l : List St) : Bool := l.any fun s => s.2.any fun a => decide (a.1 = 0) && decide (a.2.1 = 0)
abbrev Hg (α : Type) := Int × Int × Int × α
section
variable {α : Type} [DecidableEq α]
def addG (L : List α) (t : α) : List α := if t ∈ L then L else L ++ [t]
def arcG (L : List α) (h : Hg α) : Ar := (h.1, h.2.1, h.2.2.1, (L.idxOf h.2.2.2 : Int))
def numH : List (Hg α) → List α → Nat → Int × List α × List Ar
 | [], L, _ => (0, L, [])
 | h :: hs, L, n => if 1000000000 < h.2.2.1 then (4, [], []) else if 400 < n + 1 ∨ 60 < (addG L h.2.2.2).length then (5, [], []) else ((numH hs (addG L h.2.2.2) (n + 1)).1, (numH hs (addG L h.2.2.2) (n + 1)).2.1, arcG L h :: (numH hs (addG L h.2.2.2) (n + 1)).2.2)
theorem addG_ext (L : List α) (t : α) : ∃ E, addG L t = L ++ E := by
 unfold addG
 split
 ·exact ⟨[], by simp⟩
 ·exact ⟨[t], rfl⟩
theorem addG_mem (L : List α) (t : α) : t ∈ addG L t := by
 unfold addG
 split
 ·assumption
 ·simp
theorem addG_nodup {L : List α} (h : L.Nodup) (t : α) : (addG L t).Nodup := by
 unfold addG
 split
 ·exact h
 ·rename_i g
  rw [List.nodup_append]
  refine ⟨h, by simp, fun x hx y hy e => ?_⟩
  simp only [List.mem_singleton] at hy
  exact g (by rw [← hy, ← e]; exact hx)
theorem addG_old {L : List α} {t : α} (h : t ∈ L) : addG L t = L := if_pos h
theorem addG_new {L : List α} {t : α} (h : t ∉ L) : addG L t = L ++ [t] := if_neg h
theorem addG_len (L : List α) (t : α) : L.length ≤ (addG L t).length ∧ (addG L t).length ≤ L.length + 1 := by
 unfold addG
 split
 ·omega
 ·simp
theorem idxG_ext {L E : List α} {t : α} (h : t ∈ L) : (L ++ E).idxOf t = L.idxOf t := by
 rw [List.idxOf_append, if_pos h]
theorem addG_idx (L : List α) (t : α) : (addG L t).idxOf t = L.idxOf t := by
 unfold addG
 split
 ·rfl
 ·rename_i g
  rw [List.idxOf_append, if_neg g, List.idxOf_eq_length g]
  simp
theorem idxG_new {L : List α} {t : α} (h : t ∉ L) : L.idxOf t = L.length := List.idxOf_eq_length h
theorem numH_facts (hs : List (Hg α)) : ∀ (L : List α) (n : Nat), L.Nodup → (numH hs L n).1 = 0 → (∃ E, (numH hs L n).2.1 = L ++ E) ∧ (numH hs L n).2.1.Nodup ∧ (∀ h ∈ hs, h.2.2.2 ∈ (numH hs L n).2.1 ∧ h.2.2.1 ≤ 1000000000) ∧ (numH hs L n).2.2 = hs.map (arcG (numH hs L n).2.1) ∧ (L.length ≤ 60 → (numH hs L n).2.1.length ≤ 60) ∧ (n ≤ 400 → n + hs.length ≤ 400) := by
  induction hs with
  | nil => intro L n h _; exact ⟨⟨[], by simp [numH]⟩, h, fun h hh => (by cases hh), rfl, fun h => h, fun h => h⟩
  | cons h hs ih =>
    intro L n hL h0
    simp only [numH] at h0 ⊢
    by_cases c1 : 1000000000 < h.2.2.1
    · rw [if_pos c1] at h0
      cases h0
    · rw [if_neg c1] at h0 ⊢
      by_cases c2 : 400 < n + 1 ∨ 60 < (addG L h.2.2.2).length
      · rw [if_pos c2] at h0
        cases h0
      · rw [if_neg c2] at h0 ⊢
        simp only at h0 ⊢
        obtain ⟨⟨E, e1⟩, h2, h3, h4, h5, h6⟩ := ih _ (n + 1) (addG_nodup hL h.2.2.2) h0
        obtain ⟨D, e2⟩ := addG_ext L h.2.2.2
        have hin : h.2.2.2 ∈ (numH hs (addG L h.2.2.2) (n + 1)).2.1 := by
          rw [e1]
          exact List.mem_append_left _ (addG_mem _ _)
        refine ⟨⟨D ++ E, by rw [e1, e2, List.append_assoc]⟩, h2, fun k hk => ?_, ?_, fun _ => h5 (by omega), fun _ => ?_⟩
        · rcases List.mem_cons.1 hk with rfl | hk
          · exact ⟨hin, by omega⟩
          · exact h3 k hk
        · simp only [List.map_cons]
          rw [h4]
          congr 1
          simp only [arcG]
          rw [e1, idxG_ext (addG_mem _ _), addG_idx]
        · have := h6 (by omega)
          simp only [List.length_cons]
          omega
theorem numH_led (hs : List (Hg α)) : ∀ (L : List α) (n : Nat), (numH hs L n).1 = 0 → ∀ t ∈ (numH hs L n).2.1, t ∈ L ∨ ∃ h ∈ hs, h.2.2.2 = t := by
  induction hs with
  | nil => intro L n _ t ht; exact .inl ht
  | cons h hs ih =>
    intro L n h0 t ht
    simp only [numH] at h0 ht
    by_cases c1 : 1000000000 < h.2.2.1
    · rw [if_pos c1] at h0
      cases h0
    · rw [if_neg c1] at h0 ht
      by_cases c2 : 400 < n + 1 ∨ 60 < (addG L h.2.2.2).length
      · rw [if_pos c2] at h0
        cases h0
      · rw [if_neg c2] at h0 ht
        rcases ih _ _ h0 t ht with g | ⟨k, hk, e⟩
        · by_cases m : h.2.2.2 ∈ L
          · rw [addG_old m] at g; exact .inl g
          · rw [addG_new m] at g
            rcases List.mem_append.1 g with g | g
            · exact .inl g
            · simp only [List.mem_singleton] at g
              exact .inr ⟨h, List.mem_cons_self, g.symm⟩
        · exact .inr ⟨k, List.mem_cons_of_mem _ hk, e⟩
end
section
variable {α : Type} [DecidableEq α] [Inhabited α]
variable (fin : α → Int × Int) (hops : α → List (Hg α))
def numS : Nat → Nat → List α → List St → Nat → Mc × Int
  | 0, _, _, _, _ => ((0, []), 5)
  | k + 1, q, L, S, n =>
    if q < L.length then
      if (fin (el L q)).2 ≠ 0 then ((0, []), (fin (el L q)).2)
      else if (numH (hops (el L q)) L n).1 ≠ 0 then ((0, []), (numH (hops (el L q)) L n).1)
      else numS k (q + 1) (numH (hops (el L q)) L n).2.1 (S ++ [((fin (el L q)).1, (numH (hops (el L q)) L n).2.2)]) (n + (hops (el L q)).length)
    else ((0, S), 0)
def numA (s0 : α) : Mc × Int := numS fin hops 61 0 [s0] [] 0
variable {fin} {hops}
theorem idxG_el {L : List α} (hn : L.Nodup) {k : Nat} (h : k < L.length) : L.idxOf (el L k) = k := by
  induction L generalizing k with
  | nil => simp at h
  | cons x L ih =>
    rw [List.nodup_cons] at hn
    cases k with
    | zero => simp [el]
    | succ k =>
      have hk : k < L.length := by simpa using h
      have e9 : el (x :: L) (k + 1) = el L k := by simp [el]
      have hne : ¬ x = el L k := fun e => hn.1 (by rw [e]; exact el_mem hk)
      rw [e9, List.idxOf_cons]
      have hb : (x == el L k) = false := by simpa using hne
      rw [hb, ih hn.2 hk]
      rfl
theorem el_idxG {L : List α} {t : α} (h : t ∈ L) : L.idxOf t < L.length ∧ el L (L.idxOf t) = t := by
 have h1 : L.idxOf t < L.length := List.idxOf_lt_length_iff.2 h
 exact ⟨h1, by rw [el_get h1]; exact List.getElem_idxOf h1⟩
structure ExpI (fin : α → Int × Int) (hops : α → List (Hg α)) (s0 : α) (q : Nat) (L : List α) (S : List St) : Prop where
 nodup : L.Nodup
 le : q ≤ L.length
 l60 : L.length ≤ 60
 len : S.length = q
 start : ∃ E, L = s0 :: E
 right : ∀ i, i < q → (fin (el L i)).2 = 0
 low : ∀ i, i < q → ∀ h ∈ hops (el L i), h.2.2.1 ≤ 1000000000
 shut : ∀ i, i < q → ∀ h ∈ hops (el L i), h.2.2.2 ∈ L
 sts : ∀ i, i < q → el S i = ((fin (el L i)).1, (hops (el L i)).map (arcG L))
 led : ∀ i, 0 < i → i < L.length → ∃ j h, j < i ∧ j < q + 1 ∧ h ∈ hops (el L j) ∧ h.2.2.2 = el L i
theorem ExpI.init (fin : α → Int × Int) (hops : α → List (Hg α)) (s0 : α) : ExpI fin hops s0 0 [s0] [] := ⟨by simp, by simp, by simp, rfl, ⟨[], rfl⟩, fun i hi => by omega, fun i hi => by omega, fun i hi => by omega, fun i hi => by omega, fun i h0 hi => by simp at hi; omega⟩
theorem ExpI.step {s0 : α} {q : Nat} {L : List α} {S : List St} {n : Nat} (h : ExpI fin hops s0 q L S) (hq : q < L.length) (he : (fin (el L q)).2 = 0) (h0 : (numH (hops (el L q)) L n).1 = 0) :
  ExpI fin hops s0 (q + 1) (numH (hops (el L q)) L n).2.1 (S ++ [((fin (el L q)).1, (numH (hops (el L q)) L n).2.2)]) := by
 obtain ⟨⟨E, e1⟩, h2, h3, h4, h5, _⟩ := numH_facts (hops (el L q)) L n h.nodup h0
 have h6 := numH_led (hops (el L q)) L n h0
 have h5 := h5 h.l60
 rw [h4]
 generalize (numH (hops (el L q)) L n).2.1 = L' at *
 subst e1
 have hel : ∀ i, i < L.length → el (L ++ E) i = el L i := fun i hi => el_appendL hi
 refine ⟨h2, by simp; omega, h5, by simp [h.len], ?_, fun i hi => ?_, fun i hi k hk => ?_, fun i hi k hk => ?_, fun i hi => ?_, fun i hp hi => ?_⟩
 ·obtain ⟨D, e⟩ := h.start
  exact ⟨D ++ E, by rw [e]; rfl⟩
 ·rw [hel i (by omega)]
  rcases Nat.lt_succ_iff_lt_or_eq.1 hi with g | rfl
  ·exact h.right i g
  ·exact he
 ·rw [hel i (by omega)] at hk
  rcases Nat.lt_succ_iff_lt_or_eq.1 hi with g | rfl
  ·exact h.low i g k hk
  ·exact (h3 k hk).2
 ·rw [hel i (by omega)] at hk
  rcases Nat.lt_succ_iff_lt_or_eq.1 hi with g | rfl
  ·exact List.mem_append_left _ (h.shut i g k hk)
  ·exact (h3 k hk).1
 ·rw [hel i (by omega)]
  rcases Nat.lt_succ_iff_lt_or_eq.1 hi with g | rfl
  ·rw [el_appendL (by rw [h.len]; exact g), h.sts i g]
   congr 1
   refine List.map_congr_left fun k hk => ?_
   simp only [arcG]
   rw [idxG_ext (h.shut i g k hk)]
  ·have := h.len
   subst this
   rw [el_appendE]
 ·by_cases hl : i < L.length
  ·obtain ⟨j, k, g1, g2, g3, g4⟩ := h.led i hp hl
   exact ⟨j, k, g1, by omega, by rw [hel j (by omega)]; exact g3, by rw [hel i hl]; exact g4⟩
  ·have hm : el (L ++ E) i ∈ L ++ E := el_mem hi
   rcases h6 _ hm with g | ⟨k, hk, e⟩
   ·obtain ⟨j, hj, ej⟩ := List.getElem_of_mem g
    have h7 := idxG_el h2 hi
    have h8 := idxG_el h2 (k := j) (by simp; omega)
    rw [hel j hj, el_get hj, ej, h7] at h8
    omega
   ·exact ⟨q, k, by omega, by omega, by rw [hel q hq]; exact hk, e⟩
theorem numS_done {s0 : α} : ∀ (k q : Nat) (L : List α) (S : List St) (n : Nat) (x : Mc), ExpI fin hops s0 q L S → numS fin hops k q L S n = (x, 0) → x.1 = 0 ∧ ∃ L', (∃ E, L' = L ++ E) ∧ ExpI fin hops s0 L'.length L' x.2 := by
  intro k
  induction k with
  | zero => intro q L S n x h e; simp only [numS, Prod.mk.injEq] at e; exact absurd e.2 (by decide)
  | succ k ih =>
    intro q L S n x h e
    simp only [numS] at e
    split at e
    · rename_i hq
      split at e
      · rename_i he
        simp only [Prod.mk.injEq] at e
        exact absurd e.2 he
      · rename_i he
        split at e
        · rename_i h0; simp only [Prod.mk.injEq] at e; exact absurd e.2 h0
        · rename_i h0
          have h0' : (numH (hops (el L q)) L n).1 = 0 := by simpa using h0
          obtain ⟨h1, L', ⟨E, e2⟩, h2⟩ := ih _ _ _ _ _ (h.step hq (by simpa using he) h0') e
          obtain ⟨⟨D, e3⟩, _⟩ := numH_facts (hops (el L q)) L n h.nodup h0'
          exact ⟨h1, L', ⟨D ++ E, by rw [e2, e3, List.append_assoc]⟩, h2⟩
    · rename_i hq
      simp only [Prod.mk.injEq] at e
      obtain ⟨rfl, _⟩ := e
      have : q = L.length := by have := h.le; omega
      subst this
      exact ⟨rfl, L, ⟨[], by simp⟩, h⟩
theorem numA_done {s0 : α} {x : Mc} (h : numA fin hops s0 = (x, 0)) : x.1 = 0 ∧ ∃ L, ExpI fin hops s0 L.length L x.2 := by
 obtain ⟨h1, L, _, h2⟩ := numS_done _ _ _ _ _ _ (ExpI.init fin hops s0) h
 exact ⟨h1, L, h2⟩
inductive HopG (hops : α → List (Hg α)) (s0 : α) : List Int → List Int → α → Nat → Prop
 | nil : HopG hops s0 [] [] s0 0
 | snoc {u v : List Int} {t : α} {c : Nat} {h : Hg α} : HopG hops s0 u v t c → h ∈ hops t → HopG hops s0 (u ++ lab h.1) (v ++ lab h.2.1) h.2.2.2 (c + h.2.2.1.toNat)
theorem ExpI.zero {s0 : α} {q : Nat} {L : List α} {S : List St} (h : ExpI fin hops s0 q L S) : 0 < L.length ∧ el L 0 = s0 ∧ L.idxOf s0 = 0 := by
 obtain ⟨E, rfl⟩ := h.start
 exact ⟨by simp, by simp [el], by simp⟩
end
section
variable {α : Type} [DecidableEq α]
end
section
variable {α : Type} [DecidableEq α] [Inhabited α] {fin : α → Int × Int} {hops : α → List (Hg α)}
theorem numS_arcs {s0 : α} : ∀ (k q : Nat) (L : List α) (S : List St) (n : Nat) (x : Mc), ExpI fin hops s0 q L S → arcN S = n → n ≤ 400 → numS fin hops k q L S n = (x, 0) → arcN x.2 ≤ 400 := by
  intro k
  induction k with
  | zero => intro q L S n x _ _ _ e; simp only [numS, Prod.mk.injEq] at e; exact absurd e.2 (by decide)
  | succ k ih =>
    intro q L S n x h ha h4 e
    simp only [numS] at e
    split at e
    · rename_i hq
      split at e
      · rename_i he
        simp only [Prod.mk.injEq] at e
        exact absurd e.2 he
      · rename_i he
        split at e
        · rename_i h0; simp only [Prod.mk.injEq] at e; exact absurd e.2 h0
        · rename_i h0
          have h0' : (numH (hops (el L q)) L n).1 = 0 := by simpa using h0
          obtain ⟨_, _, _, f4, _, f6⟩ := numH_facts (hops (el L q)) L n h.nodup h0'
          refine ih _ _ _ _ _ (h.step hq (by simpa using he) h0') ?_ (f6 h4) e
          rw [arcN_append, ha, f4]
          simp [arcN]
    · simp only [Prod.mk.injEq] at e
      obtain ⟨rfl, _⟩ := e
      simp only
      omega
theorem numA_arcs {s0 : α} {x : Mc} (h : numA fin hops s0 = (x, 0)) : arcN x.2 ≤ 400 := numS_arcs _ _ _ _ _ _ (ExpI.init fin hops s0) rfl (by simp [arcN]) h
end
section
variable {α β : Type} [DecidableEq α] [DecidableEq β] [Inhabited α] [Inhabited β] {fin : α → Int × Int} {hops : α → List (Hg α)} {fin' : β → Int × Int} {hops' : β → List (Hg β)} {g : Nat → β}
theorem numH_again (hg : ∀ i j, g i = g j → i = j) {F : List α} (hF : F.Nodup) (hs : List (Hg α)) : ∀ (L : List α) (n : Nat), (∃ E, F = L ++ E) → (numH hs L n).1 = 0 → (∃ E, F = (numH hs L n).2.1 ++ E) →
    numH (hs.map fun h => (h.1, h.2.1, h.2.2.1, g (F.idxOf h.2.2.2))) ((List.range L.length).map g) n = (0, (List.range (numH hs L n).2.1.length).map g, (numH hs L n).2.2) := by
  induction hs with
  | nil => intro L n _ _ _; simp [numH]
  | cons h hs ih =>
    intro L n hL h0 hE
    simp only [numH] at h0 hE ⊢
    by_cases c1 : 1000000000 < h.2.2.1
    · rw [if_pos c1] at h0
      cases h0
    · rw [if_neg c1] at h0 hE ⊢
      by_cases c2 : 400 < n + 1 ∨ 60 < (addG L h.2.2.2).length
      · rw [if_pos c2] at h0
        cases h0
      · rw [if_neg c2] at h0 hE ⊢
        simp only at h0 hE ⊢
        simp only [List.map_cons, numH]
        rw [if_neg c1]
        -- what is added there is what is added here
        have hnd : (addG L h.2.2.2).Nodup := by
          obtain ⟨D, e⟩ := hL
          have : L.Nodup := by rw [e, List.nodup_append] at hF; exact hF.1
          exact addG_nodup this _
        obtain ⟨⟨D, eD⟩, _⟩ := numH_facts hs (addG L h.2.2.2) (n + 1) hnd h0
        have hFL : ∃ E, F = addG L h.2.2.2 ++ E := by
          obtain ⟨E, e⟩ := hE
          exact ⟨D ++ E, by rw [e, eD, List.append_assoc]⟩
        have hidx : F.idxOf h.2.2.2 = L.idxOf h.2.2.2 := by
          obtain ⟨E, e⟩ := hFL
          rw [e, idxG_ext (addG_mem _ _), addG_idx]
        have hadd : addG ((List.range L.length).map g) (g (F.idxOf h.2.2.2)) = (List.range (addG L h.2.2.2).length).map g := by
          by_cases hm : h.2.2.2 ∈ L
          · have hlt : L.idxOf h.2.2.2 < L.length := (el_idxG hm).1
            rw [addG_old hm, addG_old]
            rw [hidx]
            exact List.mem_map.2 ⟨_, List.mem_range.2 hlt, rfl⟩
          · rw [addG_new hm, addG_new]
            · rw [hidx, idxG_new hm, List.length_append, List.length_singleton, List.range_succ, List.map_append]
              rfl
            · rw [hidx, idxG_new hm]
              intro hc
              obtain ⟨i, hi, e⟩ := List.mem_map.1 hc
              have := hg _ _ e
              rw [List.mem_range] at hi
              omega
        have hix2 : ((List.range L.length).map g).idxOf (g (F.idxOf h.2.2.2)) = L.idxOf h.2.2.2 := by
          have hnd2 : ((List.range (addG L h.2.2.2).length).map g).Nodup := by
            rw [List.nodup_iff_pairwise_ne, List.pairwise_map]
            exact List.nodup_range.imp fun {a b} hab e => hab (hg _ _ e)
          have h1 : L.idxOf h.2.2.2 < (addG L h.2.2.2).length := by
            have h2 := (el_idxG (addG_mem L h.2.2.2)).1
            rwa [addG_idx] at h2
          have h3 := idxG_el hnd2 (k := L.idxOf h.2.2.2) (by simpa using h1)
          have h4 : el ((List.range (addG L h.2.2.2).length).map g) (L.idxOf h.2.2.2) = g (L.idxOf h.2.2.2) := el_range_map _ h1
          rw [h4] at h3
          rw [← addG_idx, hadd, hidx]
          exact h3
        rw [hadd, if_neg (by simpa using c2), ih _ _ hFL h0 hE]
        simp only [arcG, hix2]
theorem numS_again (hg : ∀ i j, g i = g j → i = j) {F : List α} {X : List St} {s0 : α} (hX : ExpI fin hops s0 F.length F X) (hfin : ∀ i, i < F.length → fin' (g i) = ((el X i).1, 0)) (hhop : ∀ i, i < F.length → hops' (g i) = (el X i).2.map fun a => (a.1, a.2.1, a.2.2.1, g a.2.2.2.toNat)) :
    ∀ (k q : Nat) (L : List α) (S : List St) (n : Nat) (x : Mc), ExpI fin hops s0 q L S → (∃ E, F = L ++ E) → numS fin hops k q L S n = (x, 0) → x.2 = X → numS fin' hops' k q ((List.range L.length).map g) S n = (x, 0) := by
  intro k
  induction k with
  | zero => intro q L S n x _ _ e _; simp only [numS, Prod.mk.injEq] at e; exact absurd e.2 (by decide)
  | succ k ih =>
    intro q L S n x h hF e hx
    simp only [numS] at e ⊢
    by_cases hq : q < L.length
    · rw [if_pos hq] at e
      rw [if_pos (by simpa using hq)]
      by_cases he : (fin (el L q)).2 = 0
      · rw [if_neg (fun k => k he)] at e
        by_cases h0 : (numH (hops (el L q)) L n).1 = 0
        · rw [if_neg (fun k => k h0)] at e
          obtain ⟨E, eF⟩ := hF
          have hqF : q < F.length := by rw [eF, List.length_append]; omega
          have elq : el F q = el L q := by rw [eF]; exact el_appendL hq
          have eg : el ((List.range L.length).map g) q = g q := el_range_map _ hq
          -- where the run ends
          have hst := h.step hq he h0
          obtain ⟨_, L', ⟨D, eD⟩, hL'⟩ := numS_done _ _ _ _ _ _ hst e
          rw [hx] at hL'
          have hLF : L' = F := by
            refine el_ext ?_ fun i hi => ?_
            · have := hL'.len; have := hX.len; omega
            · have hlen : L'.length = F.length := by have := hL'.len; have := hX.len; omega
              -- by what leads there
              induction i using Nat.strongRecOn with
              | _ i ihi =>
                by_cases h0i : i = 0
                · subst h0i
                  rw [hL'.zero.2.1, hX.zero.2.1]
                · obtain ⟨j, kk, g1, g2, g3, g4⟩ := hL'.led i (by omega) hi
                  have e1 := ihi j g1 (by omega)
                  have s1 := hL'.sts j (by omega)
                  have s2 := hX.sts j (by omega)
                  rw [s1] at s2
                  rw [e1] at g3 s2
                  have s3 : (hops (el F j)).map (arcG L') = (hops (el F j)).map (arcG F) := (Prod.mk.inj s2).2
                  have s4 : arcG L' kk = arcG F kk := List.map_inj_left.1 s3 kk g3
                  have s5 : L'.idxOf kk.2.2.2 = F.idxOf kk.2.2.2 := by
                    have := (Prod.mk.inj (Prod.mk.inj (Prod.mk.inj s4).2).2).2
                    omega
                  rw [g4, idxG_el hL'.nodup hi] at s5
                  have hin := hX.shut j (by omega) kk g3
                  rw [g4] at hin
                  have h7 := (el_idxG hin).2
                  rw [← s5] at h7
                  exact h7.symm
          have hF2 : ∃ E, F = (numH (hops (el L q)) L n).2.1 ++ E := ⟨D, by rw [← hLF]; exact eD⟩
          rw [eg, hfin q hqF]
          simp only
          rw [if_neg (fun k => k rfl), hhop q hqF, hX.sts q hqF, elq]
          simp only [List.map_map]
          have e9 : (hops (el L q)).map ((fun a : Ar => (a.1, a.2.1, a.2.2.1, g a.2.2.2.toNat)) ∘ arcG F) = (hops (el L q)).map fun h => (h.1, h.2.1, h.2.2.1, g (F.idxOf h.2.2.2)) := List.map_congr_left fun h _ => by simp [arcG]
          rw [e9, numH_again hg hX.nodup (hops (el L q)) L n ⟨E, eF⟩ h0 hF2]
          simp only
          rw [if_neg (fun k => k rfl), List.length_map]
          have := ih _ _ _ _ _ hst hF2 e hx
          have e10 : (fin (el L q)).1 = (fin (el L q)).1 := rfl
          exact this
        · rw [if_pos h0] at e
          simp only [Prod.mk.injEq] at e
          exact absurd e.2 h0
      · rw [if_pos he] at e
        simp only [Prod.mk.injEq] at e
        exact absurd e.2 he
    · rw [if_neg hq] at e
      rw [if_neg (by simpa using hq)]
      exact e
theorem numA_again (hg : ∀ i j, g i = g j → i = j) {F : List α} {x : Mc} {s0 : α} (hx : numA fin hops s0 = (x, 0)) (hX : ExpI fin hops s0 F.length F x.2) (hfin : ∀ i, i < F.length → fin' (g i) = ((el x.2 i).1, 0)) (hhop : ∀ i, i < F.length → hops' (g i) = (el x.2 i).2.map fun a => (a.1, a.2.1, a.2.2.1, g a.2.2.2.toNat)) :
  numA fin' hops' (g 0) = (x, 0) := by
 obtain ⟨E, e⟩ := hX.start
 exact numS_again hg hX hfin hhop _ _ _ _ _ _ (ExpI.init fin hops s0) ⟨E, e⟩ hx rfl
end
def difB (s t : St) : Bool := decide (s.1 ≠ t.1) || decide (s.2.map (fun a => (a.1, a.2.1, a.2.2.1)) ≠ t.2.map (fun a => (a.1, a.2.1, a.2.2.1)))
inductive Aprt (l : List St) : Nat → Nat → Prop
 | now {q p : Nat} : difB (el l q) (el l p) = true → Aprt l q p
 | step {q p i t u : Nat} : difB (el l q) (el l p) = false → i < (el l q).2.length → (el (el l q).2 i).2.2.2 = (t : Int) → (el (el l p).2 i).2.2.2 = (u : Int) → Aprt l t u → Aprt l q p
theorem dif_refl (s : St) : difB s s = false := by simp [difB]
theorem dif_symm (s t : St) : difB s t = difB t s := by
 unfold difB
 rw [Bool.eq_iff_iff]
 simp only [Bool.or_eq_true, decide_eq_true_eq]
 constructor <;> rintro (h | h)
 ·exact .inl (Ne.symm h)
 ·exact .inr (Ne.symm h)
 ·exact .inl (Ne.symm h)
 ·exact .inr (Ne.symm h)
theorem dif_false {s t : St} : difB s t = false ↔ s.1 = t.1 ∧ s.2.map (fun a => (a.1, a.2.1, a.2.2.1)) = t.2.map (fun a => (a.1, a.2.1, a.2.2.1)) := by
 unfold difB
 rw [Bool.or_eq_false_iff]
 simp only [decide_eq_false_iff_not, ne_eq, Decidable.not_not]
theorem dif_len {s t : St} (h : difB s t = false) : s.2.length = t.2.length := by
 have := congrArg List.length (dif_false.1 h).2
 simpa using this
theorem dif_el {s t : St} (h : difB s t = false) {i : Nat} (hi : i < s.2.length) : (el s.2 i).1 = (el t.2 i).1 ∧ (el s.2 i).2.1 = (el t.2 i).2.1 ∧ (el s.2 i).2.2.1 = (el t.2 i).2.2.1 := by
 have hl := dif_len h
 have h2 := (dif_false.1 h).2
 have e1 : el (s.2.map (fun a => (a.1, a.2.1, a.2.2.1))) i = ((el s.2 i).1, (el s.2 i).2.1, (el s.2 i).2.2.1) := el_map hi _
 have e2 : el (t.2.map (fun a => (a.1, a.2.1, a.2.2.1))) i = ((el t.2 i).1, (el t.2 i).2.1, (el t.2 i).2.2.1) := el_map (by omega) _
 rw [h2, e2] at e1
 simp only [Prod.mk.injEq] at e1
 exact ⟨e1.1.symm, e1.2.1.symm, e1.2.2.symm⟩
theorem dif_trans {s t u : St} (h : difB s t = false) (k : difB t u = false) : difB s u = false := dif_false.2 ⟨(dif_false.1 h).1.trans (dif_false.1 k).1, (dif_false.1 h).2.trans (dif_false.1 k).2⟩
theorem Aprt.symm {l : List St} {q p : Nat} (h : Aprt l q p) : Aprt l p q := by
 induction h with
 | now h => exact .now (by rw [dif_symm]; exact h)
 | step h hi ht hu _ ih => exact .step (by rw [dif_symm]; exact h) (by rw [← dif_len h]; exact hi) hu ht ih
theorem Aprt.irrefl {l : List St} {q p : Nat} (h : Aprt l q p) : q ≠ p := by
  induction h with
  | now h => rintro rfl; rw [dif_refl] at h; cases h
  | step h hi ht hu _ ih =>
    rintro rfl
    rw [ht] at hu
    exact ih (by omega)
def Alk (l : List St) (q p : Nat) : Prop := ¬ Aprt l q p
theorem Alk.refl (l : List St) (q : Nat) : Alk l q q := fun h => h.irrefl rfl
theorem Alk.symm {l : List St} {q p : Nat} (h : Alk l q p) : Alk l p q := fun k => h k.symm
theorem Alk.dif {l : List St} {q p : Nat} (h : Alk l q p) : difB (el l q) (el l p) = false := by
 cases e : difB (el l q) (el l p) with
 | false => rfl
 | true => exact absurd (Aprt.now e) h
theorem Alk.arc {l : List St} {q p i t u : Nat} (h : Alk l q p) (hi : i < (el l q).2.length) (ht : (el (el l q).2 i).2.2.2 = (t : Int)) (hu : (el (el l p).2 i).2.2.2 = (u : Int)) : Alk l t u := fun k => h (.step h.dif hi ht hu k)
theorem Alk.trans {l : List St} (hto : ∀ q, q < l.length → ∀ a ∈ (el l q).2, ∃ t : Nat, a.2.2.2 = (t : Int) ∧ t < l.length) {q p r : Nat} (hp : p < l.length) (h : Alk l q p) (k : Alk l p r) : Alk l q r := by
  intro ha
  induction ha generalizing p with
  | now hd => rw [dif_trans h.dif k.dif] at hd; cases hd
  | @step q r i t u hd hi ht hu _ ih =>
    have hi2 : i < (el l p).2.length := by rw [← dif_len h.dif]; exact hi
    obtain ⟨x, hx, hxl⟩ := hto p hp _ (el_mem hi2)
    exact ih hxl (h.arc hi ht hx) (k.arc hi2 hx hu)
open Classical in
theorem alk_first (l : List St) (q : Nat) : ∃ c, c ≤ q ∧ Alk l c q ∧ ∀ d, d < c → ¬ Alk l d q := by
  have key : ∀ n, (∃ c, c ≤ n ∧ c ≤ q ∧ Alk l c q) → ∃ c, c ≤ q ∧ Alk l c q ∧ ∀ d, d < c → ¬ Alk l d q := by
    intro n
    induction n with
    | zero =>
      rintro ⟨c, h0, h1, h2⟩
      exact ⟨c, h1, h2, fun d hd => by omega⟩
    | succ n ih =>
      rintro ⟨c, h0, h1, h2⟩
      by_cases e : ∃ d, d < c ∧ Alk l d q
      · obtain ⟨d, hd, hk⟩ := e
        exact ih ⟨d, by omega, by omega, hk⟩
      · exact ⟨c, h1, h2, fun d hd hk => e ⟨d, hd, hk⟩⟩
  exact key q ⟨q, Nat.le_refl _, Nat.le_refl _, Alk.refl l q⟩
structure FstC (l : List St) (f : Nat → Nat) : Prop where
 le : ∀ q, f q ≤ q
 alk : ∀ q, q < l.length → Alk l (f q) q
 one : ∀ q p, q < l.length → p < l.length → (f q = f p ↔ Alk l q p)
theorem cls_exists {l : List St} (hto : ∀ q, q < l.length → ∀ a ∈ (el l q).2, ∃ t : Nat, a.2.2.2 = (t : Int) ∧ t < l.length) : ∃ f, FstC l f := by
 obtain ⟨f, hf⟩ := Classical.axiomOfChoice (alk_first l)
 refine ⟨f, fun q => (hf q).1, fun q _ => (hf q).2.1, fun q p hq hp => ⟨fun e => ?_, fun h => ?_⟩⟩
 ·have h1 := (hf q).2.1
  have h2 := (hf p).2.1
  rw [e] at h1
  have hl : f p < l.length := Nat.lt_of_le_of_lt (hf p).1 hp
  exact Alk.trans hto hl h1.symm h2
 ·have h1 := (hf q).2.1
  have h2 := (hf p).2.1
  have k1 : Alk l (f q) p := Alk.trans hto hq h1 h
  have k2 : Alk l (f p) q := Alk.trans hto hp h2 h.symm
  have g1 : ¬ f q < f p := fun g => (hf p).2.2 _ g k1
  have g2 : ¬ f p < f q := fun g => (hf q).2.2 _ g k2
  omega
def lstF (l : List St) (q : Nat) : Int × Int := ((el l q).1, 0)
def lstH (l : List St) (f : Nat → Nat) (q : Nat) : List (Hg Nat) := (el l q).2.map fun a => (a.1, a.2.1, a.2.2.1, f a.2.2.2.toNat)
theorem lst_same {l : List St} (hto : ∀ q, q < l.length → ∀ a ∈ (el l q).2, ∃ t : Nat, a.2.2.2 = (t : Int) ∧ t < l.length) {f : Nat → Nat} (hf : FstC l f) {q p : Nat} (hq : q < l.length) (hp : p < l.length) (h : Alk l q p) : lstF l q = lstF l p ∧ lstH l f q = lstH l f p := by
 have hd := h.dif
 refine ⟨by unfold lstF; rw [(dif_false.1 hd).1], ?_⟩
 unfold lstH
 refine el_ext (by simp only [List.length_map]; exact dif_len hd) fun i hi => ?_
 simp only [List.length_map] at hi
 have hi2 : i < (el l p).2.length := by rw [← dif_len hd]; exact hi
 rw [el_map hi, el_map hi2]
 obtain ⟨e1, e2, e3⟩ := dif_el hd hi
 obtain ⟨t, ht, htl⟩ := hto q hq _ (el_mem hi)
 obtain ⟨u, hu, hul⟩ := hto p hp _ (el_mem hi2)
 rw [e1, e2, e3, ht, hu, Int.toNat_natCast, Int.toNat_natCast, (hf.one t u htl hul).2 (h.arc hi ht hu)]
def lstA (l : List St) (f : Nat → Nat) (z : Nat) : Mc × Int := numA (lstF l) (lstH l f) (f z)
end Go.Proofs.YthajkkobgfighaaGreatDoor.Pl
