/- Spreading from the first ones, with a list of those that wait (no program in sight). -/
import Derived.Test.YthcfkiinjcbajaaJ16a
namespace Go.Proofs.Ythcfkiinjcbajaa.Pl
/-- Holds at the first ones, and is handed on to those that are led to. -/
def SpreadC (n : Nat) (F : List Int) (L : Nat → List Int) (T : Nat → Prop) : Prop := (∀ x ∈ F, T x.toNat) ∧ ∀ q, q < n → T q → ∀ y ∈ L q, T y.toNat
/-- What is so while it spreads. -/
structure Dfs (n M K : Nat) (F : List Int) (L : Nat → List Int) (bs : List Bool) (ws : List Int) : Prop where
  len : bs.length = n
  inn : ∀ x ∈ ws, 0 ≤ x ∧ x < n
  sound : ∀ T, SpreadC n F L T → (∀ q, q < n → el bs q = true → T q) ∧ ∀ x ∈ ws, T x.toNat
  first : ∀ x ∈ F, el bs x.toNat = true ∨ x ∈ ws
  next : ∀ q, q < n → el bs q = true → ∀ y ∈ L q, el bs y.toNat = true ∨ y ∈ ws
  room : bs.count false * (M + 1) + ws.length ≤ K
section
variable {n M K : Nat} {F : List Int} {L : Nat → List Int} {bs : List Bool} {ws : List Int}
theorem Dfs.start (hF : ∀ x ∈ F, 0 ≤ x ∧ x < (n : Int)) (hK : n * (M + 1) + F.length ≤ K) : Dfs n M K F L (List.replicate n false) F :=
  ⟨by simp, hF, fun T hT => ⟨fun q _ e => absurd e (by rw [el_false]; simp), hT.1⟩, fun x hx => .inr hx, fun q _ e => absurd e (by rw [el_false]; simp), by rw [List.count_replicate]; simpa using hK⟩
theorem mem_last {k : Nat} {x : Int} (hk : ws.length = k + 1) : x ∈ ws ↔ x ∈ ws.take k ∨ x = el ws k := by
  have h := take_el (l := ws) (k := k) (by omega)
  rw [← hk, List.take_length] at h
  conv => lhs; rw [h]
  simp
theorem Dfs.skip (h : Dfs n M K F L bs ws) {k : Nat} (hk : ws.length = k + 1) (hf : el bs (el ws k).toNat = true) : Dfs n M K F L bs (ws.take k) := by
  refine ⟨h.len, fun x hx => h.inn x ((mem_last hk).2 (.inl hx)), fun T hT => ⟨(h.sound T hT).1, fun x hx => (h.sound T hT).2 x ((mem_last hk).2 (.inl hx))⟩, fun x hx => ?_, fun q hq e y hy => ?_, ?_⟩
  · rcases h.first x hx with h1 | h1
    · exact .inl h1
    · rcases (mem_last hk).1 h1 with h2 | h2
      · exact .inr h2
      · exact .inl (by rw [h2]; exact hf)
  · rcases h.next q hq e y hy with h1 | h1
    · exact .inl h1
    · rcases (mem_last hk).1 h1 with h2 | h2
      · exact .inr h2
      · exact .inl (by rw [h2]; exact hf)
  · have := h.room
    rw [List.length_take]
    omega
theorem count_set {q : Nat} (hq : q < bs.length) (hf : el bs q = false) : (bs.set q true).count false + 1 = bs.count false := by
  induction bs generalizing q with
  | nil => simp at hq
  | cons b l ih =>
    cases q with
    | zero =>
      rw [el_zero] at hf
      subst hf
      simp
    | succ q =>
      rw [el_succ] at hf
      have := ih (q := q) (by simpa using hq) hf
      rw [List.set_cons_succ, List.count_cons, List.count_cons]
      omega
theorem Dfs.step (h : Dfs n M K F L bs ws) {k q : Nat} (hk : ws.length = k + 1) (hx : el ws k = (q : Int)) (hf : el bs q = false) (hL : ∀ y ∈ L q, 0 ≤ y ∧ y < (n : Int)) (hM : (L q).length ≤ M) : Dfs n M K F L (bs.set q true) (ws.take k ++ L q) := by
  have hin := h.inn (el ws k) (el_mem (by omega))
  have hq : q < n := by omega
  have hqb : q < bs.length := by rw [h.len]; exact hq
  refine ⟨by simpa using h.len, fun x hx' => ?_, fun T hT => ?_, fun x hx' => ?_, fun p hp e y hy => ?_, ?_⟩
  · rcases List.mem_append.1 hx' with h1 | h1
    · exact h.inn x ((mem_last hk).2 (.inl h1))
    · exact hL x h1
  · have hTq : T q := by
      have := (h.sound T hT).2 (el ws k) (el_mem (by omega))
      rw [hx] at this
      simpa using this
    refine ⟨fun p hp e => ?_, fun x hx' => ?_⟩
    · rw [el_setB hqb] at e
      split at e
      · rename_i e9; subst e9; exact hTq
      · exact (h.sound T hT).1 p hp e
    · rcases List.mem_append.1 hx' with h1 | h1
      · exact (h.sound T hT).2 x ((mem_last hk).2 (.inl h1))
      · exact hT.2 q hq hTq x h1
  · rw [el_setB hqb]
    split
    · exact .inl rfl
    · rename_i e9
      rcases h.first x hx' with h1 | h1
      · exact .inl h1
      · rcases (mem_last hk).1 h1 with h2 | h2
        · exact .inr (List.mem_append.2 (.inl h2))
        · exact absurd (by rw [h2, hx]; simp) e9
  · rw [el_setB hqb] at e ⊢
    split
    · exact .inl rfl
    · rename_i e9
      split at e
      · rename_i e8; subst e8; exact .inr (List.mem_append.2 (.inr hy))
      · rcases h.next p hp e y hy with h1 | h1
        · exact .inl h1
        · rcases (mem_last hk).1 h1 with h2 | h2
          · exact .inr (List.mem_append.2 (.inl h2))
          · exact absurd (by rw [h2, hx]; simp) e9
  · have h1 := h.room
    have h2 := count_set hqb hf
    rw [← h2] at h1
    rw [List.length_append, List.length_take]
    rw [Nat.add_mul] at h1
    omega
theorem Dfs.done (h : Dfs n M K F L bs []) : Least (SpreadC n F L) n bs := by
  refine ⟨h.len, ⟨fun x hx => ?_, fun q hq e y hy => ?_⟩, fun T hT => (h.sound T hT).1⟩
  · rcases h.first x hx with h1 | h1
    · exact h1
    · simp at h1
  · rcases h.next q hq e y hy with h1 | h1
    · exact h1
    · simp at h1
theorem Least.iff {C D : (Nat → Prop) → Prop} {bs : List Bool} (h : Least C n bs) (hCD : ∀ T, C T ↔ D T) : Least D n bs := ⟨h.1, (hCD _).1 h.2.1, fun T hT => h.2.2 T ((hCD T).2 hT)⟩
end
/-- Where a state's arcs lead. -/
def toL (l : List St) (q : Nat) : List Int := (el l q).2.map fun a => a.2.2.2
def startL (z : Int) : List Int := if z < 0 then [] else [z]
theorem ahead_spread {z : Int} {l : List St} (hz : z < l.length) (T : Nat → Prop) : SpreadC l.length (startL z) (toL l) T ↔ AheadC z l T := by
  unfold SpreadC AheadC startL toL
  constructor
  · rintro ⟨h1, h2⟩
    refine ⟨fun q hq e => ?_, fun q hq e a ha => h2 q hq e _ (List.mem_map.2 ⟨a, ha, rfl⟩)⟩
    have := h1 z (by rw [if_neg (by omega)]; simp)
    rw [← e] at this
    simpa using this
  · rintro ⟨h1, h2⟩
    refine ⟨fun x hx => ?_, fun q hq e y hy => ?_⟩
    · split at hx
      · simp at hx
      · simp at hx
        subst hx
        exact h1 _ (by omega) (by omega)
    · obtain ⟨a, ha, rfl⟩ := List.mem_map.1 hy
      exact h2 q hq e a ha
def endL (l : List St) (n : Nat) : List Int := ((List.range n).filter fun q => decide ((el l q).1 ≠ 1000000001)).map fun q : Nat => (q : Int)
theorem endL_succ (l : List St) (n : Nat) : endL l (n + 1) = endL l n ++ (if (el l n).1 ≠ 1000000001 then [(n : Int)] else []) := by
  unfold endL
  rw [List.range_succ, List.filter_append, List.map_append]
  by_cases h : (el l n).1 = 1000000001 <;> simp [h]
theorem endL_le (l : List St) (n : Nat) : (endL l n).length ≤ n := by
  unfold endL
  rw [List.length_map]
  exact Nat.le_trans (List.length_filter_le _ _) (by simp)
theorem endL_mem {l : List St} {n : Nat} {x : Int} : x ∈ endL l n ↔ ∃ q : Nat, x = (q : Int) ∧ q < n ∧ (el l q).1 ≠ 1000000001 := by
  unfold endL
  simp only [List.mem_map, List.mem_filter, List.mem_range, decide_eq_true_eq]
  constructor
  · rintro ⟨q, ⟨h1, h2⟩, rfl⟩; exact ⟨q, rfl, h1, h2⟩
  · rintro ⟨q, rfl, h1, h2⟩; exact ⟨q, ⟨h1, h2⟩, rfl⟩
/-- A table: at t, from where arcs lead to t. It is filled arc by arc. -/
def putT (t q : Nat) (f : Nat → List Int) : Nat → List Int := fun p => if p = t then f p ++ [(q : Int)] else f p
def fillA (q : Nat) (ar : List Ar) (f : Nat → List Int) : Nat → List Int := ar.foldl (fun f a => putT a.2.2.2.toNat q f) f
def fillS (l : List St) (n : Nat) : Nat → List Int := (List.range n).foldl (fun f q => fillA q (el l q).2 f) (fun _ => [])
theorem fillS_succ (l : List St) (n : Nat) : fillS l (n + 1) = fillA n (el l n).2 (fillS l n) := by
  unfold fillS
  rw [List.range_succ, List.foldl_append]
  rfl
theorem fillA_take (q : Nat) {ar : List Ar} {k : Nat} (h : k < ar.length) (f : Nat → List Int) : fillA q (ar.take (k + 1)) f = putT (el ar k).2.2.2.toNat q (fillA q (ar.take k) f) := by
  unfold fillA
  rw [take_el h, List.foldl_append]
  rfl
theorem fillA_mem {q : Nat} {ar : List Ar} {f : Nat → List Int} {p : Nat} {x : Int} : x ∈ fillA q ar f p ↔ x ∈ f p ∨ (x = (q : Int) ∧ ∃ a ∈ ar, a.2.2.2.toNat = p) := by
  induction ar generalizing f with
  | nil => simp [fillA]
  | cons a ar ih =>
    have : fillA q (a :: ar) f = fillA q ar (putT a.2.2.2.toNat q f) := rfl
    rw [this, ih]
    unfold putT
    by_cases e : p = a.2.2.2.toNat
    · rw [if_pos e]
      simp only [List.mem_append, List.mem_cons, List.not_mem_nil, or_false]
      constructor
      · rintro ((h | h) | ⟨h1, b, hb, h2⟩)
        · exact .inl h
        · exact .inr ⟨h, a, .inl rfl, e.symm⟩
        · exact .inr ⟨h1, b, .inr hb, h2⟩
      · rintro (h | ⟨h1, b, hb | hb, h2⟩)
        · exact .inl (.inl h)
        · exact .inl (.inr h1)
        · exact .inr ⟨h1, b, hb, h2⟩
    · rw [if_neg e]
      simp only [List.mem_cons]
      constructor
      · rintro (h | ⟨h1, b, hb, h2⟩)
        · exact .inl h
        · exact .inr ⟨h1, b, .inr hb, h2⟩
      · rintro (h | ⟨h1, b, hb | hb, h2⟩)
        · exact .inl h
        · subst hb; exact absurd h2.symm e
        · exact .inr ⟨h1, b, hb, h2⟩
theorem fillS_mem {l : List St} {n p : Nat} {x : Int} : x ∈ fillS l n p ↔ ∃ q : Nat, x = (q : Int) ∧ q < n ∧ ∃ a ∈ (el l q).2, a.2.2.2.toNat = p := by
  induction n with
  | zero => simp [fillS]
  | succ n ih =>
    rw [fillS_succ, fillA_mem, ih]
    constructor
    · rintro (⟨q, h1, h2, h3⟩ | ⟨h1, h2⟩)
      · exact ⟨q, h1, by omega, h3⟩
      · exact ⟨n, h1, by omega, h2⟩
    · rintro ⟨q, h1, h2, h3⟩
      by_cases e : q = n
      · subst e; exact .inr ⟨h1, h3⟩
      · exact .inl ⟨q, h1, by omega, h3⟩
theorem fillA_len (q : Nat) (ar : List Ar) (f : Nat → List Int) (p : Nat) : (fillA q ar f p).length ≤ (f p).length + ar.length := by
  induction ar generalizing f with
  | nil => simp [fillA]
  | cons a ar ih =>
    have : fillA q (a :: ar) f = fillA q ar (putT a.2.2.2.toNat q f) := rfl
    rw [this]
    have := ih (f := putT a.2.2.2.toNat q f)
    unfold putT at this ⊢
    simp only [List.length_cons]
    split at this <;> simp at this ⊢ <;> omega
theorem fillS_len (l : List St) (n p : Nat) (hn : n ≤ l.length) : (fillS l n p).length ≤ arcN (l.take n) := by
  induction n with
  | zero => simp [fillS]
  | succ n ih =>
    rw [fillS_succ, arcN_take (by omega)]
    have := fillA_len n (el l n).2 (fillS l n) p
    have := ih (by omega)
    omega
theorem back_spread {l : List St} (ht : ∀ q, q < l.length → ∀ a ∈ (el l q).2, ∃ t : Nat, a.2.2.2 = (t : Int) ∧ t < l.length) (T : Nat → Prop) : SpreadC l.length (endL l l.length) (fillS l l.length) T ↔ BackC l T := by
  unfold SpreadC BackC
  constructor
  · rintro ⟨h1, h2⟩
    refine ⟨fun q hq e => ?_, fun q hq a ha e => ?_⟩
    · simpa using h1 (q : Int) (endL_mem.2 ⟨q, rfl, hq, e⟩)
    · obtain ⟨t, h3, h4⟩ := ht q hq a ha
      rw [h3] at e
      simp only [Int.toNat_natCast] at e
      simpa using h2 t h4 e (q : Int) (fillS_mem.2 ⟨q, rfl, hq, a, ha, by rw [h3]; simp⟩)
  · rintro ⟨h1, h2⟩
    refine ⟨fun x hx => ?_, fun p hp e y hy => ?_⟩
    · obtain ⟨q, rfl, hq, e⟩ := endL_mem.1 hx
      simpa using h1 q hq e
    · obtain ⟨q, rfl, hq, a, ha, h3⟩ := fillS_mem.1 hy
      simpa using h2 q hq a ha (by rw [h3]; exact e)
end Go.Proofs.Ythcfkiinjcbajaa.Pl
