/- Spreading from the first ones, with a list of those that wait (no program in sight). The cheapest ways first, over states: what is done, what waits (no program in sight). From where and to where: the tables of ways, and what can be had by them (no program in sight). -/
import Derived.Test.YtfekmlblldhieaaGreatDoorJ17a
import Derived.Test.YtfekmlblldhieaaGreatDoorPlainHx
import Derived.Test.YtfekmlblldhieaaGreatDoorJ17c
namespace Go.Proofs.YtfekmlblldhieaaGreatDoor.Pl
/-- Holds at the first ones, and is handed on to those that are led to. -/
def SpreadC (n : Nat) (F : List Int) (L : Nat → List Int) (T : Nat → Prop) : Prop := (∀ x ∈ F, T x.toNat) ∧ ∀ q, q < n → T q → ∀ y ∈ L q, T y.toNat
/-- What is so while it spreads. -/
structure Dfs (n M K : Nat) (F : List Int) (L : Nat → List Int) (bs : List Bool) (ws : List Int) : Prop where
  len : bs.length = n
  inn : ∀ x ∈ ws, 0 ≤ x ∧ x < n
  sound : ∀ T, SpreadC n F L T → (∀ q, q < n → el bs q = true → T q) ∧ ∀ x ∈ ws, T x.toNat
  first : ∀ x ∈ F, el bs x.toNat = true ∨ x ∈ ws
  next : ∀ q, q < n → el bs q = true → ∀ y ∈ L q, el bs y.toNat = true ∨ y ∈ ws
  room : bs.count false * (M + 1) + ws.length ≤ K
section
variable {n M K : Nat} {F : List Int} {L : Nat → List Int} {bs : List Bool} {ws : List Int}
theorem Dfs.start (hF : ∀ x ∈ F, 0 ≤ x ∧ x < (n : Int)) (hK : n * (M + 1) + F.length ≤ K) : Dfs n M K F L (List.replicate n false) F :=
  ⟨by simp, hF, fun T hT => ⟨fun q _ e => absurd e (by rw [el_false]; simp), hT.1⟩, fun x hx => .inr hx, fun q _ e => absurd e (by rw [el_false]; simp), by rw [List.count_replicate]; simpa using hK⟩
theorem mem_last {k : Nat} {x : Int} (hk : ws.length = k + 1) : x ∈ ws ↔ x ∈ ws.take k ∨ x = el ws k := by
  have h := take_el (l := ws) (k := k) (by omega)
  rw [← hk, List.take_length] at h
  conv => lhs; rw [h]
  simp
theorem Dfs.skip (h : Dfs n M K F L bs ws) {k : Nat} (hk : ws.length = k + 1) (hf : el bs (el ws k).toNat = true) : Dfs n M K F L bs (ws.take k) := by
  refine ⟨h.len, fun x hx => h.inn x ((mem_last hk).2 (.inl hx)), fun T hT => ⟨(h.sound T hT).1, fun x hx => (h.sound T hT).2 x ((mem_last hk).2 (.inl hx))⟩, fun x hx => ?_, fun q hq e y hy => ?_, ?_⟩
  · rcases h.first x hx with h1 | h1
    · exact .inl h1
    · rcases (mem_last hk).1 h1 with h2 | h2
      · exact .inr h2
      · exact .inl (by rw [h2]; exact hf)
  · rcases h.next q hq e y hy with h1 | h1
    · exact .inl h1
    · rcases (mem_last hk).1 h1 with h2 | h2
      · exact .inr h2
      · exact .inl (by rw [h2]; exact hf)
  · have := h.room
    rw [List.length_take]
    omega
theorem count_set {q : Nat} (hq : q < bs.length) (hf : el bs q = false) : (bs.set q true).count false + 1 = bs.count false := by
  induction bs generalizing q with
  | nil => simp at hq
  | cons b l ih =>
    cases q with
    | zero =>
      rw [el_zero] at hf
      subst hf
      simp
    | succ q =>
      rw [el_succ] at hf
      have := ih (q := q) (by simpa using hq) hf
      rw [List.set_cons_succ, List.count_cons, List.count_cons]
      omega
theorem Dfs.step (h : Dfs n M K F L bs ws) {k q : Nat} (hk : ws.length = k + 1) (hx : el ws k = (q : Int)) (hf : el bs q = false) (hL : ∀ y ∈ L q, 0 ≤ y ∧ y < (n : Int)) (hM : (L q).length ≤ M) : Dfs n M K F L (bs.set q true) (ws.take k ++ L q) := by
  have hin := h.inn (el ws k) (el_mem (by omega))
  have hq : q < n := by omega
  have hqb : q < bs.length := by rw [h.len]; exact hq
  refine ⟨by simpa using h.len, fun x hx' => ?_, fun T hT => ?_, fun x hx' => ?_, fun p hp e y hy => ?_, ?_⟩
  · rcases List.mem_append.1 hx' with h1 | h1
    · exact h.inn x ((mem_last hk).2 (.inl h1))
    · exact hL x h1
  · have hTq : T q := by
      have := (h.sound T hT).2 (el ws k) (el_mem (by omega))
      rw [hx] at this
      simpa using this
    refine ⟨fun p hp e => ?_, fun x hx' => ?_⟩
    · rw [el_setB hqb] at e
      split at e
      · rename_i e9; subst e9; exact hTq
      · exact (h.sound T hT).1 p hp e
    · rcases List.mem_append.1 hx' with h1 | h1
      · exact (h.sound T hT).2 x ((mem_last hk).2 (.inl h1))
      · exact hT.2 q hq hTq x h1
  · rw [el_setB hqb]
    split
    · exact .inl rfl
    · rename_i e9
      rcases h.first x hx' with h1 | h1
      · exact .inl h1
      · rcases (mem_last hk).1 h1 with h2 | h2
        · exact .inr (List.mem_append.2 (.inl h2))
        · exact absurd (by rw [h2, hx]; simp) e9
  · rw [el_setB hqb] at e ⊢
    split
    · exact .inl rfl
    · rename_i e9
      split at e
      · rename_i e8; subst e8; exact .inr (List.mem_append.2 (.inr hy))
      · rcases h.next p hp e y hy with h1 | h1
        · exact .inl h1
        · rcases (mem_last hk).1 h1 with h2 | h2
          · exact .inr (List.mem_append.2 (.inl h2))
          · exact absurd (by rw [h2, hx]; simp) e9
  · have h1 := h.room
    have h2 := count_set hqb hf
    rw [← h2] at h1
    rw [List.length_append, List.length_take]
    rw [Nat.add_mul] at h1
    omega
theorem Dfs.done (h : Dfs n M K F L bs []) : Least (SpreadC n F L) n bs := by
  refine ⟨h.len, ⟨fun x hx => ?_, fun q hq e y hy => ?_⟩, fun T hT => (h.sound T hT).1⟩
  · rcases h.first x hx with h1 | h1
    · exact h1
    · simp at h1
  · rcases h.next q hq e y hy with h1 | h1
    · exact h1
    · simp at h1
theorem Least.iff {C D : (Nat → Prop) → Prop} {bs : List Bool} (h : Least C n bs) (hCD : ∀ T, C T ↔ D T) : Least D n bs := ⟨h.1, (hCD _).1 h.2.1, fun T hT => h.2.2 T ((hCD T).2 hT)⟩
end
/-- Where a state's arcs lead. -/
def toL (l : List St) (q : Nat) : List Int := (el l q).2.map fun a => a.2.2.2
def startL (z : Int) : List Int := if z < 0 then [] else [z]
theorem ahead_spread {z : Int} {l : List St} (hz : z < l.length) (T : Nat → Prop) : SpreadC l.length (startL z) (toL l) T ↔ AheadC z l T := by
  unfold SpreadC AheadC startL toL
  constructor
  · rintro ⟨h1, h2⟩
    refine ⟨fun q hq e => ?_, fun q hq e a ha => h2 q hq e _ (List.mem_map.2 ⟨a, ha, rfl⟩)⟩
    have := h1 z (by rw [if_neg (by omega)]; simp)
    rw [← e] at this
    simpa using this
  · rintro ⟨h1, h2⟩
    refine ⟨fun x hx => ?_, fun q hq e y hy => ?_⟩
    · split at hx
      · simp at hx
      · simp at hx
        subst hx
        exact h1 _ (by omega) (by omega)
    · obtain ⟨a, ha, rfl⟩ := List.mem_map.1 hy
      exact h2 q hq e a ha
def endL (l : List St) (n : Nat) : List Int := ((List.range n).filter fun q => decide ((el l q).1 ≠ 1000000001)).map fun q : Nat => (q : Int)
theorem endL_succ (l : List St) (n : Nat) : endL l (n + 1) = endL l n ++ (if (el l n).1 ≠ 1000000001 then [(n : Int)] else []) := by
  unfold endL
  rw [List.range_succ, List.filter_append, List.map_append]
  by_cases h : (el l n).1 = 1000000001 <;> simp [h]
theorem endL_le (l : List St) (n : Nat) : (endL l n).length ≤ n := by
  unfold endL
  rw [List.length_map]
  exact Nat.le_trans (List.length_filter_le _ _) (by simp)
theorem endL_mem {l : List St} {n : Nat} {x : Int} : x ∈ endL l n ↔ ∃ q : Nat, x = (q : Int) ∧ q < n ∧ (el l q).1 ≠ 1000000001 := by
  unfold endL
  simp only [List.mem_map, List.mem_filter, List.mem_range, decide_eq_true_eq]
  constructor
  · rintro ⟨q, ⟨h1, h2⟩, rfl⟩; exact ⟨q, rfl, h1, h2⟩
  · rintro ⟨q, rfl, h1, h2⟩; exact ⟨q, ⟨h1, h2⟩, rfl⟩
/-- A table: at t, from where arcs lead to t. It is filled arc by arc. -/
def putT (t q : Nat) (f : Nat → List Int) : Nat → List Int := fun p => if p = t then f p ++ [(q : Int)] else f p
def fillA (q : Nat) (ar : List Ar) (f : Nat → List Int) : Nat → List Int := ar.foldl (fun f a => putT a.2.2.2.toNat q f) f
def fillS (l : List St) (n : Nat) : Nat → List Int := (List.range n).foldl (fun f q => fillA q (el l q).2 f) (fun _ => [])
theorem fillS_succ (l : List St) (n : Nat) : fillS l (n + 1) = fillA n (el l n).2 (fillS l n) := by
  unfold fillS
  rw [List.range_succ, List.foldl_append]
  rfl
theorem fillA_take (q : Nat) {ar : List Ar} {k : Nat} (h : k < ar.length) (f : Nat → List Int) : fillA q (ar.take (k + 1)) f = putT (el ar k).2.2.2.toNat q (fillA q (ar.take k) f) := by
  unfold fillA
  rw [take_el h, List.foldl_append]
  rfl
theorem fillA_mem {q : Nat} {ar : List Ar} {f : Nat → List Int} {p : Nat} {x : Int} : x ∈ fillA q ar f p ↔ x ∈ f p ∨ (x = (q : Int) ∧ ∃ a ∈ ar, a.2.2.2.toNat = p) := by
  induction ar generalizing f with
  | nil => simp [fillA]
  | cons a ar ih =>
    have : fillA q (a :: ar) f = fillA q ar (putT a.2.2.2.toNat q f) := rfl
    rw [this, ih]
    unfold putT
    by_cases e : p = a.2.2.2.toNat
    · rw [if_pos e]
      simp only [List.mem_append, List.mem_cons, List.not_mem_nil, or_false]
      constructor
      · rintro ((h | h) | ⟨h1, b, hb, h2⟩)
        · exact .inl h
        · exact .inr ⟨h, a, .inl rfl, e.symm⟩
        · exact .inr ⟨h1, b, .inr hb, h2⟩
      · rintro (h | ⟨h1, b, hb | hb, h2⟩)
        · exact .inl (.inl h)
        · exact .inl (.inr h1)
        · exact .inr ⟨h1, b, hb, h2⟩
    · rw [if_neg e]
      simp only [List.mem_cons]
      constructor
      · rintro (h | ⟨h1, b, hb, h2⟩)
        · exact .inl h
        · exact .inr ⟨h1, b, .inr hb, h2⟩
      · rintro (h | ⟨h1, b, hb | hb, h2⟩)
        · exact .inl h
        · subst hb; exact absurd h2.symm e
        · exact .inr ⟨h1, b, hb, h2⟩
theorem fillS_mem {l : List St} {n p : Nat} {x : Int} : x ∈ fillS l n p ↔ ∃ q : Nat, x = (q : Int) ∧ q < n ∧ ∃ a ∈ (el l q).2, a.2.2.2.toNat = p := by
  induction n with
  | zero => simp [fillS]
  | succ n ih =>
    rw [fillS_succ, fillA_mem, ih]
    constructor
    · rintro (⟨q, h1, h2, h3⟩ | ⟨h1, h2⟩)
      · exact ⟨q, h1, by omega, h3⟩
      · exact ⟨n, h1, by omega, h2⟩
    · rintro ⟨q, h1, h2, h3⟩
      by_cases e : q = n
      · subst e; exact .inr ⟨h1, h3⟩
      · exact .inl ⟨q, h1, by omega, h3⟩
theorem fillA_len (q : Nat) (ar : List Ar) (f : Nat → List Int) (p : Nat) : (fillA q ar f p).length ≤ (f p).length + ar.length := by
  induction ar generalizing f with
  | nil => simp [fillA]
  | cons a ar ih =>
    have : fillA q (a :: ar) f = fillA q ar (putT a.2.2.2.toNat q f) := rfl
    rw [this]
    have := ih (f := putT a.2.2.2.toNat q f)
    unfold putT at this ⊢
    simp only [List.length_cons]
    split at this <;> simp at this ⊢ <;> omega
theorem fillS_len (l : List St) (n p : Nat) (hn : n ≤ l.length) : (fillS l n p).length ≤ arcN (l.take n) := by
  induction n with
  | zero => simp [fillS]
  | succ n ih =>
    rw [fillS_succ, arcN_take (by omega)]
    have := fillA_len n (el l n).2 (fillS l n) p
    have := ih (by omega)
    omega
theorem back_spread {l : List St} (ht : ∀ q, q < l.length → ∀ a ∈ (el l q).2, ∃ t : Nat, a.2.2.2 = (t : Int) ∧ t < l.length) (T : Nat → Prop) : SpreadC l.length (endL l l.length) (fillS l l.length) T ↔ BackC l T := by
  unfold SpreadC BackC
  constructor
  · rintro ⟨h1, h2⟩
    refine ⟨fun q hq e => ?_, fun q hq a ha e => ?_⟩
    · simpa using h1 (q : Int) (endL_mem.2 ⟨q, rfl, hq, e⟩)
    · obtain ⟨t, h3, h4⟩ := ht q hq a ha
      rw [h3] at e
      simp only [Int.toNat_natCast] at e
      simpa using h2 t h4 e (q : Int) (fillS_mem.2 ⟨q, rfl, hq, a, ha, by rw [h3]; simp⟩)
  · rintro ⟨h1, h2⟩
    refine ⟨fun x hx => ?_, fun p hp e y hy => ?_⟩
    · obtain ⟨q, rfl, hq, e⟩ := endL_mem.1 hx
      simpa using h1 q hq e
    · obtain ⟨q, rfl, hq, a, ha, h3⟩ := fillS_mem.1 hy
      simpa using h2 q hq a ha (by rw [h3]; exact e)
end Go.Proofs.YtfekmlblldhieaaGreatDoor.Pl
namespace Go.Proofs.YtfekmlblldhieaaGreatDoor.Pl
set_option linter.unusedVariables false
set_option linter.unusedSimpArgs false
/-- A way to a state, and what it costs. -/
def wyD (p c : Nat) : Ar := ((p : Int), 0, 0, (c : Int))
theorem wyD_one {p q c d : Nat} (h : wyD p c = wyD q d) : p = q ∧ c = d := by
  simp only [wyD, Prod.mk.injEq, true_and] at h
  omega
/-- What can be had from N on, a place ahead of all states, for how much. -/
inductive RchD (S : Nat → List Ar) (N : Nat) : Nat → Nat → Prop
  | nil : RchD S N N 0
  | step {q p c w : Nat} (h : RchD S N q c) (e : wyD p w ∈ S q) : RchD S N p (c + w)
/-- Steps lead to states, and cost what a weight may be. -/
def StpR (S : Nat → List Ar) (N : Nat) : Prop := ∀ q, q ≤ N → (S q).length ≤ 400 ∧ ∀ a ∈ S q, ∃ p w : Nat, a = wyD p w ∧ p < N ∧ w ≤ 1000000000
/-- Done states, ways that wait; O: steps that are still to be looked at; b: no done state costs more, no way that waits costs less. -/
structure DijD (S : Nat → List Ar) (N : Nat) (D : Nat → Option Nat) (H : List Ar) (O : Nat → Nat → Prop) (b : Nat) : Prop where
  src : D N = some 0
  inn : ∀ q c, D q = some c → q ≤ N
  heap : ∀ h ∈ H, ∃ p c, h = wyD p c ∧ p < N ∧ RchD S N p c ∧ b ≤ c ∧ c ≤ 2000000000
  done : ∀ p c, D p = some c → RchD S N p c ∧ c ≤ b ∧ c ≤ 1000000000
  clos : ∀ q c, D q = some c → ∀ i, i < (S q).length → ¬ O q i → ∀ p w, el (S q) i = wyD p w → (∃ e, D p = some e ∧ e ≤ c + w) ∨ wyD p (c + w) ∈ H
def srcD (N : Nat) : Nat → Option Nat := fun q => if q = N then some 0 else none
def updD (D : Nat → Option Nat) (p c : Nat) : Nat → Option Nat := fun q => if q = p then some c else D q
section
variable {S : Nat → List Ar} {N : Nat} {D : Nat → Option Nat} {H H' : List Ar} {b : Nat}
theorem DijD.start : DijD S N (srcD N) [] (fun q i => q = N ∧ 0 ≤ i) 0 := by
  have h0 : ∀ {q c}, srcD N q = some c → q = N ∧ c = 0 := fun {q c} h => by
    unfold srcD at h
    split at h
    · rename_i e; injection h with h; exact ⟨e, h.symm⟩
    · cases h
  refine ⟨by simp [srcD], fun q c h => by have := h0 h; omega, fun h hh => (by cases hh), fun p c h => ?_, fun q c h i hi hO => absurd ⟨(h0 h).1, Nat.zero_le _⟩ hO⟩
  obtain ⟨rfl, rfl⟩ := h0 h
  exact ⟨.nil, Nat.le_refl _, by omega⟩
theorem popD_split {p c q e : Nat} (hp : (wyD p c :: H').Perm H) (hq : wyD q e ∈ H) : (q = p ∧ e = c) ∨ wyD q e ∈ H' := by
  rcases List.mem_cons.1 (hp.mem_iff.2 hq) with g | g
  · exact .inl (wyD_one g)
  · exact .inr g
/-- The cheapest way leads to a state that is done. -/
theorem DijD.old (h : DijD S N D H (fun _ _ => False) b) {p c d : Nat} (hp : (wyD p c :: H').Perm H) (hd : D p = some d) : DijD S N D H' (fun _ _ => False) b := by
  obtain ⟨p', c', e0, _, _, hbc, _⟩ := h.heap (wyD p c) (hp.mem_iff.1 List.mem_cons_self)
  obtain ⟨rfl, rfl⟩ := wyD_one e0
  have hdb := (h.done p d hd).2.1
  refine ⟨h.src, h.inn, fun a ha => h.heap a (hp.mem_iff.1 (List.mem_cons_of_mem _ ha)), h.done, fun q e hq i hi hO p' w hw => ?_⟩
  rcases h.clos q e hq i hi hO p' w hw with g | g
  · exact .inl g
  · rcases popD_split hp g with ⟨rfl, g2⟩ | g
    · exact .inl ⟨d, hd, by omega⟩
    · exact .inr g
/-- It leads to a new one. -/
theorem DijD.new (h : DijD S N D H (fun _ _ => False) b) {p c : Nat} (hp : (wyD p c :: H').Perm H) (hmin : ∀ a ∈ H', (c : Int) ≤ a.2.2.2) (hd : D p = none) (hc : c ≤ 1000000000) : DijD S N (updD D p c) H' (fun q i => q = p ∧ 0 ≤ i) c := by
  obtain ⟨p', c', e0, hpN, hr, hbc, _⟩ := h.heap (wyD p c) (hp.mem_iff.1 List.mem_cons_self)
  obtain ⟨rfl, rfl⟩ := wyD_one e0
  have hu : ∀ {q e}, updD D p c q = some e → (q = p ∧ e = c) ∨ (q ≠ p ∧ D q = some e) := fun {q e} hq => by
    unfold updD at hq
    split at hq
    · rename_i g; injection hq with hq; exact .inl ⟨g, hq.symm⟩
    · rename_i g; exact .inr ⟨g, hq⟩
  refine ⟨?_, fun q e hq => ?_, fun a ha => ?_, fun q e hq => ?_, fun q e hq i hi hO p' w hw => ?_⟩
  · unfold updD; rw [if_neg (by omega)]; exact h.src
  · rcases hu hq with ⟨rfl, _⟩ | ⟨_, hq⟩
    · omega
    · exact h.inn q e hq
  · obtain ⟨q, e, rfl, k0, k1, k2, k3⟩ := h.heap a (hp.mem_iff.1 (List.mem_cons_of_mem _ ha))
    have := hmin _ ha
    simp only [wyD] at this
    exact ⟨q, e, rfl, k0, k1, by omega, k3⟩
  · rcases hu hq with ⟨rfl, rfl⟩ | ⟨_, hq⟩
    · exact ⟨hr, Nat.le_refl _, hc⟩
    · obtain ⟨k1, k2, k3⟩ := h.done q e hq
      exact ⟨k1, by omega, k3⟩
  · rcases hu hq with ⟨rfl, rfl⟩ | ⟨hne, hq⟩
    · exact absurd ⟨rfl, Nat.zero_le _⟩ hO
    · rcases h.clos q e hq i hi id p' w hw with ⟨e', g1, g2⟩ | g
      · refine .inl ⟨e', ?_, g2⟩
        unfold updD
        rw [if_neg (fun g => by rw [g, hd] at g1; cases g1)]
        exact g1
      · rcases popD_split hp g with ⟨rfl, g2⟩ | g
        · exact .inl ⟨c, by simp [updD], by omega⟩
        · exact .inr g
/-- One step more waits. -/
theorem DijD.push (hS : StpR S N) {p c k : Nat} (h : DijD S N D H (fun q i => q = p ∧ k ≤ i) c) (hpc : D p = some c) (hk : k < (S p).length) {p' w : Nat} (hw : el (S p) k = wyD p' w) (hp : H'.Perm (H ++ [wyD p' (c + w)])) : DijD S N D H' (fun q i => q = p ∧ k + 1 ≤ i) c := by
  obtain ⟨k1, _, k3⟩ := h.done p c hpc
  have hm : wyD p' w ∈ S p := by rw [← hw]; exact el_mem hk
  obtain ⟨p2, w2, e2, hpN, hwl⟩ := (hS p (h.inn p c hpc)).2 _ hm
  obtain ⟨rfl, rfl⟩ := wyD_one e2
  have hmem : ∀ a, a ∈ H' ↔ a ∈ H ∨ a = wyD p' (c + w) := fun a => by rw [hp.mem_iff, List.mem_append, List.mem_singleton]
  refine ⟨h.src, h.inn, fun a ha => ?_, h.done, fun q e hq i hi hO r v hr => ?_⟩
  · rcases (hmem a).1 ha with g | g
    · exact h.heap a g
    · exact ⟨p', c + w, g, hpN, k1.step hm, by omega, by omega⟩
  · by_cases e1 : q = p ∧ k ≤ i
    · obtain ⟨rfl, e2⟩ := e1
      have e3 : i = k := by
        by_cases e4 : k + 1 ≤ i
        · exact absurd ⟨rfl, e4⟩ hO
        · omega
      subst e3
      rw [hw] at hr
      obtain ⟨rfl, rfl⟩ := wyD_one hr
      rw [hpc] at hq
      injection hq with hq
      subst hq
      exact .inr ((hmem _).2 (.inr rfl))
    · rcases h.clos q e hq i hi e1 r v hr with g | g
      · exact .inl g
      · exact .inr ((hmem _).2 (.inl g))
/-- One that leads to a done state. -/
theorem DijD.skip {p c k : Nat} (h : DijD S N D H (fun q i => q = p ∧ k ≤ i) c) (hpc : D p = some c) {p' w e : Nat} (hw : el (S p) k = wyD p' w) (he : D p' = some e) : DijD S N D H (fun q i => q = p ∧ k + 1 ≤ i) c := by
  refine ⟨h.src, h.inn, h.heap, h.done, fun q d hq i hi hO r v hr => ?_⟩
  by_cases e1 : q = p ∧ k ≤ i
  · obtain ⟨rfl, e2⟩ := e1
    have e3 : i = k := by
      by_cases e4 : k + 1 ≤ i
      · exact absurd ⟨rfl, e4⟩ hO
      · omega
    subst e3
    rw [hw] at hr
    obtain ⟨rfl, rfl⟩ := wyD_one hr
    rw [hpc] at hq
    injection hq with hq
    have := (h.done p' e he).2.1
    exact .inl ⟨e, he, by omega⟩
  · exact h.clos q d hq i hi e1 r v hr
theorem DijD.all {p c k : Nat} (h : DijD S N D H (fun q i => q = p ∧ k ≤ i) c) (hk : (S p).length ≤ k) : DijD S N D H (fun _ _ => False) c :=
  ⟨h.src, h.inn, h.heap, h.done, fun q d hq i hi _ r v hr => h.clos q d hq i hi (fun g => by rw [g.1] at hi; omega) r v hr⟩
/-- What can be had is done for no more, or costs no less than all that waits. -/
theorem DijD.told (hS : StpR S N) (h : DijD S N D H (fun _ _ => False) b) {c : Nat} (hmin : ∀ a ∈ H, (c : Int) ≤ a.2.2.2) {p d : Nat} (hr : RchD S N p d) : (∃ e, D p = some e ∧ e ≤ d) ∨ c ≤ d := by
  induction hr with
  | nil => exact .inl ⟨0, h.src, Nat.le_refl _⟩
  | step hr e ih =>
    rename_i q p d w
    rcases ih with ⟨e1, g1, g2⟩ | g
    · obtain ⟨i, hi, hii⟩ := mem_el e
      rcases h.clos q e1 g1 i hi id p w hii with ⟨e2, g3, g4⟩ | g3
      · exact .inl ⟨e2, g3, by omega⟩
      · have := hmin _ g3
        simp only [wyD] at this
        exact .inr (by omega)
    · exact .inr (by omega)
/-- The table of what is done. -/
def cstD (D : Nat → Option Nat) (q : Nat) : Int := match D q with | some c => (c : Int) | none => 1000000001
/-- Nothing waits: all is told. -/
theorem DijD.ans (hS : StpR S N) (h : DijD S N D [] (fun _ _ => False) b) {P : Nat → Nat → Prop} (hP : ∀ q c, q < N → (P q c ↔ RchD S N q c)) {cs : List Int} (hl : cs.length = N) (hc : ∀ q, q < N → el cs q = cstD D q) : LstAns P N cs 0 := by
  refine .inl ⟨rfl, hl, fun q hq => ?_⟩
  rw [hc q hq]
  unfold cstD
  cases hd : D q with
  | none =>
    refine .inl ⟨fun c hc => ?_, rfl, rfl⟩
    rcases h.told hS (c := c + 1) (fun a ha => by cases ha) ((hP q c hq).1 hc) with ⟨e, g, _⟩ | g
    · rw [hd] at g; cases g
    · omega
  | some c =>
    obtain ⟨k1, _, k3⟩ := h.done q c hd
    refine .inr ⟨c, ⟨(hP q c hq).2 k1, fun d hd2 => ?_⟩, .inl ⟨k3, rfl, rfl⟩⟩
    rcases h.told hS (c := d + 1) (fun a ha => by cases ha) ((hP q d hq).1 hd2) with ⟨e, g, g2⟩ | g
    · rw [hd] at g; injection g with g; omega
    · omega
/-- The cheapest way leads to a new state, and is too dear. -/
theorem DijD.over (hS : StpR S N) (h : DijD S N D H (fun _ _ => False) b) {P : Nat → Nat → Prop} (hP : ∀ q c, q < N → (P q c ↔ RchD S N q c)) {p c : Nat} (hp : (wyD p c :: H').Perm H) (hmin : ∀ a ∈ H', (c : Int) ≤ a.2.2.2) (hd : D p = none) (hc : 1000000000 < c) : LstAns P N [] 4 := by
  obtain ⟨p', c', e0, hpN, hr, _, _⟩ := h.heap (wyD p c) (hp.mem_iff.1 List.mem_cons_self)
  obtain ⟨rfl, rfl⟩ := wyD_one e0
  refine .inr ⟨rfl, rfl, p, hpN, .inr ⟨c, ⟨(hP p c hpN).2 hr, fun d hd2 => ?_⟩, .inr ⟨hc, rfl, rfl⟩⟩⟩
  have hm : ∀ a ∈ H, (c : Int) ≤ a.2.2.2 := fun a ha => by
    rcases List.mem_cons.1 (hp.mem_iff.2 ha) with g | g
    · rw [g]; exact Int.le_refl _
    · exact hmin a g
  rcases h.told hS (c := c) hm ((hP p d hpN).1 hd2) with ⟨e, g, _⟩ | g
  · rw [hd] at g; cases g
  · exact g
/-- What is told of a state, and what is in the table of the done ones. -/
def DonB (D : Nat → Option Nat) (bs : List Bool) (N : Nat) : Prop := bs.length = N ∧ ∀ q, q < N → el bs q = (D q).isSome
def DonC (D : Nat → Option Nat) (cs : List Int) (N : Nat) : Prop := cs.length = N ∧ ∀ q, q < N → el cs q = cstD D q
theorem DonB.start (N : Nat) : DonB (srcD N) (List.replicate N false) N :=
  ⟨by simp, fun q hq => by rw [el_false]; unfold srcD; rw [if_neg (by omega)]; rfl⟩
theorem DonC.start (N : Nat) {cs : List Int} (hl : cs.length = N) (h : ∀ q, q < N → el cs q = 1000000001) : DonC (srcD N) cs N :=
  ⟨hl, fun q hq => by rw [h q hq]; unfold cstD srcD; rw [if_neg (by omega)]⟩
theorem DonB.put {bs : List Bool} (h : DonB D bs N) {p : Nat} (hp : p < N) (c : Nat) : DonB (updD D p c) (bs.set p true) N := by
  refine ⟨by rw [List.length_set]; exact h.1, fun q hq => ?_⟩
  rw [el_setB (by rw [h.1]; exact hp)]
  unfold updD
  split
  · rfl
  · exact h.2 q hq
theorem DonC.put {cs : List Int} (h : DonC D cs N) {p : Nat} (hp : p < N) (c : Nat) : DonC (updD D p c) (cs.set p (c : Int)) N := by
  refine ⟨by rw [List.length_set]; exact h.1, fun q hq => ?_⟩
  rw [el_setT (by rw [h.1]; exact hp)]
  unfold cstD updD
  split
  · rfl
  · exact h.2 q hq
theorem DonB.none {bs : List Bool} (h : DonB D bs N) {p : Nat} (hp : p < N) (hf : el bs p = false) : D p = none := by
  have := h.2 p hp
  rw [hf] at this
  cases hd : D p with
  | none => rfl
  | some c => rw [hd] at this; simp at this
theorem DonB.some {bs : List Bool} (h : DonB D bs N) {p : Nat} (hp : p < N) (hf : el bs p = true) : ∃ c, D p = some c := by
  have := h.2 p hp
  rw [hf] at this
  cases hd : D p with
  | none => rw [hd] at this; simp at this
  | some c => exact ⟨c, rfl⟩
end
end Go.Proofs.YtfekmlblldhieaaGreatDoor.Pl
namespace Go.Proofs.YtfekmlblldhieaaGreatDoor.Pl
set_option linter.unusedVariables false
set_option linter.unusedSimpArgs false
/-- A table of lists of ways, filled arc by arc. -/
def putW (t : Nat) (x : Ar) (f : Nat → List Ar) : Nat → List Ar := fun p => if p = t then f p ++ [x] else f p
def filA (k : Nat → Ar → Nat × Ar) (q : Nat) (ar : List Ar) (f : Nat → List Ar) : Nat → List Ar := ar.foldl (fun f a => putW (k q a).1 (k q a).2 f) f
def filS (k : Nat → Ar → Nat × Ar) (l : List St) (n : Nat) : Nat → List Ar := (List.range n).foldl (fun f q => filA k q (el l q).2 f) (fun _ => [])
/-- Where an arc leads; from where. -/
def onK (q : Nat) (a : Ar) : Nat × Ar := (q, wyD a.2.2.2.toNat a.2.2.1.toNat)
def bkK (q : Nat) (a : Ar) : Nat × Ar := (a.2.2.2.toNat, wyD q a.2.2.1.toNat)
variable {k : Nat → Ar → Nat × Ar}
theorem filS_succ (l : List St) (n : Nat) : filS k l (n + 1) = filA k n (el l n).2 (filS k l n) := by
  unfold filS
  rw [List.range_succ, List.foldl_append]
  rfl
theorem filA_take (q : Nat) {ar : List Ar} {i : Nat} (h : i < ar.length) (f : Nat → List Ar) : filA k q (ar.take (i + 1)) f = putW (k q (el ar i)).1 (k q (el ar i)).2 (filA k q (ar.take i) f) := by
  unfold filA
  rw [take_el h, List.foldl_append]
  rfl
theorem filA_mem {q : Nat} {ar : List Ar} {f : Nat → List Ar} {p : Nat} {x : Ar} : x ∈ filA k q ar f p ↔ x ∈ f p ∨ ∃ a ∈ ar, k q a = (p, x) := by
  induction ar generalizing f with
  | nil => simp [filA]
  | cons a ar ih =>
    have : filA k q (a :: ar) f = filA k q ar (putW (k q a).1 (k q a).2 f) := rfl
    rw [this, ih]
    unfold putW
    by_cases e : p = (k q a).1
    · rw [if_pos e]
      simp only [List.mem_append, List.mem_cons, List.not_mem_nil, or_false]
      constructor
      · rintro ((h | h) | ⟨b, hb, h2⟩)
        · exact .inl h
        · exact .inr ⟨a, .inl rfl, by rw [e, h]⟩
        · exact .inr ⟨b, .inr hb, h2⟩
      · rintro (h | ⟨b, hb | hb, h2⟩)
        · exact .inl (.inl h)
        · exact .inl (.inr (by rw [← hb, h2]))
        · exact .inr ⟨b, hb, h2⟩
    · rw [if_neg e]
      simp only [List.mem_cons]
      constructor
      · rintro (h | ⟨b, hb, h2⟩)
        · exact .inl h
        · exact .inr ⟨b, .inr hb, h2⟩
      · rintro (h | ⟨b, hb | hb, h2⟩)
        · exact .inl h
        · subst hb; exact absurd (by rw [h2]) e
        · exact .inr ⟨b, hb, h2⟩
theorem filS_mem {l : List St} {n p : Nat} {x : Ar} : x ∈ filS k l n p ↔ ∃ q : Nat, q < n ∧ ∃ a ∈ (el l q).2, k q a = (p, x) := by
  induction n with
  | zero => simp [filS]
  | succ n ih =>
    rw [filS_succ, filA_mem, ih]
    constructor
    · rintro (⟨q, h2, h3⟩ | h2)
      · exact ⟨q, by omega, h3⟩
      · exact ⟨n, by omega, h2⟩
    · rintro ⟨q, h2, h3⟩
      by_cases e : q = n
      · subst e; exact .inr h3
      · exact .inl ⟨q, by omega, h3⟩
theorem filA_len (q : Nat) (ar : List Ar) (f : Nat → List Ar) (p : Nat) : (filA k q ar f p).length ≤ (f p).length + ar.length := by
  induction ar generalizing f with
  | nil => simp [filA]
  | cons a ar ih =>
    have : filA k q (a :: ar) f = filA k q ar (putW (k q a).1 (k q a).2 f) := rfl
    rw [this]
    have := ih (f := putW (k q a).1 (k q a).2 f)
    unfold putW at this ⊢
    simp only [List.length_cons]
    split at this <;> simp at this ⊢ <;> omega
theorem filS_len (l : List St) (n p : Nat) (hn : n ≤ l.length) : (filS k l n p).length ≤ arcN (l.take n) := by
  induction n with
  | zero => simp [filS]
  | succ n ih =>
    rw [filS_succ, arcN_take (by omega)]
    have := filA_len (k := k) n (el l n).2 (filS k l n) p
    have := ih (by omega)
    omega
/-- Where all paths begin; where they end. -/
def begW (z : Int) : List Ar := if z = -1 then [] else [wyD z.toNat 0]
def endW (l : List St) (n : Nat) : List Ar := ((List.range n).filter fun q => decide ((el l q).1 ≠ 1000000001)).map fun q => wyD q (el l q).1.toNat
theorem endW_succ (l : List St) (n : Nat) : endW l (n + 1) = endW l n ++ (if (el l n).1 ≠ 1000000001 then [wyD n (el l n).1.toNat] else []) := by
  unfold endW
  rw [List.range_succ, List.filter_append, List.map_append]
  by_cases h : (el l n).1 = 1000000001 <;> simp [h]
theorem endW_le (l : List St) (n : Nat) : (endW l n).length ≤ n := by
  unfold endW
  rw [List.length_map]
  exact Nat.le_trans (List.length_filter_le _ _) (by simp)
theorem endW_mem {l : List St} {n : Nat} {x : Ar} : x ∈ endW l n ↔ ∃ q : Nat, x = wyD q (el l q).1.toNat ∧ q < n ∧ (el l q).1 ≠ 1000000001 := by
  unfold endW
  simp only [List.mem_map, List.mem_filter, List.mem_range, decide_eq_true_eq]
  constructor
  · rintro ⟨q, ⟨h1, h2⟩, rfl⟩; exact ⟨q, rfl, h1, h2⟩
  · rintro ⟨q, rfl, h1, h2⟩; exact ⟨q, ⟨h1, h2⟩, rfl⟩
/-- The steps: those of the states, and from the place ahead of all. -/
def stpW (F : List Ar) (f : Nat → List Ar) (N : Nat) : Nat → List Ar := fun q => if q = N then F else f q
theorem stpW_src (F : List Ar) (f : Nat → List Ar) (N : Nat) : stpW F f N N = F := if_pos rfl
theorem stpW_at {F : List Ar} {f : Nat → List Ar} {N q : Nat} (h : q < N) : stpW F f N q = f q := if_neg (by omega)
theorem arc_right {m : Mc} (h : faultM m = 0) {q : Nat} {a : Ar} (ha : a ∈ (el m.2 q).2) : ∃ p w : Nat, a.2.2.2 = (p : Int) ∧ a.2.2.1 = (w : Int) ∧ p < m.2.length ∧ w ≤ 1000000000 := by
  have h1 := (right_parts h).2 _ (el_mem (el_in ha))
  simp only [stB, Bool.and_eq_true, List.all_eq_true] at h1
  have h2 := h1.2 _ ha
  simp only [arcB, inB, Bool.and_eq_true, decide_eq_true_eq] at h2
  exact ⟨a.2.2.2.toNat, a.2.2.1.toNat, by omega, by omega, by omega, by omega⟩
theorem fil_len {m : Mc} (h : faultM m = 0) (p : Nat) : (filS k m.2 m.2.length p).length ≤ 400 := by
  have h1 := filS_len (k := k) m.2 m.2.length p (Nat.le_refl _)
  rw [List.take_length] at h1
  have h2 := (right_size (z := m.1) (l := m.2) h).2
  omega
theorem stpF_right {m : Mc} (h : faultM m = 0) : StpR (stpW (begW m.1) (filS onK m.2 m.2.length) m.2.length) m.2.length := by
  obtain ⟨⟨hz1, hz2⟩, _⟩ := right_parts h
  intro q hq
  by_cases e : q = m.2.length
  · subst e
    rw [stpW_src]
    unfold begW
    split
    · exact ⟨by simp, fun a ha => (by cases ha)⟩
    · refine ⟨by simp, fun a ha => ?_⟩
      simp at ha
      exact ⟨m.1.toNat, 0, ha, by omega, by omega⟩
  · rw [stpW_at (by omega)]
    refine ⟨fil_len h q, fun a ha => ?_⟩
    obtain ⟨q', hq', b, hb, hk⟩ := filS_mem.1 ha
    obtain ⟨p, w, e1, e2, e3, e4⟩ := arc_right h hb
    simp only [onK, Prod.mk.injEq] at hk
    refine ⟨p, w, ?_, e3, e4⟩
    rw [← hk.2, e1, e2]
    rfl
theorem stpE_right {m : Mc} (h : faultM m = 0) : StpR (stpW (endW m.2 m.2.length) (filS bkK m.2 m.2.length) m.2.length) m.2.length := by
  have h60 := (right_size (z := m.1) (l := m.2) h).1
  intro q hq
  by_cases e : q = m.2.length
  · subst e
    rw [stpW_src]
    refine ⟨by have := endW_le m.2 m.2.length; omega, fun a ha => ?_⟩
    obtain ⟨q, rfl, hq, hf⟩ := endW_mem.1 ha
    have := fin_small h hq hf
    exact ⟨q, (el m.2 q).1.toNat, rfl, hq, by omega⟩
  · rw [stpW_at (by omega)]
    refine ⟨fil_len h q, fun a ha => ?_⟩
    obtain ⟨q', hq', b, hb, hk⟩ := filS_mem.1 ha
    obtain ⟨p, w, e1, e2, e3, e4⟩ := arc_right h hb
    simp only [bkK, Prod.mk.injEq] at hk
    refine ⟨q', w, ?_, hq', e4⟩
    rw [← hk.2, e2]
    rfl
theorem far_rch {m : Mc} (h : faultM m = 0) (q c : Nat) (hq : q < m.2.length) : FarC m.1 m.2 q c ↔ RchD (stpW (begW m.1) (filS onK m.2 m.2.length) m.2.length) m.2.length q c := by
  obtain ⟨⟨hz1, hz2⟩, _⟩ := right_parts h
  constructor
  · rintro ⟨hz, n, hr⟩
    have key : ∀ n j c, Run (ArcE m.2) m.1.toNat n j c → j < m.2.length → RchD (stpW (begW m.1) (filS onK m.2 m.2.length) m.2.length) m.2.length j c := by
      intro n j c hr
      induction hr with
      | nil =>
        intro _
        have h1 : RchD (stpW (begW m.1) (filS onK m.2 m.2.length) m.2.length) m.2.length m.1.toNat (0 + 0) := RchD.step .nil (by rw [stpW_src]; unfold begW; rw [if_neg (by omega)]; simp)
        exact h1
      | step hr e ih =>
        rename_i n j c w j'
        intro _
        have hj := arcE_in e
        obtain ⟨a, ha, e1, e2⟩ := e
        refine RchD.step (ih hj) ?_
        rw [stpW_at hj]
        refine filS_mem.2 ⟨j, hj, a, ha, ?_⟩
        simp only [onK, e1, e2, Int.toNat_natCast]
    exact key n q c hr hq
  · intro hr
    have key : ∀ q c, RchD (stpW (begW m.1) (filS onK m.2 m.2.length) m.2.length) m.2.length q c → (q = m.2.length ∧ c = 0) ∨ (q < m.2.length ∧ FarC m.1 m.2 q c) := by
      intro q c hr
      induction hr with
      | nil => exact .inl ⟨rfl, rfl⟩
      | step hr e ih =>
        rename_i q p c w
        rcases ih with ⟨rfl, rfl⟩ | ⟨hq, hz, n, hn⟩
        · rw [stpW_src] at e
          unfold begW at e
          split at e
          · cases e
          · simp only [List.mem_singleton] at e
            obtain ⟨rfl, rfl⟩ := wyD_one e
            exact .inr ⟨by omega, by omega, 0, .nil⟩
        · rw [stpW_at hq] at e
          obtain ⟨q', hq', a, ha, hk⟩ := filS_mem.1 e
          obtain ⟨p', w', e1, e2, e3, e4⟩ := arc_right h ha
          simp only [onK, e1, e2, Int.toNat_natCast, Prod.mk.injEq] at hk
          obtain ⟨rfl, hk⟩ := hk
          obtain ⟨rfl, rfl⟩ := wyD_one hk
          exact .inr ⟨e3, hz, n + 1, hn.step ⟨a, ha, e1, by rw [e2, Int.toNat_natCast]⟩⟩
    rcases key q c hr with ⟨rfl, _⟩ | ⟨_, h1⟩
    · omega
    · exact h1
theorem end_rch {m : Mc} (h : faultM m = 0) (q c : Nat) (hq : q < m.2.length) : EndC m.2 q c ↔ RchD (stpW (endW m.2 m.2.length) (filS bkK m.2 m.2.length) m.2.length) m.2.length q c := by
  constructor
  · rintro ⟨n, p, d, hr, hp, hf, rfl⟩
    have key : ∀ n q d, q < m.2.length → Run (ArcE m.2) q n p d → RchD (stpW (endW m.2 m.2.length) (filS bkK m.2 m.2.length) m.2.length) m.2.length q (d + (el m.2 p).1.toNat) := by
      intro n
      induction n with
      | zero =>
        intro q d hq hr
        cases hr
        exact RchD.step .nil (by rw [stpW_src]; exact endW_mem.2 ⟨p, rfl, hp, hf⟩)
      | succ n ih =>
        intro q d hq hr
        obtain ⟨j, w, c', e, hr', rfl⟩ := hr.head
        have hj := (arcE_small h e).1
        obtain ⟨a, ha, e1, e2⟩ := e
        have h1 := RchD.step (w := w) (p := q) (ih j c' hj hr') (by
          rw [stpW_at hj]
          refine filS_mem.2 ⟨q, hq, a, ha, ?_⟩
          simp only [bkK, e1, e2, Int.toNat_natCast])
        rw [show w + c' + (el m.2 p).1.toNat = c' + (el m.2 p).1.toNat + w by omega]
        exact h1
    exact key n q d hq hr
  · intro hr
    have key : ∀ q c, RchD (stpW (endW m.2 m.2.length) (filS bkK m.2 m.2.length) m.2.length) m.2.length q c → (q = m.2.length ∧ c = 0) ∨ (q < m.2.length ∧ EndC m.2 q c) := by
      intro q c hr
      induction hr with
      | nil => exact .inl ⟨rfl, rfl⟩
      | step hr e ih =>
        rename_i q p c w
        rcases ih with ⟨rfl, rfl⟩ | ⟨hq, n, p0, d, hn, hp0, hf, rfl⟩
        · rw [stpW_src] at e
          obtain ⟨q, e, hq, hf⟩ := endW_mem.1 e
          obtain ⟨rfl, rfl⟩ := wyD_one e
          exact .inr ⟨hq, 0, p, 0, .nil, hq, hf, rfl⟩
        · rw [stpW_at hq] at e
          obtain ⟨q', hq', a, ha, hk⟩ := filS_mem.1 e
          obtain ⟨p', w', e1, e2, e3, e4⟩ := arc_right h ha
          simp only [bkK, e1, e2, Int.toNat_natCast, Prod.mk.injEq] at hk
          obtain ⟨rfl, hk⟩ := hk
          obtain ⟨rfl, rfl⟩ := wyD_one hk
          exact .inr ⟨hq', n + 1, p0, w' + d, Run.first ⟨a, ha, e1, by rw [e2, Int.toNat_natCast]⟩ hn, hp0, hf, by omega⟩
    rcases key q c hr with ⟨rfl, _⟩ | ⟨_, h1⟩
    · omega
    · exact h1
end Go.Proofs.YtfekmlblldhieaaGreatDoor.Pl
