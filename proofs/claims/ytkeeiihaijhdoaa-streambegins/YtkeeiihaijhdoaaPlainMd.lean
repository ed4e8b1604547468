/- Tables of marks as lists (no program in sight). -/
import Derived.Test.YtkeeiihaijhdoaaPlainMc
namespace Go.Proofs.Ytkeeiihaijhdoaa.Sm
open Go.Proofs.Ytkeeiihaijhdoaa.Pl
set_option linter.unusedVariables false
set_option linter.unusedSimpArgs false
/-- The list ms tells of the table T of n states. -/
def TRel (n : Nat) (T : Tbl) (ms : List Mk) : Prop :=
  ms.length = n ∧ ∀ q : Nat, q < n → (∀ y, T (q : Int) = some y → el ms q = ((q : Int), y)) ∧ (T (q : Int) = none → (el ms q).1 < 0) ∧ (el ms q).2.2.length ≤ 1000000
theorem TRel.nob (n : Nat) : TRel n (fun _ => none) (List.replicate n (-1, 0, [])) := by
  refine ⟨by simp, fun q hq => ⟨fun y h => (by cases h), fun _ => ?_, ?_⟩⟩
  · rw [el_get (by simpa using hq), List.getElem_replicate]; decide
  · rw [el_get (by simpa using hq), List.getElem_replicate]; simp
theorem TRel.pos {n : Nat} {T : Tbl} {ms : List Mk} (h : TRel n T ms) {q : Nat} (hq : q < n) {y : Ky} (hy : T (q : Int) = some y) : ¬ (el ms q).1 < 0 := by
  rw [(h.2 q hq).1 y hy]; simp only; omega
/-- What bestOf answers. -/
def bstM (a b : Mk) : Mk := if a.1 < 0 ∨ (0 ≤ b.1 ∧ betB b.2 a.2 = true) then b else a
theorem bstM_len {a b : Mk} {L : Nat} (ha : a.2.2.length ≤ L) (hb : b.2.2.length ≤ L) : (bstM a b).2.2.length ≤ L := by
  unfold bstM; split
  · exact hb
  · exact ha
theorem el_set {ms : List Mk} {p q : Nat} (k : Mk) (hp : p < ms.length) : el (ms.set p k) q = if q = p then k else el ms q := by
  by_cases e : q = p
  · subst e
    rw [if_pos rfl, el_get (by simpa using hp), List.getElem_set_self]
  · rw [if_neg e]
    simp [el, List.getElem?_set_ne (Ne.symm e)]
theorem TRel.bst {n : Nat} {T : Tbl} {ms : List Mk} (h : TRel n T ms) {p : Nat} (hp : p < n) {y : Ky} (hy : y.2.length ≤ 1000000) : TRel n (putT T (p : Int) y) (ms.set p (bstM (el ms p) ((p : Int), y))) := by
  refine ⟨by rw [List.length_set]; exact h.1, fun q hq => ?_⟩
  rw [el_set _ (by rw [h.1]; exact hp)]
  obtain ⟨g1, g2, g3⟩ := h.2 q hq
  unfold putT
  by_cases e : q = p
  · subst e
    rw [if_pos rfl, if_pos rfl]
    rcases hT : T (q : Int) with _ | b
    · have := g2 hT
      have hb : bstM (el ms q) ((q : Int), y) = ((q : Int), y) := by unfold bstM; rw [if_pos (.inl this)]
      rw [hb]
      refine ⟨fun z hz => ?_, fun hz => (by cases hz), hy⟩
      simp only [minO, Option.some.injEq] at hz
      rw [hz]
    · have he := g1 b hT
      rw [he]
      have hnn : ¬ ((q : Int) < 0) := by omega
      have hnq : (0 : Int) ≤ (q : Int) := by omega
      have hbm : bstM ((q : Int), b) ((q : Int), y) = ((q : Int), if betB y b = true then y else b) := by
        unfold bstM
        simp only
        by_cases h9 : betB y b = true
        · rw [if_pos (Or.inr ⟨hnq, h9⟩), if_pos h9]
        · rw [if_neg (by rintro (g | ⟨_, g⟩); exact hnn g; exact h9 g), if_neg h9]
      have hmo : minO (some b) y = some (if betB y b = true then y else b) := by
        unfold minO
        simp only
        split <;> rfl
      rw [hbm, hmo]
      rw [he] at g3
      refine ⟨fun z hz => ?_, fun hz => (by cases hz), ?_⟩
      · rw [Option.some.injEq] at hz; rw [hz]
      · simp only
        split
        · exact hy
        · exact g3
  · rw [if_neg e, if_neg (by omega)]
    exact ⟨g1, g2, g3⟩
theorem TRel.non {n : Nat} {T : Tbl} {ms : List Mk} (h : TRel n T ms) {p : Nat} (hp : p < n) {k : Mk} (hk : k.1 < 0) (hy : k.2.2.length ≤ 1000000) : TRel n T (ms.set p (bstM (el ms p) k)) := by
  refine ⟨by rw [List.length_set]; exact h.1, fun q hq => ?_⟩
  rw [el_set _ (by rw [h.1]; exact hp)]
  obtain ⟨g1, g2, g3⟩ := h.2 q hq
  by_cases e : q = p
  · subst e
    rw [if_pos rfl]
    unfold bstM
    by_cases h0 : (el ms q).1 < 0
    · rw [if_pos (.inl h0)]
      refine ⟨fun y hy2 => ?_, fun _ => hk, hy⟩
      rw [g1 y hy2] at h0
      simp only at h0
      omega
    · rw [if_neg (by rintro (h | ⟨h, _⟩); exact h0 h; omega)]
      exact ⟨g1, g2, g3⟩
  · rw [if_neg e]
    exact ⟨g1, g2, g3⟩
def rndN (m : Mc) (T : Tbl) (q : Nat) : Tbl := rndT m T (stsN q)
theorem rndN_succ (m : Mc) (T : Tbl) (q : Nat) : rndN m T (q + 1) = rndS m T (rndN m T q) (q : Int) := by
  unfold rndN rndT stsN
  rw [List.range_succ, List.map_append, List.foldl_append]
  rfl
theorem itT_bnd {m : Mc} {n : Nat} {T : Tbl} {A : Int} {B : Nat} (hf : faultM m = 0) (hb : BndT A B T) : ∀ k : Nat, BndT (A + 1000000000 * k) (B + k) (itT m n T k)
  | 0 => fun p y hp => by have := hb p y hp; simp; omega
  | k + 1 => fun p y hp => by
    have ih := itT_bnd hf hb (n := n) k
    have hup : (1000000000 : Int) * ((k + 1 : Nat) : Int) = 1000000000 * (k : Int) + 1000000000 := by rw [Int.natCast_add, Int.mul_add]; rfl
    rcases rndF_or _ hp with h | h | ⟨q, x, a, h1, h2, h3, rfl, rfl⟩
    · cases h
    · have := ih p y h
      omega
    · have g1 := ih q x h1
      have g2 := arcs_rng hf h2
      have g3 := goA_len x a
      have g4 : (goA x a).1 = x.1 + a.2.2.1 := rfl
      omega
theorem pshT_bnd {m : Mc} {K O : Tbl} {x : Ky} {A : Int} {B : Nat} (hf : faultM m = 0) (hO : BndT A B O) (hx : 0 ≤ x.1 ∧ x.1 + 1000000000 ≤ A ∧ x.2.length + 1 ≤ B) {q : Int} {l : List Ar} (hl : ∀ a ∈ l, a ∈ arcS m q) : BndT A B (pshT K x O l) := by
  intro p y hp
  rcases pshT_or _ hp with g | ⟨_, a, ha, _, _, rfl⟩
  · exact hO p y g
  · have g2 := arcs_rng hf (hl a ha)
    have g3 := goA_len x a
    have g4 : (goA x a).1 = x.1 + a.2.2.1 := rfl
    omega
/-- No key holds the empty label. -/
def NzT (T : Tbl) : Prop := ∀ q k, T q = some k → ∀ x ∈ k.2, x ≠ 0
theorem goA_nz {k : Ky} {a : Ar} (h : ∀ x ∈ k.2, x ≠ 0) : ∀ x ∈ (goA k a).2, x ≠ 0 := by
  intro x hx
  unfold goA at hx
  simp only at hx
  by_cases e : a.2.1 = 0
  · rw [if_pos e] at hx; exact h x hx
  · rw [if_neg e, List.mem_append, List.mem_singleton] at hx
    rcases hx with hx | rfl
    · exact h x hx
    · exact e
theorem Rch.nz {m : Mc} {T : Tbl} (hT : NzT T) {p : Int} {y : Ky} (h : Rch m T p y) : ∀ x ∈ y.2, x ≠ 0 := by
  induction h with
  | base h => exact hT _ _ h
  | step h ha h0 ih => exact goA_nz ih
theorem Clo.nz {m : Mc} {T K : Tbl} (h : Clo m T K) (hT : NzT T) : NzT K := fun q k hk => (h.1 q k hk).nz hT
def NzL (l : List Mk) : Prop := ∀ j, j < l.length → ∀ x ∈ (el l j).2.2, x ≠ 0
theorem ordL_mem {n : Nat} {T : Tbl} {k : Mk} (h : k ∈ ordL n T) : T k.1 = some k.2 := by
  unfold ordL at h
  rw [List.mem_filterMap] at h
  obtain ⟨q, _, h2⟩ := h
  rcases hT : T (q : Int) with _ | y
  · rw [hT] at h2; cases h2
  · rw [hT] at h2
    simp only [Option.map_some, Option.some.injEq] at h2
    rw [← h2]; exact hT
theorem NzT.list {n : Nat} {T : Tbl} (h : NzT T) : NzL (ordL n T) := fun j hj x hx => h _ _ (ordL_mem (el_mem hj)) x hx
end Go.Proofs.Ytkeeiihaijhdoaa.Sm
