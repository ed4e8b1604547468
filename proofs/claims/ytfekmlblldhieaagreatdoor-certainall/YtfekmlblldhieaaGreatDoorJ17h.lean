/- How far it is: the answers as numbers, for machines of small weights; what the ways have to do with each other (no program in sight). Numbering what hops lead to: where all of it lies in a short list it is never too large; a machine that leads forward (no program in sight). Made certain, a machine without cycles has no more paths, and some just where it had some (no program in sight). Made certain, a machine without cycles has no more paths, and some just where it had some: the counts (no program in sight). How far it is: ways of words are runs; reversed, the ends are as far from the start (no program in sight). Made certain, the cheapest path costs the same (no program in sight). A machine whose arcs lead to later states alone (no program in sight). Machines that lead forward whose arcs all read something (no program in sight). -/
import Derived.Test.YtfekmlblldhieaaGreatDoorJ17c
import Derived.Test.YtfekmlblldhieaaGreatDoorJ17a
import Derived.Test.YtfekmlblldhieaaGreatDoorJ17b
import Derived.Test.YtfekmlblldhieaaGreatDoorJ17f
import Derived.Test.YtfekmlblldhieaaGreatDoorJ17d
namespace Go.Proofs.YtfekmlblldhieaaGreatDoor.Pl
set_option linter.unusedVariables false
set_option linter.unusedSimpArgs false
theorem arcE_cheap {m : Mc} (hc : CheapL m.2) {k w j : Nat} (e : ArcE m.2 k w j) : w ≤ 1000 := by
  have hk := arcE_in e
  obtain ⟨a, ha, _, rfl⟩ := e
  have := (hc _ (el_mem hk)).2 a ha
  omega
theorem run_cheap {m : Mc} (hr : faultM m = 0) (hc : CheapL m.2) {s n q c : Nat} (hs : s < m.2.length) (h : Run (ArcE m.2) s n q c) : ∃ n' d, d ≤ 60000 ∧ d ≤ c ∧ Run (ArcE m.2) s n' q d := by
  have h60 := (right_size (z := m.1) (l := m.2) hr).1
  obtain ⟨n', d, hn, hd, h'⟩ := h.cheap hs (fun k w j e => (arcE_small hr e).1)
  have h1 := h'.cost (W := 1000) (fun k w j e => arcE_cheap hc e)
  have h2 : n' * 1000 ≤ 60 * 1000 := Nat.mul_le_mul_right _ (by omega)
  exact ⟨n', d, by omega, hd, h'⟩
theorem far_bound {m : Mc} (hr : faultM m = 0) (hc : CheapL m.2) {q c : Nat} (h : FarC m.1 m.2 q c) : ∃ d, d ≤ 100000000 ∧ FarC m.1 m.2 q d := by
  obtain ⟨hz, n, h⟩ := h
  obtain ⟨n', d, hd, _, h'⟩ := run_cheap hr hc (by have := (right_parts hr).1; omega) h
  exact ⟨d, by omega, hz, n', h'⟩
theorem end_bound {m : Mc} (hr : faultM m = 0) (hc : CheapL m.2) {q c : Nat} (hq : q < m.2.length) (h : EndC m.2 q c) : ∃ d, d ≤ 100000000 ∧ EndC m.2 q d := by
  obtain ⟨n, p, d, h, hp, hf, rfl⟩ := h
  obtain ⟨n', d', hd, _, h'⟩ := run_cheap hr hc hq h
  have := (hc _ (el_mem hp)).1 hf
  exact ⟨d' + (el m.2 p).1.toNat, by omega, n', p, d', h', hp, hf, rfl⟩
theorem dst_cst {m : Mc} {P : Nat → Nat → Prop} {vs : List Int} {ec : Int} (hr : faultM m = 0) (hb : ∀ q, q < m.2.length → ∀ c, P q c → ∃ d, d ≤ 100000000 ∧ P q d) (h : DstAns m P vs ec) : ec = 0 ∧ vs.length = m.2.length ∧ ∀ q, q < m.2.length → CstIs (P q) (el vs q) := by
  rcases h with ⟨h, _⟩ | ⟨_, ⟨h1, h2, h3⟩ | ⟨_, _, q, hq, h4⟩⟩
  · exact absurd hr h
  · exact ⟨h1, h2, fun q hq => (cst_of (h3 q hq) (hb q hq)).2⟩
  · exact absurd (cst_of h4 (hb q hq)).1 (by decide)
theorem far_cst {m : Mc} {vs : List Int} {ec : Int} (hr : faultM m = 0) (hc : CheapL m.2) (h : DstAns m (FarC m.1 m.2) vs ec) : ec = 0 ∧ vs.length = m.2.length ∧ ∀ q, q < m.2.length → CstIs (FarC m.1 m.2 q) (el vs q) := dst_cst hr (fun q hq c => far_bound hr hc) h
theorem end_cst {m : Mc} {vs : List Int} {ec : Int} (hr : faultM m = 0) (hc : CheapL m.2) (h : DstAns m (EndC m.2) vs ec) : ec = 0 ∧ vs.length = m.2.length ∧ ∀ q, q < m.2.length → CstIs (EndC m.2 q) (el vs q) := dst_cst hr (fun q hq c => end_bound hr hc hq) h
theorem lpa_cst {m : Mc} {x ec : Int} (hr : faultM m = 0) (hc : CheapL m.2) (hz : 0 ≤ m.1) (h : LpaAns m x ec) : ec = 0 ∧ CstIs (EndC m.2 m.1.toNat) x := by
  obtain ⟨vs, f, h1, h2⟩ := h
  obtain ⟨rfl, h3, h4⟩ := end_cst hr hc h1
  rcases h2 with ⟨h2, _⟩ | ⟨_, h5, h6⟩
  · exact absurd rfl h2
  · rw [if_neg (by omega)] at h6
    rw [h6]
    exact ⟨h5, h4 _ (by have := (right_parts hr).1; omega)⟩
/-- From the start to an end: over some state. -/
theorem end_by {m : Mc} (hz : 0 ≤ m.1) (c : Nat) : EndC m.2 m.1.toNat c ↔ ∃ q a, q < m.2.length ∧ FarC m.1 m.2 q a ∧ (el m.2 q).1 ≠ 1000000001 ∧ c = a + (el m.2 q).1.toNat :=
  ⟨fun ⟨n, p, d, h, hp, hf, e⟩ => ⟨p, d, hp, ⟨hz, n, h⟩, hf, e⟩, fun ⟨q, a, hq, ⟨_, n, h⟩, hf, e⟩ => ⟨n, q, a, h, hq, hf, e⟩⟩
theorem end_on {m : Mc} (hr : faultM m = 0) (hz : 0 ≤ m.1) (c : Nat) : EndC m.2 m.1.toNat c ↔ ∃ q a b, q < m.2.length ∧ FarC m.1 m.2 q a ∧ EndC m.2 q b ∧ c = a + b := by
  constructor
  · intro h
    exact ⟨m.1.toNat, 0, c, by have := (right_parts hr).1; omega, ⟨hz, 0, .nil⟩, h, by omega⟩
  · rintro ⟨q, a, b, hq, ⟨_, n, h⟩, ⟨n', p, d, h', hp, hf, rfl⟩, rfl⟩
    exact ⟨n + n', p, a + d, h.trans h', hp, hf, by omega⟩
end Go.Proofs.YtfekmlblldhieaaGreatDoor.Pl
namespace Go.Proofs.YtfekmlblldhieaaGreatDoor.Pl
set_option linter.unusedVariables false
set_option linter.unusedSimpArgs false
theorem nodup_few {α : Type} [DecidableEq α] : ∀ {L U : List α}, L.Nodup → (∀ t ∈ L, t ∈ U) → L.length ≤ U.length
  | [], U, _, _ => Nat.zero_le _
  | x :: L, U, h, hs => by
    rw [List.nodup_cons] at h
    have hx := hs x List.mem_cons_self
    have h1 := nodup_few (L := L) (U := U.erase x) h.2 (fun t ht => by
      have : t ≠ x := fun e => h.1 (e ▸ ht)
      exact (List.mem_erase_of_ne this).2 (hs t (List.mem_cons_of_mem _ ht)))
    have h2 := List.length_erase_of_mem hx
    have h3 : 0 < U.length := List.length_pos_of_mem hx
    simp only [List.length_cons]
    omega
section
variable {α : Type} [DecidableEq α]
theorem numH_fits {U : List α} (hU : U.length ≤ 60) : ∀ (hs : List (Hg α)) (L : List α) (n : Nat), (∀ h ∈ hs, h.2.2.1 ≤ 1000000000 ∧ h.2.2.2 ∈ U) → L.Nodup → (∀ t ∈ L, t ∈ U) → n + hs.length ≤ 400 → (numH hs L n).1 = 0 ∧ (numH hs L n).2.1.Nodup ∧ (∀ t ∈ (numH hs L n).2.1, t ∈ U) ∧ L.length ≤ (numH hs L n).2.1.length := by
  intro hs
  induction hs with
  | nil => intro L n _ h1 h2 _; exact ⟨rfl, h1, h2, Nat.le_refl _⟩
  | cons h hs ih =>
    intro L n hh h1 h2 hn
    obtain ⟨g1, g2⟩ := hh h List.mem_cons_self
    have k1 := addG_nodup h1 h.2.2.2
    have k2 : ∀ t ∈ addG L h.2.2.2, t ∈ U := fun t ht => by
      unfold addG at ht
      split at ht
      · exact h2 t ht
      · rcases List.mem_append.1 ht with g | g
        · exact h2 t g
        · rw [List.mem_singleton] at g; rw [g]; exact g2
    have k3 := nodup_few k1 k2
    simp only [List.length_cons] at hn
    obtain ⟨m1, m2, m3, m4⟩ := ih (addG L h.2.2.2) (n + 1) (fun k hk => hh k (List.mem_cons_of_mem _ hk)) k1 k2 (by omega)
    simp only [numH]
    rw [if_neg (by omega), if_neg (by omega)]
    exact ⟨m1, m2, m3, Nat.le_trans (addG_len L h.2.2.2).1 m4⟩
end
section
variable {α : Type} [DecidableEq α] [Inhabited α] {fin : α → Int × Int} {hops : α → List (Hg α)}
theorem numS_fits {U : List α} (hU : U.length ≤ 50) (H : ∀ t ∈ U, (fin t).2 = 0 ∧ (∀ h ∈ hops t, h.2.2.1 ≤ 1000000000 ∧ h.2.2.2 ∈ U) ∧ (hops t).length ≤ 8) : ∀ (k q : Nat) (L : List α) (S : List St) (n : Nat), L.Nodup → (∀ t ∈ L, t ∈ U) → q ≤ L.length → n ≤ 8 * q → 50 < k + q → ∃ x, numS fin hops k q L S n = (x, 0) := by
  intro k
  induction k with
  | zero =>
    intro q L S n h1 h2 h3 h4 h5
    have := nodup_few h1 h2
    omega
  | succ k ih =>
    intro q L S n h1 h2 h3 h4 h5
    simp only [numS]
    by_cases hq : q < L.length
    · obtain ⟨g1, g2, g3⟩ := H (el L q) (h2 _ (el_mem hq))
      have hl := nodup_few h1 h2
      obtain ⟨m1, m2, m3, m4⟩ := numH_fits (U := U) (by omega) (hops (el L q)) L n g2 h1 h2 (by omega)
      rw [if_pos hq, if_neg (fun g => g g1), if_neg (fun g => g m1)]
      exact ih _ _ _ _ m2 m3 (by omega) (by omega) (by omega)
    · rw [if_neg hq]
      exact ⟨_, rfl⟩
theorem numA_fits {s0 : α} {U : List α} (hU : U.length ≤ 50) (h0 : s0 ∈ U) (H : ∀ t ∈ U, (fin t).2 = 0 ∧ (∀ h ∈ hops t, h.2.2.1 ≤ 1000000000 ∧ h.2.2.2 ∈ U) ∧ (hops t).length ≤ 8) : ∃ x, numA fin hops s0 = (x, 0) :=
  numS_fits hU H 61 0 [s0] [] 0 (by simp) (fun t ht => by rw [List.mem_singleton] at ht; rw [ht]; exact h0) (by simp) (by omega) (by omega)
end
/-- All states of a set are at least k. -/
def FromS (n k : Nat) (S : List Int) : Prop := ∀ q, q < n → q < k → el S q = noneI
theorem ddR_len (p : Int × Int) (l : List (Int × Int)) : (ddR p l).length ≤ l.length := by
  induction l generalizing p with
  | nil => simp [ddR]
  | cons q qs ih =>
    simp only [ddR]
    split
    · have := ih q; simp; omega
    · have := ih q; simp; omega
theorem ddL_len (l : List (Int × Int)) : (ddL l).length ≤ l.length := by
  cases l with
  | nil => simp [ddL]
  | cons p ps => simp only [ddL, List.length_cons]; have := ddR_len p ps; omega
theorem flat_few {α : Type} {f : Nat → List α} {b : Nat} {P : Nat → Bool} : ∀ n, (∀ q, q < n → (f q).length ≤ if P q = true then b else 0) → ((List.range n).flatMap f).length ≤ b * ((List.range n).filter P).length := by
  intro n
  induction n with
  | zero => intro _; simp
  | succ n ih =>
    intro h
    have h1 := ih fun q hq => h q (by omega)
    have h2 := h n (by omega)
    rw [List.range_succ, List.flatMap_append, List.length_append, List.filter_append, List.length_append, Nat.mul_add]
    have h3 : (List.flatMap f [n]).length = (f n).length := by simp
    rw [h3]
    by_cases e : P n = true
    · rw [if_pos e] at h2
      have h4 : (List.filter P [n]).length = 1 := by simp [e]
      rw [h4]
      omega
    · rw [if_neg e] at h2
      have h4 : (List.filter P [n]).length = 0 := by simp [e]
      rw [h4]
      omega
theorem sortL_lenC (l : List Ar) : (sortL l).length = l.length := by
  rw [← ordL_sortL]
  exact ordL_length l
/-- How many pairs a set has at most. -/
theorem prs_few {l : List St} {S : List Int} {P : Nat → Bool} (h4 : ∀ q, q < l.length → (el l q).2.length ≤ 4) (hP : ∀ q, q < l.length → el S q ≠ noneI → (el l q).2 ≠ [] → P q = true) : (prsL l S).length ≤ 4 * ((List.range l.length).filter P).length := by
  unfold prsL
  refine Nat.le_trans (ddL_len _) ?_
  rw [List.length_map, sortL_lenC]
  unfold allA
  refine flat_few _ fun q hq => ?_
  by_cases e : el S q = noneI
  · rw [if_pos e]; simp
  · rw [if_neg e]
    by_cases e2 : (el l q).2 = []
    · rw [e2]; simp
    · rw [if_pos (hP q hq e e2)]; exact h4 q hq
section
variable {m : Mc} {S : List Int} {B : Int}
/-- The machines of which it is spoken: at most four states, arcs lead forward, at most four each. -/
structure Four (m : Mc) : Prop where
  right : faultM m = 0
  fwd : Fwd m.2
  start : m.1 = 0
  pos : 0 < m.2.length
  len : m.2.length ≤ 4
  arcs : ∀ q, q < m.2.length → (el m.2 q).2.length ≤ 4
  low : ∀ q a, a ∈ (el m.2 q).2 → a.2.2.1 ≤ 10
  fin : ∀ q, q < m.2.length → (el m.2 q).1 ≠ 1000000001 → (el m.2 q).1 ≤ 10
theorem Four.lastE (h : Four m) {q : Nat} (hq : q + 1 = m.2.length) : (el m.2 q).2 = [] := by
  cases e : (el m.2 q).2 with
  | nil => rfl
  | cons a r =>
    obtain ⟨t, _, h1, h2⟩ := h.fwd q (by omega) a (by rw [e]; exact List.mem_cons_self)
    omega
/-- A hop leads on. -/
theorem Four.hop (h : Four m) {k : Nat} (hS : SetN m.2.length B S) (hB : B ≤ 1000) (hk : FromS m.2.length k S) {x : Hg (List Int)} (hx : x ∈ hopsC m.2 S) : 0 ≤ x.2.2.1 ∧ x.2.2.1 ≤ B + 10 ∧ SetN m.2.length (B + 10) x.2.2.2 ∧ FromS m.2.length (k + 1) x.2.2.2 := by
  obtain ⟨p, hp, rfl⟩ := List.mem_map.1 hx
  obtain ⟨h1, h2, h3, h4, h5⟩ := hop_facts h.right hS (W := 10) h.low (by unfold noneI; omega) hp
  refine ⟨h1, h2, h3, fun t ht htk => ?_⟩
  by_cases e : el (hopC m.2 S p).2.2.2 t = noneI
  · exact e
  · obtain ⟨q, hq, hqS, a, ha, _, _, hat, _⟩ := h4 t ht e
    obtain ⟨t2, ht2, hlt, _⟩ := h.fwd q hq a ha
    have : ¬ q < k := fun hqk => hqS (hk q hq hqk)
    omega
/-- One of its states has 0 left. -/
theorem Four.zero (h : Four m) (hS : SetN m.2.length B S) (hB : B ≤ 1000) {x : Hg (List Int)} (hx : x ∈ hopsC m.2 S) : ∃ t, t < m.2.length ∧ el x.2.2.2 t = 0 := by
  obtain ⟨p, hp, rfl⟩ := List.mem_map.1 hx
  obtain ⟨h1, h2, h3, h4, h5⟩ := hop_facts h.right hS (W := 10) h.low (by unfold noneI; omega) hp
  have e1 : (hopC m.2 S p).2.2.1 = mnL (behL m.2 S p.1 p.2) := rfl
  rcases mnL_mem (behL m.2 S p.1 p.2) with e | e
  · rw [e1, e] at h2
    unfold noneI at h2
    omega
  · obtain ⟨t, ht, et⟩ := List.getElem_of_mem e
    have htl : t < m.2.length := by rw [beh_len] at ht; exact ht
    refine ⟨t, htl, ?_⟩
    show el (subS (behL m.2 S p.1 p.2) (mnL (behL m.2 S p.1 p.2))) t = 0
    rw [sub_el ht, el_get ht, et, if_neg (by rw [← e1]; unfold noneI; omega)]
    omega
theorem hops_len (l : List St) (S : List Int) : (hopsC l S).length = (prsL l S).length := by simp [hopsC]
/-- How many hops a set has whose states are at least k. -/
theorem Four.few (h : Four m) {k : Nat} (hk : FromS m.2.length k S) : (hopsC m.2 S).length ≤ 4 * (3 - k) := by
  rw [hops_len]
  refine Nat.le_trans (prs_few (P := fun q => decide (k ≤ q) && decide (q + 1 < m.2.length)) h.arcs fun q hq hqS hne => ?_) ?_
  · have : ¬ q < k := fun hqk => hqS (hk q hq hqk)
    have : ¬ q + 1 = m.2.length := fun e => hne (h.lastE e)
    simp
    omega
  · have hl := h.len
    have hp := h.pos
    have : ∀ n, n ≤ 4 → ((List.range n).filter fun q => decide (k ≤ q) && decide (q + 1 < n)).length ≤ 3 - k := by
      intro n hn
      have hc : n = 0 ∨ n = 1 ∨ n = 2 ∨ n = 3 ∨ n = 4 := by omega
      have hk : k = 0 ∨ k = 1 ∨ k = 2 ∨ 3 ≤ k := by omega
      rcases hc with rfl | rfl | rfl | rfl | rfl <;> rcases hk with rfl | rfl | rfl | hk <;> first | decide | skip
      all_goals
        refine Nat.le_trans (Nat.le_of_eq (List.length_eq_zero_iff.2 ?_)) (Nat.zero_le _)
        rw [List.filter_eq_nil_iff]
        intro q hq
        rw [List.mem_range] at hq
        simp <;> omega
    exact Nat.mul_le_mul (Nat.le_refl 4) (this _ hl)
theorem Four.first (h : Four m) : (hopsC m.2 (iniS m.2.length 0)).length ≤ 4 := by
  rw [hops_len]
  refine Nat.le_trans (prs_few (P := fun q => decide (q = 0)) h.arcs fun q hq hqS hne => ?_) ?_
  · rw [iniS_el h.pos hq] at hqS
    by_cases e : q = 0
    · simp [e]
    · rw [if_neg e] at hqS; exact absurd rfl hqS
  · have hl := h.len
    have hp := h.pos
    have hc : m.2.length = 1 ∨ m.2.length = 2 ∨ m.2.length = 3 ∨ m.2.length = 4 := by omega
    rcases hc with e | e | e | e <;> rw [e] <;> decide
def sucS (l : List St) (S : List Int) : List (List Int) := (hopsC l S).map fun x => x.2.2.2
/-- All sets that there can be. -/
def allS (l : List St) : List (List Int) := iniS l.length 0 :: (sucS l (iniS l.length 0) ++ (sucS l (iniS l.length 0)).flatMap (sucS l) ++ [iniS l.length 3])
theorem flat_le {α β : Type} {f : α → List β} {b : Nat} : ∀ {l : List α}, (∀ x ∈ l, (f x).length ≤ b) → (l.flatMap f).length ≤ l.length * b
  | [], _ => by simp
  | x :: l, h => by
    have h1 := h x List.mem_cons_self
    have h2 := flat_le (l := l) fun y hy => h y (List.mem_cons_of_mem _ hy)
    rw [List.flatMap_cons, List.length_append, List.length_cons, Nat.add_mul, Nat.one_mul]
    omega
theorem Four.iniF (h : Four m) (z : Nat) (hz : z < m.2.length ∨ m.2.length ≤ z) : SetN m.2.length 0 (iniS m.2.length z) ∧ FromS m.2.length z (iniS m.2.length z) := by
  rcases hz with hz | hz
  · exact ⟨iniS_set hz, fun q hq hqz => by rw [iniS_el hz hq, if_neg (by omega)]⟩
  · have e : ∀ q, q < m.2.length → el (iniS m.2.length z) q = noneI := fun q hq => by
      have : iniS m.2.length z = List.replicate m.2.length noneI := by unfold iniS; rw [List.set_eq_of_length_le (by simpa using hz)]
      rw [this, el_get (by simpa using hq)]
      simp
    exact ⟨⟨by simp [iniS], fun q hq => .inl (e q hq)⟩, fun q hq _ => e q hq⟩
/-- What is known of each of them. -/
theorem Four.each (h : Four m) : ∀ t ∈ allS m.2, ∃ k B, k ≤ 3 ∧ B ≤ 20 ∧ SetN m.2.length B t ∧ FromS m.2.length k t ∧ (k = 0 → t = iniS m.2.length 0) ∧ (k = 1 → t ∈ sucS m.2 (iniS m.2.length 0)) := by
  intro t ht
  have h0 := h.iniF 0 (.inl h.pos)
  have step : ∀ {k : Nat} {B : Int} {S t : List Int}, SetN m.2.length B S → B ≤ 1000 → FromS m.2.length k S → t ∈ sucS m.2 S → SetN m.2.length (B + 10) t ∧ FromS m.2.length (k + 1) t := fun hS hB hk ht => by
    obtain ⟨x, hx, rfl⟩ := List.mem_map.1 ht
    exact (h.hop hS hB hk hx).2.2
  unfold allS at ht
  rcases List.mem_cons.1 ht with rfl | ht
  · exact ⟨0, 0, by omega, by omega, h0.1, h0.2, fun _ => rfl, fun e => by omega⟩
  · rcases List.mem_append.1 ht with ht | ht
    · rcases List.mem_append.1 ht with ht | ht
      · obtain ⟨g1, g2⟩ := step h0.1 (by omega) h0.2 ht
        exact ⟨1, 10, by omega, by omega, g1, g2, fun e => by omega, fun _ => ht⟩
      · obtain ⟨s, hs, ht⟩ := List.mem_flatMap.1 ht
        obtain ⟨g1, g2⟩ := step h0.1 (by omega) h0.2 hs
        obtain ⟨g3, g4⟩ := step g1 (by omega) g2 ht
        exact ⟨2, 20, by omega, by omega, g3, g4, fun e => by omega, fun e => by omega⟩
    · rw [List.mem_singleton] at ht
      subst ht
      have h3 := h.iniF 3 (by omega)
      exact ⟨3, 0, by omega, by omega, h3.1, h3.2, fun e => by omega, fun e => by omega⟩
/-- Without cycles there is always one. -/
theorem cer_all (h : Four m) (he : empB m.2 = false) : ∃ x, cerA m = (x, 0) := by
  have h0 := h.iniF 0 (.inl h.pos)
  have e0 : cerA m = numA (finC m.2) (hopsC m.2) (iniS m.2.length 0) := by
    unfold cerA
    rw [if_neg (fun g => g h.right), he, if_neg (by decide), h.start, if_neg (by decide)]
    rfl
  rw [e0]
  have hf := h.first
  have hsuc : (sucS m.2 (iniS m.2.length 0)).length ≤ 4 := by unfold sucS; rw [List.length_map]; exact hf
  have hone : ∀ s ∈ sucS m.2 (iniS m.2.length 0), (sucS m.2 s).length ≤ 8 := fun s hs => by
    obtain ⟨x, hx, rfl⟩ := List.mem_map.1 hs
    unfold sucS
    rw [List.length_map]
    exact h.few (k := 1) (h.hop h0.1 (by omega) h0.2 hx).2.2.2
  have hl : (allS m.2).length ≤ 50 := by
    have h1 := flat_le hone
    unfold allS
    simp only [List.length_cons, List.length_append, List.length_nil]
    have h2 : (sucS m.2 (iniS m.2.length 0)).length * 8 ≤ 4 * 8 := Nat.mul_le_mul hsuc (Nat.le_refl _)
    omega
  refine numA_fits hl List.mem_cons_self fun t ht => ?_
  obtain ⟨k, B, hk, hB, hS, hF, hk0, hk1⟩ := h.each t ht
  have hfin := (fin_ok h.right hS (W := 10) h.fin (by omega)).1
  refine ⟨hfin, fun x hx => ?_, ?_⟩
  · obtain ⟨g1, g2, g3, g4⟩ := h.hop hS (by omega) hF hx
    refine ⟨by omega, ?_⟩
    have hkc : k = 0 ∨ k = 1 ∨ 2 ≤ k := by omega
    rcases hkc with e | e | e
    · have := hk0 e
      subst this
      exact List.mem_cons_of_mem _ (List.mem_append_left _ (List.mem_append_left _ (List.mem_map.2 ⟨x, hx, rfl⟩)))
    · exact List.mem_cons_of_mem _ (List.mem_append_left _ (List.mem_append_right _ (List.mem_flatMap.2 ⟨t, hk1 e, List.mem_map.2 ⟨x, hx, rfl⟩⟩)))
    · obtain ⟨z, hz, hz0⟩ := h.zero hS (by omega) hx
      have hlen := h.len
      have hz3 : ¬ z < k + 1 := fun hlt => by
        have := g4 z hz hlt
        rw [hz0] at this
        exact absurd this (by decide)
      have ez : z = 3 := by omega
      subst ez
      have : x.2.2.2 = iniS m.2.length 3 := by
        refine el_ext (by rw [g3.len]; simp [iniS]) fun q hq => ?_
        rw [g3.len] at hq
        rw [iniS_el hz hq]
        by_cases e3 : q = 3
        · rw [if_pos e3, e3]; exact hz0
        · rw [if_neg e3]; exact g4 q hq (by omega)
      rw [this]
      exact List.mem_cons_of_mem _ (List.mem_append_right _ (List.mem_singleton.2 rfl))
  · have hkc : k = 0 ∨ 1 ≤ k := by omega
    rcases hkc with e | e
    · have := hk0 e
      subst this
      omega
    · have := h.few hF
      omega
end
end Go.Proofs.YtfekmlblldhieaaGreatDoor.Pl
namespace Go.Proofs.YtfekmlblldhieaaGreatDoor.Pl
set_option linter.unusedVariables false
set_option linter.unusedSimpArgs false
def sumN (g : Nat → Nat) : Nat → Nat
  | 0 => 0
  | n + 1 => sumN g n + g n
theorem sumN_le {g h : Nat → Nat} : ∀ n, (∀ q, q < n → g q ≤ h q) → sumN g n ≤ sumN h n
  | 0, _ => Nat.le_refl _
  | n + 1, hl => by
    have h1 := sumN_le n fun q hq => hl q (by omega)
    have h2 := hl n (by omega)
    simp only [sumN]
    omega
theorem sumN_one {g : Nat → Nat} : ∀ {n q : Nat}, q < n → g q ≤ sumN g n
  | 0, q, h => by omega
  | n + 1, q, h => by
    simp only [sumN]
    by_cases e : q = n
    · rw [e]; omega
    · have := sumN_one (g := g) (n := n) (q := q) (by omega); omega
theorem sumN_add (g h : Nat → Nat) : ∀ n, sumN (fun q => g q + h q) n = sumN g n + sumN h n
  | 0 => rfl
  | n + 1 => by simp only [sumN]; rw [sumN_add g h n]; omega
theorem sumN_pos {g : Nat → Nat} : ∀ {n : Nat}, 0 < sumN g n → ∃ q, q < n ∧ 0 < g q
  | 0, h => by simp [sumN] at h
  | n + 1, h => by
    simp only [sumN] at h
    by_cases e : 0 < g n
    · exact ⟨n, by omega, e⟩
    · obtain ⟨q, h1, h2⟩ := sumN_pos (g := g) (n := n) (by omega)
      exact ⟨q, by omega, h2⟩
/-- The sum over a set's states. -/
def sumS (c : Nat → Nat) (n : Nat) (S : List Int) : Nat := sumN (fun q => if el S q = noneI then 0 else c q) n
theorem sumF_filt (c : Nat → Nat) (n : Nat) : ∀ A : List Ar, sumF c (A.filter fun a => decide (a.2.2.2.toNat < n + 1)) = sumF c (A.filter fun a => decide (a.2.2.2.toNat < n)) + sumF c (A.filter fun a => decide (a.2.2.2.toNat = n))
  | [] => rfl
  | a :: A => by
    have ih := sumF_filt c n A
    simp only [List.filter_cons, decide_eq_true_eq]
    by_cases h1 : a.2.2.2.toNat < n
    · rw [if_pos (by omega), if_pos h1, if_neg (by omega)]
      simp only [sumF]
      omega
    · by_cases h2 : a.2.2.2.toNat = n
      · rw [if_pos (by omega), if_neg h1, if_pos h2]
        simp only [sumF]
        omega
      · rw [if_neg (by omega), if_neg h1, if_neg h2]
        exact ih
theorem sumF_mem {c : Nat → Nat} {A : List Ar} {a : Ar} (h : a ∈ A) : c a.2.2.2.toNat ≤ sumF c A := by
  induction A with
  | nil => cases h
  | cons b A ih =>
    simp only [sumF]
    rcases List.mem_cons.1 h with rfl | h
    · omega
    · have := ih h; omega
theorem sumF_sub (c : Nat → Nat) (p : Ar → Bool) : ∀ A : List Ar, sumF c (A.filter p) ≤ sumF c A
  | [] => Nat.le_refl _
  | a :: A => by
    have := sumF_sub c p A
    rw [List.filter_cons]
    split <;> simp only [sumF] <;> omega
/-- Each state that arcs lead to, once. -/
theorem sumS_arcs {c : Nat → Nat} {S : List Int} {A : List Ar} : ∀ n, (∀ t, t < n → el S t ≠ noneI → ∃ a ∈ A, a.2.2.2 = (t : Int)) → sumS c n S ≤ sumF c (A.filter fun a => decide (a.2.2.2.toNat < n))
  | 0, _ => Nat.zero_le _
  | n + 1, h => by
    have h1 := sumS_arcs (c := c) n fun t ht => h t (by omega)
    rw [sumF_filt]
    unfold sumS at h1 ⊢
    simp only [sumN]
    by_cases e : el S n = noneI
    · rw [if_pos e]; omega
    · rw [if_neg e]
      obtain ⟨a, ha, hat⟩ := h n (by omega) e
      have h2 : c a.2.2.2.toNat ≤ sumF c (A.filter fun a => decide (a.2.2.2.toNat = n)) := sumF_mem (List.mem_filter.2 ⟨ha, by simp [hat]⟩)
      rw [hat, Int.toNat_natCast] at h2
      omega
def sumP (g : Int × Int → Nat) : List (Int × Int) → Nat
  | [] => 0
  | p :: ps => g p + sumP g ps
theorem sumP_le {g h : Int × Int → Nat} : ∀ {ps : List (Int × Int)}, (∀ p ∈ ps, g p ≤ h p) → sumP g ps ≤ sumP h ps
  | [], _ => Nat.le_refl _
  | p :: ps, hl => by
    have h1 := hl p List.mem_cons_self
    have h2 := sumP_le (ps := ps) fun q hq => hl q (List.mem_cons_of_mem _ hq)
    simp only [sumP]
    omega
theorem sumP_add (g h : Int × Int → Nat) : ∀ ps, sumP (fun p => g p + h p) ps = sumP g ps + sumP h ps
  | [] => rfl
  | p :: ps => by simp only [sumP]; rw [sumP_add g h ps]; omega
theorem sumP_once {v : Nat} {x : Int × Int} : ∀ {ps : List (Int × Int)}, ps.Nodup → sumP (fun p => if x = p then v else 0) ps ≤ v
  | [], _ => Nat.zero_le _
  | p :: ps, h => by
    rw [List.nodup_cons] at h
    simp only [sumP]
    by_cases e : x = p
    · have h0 : ∀ {qs : List (Int × Int)}, x ∉ qs → sumP (fun p => if x = p then v else 0) qs = 0 := fun {qs} hq => by
        induction qs with
        | nil => rfl
        | cons q qs ih =>
          simp only [sumP]
          rw [if_neg (fun e => hq (by rw [e]; exact List.mem_cons_self)), ih fun g => hq (List.mem_cons_of_mem _ g)]
      rw [if_pos e, h0 (by rw [e]; exact h.1)]
      omega
    · rw [if_neg e]
      have := sumP_once (v := v) (x := x) h.2
      omega
/-- Arcs, pair by pair. -/
theorem sumP_arcs {c : Nat → Nat} {ps : List (Int × Int)} (hp : ps.Nodup) : ∀ A : List Ar, sumP (fun p => sumF c (A.filter fun a => decide ((a.1, a.2.1) = p))) ps ≤ sumF c A
  | [] => by
    have : ∀ qs, sumP (fun p => sumF c (([] : List Ar).filter fun a => decide ((a.1, a.2.1) = p))) qs = 0 := fun qs => by
      induction qs with
      | nil => rfl
      | cons q qs ih => simp only [sumP, ih]; rfl
    rw [this]
    exact Nat.zero_le _
  | a :: A => by
    have ih := sumP_arcs (c := c) hp A
    have h1 : ∀ p, sumF c ((a :: A).filter fun a => decide ((a.1, a.2.1) = p)) = (if (a.1, a.2.1) = p then c a.2.2.2.toNat else 0) + sumF c (A.filter fun a => decide ((a.1, a.2.1) = p)) := fun p => by
      rw [List.filter_cons]
      by_cases e : (a.1, a.2.1) = p
      · rw [if_pos (by simpa using e), if_pos e]; rfl
      · rw [if_neg (by simpa using e), if_neg e, Nat.zero_add]
    have h2 := sumP_once (v := c a.2.2.2.toNat) (x := (a.1, a.2.1)) hp
    have h3 := sumP_add (fun p => if (a.1, a.2.1) = p then c a.2.2.2.toNat else 0) (fun p => sumF c (A.filter fun a => decide ((a.1, a.2.1) = p))) ps
    have h4 : sumP (fun p => sumF c ((a :: A).filter fun a => decide ((a.1, a.2.1) = p))) ps = sumP (fun p => (if (a.1, a.2.1) = p then c a.2.2.2.toNat else 0) + sumF c (A.filter fun a => decide ((a.1, a.2.1) = p))) ps := by
      congr 1
      funext p
      exact h1 p
    rw [h4, h3]
    simp only [sumF]
    omega
theorem ltP_nodup {ps : List (Int × Int)} (h : ps.Pairwise ltP) : ps.Nodup := by
  refine h.imp fun {a b} hab e => ?_
  rw [e] at hab
  unfold ltP at hab
  omega
theorem sumF_allA (c : Nat → Nat) (l : List St) (S : List Int) : ∀ n, sumF c ((List.range n).flatMap fun q => if el S q = noneI then [] else (el l q).2) = sumN (fun q => if el S q = noneI then 0 else sumF c (el l q).2) n
  | 0 => rfl
  | n + 1 => by
    rw [List.range_succ, List.flatMap_append, sumF_append, sumF_allA c l S n]
    simp only [sumN, List.flatMap_cons, List.flatMap_nil, List.append_nil]
    congr 1
    split <;> rfl
end Go.Proofs.YtfekmlblldhieaaGreatDoor.Pl
namespace Go.Proofs.YtfekmlblldhieaaGreatDoor.Pl
set_option linter.unusedVariables false
set_option linter.unusedSimpArgs false
section
variable {m x : Mc} {L : List (List Int)} {z : Nat}
theorem low_all (hf : faultM m = 0) : ∀ q a, a ∈ (el m.2 q).2 → a.2.2.1 ≤ 1000000000 := fun q a ha => by
  by_cases hq : q < m.2.length
  · exact (arc_low hf hq ha).2.1
  · rw [show el m.2 q = default by simp [el, List.getElem?_eq_none (Nat.le_of_not_lt hq)]] at ha
    exact absurd ha (by show ¬ a ∈ ([] : List Ar); simp)
theorem sumF_hops (F : Nat → Nat) (L : List (List Int)) : ∀ hs : List (Hg (List Int)), sumF F (hs.map (arcG L)) = (hs.map fun h => F (arcG L h).2.2.2.toNat).sum
  | [] => rfl
  | h :: hs => by simp only [List.map_cons, sumF, List.sum_cons]; rw [sumF_hops F L hs]
theorem sum_prs (g : Int × Int → Nat) : ∀ ps, (ps.map g).sum = sumP g ps
  | [] => rfl
  | p :: ps => by simp only [List.map_cons, List.sum_cons, sumP]; rw [sum_prs g ps]
/-- One set: no more paths than its states have, if that is so of all that it leads to. -/
theorem set_le (hf : faultM m = 0) {S : List Int} {B : Int} (hS : SetN m.2.length B S) (hB : B + 1000000000 < noneI) (h0 : (finC m.2 S).2 = 0) {c : Nat → Nat} (hc : CntEq m.2 c) {G : Hg (List Int) → Nat} (hG : ∀ h ∈ hopsC m.2 S, G h ≤ sumS c m.2.length h.2.2.2) :
    baseN (finC m.2 S).1 + ((hopsC m.2 S).map G).sum ≤ sumS c m.2.length S := by
  have e1 : sumS c m.2.length S = sumN (fun q => if el S q = noneI then 0 else baseN (el m.2 q).1) m.2.length + sumF c (allA m.2 S) := by
    unfold allA
    rw [sumF_allA, ← sumN_add]
    unfold sumS
    have : ∀ n, n ≤ m.2.length → sumN (fun q => if el S q = noneI then 0 else c q) n = sumN (fun q => (if el S q = noneI then 0 else baseN (el m.2 q).1) + (if el S q = noneI then 0 else sumF c (el m.2 q).2)) n := by
      intro n
      induction n with
      | zero => intro _; rfl
      | succ n ih =>
        intro hn
        simp only [sumN]
        rw [ih (by omega)]
        congr 1
        by_cases e : el S n = noneI
        · rw [if_pos e, if_pos e, if_pos e]
        · rw [if_neg e, if_neg e, if_neg e, hc n (by omega)]
    exact this _ (Nat.le_refl _)
  have e2 : baseN (finC m.2 S).1 ≤ sumN (fun q => if el S q = noneI then 0 else baseN (el m.2 q).1) m.2.length := by
    rcases fin_facts hf hS hB h0 with ⟨h1, _⟩ | ⟨h1, h2, h3, _⟩
    · rw [h1]; exact Nat.zero_le _
    · obtain ⟨q, hq, hqS, hqf, _⟩ := mem_fnsL.1 h3
      have h4 := sumN_one (g := fun q => if el S q = noneI then 0 else baseN (el m.2 q).1) hq
      simp only [if_neg hqS] at h4
      have h5 : baseN (el m.2 q).1 = 1 := by unfold baseN; rw [if_neg hqf]
      have h6 : baseN (finC m.2 S).1 ≤ 1 := by unfold baseN; split <;> omega
      omega
  have e3 : ((hopsC m.2 S).map G).sum ≤ sumF c (allA m.2 S) := by
    unfold hopsC
    rw [List.map_map, sum_prs]
    refine Nat.le_trans (sumP_le (h := fun p => sumF c ((allA m.2 S).filter fun a => decide ((a.1, a.2.1) = p))) fun p hp => ?_) (sumP_arcs (ltP_nodup (prsL_pair m.2 S)) _)
    refine Nat.le_trans (hG (hopC m.2 S p) (List.mem_map.2 ⟨p, hp, rfl⟩)) ?_
    obtain ⟨_, _, _, h4, _⟩ := hop_facts hf hS (W := 1000000000) (low_all hf) hB hp
    refine Nat.le_trans (sumS_arcs (A := (allA m.2 S).filter fun a => decide ((a.1, a.2.1) = p)) _ fun t ht hne => ?_) (sumF_sub _ _ _)
    obtain ⟨q, hq, hqS, a, ha, ha1, ha2, hat, _⟩ := h4 t ht hne
    exact ⟨a, List.mem_filter.2 ⟨mem_allA.2 ⟨q, hq, hqS, ha⟩, by simp [ha1, ha2]⟩, hat⟩
  omega
/-- One set: it has paths just where one of its states has some. -/
theorem set_pos (hf : faultM m = 0) {S : List Int} {B : Int} (hS : SetN m.2.length B S) (hB : B + 1000000000 < noneI) (h0 : (finC m.2 S).2 = 0) {c : Nat → Nat} (hc : CntEq m.2 c) {G : Hg (List Int) → Nat} (hG : ∀ h ∈ hopsC m.2 S, (∃ q, q < m.2.length ∧ el h.2.2.2 q ≠ noneI ∧ 0 < c q) → 0 < G h) :
    (∃ q, q < m.2.length ∧ el S q ≠ noneI ∧ 0 < c q) → 0 < baseN (finC m.2 S).1 + ((hopsC m.2 S).map G).sum := by
  rintro ⟨q, hq, hqS, hcq⟩
  rw [hc q hq] at hcq
  by_cases hb : baseN (el m.2 q).1 = 0
  · have hs : sumF c (el m.2 q).2 ≠ 0 := by omega
    have hne : ∃ a ∈ (el m.2 q).2, c a.2.2.2.toNat ≠ 0 := by
      apply Classical.byContradiction
      intro g
      apply hs
      rw [sumF_zero]
      intro a ha
      apply Classical.byContradiction
      intro h
      exact g ⟨a, ha, h⟩
    obtain ⟨a, ha, hca⟩ := hne
    obtain ⟨_, _, t, hat, ht⟩ := arc_low hf hq ha
    have hp : (a.1, a.2.1) ∈ prsL m.2 S := mem_prsL.2 ⟨q, hq, hqS, a, ha, rfl⟩
    obtain ⟨_, _, _, _, h5⟩ := hop_facts hf hS (W := 1000000000) (low_all hf) hB hp
    have h6 := (h5 q hq hqS a ha rfl rfl t hat).1
    have hx : hopC m.2 S (a.1, a.2.1) ∈ hopsC m.2 S := List.mem_map.2 ⟨_, hp, rfl⟩
    rw [hat, Int.toNat_natCast] at hca
    have h7 := hG _ hx ⟨t, ht, h6, by omega⟩
    have h8 : ∀ {hs : List (Hg (List Int))} {y : Hg (List Int)}, y ∈ hs → G y ≤ (hs.map G).sum := fun {hs} {y} hy => by
      induction hs with
      | nil => cases hy
      | cons u hs ih =>
        simp only [List.map_cons, List.sum_cons]
        rcases List.mem_cons.1 hy with rfl | hy
        · omega
        · have := ih hy; omega
    have := h8 hx
    omega
  · have hfq : (el m.2 q).1 ≠ 1000000001 := fun e => hb (by unfold baseN; rw [if_pos e])
    rcases fin_facts hf hS hB h0 with ⟨_, h2⟩ | ⟨h1, h2, _⟩
    · have : el S q + (el m.2 q).1 ∈ fnsL m.2 S := mem_fnsL.2 ⟨q, hq, hqS, hfq, rfl⟩
      rw [h2] at this
      cases this
    · have : baseN (finC m.2 S).1 = 1 := by unfold baseN; rw [if_neg (by omega)]
      omega
/-- The least state of a set. -/
def leastQ (S : List Int) : Nat → Nat
  | 0 => 0
  | n + 1 => if (List.range n).all (fun q => decide (el S q = noneI)) then (if el S n = noneI then n + 1 else n) else leastQ S n
theorem leastQ_spec (S : List Int) : ∀ n, (∀ q, q < n → q < leastQ S n → el S q = noneI) ∧ (leastQ S n < n → el S (leastQ S n) ≠ noneI) ∧ leastQ S n ≤ n
  | 0 => ⟨fun q hq => by omega, fun h => by simp [leastQ] at h, Nat.le_refl _⟩
  | n + 1 => by
    have ih := leastQ_spec S n
    simp only [leastQ]
    by_cases h : (List.range n).all (fun q => decide (el S q = noneI)) = true
    · rw [if_pos h]
      have h' : ∀ q, q < n → el S q = noneI := fun q hq => by
        have := List.all_eq_true.1 h q (List.mem_range.2 hq)
        simpa using this
      by_cases e : el S n = noneI
      · rw [if_pos e]
        exact ⟨fun q hq _ => by by_cases g : q = n; (rw [g]; exact e); exact h' q (by omega), fun g => by omega, Nat.le_refl _⟩
      · rw [if_neg e]
        exact ⟨fun q _ hq => h' q hq, fun _ => e, by omega⟩
    · rw [if_neg h]
      have hlt : leastQ S n < n := by
        apply Classical.byContradiction
        intro g
        apply h
        rw [List.all_eq_true]
        intro q hq
        rw [List.mem_range] at hq
        have := ih.1 q hq (by omega)
        simpa using this
      exact ⟨fun q hq hq2 => ih.1 q (by omega) hq2, fun _ => ih.2.1 hlt, by omega⟩
theorem leastQ_from {S : List Int} {n k : Nat} (h : FromS n k S) (hk : k ≤ n) : k ≤ leastQ S n := by
  have h1 := leastQ_spec S n
  apply Classical.byContradiction
  intro g
  exact h1.2.1 (by omega) (h _ (by omega) (by omega))
/-- Made certain it has no cycles, too; its counts. -/
theorem cer_cnt (h4 : Four m) (he : empB m.2 = false) (h : cerA m = (x, 0)) : ¬ CycleL x.2 ∧ ∀ out, OrderL x.2 out → ∀ c, CntEq m.2 c → cntF x.2 out 0 ≤ c 0 ∧ (0 < cntF x.2 out 0 ↔ 0 < c 0) := by
  have hf := h4.right
  have hz : 0 ≤ m.1 := by rw [h4.start]; decide
  obtain ⟨_, _, hx0, _, L, hE⟩ := cer_done hf hz h
  rw [h4.start] at hE
  have hE : ExpI (finC m.2) (hopsC m.2) (iniS m.2.length 0) L.length L x.2 := hE
  have hxr := cer_right hf hz h
  have hset : ∀ t ∈ L, SetN m.2.length 60000000000 t := fun t ht => cer_set hf h4.pos hE ht
  have hto : ∀ q, q < x.2.length → ∀ a ∈ (el x.2 q).2, ∃ t : Nat, a.2.2.2 = (t : Int) ∧ t < x.2.length := fun q hq a ha => to_right (z := x.1) (l := x.2) hxr.1 hq ha
  have hxl : x.2.length = L.length := hE.len
  have harc : ∀ i, i < L.length → ∀ y ∈ hopsC m.2 (el L i), (arcG L y).2.2.2.toNat < L.length ∧ el L (arcG L y).2.2.2.toNat = y.2.2.2 := fun i hi y hy => by
    have := el_idxG (hE.shut i hi y hy)
    simp only [arcG, Int.toNat_natCast]
    exact this
  have hBn : (60000000000 : Int) + 1000000000 < noneI := by unfold noneI; omega
  constructor
  · refine ranked (fun i => leastQ (el L i) m.2.length) fun p hp q hl => ?_
    obtain ⟨a, ha, haq⟩ := leads_mem hl
    rw [hxl] at hp
    rw [hE.sts p hp] at ha
    obtain ⟨y, hy, rfl⟩ := List.mem_map.1 ha
    obtain ⟨g1, g2⟩ := harc p hp y hy
    rw [haq, Int.toNat_natCast] at g1 g2
    have hsp := leastQ_spec (el L p) m.2.length
    have hfs : FromS m.2.length (leastQ (el L p) m.2.length) (el L p) := fun t ht htk => hsp.1 t ht htk
    obtain ⟨pp, hpp, rfl⟩ := List.mem_map.1 hy
    obtain ⟨_, _, _, k4, k5⟩ := hop_facts hf (hset _ (el_mem hp)) (W := 1000000000) (low_all hf) hBn hpp
    have hlt : leastQ (el L p) m.2.length < m.2.length := by
      obtain ⟨q9, hq9, hq9S, _⟩ := mem_prsL.1 hpp
      apply Classical.byContradiction
      intro g
      exact hq9S (hsp.1 q9 hq9 (by omega))
    rw [g2]
    refine leastQ_from (k := leastQ (el L p) m.2.length + 1) (fun t ht htk => ?_) hlt
    by_cases e : el (hopC m.2 (el L p) pp).2.2.2 t = noneI
    · exact e
    · obtain ⟨q9, hq9, hq9S, a9, ha9, _, _, hat, _⟩ := k4 t ht e
      obtain ⟨t2, ht2, hlt2, _⟩ := h4.fwd q9 hq9 a9 ha9
      have : ¬ q9 < leastQ (el L p) m.2.length := fun g => hq9S (hsp.1 q9 hq9 g)
      omega
  · intro out ho c hc
    have hcx := ho.cnt hto
    have key : ∀ i, i < x.2.length → cntF x.2 out i ≤ sumS c m.2.length (el L i) ∧ ((∃ q, q < m.2.length ∧ el (el L i) q ≠ noneI ∧ 0 < c q) → 0 < cntF x.2 out i) := by
      refine ho.ind hto fun i hi ih => ?_
      have hiL : i < L.length := by rw [← hxl]; exact hi
      rw [hcx i hi]
      rw [hE.sts i hiL] at ih ⊢
      simp only at ih ⊢
      rw [sumF_hops]
      have hih : ∀ y ∈ hopsC m.2 (el L i), cntF x.2 out (arcG L y).2.2.2.toNat ≤ sumS c m.2.length y.2.2.2 ∧ ((∃ q, q < m.2.length ∧ el y.2.2.2 q ≠ noneI ∧ 0 < c q) → 0 < cntF x.2 out (arcG L y).2.2.2.toNat) := fun y hy => by
        have h1 := ih (arcG L y) (List.mem_map.2 ⟨y, hy, rfl⟩)
        rw [(harc i hiL y hy).2] at h1
        exact h1
      exact ⟨set_le hf (hset _ (el_mem hiL)) hBn (hE.right i hiL) hc fun y hy => (hih y hy).1, set_pos hf (hset _ (el_mem hiL)) hBn (hE.right i hiL) hc fun y hy => (hih y hy).2⟩
    obtain ⟨hL0, hL1, _⟩ := hE.zero
    have h0 := key 0 (by rw [hxl]; exact hL0)
    rw [hL1] at h0
    have hs0 : sumS c m.2.length (iniS m.2.length 0) = c 0 := by
      unfold sumS
      have : ∀ n, n ≤ m.2.length → 0 < n → sumN (fun q => if el (iniS m.2.length 0) q = noneI then 0 else c q) n = c 0 := by
        intro n
        induction n with
        | zero => intro _ h; omega
        | succ n ih =>
          intro hn _
          simp only [sumN]
          rw [iniS_el h4.pos (by omega)]
          by_cases e : n = 0
          · subst e
            rw [if_pos rfl, if_neg (by decide)]
            simp [sumN]
          · rw [if_neg e, if_pos rfl, ih (by omega) (by omega)]
            rfl
      exact this _ (Nat.le_refl _) h4.pos
    rw [hs0] at h0
    refine ⟨h0.1, fun g => by omega, fun g => h0.2 ⟨0, h4.pos, ?_, g⟩⟩
    rw [iniS_el h4.pos h4.pos, if_pos rfl]
    decide
end
end Go.Proofs.YtfekmlblldhieaaGreatDoor.Pl
namespace Go.Proofs.YtfekmlblldhieaaGreatDoor.Pl
set_option linter.unusedVariables false
set_option linter.unusedSimpArgs false
theorem wayA_run {l : List St} {q p c : Nat} {u v : List Int} (h : Way l q u v p c) : ∃ n, Run (ArcE l) q n p c := by
  induction h with
  | nil => exact ⟨0, .nil⟩
  | snoc h ha ht ih =>
    obtain ⟨n, hn⟩ := ih
    exact ⟨n + 1, hn.step ⟨_, ha, ht, rfl⟩⟩
theorem runA_way {l : List St} {q n p c : Nat} (h : Run (ArcE l) q n p c) : ∃ u v, Way l q u v p c := by
  induction h with
  | nil => exact ⟨[], [], .nil⟩
  | step h e ih =>
    obtain ⟨u, v, hw⟩ := ih
    obtain ⟨a, ha, ht, rfl⟩ := e
    exact ⟨_, _, hw.snoc ha ht⟩
/-- No path is cheaper than the cheapest. -/
theorem costs_end {m : Mc} {x y : List Int} {c : Nat} (h : Costs m x y c) : EndC m.2 m.1.toNat c := by
  obtain ⟨_, p, d, hw, hp, hf, e⟩ := h
  obtain ⟨n, hn⟩ := wayA_run hw
  exact ⟨n, p, d, hn, hp, hf, e⟩
/-- From the start of the reversed machine to the state that was q. -/
theorem far_rev {m : Mc} (hto : ∀ q, q < m.2.length → ∀ a ∈ (el m.2 q).2, ∃ t : Nat, a.2.2.2 = (t : Int) ∧ t < m.2.length) {q : Nat} (hq : q < m.2.length) (c : Nat) : EndC m.2 q c ↔ FarC (revM m).1 (revM m).2 (q + 1) c := by
  have e0 : (revM m).1 = 0 := rfl
  rw [e0]
  constructor
  · rintro ⟨n, p, d, h, hp, hf, rfl⟩
    obtain ⟨u, v, hw⟩ := runA_way h
    have h1 := way_back hto hw
    have hm : (0, 0, (el m.2 p).1, (p : Int) + 1) ∈ (el (revM m).2 0).2 := by
      rw [rev_el0]
      exact first_mem hf hp
    have h2 := Way.cons (a := (0, 0, (el m.2 p).1, (p : Int) + 1)) hm (t := p + 1) (by simp) h1
    obtain ⟨k, hk⟩ := wayA_run h2
    refine ⟨Int.le_refl 0, k, ?_⟩
    rw [Nat.add_comm d]
    exact hk
  · rintro ⟨_, n, h⟩
    obtain ⟨u, v, hw⟩ := runA_way h
    rcases hw.first with ⟨_, _, e, _⟩ | ⟨a, ha, t, u', v', c', ht, hw', hu, hv, rfl⟩
    · exact absurd e (by simp)
    · rw [show (0 : Int).toNat = 0 from rfl, rev_el0] at ha
      obtain ⟨j, hj, hfj, rfl⟩ := mem_first ha
      simp only at ht
      obtain rfl : t = j + 1 := by omega
      obtain ⟨q', hq', hl, hb⟩ := back_way hj hw'
      obtain rfl : q = q' := by omega
      obtain ⟨k, hk⟩ := wayA_run hb
      exact ⟨k, j, c', hk, hj, hfj, by simp; omega⟩
end Go.Proofs.YtfekmlblldhieaaGreatDoor.Pl
namespace Go.Proofs.YtfekmlblldhieaaGreatDoor.Pl
set_option linter.unusedVariables false
set_option linter.unusedSimpArgs false
theorem end_costs {m : Mc} {c : Nat} (hz : 0 ≤ m.1) (h : EndC m.2 m.1.toNat c) : ∃ u v, Costs m u v c := by
  obtain ⟨n, p, d, hn, hp, hf, e⟩ := h
  obtain ⟨u, v, hw⟩ := runA_way hn
  exact ⟨u, v, hz, p, d, hw, hp, hf, e⟩
theorem cer_least {m x : Mc} (hf : faultM m = 0) (hz : 0 ≤ m.1) (h : cerA m = (x, 0)) {a b : Int} (ha : CstIs (EndC m.2 m.1.toNat) a) (hb : CstIs (EndC x.2 x.1.toNat) b) : a = b := by
  have hx := (cer_right hf hz h).2.2
  refine (CstIs.sub hb ha (fun c hc => ?_) fun c hc => ?_).symm
  · obtain ⟨u, v, hk⟩ := end_costs (by rw [hx]; decide) hc
    exact costs_end ((cer_costs hf hz h u v).1 c hk)
  · obtain ⟨u, v, hk⟩ := end_costs hz hc
    obtain ⟨d, hd, hk2⟩ := (cer_costs hf hz h u v).2 c hk
    exact ⟨d, hd, costs_end hk2⟩
end Go.Proofs.YtfekmlblldhieaaGreatDoor.Pl
namespace Go.Proofs.YtfekmlblldhieaaGreatDoor.Pl
def fwdA (n q : Nat) (a : Ar) : Ar := (a.1, a.2.1, a.2.2.1, (q : Int) + 1 + a.2.2.2 % ((n : Int) - 1 - (q : Int)))
def fwdR (n q : Nat) (ar : List Ar) : List Ar := if q + 1 < n then ar.map (fwdA n q) else []
/-- The states ahead of k have been done. -/
def fwdL (l : List St) (k : Nat) : List St := (List.range l.length).map fun j => if j < k then ((el l j).1, fwdR l.length j (el l j).2) else el l j
theorem fwdL_length (l : List St) (k : Nat) : (fwdL l k).length = l.length := by simp [fwdL]
theorem fwdL_el (l : List St) (k : Nat) {j : Nat} (h : j < l.length) : el (fwdL l k) j = if j < k then ((el l j).1, fwdR l.length j (el l j).2) else el l j := by
  unfold fwdL
  rw [el_range_map _ h]
theorem fwdL_zero (l : List St) : fwdL l 0 = l := by
  apply el_ext (fwdL_length l 0)
  intro j hj
  rw [fwdL_el l 0 (by rw [fwdL_length] at hj; exact hj), if_neg (Nat.not_lt_zero _)]
theorem fwdL_succ (l : List St) {k : Nat} (h : k < l.length) : fwdL l (k + 1) = (fwdL l k).set k ((el (fwdL l k) k).1, fwdR l.length k (el l k).2) := by
  apply el_ext (by simp [fwdL_length])
  intro j hj
  rw [fwdL_length] at hj
  rw [el_set (by rw [fwdL_length]; exact hj), fwdL_el l _ hj, fwdL_el l _ hj, fwdL_el l _ h]
  by_cases e : k = j
  · subst e
    rw [if_pos rfl, if_pos (by omega), if_neg (by omega)]
  · rw [if_neg e]
    by_cases e2 : j < k
    · rw [if_pos e2, if_pos (by omega)]
    · rw [if_neg e2, if_neg (by omega)]
def fwdM (m : Mc) : Mc := (0, fwdL m.2 m.2.length)
theorem fwdM_length (m : Mc) : (fwdM m).2.length = m.2.length := fwdL_length _ _
theorem fwdM_el (m : Mc) {j : Nat} (h : j < m.2.length) : el (fwdM m).2 j = ((el m.2 j).1, fwdR m.2.length j (el m.2 j).2) := by
  unfold fwdM
  rw [fwdL_el _ _ h, if_pos h]
theorem fwdR_le (n q : Nat) (ar : List Ar) : (fwdR n q ar).length ≤ ar.length := by unfold fwdR; split <;> simp
theorem fwdR_mem {n q : Nat} {ar : List Ar} {c : Ar} (h : c ∈ fwdR n q ar) : ∃ a ∈ ar, c = fwdA n q a ∧ q + 1 < n := by
  unfold fwdR at h
  split at h
  · rename_i h1
    obtain ⟨a, ha, rfl⟩ := List.mem_map.1 h
    exact ⟨a, ha, rfl, h1⟩
  · simp at h
/-- Each arc leads to a later state. -/
theorem fwdA_to {n q : Nat} (h : q + 1 < n) (a : Ar) : ∃ t : Nat, (fwdA n q a).2.2.2 = (t : Int) ∧ q < t ∧ t < n := by
  have h1 := Int.emod_nonneg a.2.2.2 (b := (n : Int) - 1 - (q : Int)) (by omega)
  have h2 := Int.emod_lt_of_pos a.2.2.2 (b := (n : Int) - 1 - (q : Int)) (by omega)
  refine ⟨((q : Int) + 1 + a.2.2.2 % ((n : Int) - 1 - (q : Int))).toNat, ?_, ?_, ?_⟩
  · simp only [fwdA]; omega
  · omega
  · omega
theorem arcN_len {a b : List St} (hl : a.length = b.length) (h : ∀ j, j < a.length → (el a j).2.length ≤ (el b j).2.length) : arcN a ≤ arcN b := by
  induction a generalizing b with
  | nil => simp [arcN]
  | cons s a ih =>
    cases b with
    | nil => simp at hl
    | cons t b =>
      have h0 := h 0 (by simp)
      rw [el_zero, el_zero] at h0
      have := ih (b := b) (by simpa using hl) (fun j hj => by have := h (j + 1) (by simpa using hj); rwa [el_succ, el_succ] at this)
      simp only [arcN]
      omega
theorem fwdM_fault {m : Mc} (hf : faultM m = 0) (h0 : 0 < m.2.length) : faultM (fwdM m) = 0 := by
  obtain ⟨z, l⟩ := m
  have hs := right_size hf
  have har : arcN (fwdM (z, l)).2 ≤ arcN l := arcN_len (fwdM_length _) (fun j hj => by
    rw [fwdM_length] at hj
    rw [fwdM_el _ hj]
    exact fwdR_le _ _ _)
  have hlen := fwdM_length (z, l)
  refine faultM_ok ?_ ?_
  · simp only [sizeB, Bool.and_eq_true]
    exact ⟨decide_eq_true (by rw [hlen]; exact hs.1), decide_eq_true (Nat.le_trans har hs.2)⟩
  · simp only [rangeB, Bool.and_eq_true, List.all_eq_true]
    refine ⟨by simp only [inB, Bool.and_eq_true]; exact ⟨decide_eq_true (by simp [fwdM]), decide_eq_true (by rw [hlen]; show (0 : Int) ≤ _; simp only at h0 ⊢; omega)⟩, fun s hs' => ?_⟩
    obtain ⟨j, hj, rfl⟩ := mem_el hs'
    rw [hlen] at hj
    rw [hlen, fwdM_el _ hj]
    have h1 := right_st hf hj
    simp only [stB, Bool.and_eq_true, List.all_eq_true]
    refine ⟨h1.1, fun c hc => ?_⟩
    obtain ⟨a, ha, rfl, hq⟩ := fwdR_mem hc
    have h2 := List.all_eq_true.1 h1.2 a ha
    obtain ⟨t, h3, h4, h5⟩ := fwdA_to hq a
    simp only [arcB, inB, Bool.and_eq_true, decide_eq_true_eq] at h2
    simp only [arcB, inB, Bool.and_eq_true]
    rw [h3]
    exact ⟨⟨⟨⟨decide_eq_true h2.1.1.1.1, decide_eq_true h2.1.1.1.2⟩, ⟨decide_eq_true h2.1.1.2.1, decide_eq_true h2.1.1.2.2⟩⟩, ⟨decide_eq_true h2.1.2.1, decide_eq_true h2.1.2.2⟩⟩, ⟨decide_eq_true (by omega), decide_eq_true (by omega)⟩⟩
theorem fwdM_later (m : Mc) {q : Nat} (hq : q < m.2.length) {c : Ar} (hc : c ∈ (el (fwdM m).2 q).2) : ∃ t : Nat, c.2.2.2 = (t : Int) ∧ q < t ∧ t < m.2.length := by
  rw [fwdM_el m hq] at hc
  obtain ⟨a, _, rfl, h⟩ := fwdR_mem hc
  exact fwdA_to h a
theorem fwdR_take {n q : Nat} {ar : List Ar} {j : Nat} (hj : j < ar.length) : (ar.take (j + 1)).map (fwdA n q) = (ar.take j).map (fwdA n q) ++ [fwdA n q (el ar j)] := by rw [take_el hj]; simp
end Go.Proofs.YtfekmlblldhieaaGreatDoor.Pl
namespace Go.Proofs.YtfekmlblldhieaaGreatDoor.Pl
set_option linter.unusedVariables false
set_option linter.unusedSimpArgs false
def mxI (n : Int) : Int := if n < 1 then 1 else n
def mxA (a : Ar) : Ar := (mxI a.1, a.2)
def mxL (l : List St) : List St := l.map fun s => (s.1, s.2.map mxA)
theorem mxI_mxI (n : Int) : mxI (mxI n) = mxI n := by
  unfold mxI
  split <;> (try split) <;> omega
theorem mxI_one (n : Int) : 1 ≤ mxI n := by unfold mxI; split <;> omega
theorem mxI_top {n : Int} (h : n ≤ 1000) : mxI n ≤ 1000 := by unfold mxI; split <;> omega
theorem mxA_mxA (a : Ar) : mxA (mxA a) = mxA a := by unfold mxA; simp only [mxI_mxI]
theorem mxL_len (l : List St) : (mxL l).length = l.length := by simp [mxL]
theorem mxL_el {l : List St} {q : Nat} (hq : q < l.length) : el (mxL l) q = ((el l q).1, (el l q).2.map mxA) := by unfold mxL; rw [el_map hq]
theorem el_setM {α : Type} [Inhabited α] {l : List α} {k : Nat} {v : α} (h : k < l.length) {j : Nat} : el (l.set k v) j = if j = k then v else el l j := by
  unfold el
  rw [List.getElem?_set]
  by_cases e : k = j
  · rw [if_pos e, if_pos h, if_pos e.symm]; rfl
  · rw [if_neg e, if_neg (Ne.symm e)]
/-- So far: the arcs ahead of the arc i of the state q. -/
structure MaxR (l l' : List St) (q i : Nat) : Prop where
  len : l'.length = l.length
  fin : ∀ j, j < l.length → (el l' j).1 = (el l j).1
  arcs : ∀ j, j < l.length → (el l' j).2.length = (el l j).2.length
  each : ∀ j, j < l.length → ∀ t, t < (el l j).2.length → el (el l' j).2 t = el (el l j).2 t ∨ el (el l' j).2 t = mxA (el (el l j).2 t)
  done : ∀ j, j < l.length → ∀ t, t < (el l j).2.length → (j < q ∨ j = q ∧ t < i) → el (el l' j).2 t = mxA (el (el l j).2 t)
theorem MaxR.start (l : List St) : MaxR l l 0 0 := ⟨rfl, fun _ _ => rfl, fun _ _ => rfl, fun _ _ _ _ => .inl rfl, fun j _ t _ h => by omega⟩
theorem MaxR.next {l l' : List St} {q i : Nat} (h : MaxR l l' q i) (hi : ¬ i < (el l q).2.length) : MaxR l l' (q + 1) 0 :=
  ⟨h.len, h.fin, h.arcs, h.each, fun j hj t ht hd => h.done j hj t ht (by
    rcases Nat.lt_trichotomy j q with g | g | g
    · exact .inl g
    · subst g; exact .inr ⟨rfl, by omega⟩
    · omega)⟩
/-- One arc more, wherever its row lies. -/
theorem MaxR.step {l l' l2 : List St} {q i : Nat} (h : MaxR l l' q i) (hq : q < l.length) (hi : i < (el l q).2.length) (h1 : l2.length = l'.length) (h2 : ∀ j, j < l'.length → (el l2 j).1 = (el l' j).1 ∧ ((el l2 j).2 = (el l' j).2 ∨ (i < (el l' j).2.length ∧ (el l2 j).2 = (el l' j).2.set i (mxA (el (el l' j).2 i))))) (h3 : (el l2 q).2 = (el l' q).2.set i (mxA (el (el l' q).2 i))) : MaxR l l2 q (i + 1) := by
  have hl := h.len
  have hmx : ∀ j, j < l.length → ∀ t, t < (el l j).2.length → mxA (el (el l' j).2 t) = mxA (el (el l j).2 t) := fun j hj t ht => by
    rcases h.each j hj t ht with e | e
    · rw [e]
    · rw [e, mxA_mxA]
  refine ⟨by omega, fun j hj => (h2 j (by omega)).1.trans (h.fin j hj), fun j hj => ?_, fun j hj t ht => ?_, fun j hj t ht hd => ?_⟩
  · rcases (h2 j (by omega)).2 with e | ⟨_, e⟩
    · rw [e]; exact h.arcs j hj
    · rw [e, List.length_set]; exact h.arcs j hj
  · rcases (h2 j (by omega)).2 with e | ⟨hl2, e⟩
    · rw [e]; exact h.each j hj t ht
    · rw [e, el_setM hl2]
      by_cases g : t = i
      · rw [if_pos g, ← g]
        exact .inr (hmx j hj t ht)
      · rw [if_neg g]; exact h.each j hj t ht
  · by_cases hold : j < q ∨ j = q ∧ t < i
    · have h9 := h.done j hj t ht hold
      rcases (h2 j (by omega)).2 with e | ⟨hl2, e⟩
      · rw [e]; exact h9
      · rw [e, el_setM hl2]
        by_cases g : t = i
        · rw [if_pos g, ← g]; exact hmx j hj t ht
        · rw [if_neg g]; exact h9
    · have e1 : j = q := by omega
      have e2 : t = i := by omega
      subst e1
      subst e2
      rw [h3, el_setM (by rw [h.arcs j hj]; exact hi), if_pos rfl]
      exact hmx j hj t ht
theorem MaxR.all {l l' : List St} (h : MaxR l l' l.length 0) : l' = mxL l := by
  refine el_ext (by rw [h.len, mxL_len]) fun j hj => ?_
  have hj' : j < l.length := by rw [← h.len]; exact hj
  rw [mxL_el hj']
  refine Prod.ext (h.fin j hj') (el_ext (by simp only [List.length_map]; exact h.arcs j hj') fun t ht => ?_)
  have ht' : t < (el l j).2.length := by rw [← h.arcs j hj']; exact ht
  simp only
  rw [el_map ht']
  exact h.done j hj' t ht' (.inl hj')
theorem mx_right {m : Mc} (hf : faultM m = 0) : faultM (m.1, mxL m.2) = 0 := by
  have h1 := right_parts hf
  have h2 := right_size (z := m.1) (l := m.2) hf
  have hn : arcN (mxL m.2) = arcN m.2 := by
    have : ∀ l : List St, arcN (mxL l) = arcN l := by
      intro l
      induction l with
      | nil => rfl
      | cons s l ih =>
        have e1 : mxL (s :: l) = [(s.1, s.2.map mxA)] ++ mxL l := rfl
        have e2 : (s :: l) = [s] ++ l := rfl
        rw [e1, e2, arcN_append, arcN_append, ih]
        simp [arcN]
    exact this _
  unfold faultM
  have hs : sizeB (m.1, mxL m.2) = true := by simp [sizeB, mxL_len, hn, h2.1, h2.2]
  have hr : rangeB (m.1, mxL m.2) = true := by
    simp only [rangeB, Bool.and_eq_true, inB, decide_eq_true_eq, List.all_eq_true, mxL_len]
    refine ⟨h1.1, fun s hs => ?_⟩
    unfold mxL at hs
    obtain ⟨t, ht, rfl⟩ := List.mem_map.1 hs
    have h3 := h1.2 t ht
    simp only [stB, Bool.and_eq_true, List.all_eq_true] at h3 ⊢
    refine ⟨h3.1, fun a ha => ?_⟩
    obtain ⟨b, hb, rfl⟩ := List.mem_map.1 ha
    have h4 := h3.2 b hb
    simp only [arcB, inB, Bool.and_eq_true, decide_eq_true_eq, mxA] at h4 ⊢
    have h5 := mxI_one b.1
    have h6 := mxI_top (n := b.1) (by omega)
    exact ⟨⟨⟨⟨decide_eq_true (by omega), decide_eq_true (by omega)⟩, ⟨decide_eq_true (by omega), decide_eq_true (by omega)⟩⟩, ⟨decide_eq_true (by omega), decide_eq_true (by omega)⟩⟩, ⟨decide_eq_true (by omega), decide_eq_true (by omega)⟩⟩
  rw [if_pos hs, if_pos hr]
theorem mx_emp (l : List St) (h : ∀ q, q < l.length → ∀ a ∈ (el l q).2, 0 ≤ a.1) : empB (mxL l) = false := by
  unfold empB
  rw [List.any_eq_false]
  intro s hs
  unfold mxL at hs
  obtain ⟨t, ht, rfl⟩ := List.mem_map.1 hs
  rw [Bool.not_eq_true, List.any_eq_false]
  intro a ha
  obtain ⟨b, hb, rfl⟩ := List.mem_map.1 ha
  have h5 := mxI_one b.1
  simp only [mxA, Bool.and_eq_true]
  intro g
  have := of_decide_eq_true g.1
  omega
theorem mx_four {m : Mc} (hf : faultM m = 0) (hz : m.1 = 0) (hw : Fwd m.2) (hp : 0 < m.2.length) (hl : m.2.length ≤ 4) (h4 : ∀ q, q < m.2.length → (el m.2 q).2.length ≤ 4) (hlow : LowL 10 m.2) : Four (m.1, mxL m.2) := by
  have hr := mx_right hf
  have hin : ∀ q a, a ∈ (el (mxL m.2) q).2 → q < m.2.length ∧ ∃ b ∈ (el m.2 q).2, a = mxA b := fun q a ha => by
    by_cases hq : q < m.2.length
    · rw [mxL_el hq] at ha
      obtain ⟨b, hb, e⟩ := List.mem_map.1 ha
      exact ⟨hq, b, hb, e.symm⟩
    · rw [show el (mxL m.2) q = default by simp [el, List.getElem?_eq_none (show (mxL m.2).length ≤ q by rw [mxL_len]; omega)]] at ha
      exact absurd ha (by show ¬ a ∈ ([] : List Ar); simp)
  refine ⟨hr, fun q hq a ha => ?_, hz, by simp only [mxL_len]; exact hp, by simp only [mxL_len]; exact hl, fun q hq => ?_, fun q a ha => ?_, fun q hq hn => ?_⟩
  · obtain ⟨h1, b, hb, rfl⟩ := hin q a ha
    simp only [mxL_len]
    exact hw q h1 b hb
  · simp only [mxL_len] at hq
    simp only
    rw [mxL_el hq]
    simp only [List.length_map]
    exact h4 q hq
  · obtain ⟨h1, b, hb, rfl⟩ := hin q a ha
    exact (hlow _ (el_mem h1)).2 b hb
  · simp only [mxL_len] at hq
    simp only at hn ⊢
    rw [mxL_el hq] at hn ⊢
    exact (hlow _ (el_mem hq)).1 hn
end Go.Proofs.YtfekmlblldhieaaGreatDoor.Pl
