/- Plain facts: what is held while the best mark is taken again and again; marks behind a label (no program in sight). -/
import Derived.Test.YtkeeiihaijhdoaaPlainMb
namespace Go.Proofs.Ytkeeiihaijhdoaa.Sm
open Go.Proofs.Ytkeeiihaijhdoaa.Pl
set_option linter.unusedVariables false
set_option linter.unusedSimpArgs false
theorem arcs_rng {m : Mc} (hf : faultM m = 0) {q : Int} {a : Ar} (h : a ∈ arcS m q) : 0 ≤ a.1 ∧ 0 ≤ a.2.1 ∧ a.2.1 ≤ 1000 ∧ 0 ≤ a.2.2.1 ∧ a.2.2.1 ≤ 1000000000 ∧ 0 ≤ a.2.2.2 ∧ a.2.2.2 < m.2.length := by
  obtain ⟨z, l⟩ := m
  unfold arcS at h
  by_cases hq : q.toNat < l.length
  · have h1 := List.all_eq_true.1 (right_st hf hq).2 a h
    simp only [arcB, inB, Bool.and_eq_true, decide_eq_true_eq] at h1
    simp only
    omega
  · have : el l q.toNat = default := by
      simp [el, List.getD_eq_getElem?_getD, List.getElem?_eq_none (show l.length ≤ q.toNat by omega)]
    simp only [this] at h
    exact absurd h (by simp [default, Inhabited.default])
theorem arcs_ok {m : Mc} (hf : faultM m = 0) : ArcsOk m m.2.length := fun q a h => by
  have := arcs_rng hf h
  omega
/-- What keys of a table may be. -/
def BndT (A : Int) (L : Nat) (T : Tbl) : Prop := ∀ q x, T q = some x → 0 ≤ x.1 ∧ x.1 ≤ A ∧ x.2.length ≤ L
theorem goA_len (k : Ky) (a : Ar) : (goA k a).2.length ≤ k.2.length + 1 := by
  unfold goA
  simp only
  split <;> simp
structure DjI (m : Mc) (T : Tbl) (A : Int) (L : Nat) (K O : Tbl) (c : Nat) : Prop where
  dj : Djk m T K O
  dis : ∀ q x, K q = some x → O q = none
  dK : DomT m.2.length K
  dO : DomT m.2.length O
  bK : BndT (A + 1000000000 * c) (L + c) K
  bO : BndT (A + 1000000000 * c) (L + c) O
theorem DjI.start {m : Mc} {T : Tbl} {A : Int} {L : Nat} (hT : DomT m.2.length T) (hb : BndT A L T) : DjI m T A L (fun _ => none) T 0 :=
  ⟨Djk.start m T, (by intro q x h; cases h), (by intro q x h; cases h), hT, (by intro q x h; cases h), by simpa using hb⟩
theorem delT_some {O : Tbl} {q p : Int} {y : Ky} (h : delT O q p = some y) : p ≠ q ∧ O p = some y := by
  unfold delT at h
  by_cases e : p = q
  · rw [if_pos e] at h; cases h
  · rw [if_neg e] at h; exact ⟨e, h⟩
theorem setT_some {K : Tbl} {q p : Int} {x y : Ky} (h : setT K q x p = some y) : (p = q ∧ y = x) ∨ (p ≠ q ∧ K p = some y) := by
  unfold setT at h
  by_cases e : p = q
  · rw [if_pos e, Option.some.injEq] at h; exact .inl ⟨e, h.symm⟩
  · rw [if_neg e] at h; exact .inr ⟨e, h⟩
theorem DjI.step {m : Mc} {T : Tbl} {A : Int} {L c : Nat} {K O : Tbl} (h : DjI m T A L K O c) (hf : faultM m = 0) {q : Int} {x : Ky} (hx : O q = some x) (hm : ∀ p y, O p = some y → leK x y) :
    DjI m T A L (setT K q x) (pshT (setT K q x) x (delT O q) (arcS m q)) (c + 1) := by
  have hKq : K q = none := by
    rcases hk : K q with _ | y
    · rfl
    · rw [h.dis q y hk] at hx; cases hx
  have hxb := h.bO q x hx
  have hup : (1000000000 : Int) * ((c + 1 : Nat) : Int) = 1000000000 * (c : Int) + 1000000000 := by rw [Int.natCast_add, Int.mul_add]; rfl
  have hO : ∀ p y, pshT (setT K q x) x (delT O q) (arcS m q) p = some y → (p ≠ q ∧ O p = some y) ∨ (setT K q x p = none ∧ ∃ a ∈ arcS m q, a.1 = 0 ∧ a.2.2.2 = p ∧ y = goA x a) := by
    intro p y hp
    rcases pshT_or _ hp with g | g
    · exact .inl (delT_some g)
    · exact .inr g
  refine ⟨h.dj.step hx hm hKq (fun a ha => (arcs_rng hf ha).2.2.2.1), ?_, ?_, ?_, ?_, ?_⟩
  · intro p y hp
    rcases hpo : pshT (setT K q x) x (delT O q) (arcS m q) p with _ | y2
    · rfl
    · rcases hO p y2 hpo with ⟨e, g⟩ | ⟨g, _⟩
      · rcases setT_some hp with ⟨e2, _⟩ | ⟨_, g2⟩
        · exact absurd e2 e
        · rw [h.dis p y g2] at g; cases g
      · rw [g] at hp; cases hp
  · intro p y hp
    rcases setT_some hp with ⟨rfl, _⟩ | ⟨_, g⟩
    · exact h.dO _ _ hx
    · exact h.dK p y g
  · intro p y hp
    rcases hO p y hp with ⟨_, g⟩ | ⟨_, a, ha, _, rfl, _⟩
    · exact h.dO p y g
    · exact ⟨(arcs_rng hf ha).2.2.2.2.2.1, (arcs_rng hf ha).2.2.2.2.2.2⟩
  · intro p y hp
    rcases setT_some hp with ⟨_, rfl⟩ | ⟨_, g⟩
    · omega
    · have := h.bK p y g
      omega
  · intro p y hp
    rcases hO p y hp with ⟨_, g⟩ | ⟨_, a, ha, _, _, rfl⟩
    · have := h.bO p y g
      omega
    · have h1 := arcs_rng hf ha
      have h2 := goA_len x a
      have h3 : (goA x a).1 = x.1 + a.2.2.1 := rfl
      omega
/-- A table that holds the least of some keys. -/
def MinT (S : Int → Ky → Prop) (O : Tbl) : Prop := (∀ p y, O p = some y → S p y) ∧ ∀ p y, S p y → LeT O p y
theorem MinT.one {S : Int → Ky → Prop} {O P : Tbl} (h : MinT S O) (g : MinT S P) : O = P := by
  funext p
  rcases hk : O p with _ | b
  · rcases hl : P p with _ | c
    · rfl
    · obtain ⟨b, h1, _⟩ := h.2 p c (g.1 p c hl)
      rw [hk] at h1; cases h1
  · obtain ⟨c, h1, h2⟩ := g.2 p b (h.1 p b hk)
    obtain ⟨b', h3, h4⟩ := h.2 p c (g.1 p c h1)
    rw [hk, Option.some.injEq] at h3
    subst h3
    rw [h1, h2.anti h4]
theorem MinT.put {S : Int → Ky → Prop} {O : Tbl} (h : MinT S O) (q : Int) (x : Ky) : MinT (fun p y => S p y ∨ (p = q ∧ y = x)) (putT O q x) := by
  refine ⟨fun p y hp => ?_, fun p y hp => ?_⟩
  · rcases putT_or hp with g | g
    · exact .inl (h.1 p y g)
    · exact .inr g
  · rcases hp with g | ⟨rfl, rfl⟩
    · exact putT_leT _ _ (h.2 p y g)
    · exact putT_at _ _ _
theorem MinT.same {S S' : Int → Ky → Prop} {O : Tbl} (h : MinT S O) (e : ∀ p y, S p y ↔ S' p y) : MinT S' O :=
  ⟨fun p y hp => (e p y).1 (h.1 p y hp), fun p y hp => h.2 p y ((e p y).2 hp)⟩
/-- Keys behind a label. -/
def StpL (m : Mc) (K : Tbl) (l : Int) (p : Int) (y : Ky) : Prop := ∃ q x a, K q = some x ∧ a ∈ arcS m q ∧ a.1 = l ∧ p = a.2.2.2 ∧ y = goA x a
/-- What a table holds in the order of the states. -/
def ordL (n : Nat) (T : Tbl) : List Mk := (List.range n).filterMap fun q : Nat => (T (q : Int)).map fun k => ((q : Int), k)
theorem ordL_succ (n : Nat) (T : Tbl) : ordL (n + 1) T = ordL n T ++ (match T (n : Int) with | none => [] | some k => [((n : Int), k)]) := by
  unfold ordL
  rw [List.range_succ, List.filterMap_append]
  rcases h : T (n : Int) with _ | k <;> simp [List.filterMap, h]
/-- The table of a list of marks. -/
def tblL : List Mk → Tbl
  | [] => fun _ => none
  | k :: l => fun q => if q = k.1 then some k.2 else tblL l q
/-- Does one cost more than may be? -/
def OverT (T : Tbl) : Prop := ∃ q k, T q = some k ∧ 1000000000 < k.1
/-- Where a machine begins. -/
def startT (m : Mc) : Tbl := fun q => if 0 ≤ m.1 ∧ q = m.1 then some (0, []) else none
theorem startT_dom {m : Mc} (h : m.1 < m.2.length) : DomT m.2.length (startT m) := by
  intro q x hx
  unfold startT at hx
  by_cases e : 0 ≤ m.1 ∧ q = m.1
  · omega
  · rw [if_neg e] at hx; cases hx
theorem startT_bnd (m : Mc) : BndT 0 0 (startT m) := by
  intro q x hx
  unfold startT at hx
  by_cases e : 0 ≤ m.1 ∧ q = m.1
  · rw [if_pos e, Option.some.injEq] at hx
    subst hx
    simp
  · rw [if_neg e] at hx; cases hx
theorem startT_none {m : Mc} (h : m.1 < 0) : startT m = fun _ => none := by
  funext q; unfold startT; rw [if_neg (by omega)]
theorem startT_put {m : Mc} (h : 0 ≤ m.1) : startT m = putT (fun _ => none) m.1 (0, []) := by
  funext q; unfold startT putT minO
  by_cases e : q = m.1
  · rw [if_pos ⟨h, e⟩, if_pos e]
  · rw [if_neg (fun g => e g.2), if_neg e]
/-- P21.3: what Begin answers: a run, an error. -/
def BegAns (m : Mc) (r : Ru) (ec : Int) : Prop :=
  (faultM m ≠ 0 ∧ r = (0, []) ∧ ec = faultM m) ∨ (faultM m = 0 ∧ ∃ K, Clo m (startT m) K ∧ ((OverT K ∧ r = (0, []) ∧ ec = 4) ∨ (¬ OverT K ∧ r = (0, ordL m.2.length K) ∧ ec = 0)))
theorem BegAns.one {m : Mc} {r s : Ru} {e f : Int} (h : BegAns m r e) (g : BegAns m s f) : r = s ∧ e = f := by
  rcases h with ⟨h1, h2, h3⟩ | ⟨h1, K, h2, h3⟩
  · rcases g with ⟨g1, g2, g3⟩ | ⟨g1, _⟩
    · exact ⟨h2.trans g2.symm, h3.trans g3.symm⟩
    · exact absurd g1 h1
  · rcases g with ⟨g1, _⟩ | ⟨g1, L, g2, g3⟩
    · exact absurd h1 g1
    · have e1 := h2.one g2
      subst e1
      rcases h3 with ⟨a1, a2, a3⟩ | ⟨a1, a2, a3⟩ <;> rcases g3 with ⟨b1, b2, b3⟩ | ⟨b1, b2, b3⟩
      · exact ⟨a2.trans b2.symm, a3.trans b3.symm⟩
      · exact absurd a1 b1
      · exact absurd b1 a1
      · exact ⟨a2.trans b2.symm, a3.trans b3.symm⟩
theorem start_rng {m : Mc} (hf : faultM m = 0) : -1 ≤ m.1 ∧ m.1 < m.2.length := by
  have h := (faultM_zero hf).2
  simp only [rangeB, inB, Bool.and_eq_true, decide_eq_true_eq] at h
  omega
/-- P21.4, label by label: none where it costs too much. -/
inductive FedT (m : Mc) : Tbl → List Int → Option Tbl → Prop
  | nil (K : Tbl) : FedT m K [] (some K)
  | over {K O K' : Tbl} {x : Int} {l : List Int} : MinT (StpL m K x) O → Clo m O K' → OverT K' → FedT m K (x :: l) none
  | on {K O K' : Tbl} {x : Int} {l : List Int} {r : Option Tbl} : MinT (StpL m K x) O → Clo m O K' → ¬ OverT K' → FedT m K' l r → FedT m K (x :: l) r
theorem FedT.one {m : Mc} : ∀ {l : List Int} {K : Tbl} {r s : Option Tbl}, FedT m K l r → FedT m K l s → r = s
  | [], _, _, _, .nil _, .nil _ => rfl
  | x :: l, _, _, _, .over a1 a2 a3, .over b1 b2 b3 => rfl
  | x :: l, _, _, _, .over a1 a2 a3, .on b1 b2 b3 b4 => by
    have e := a1.one b1
    subst e
    have e := a2.one b2
    subst e
    exact absurd a3 b3
  | x :: l, _, _, _, .on b1 b2 b3 b4, .over a1 a2 a3 => by
    have e := a1.one b1
    subst e
    have e := a2.one b2
    subst e
    exact absurd a3 b3
  | x :: l, _, _, _, .on a1 a2 a3 a4, .on b1 b2 b3 b4 => by
    have e := a1.one b1
    subst e
    have e := a2.one b2
    subst e
    exact FedT.one a4 b4
end Go.Proofs.Ytkeeiihaijhdoaa.Sm
