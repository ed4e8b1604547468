/- Weights that come as early as can be: machines with potentials (no program in sight). -/
import Derived.Test.YteaafghmkkejfaaJ15g
import Derived.Test.YteaafghmkkejfaaPlainTr
import Derived.Test.YteaafghmkkejfaaJ15h
namespace Go.Proofs.Yteaafghmkkejfaa.Pl
set_option linter.unusedVariables false
set_option linter.unusedSimpArgs false
/-- P15.1: an arc's Weight is more by the Ends of its To, less by the Ends of its state. -/
def pshA (vs : List Int) (q : Nat) (a : Ar) : Ar := (a.1, a.2.1, a.2.2.1 + el vs a.2.2.2.toNat - el vs q, a.2.2.2)
def pshF (vs : List Int) (q : Nat) (f : Int) : Int := if f = 1000000001 then 1000000001 else f - el vs q
def pshS (vs : List Int) (l : List St) (q : Nat) : St := (pshF vs q (el l q).1, (el l q).2.map (pshA vs q))
def pshL (vs : List Int) (l : List St) : List St := (List.range l.length).map (pshS vs l)
def pshM (vs : List Int) (m : Mc) : Mc := (m.1, pshL vs m.2)
def pshT (vs : List Int) (m : Mc) : Int := if m.1 < 0 then 0 else el vs m.1.toNat
/-- A Weight would be above MaxWeight. -/
def pshO (vs : List Int) (l : List St) : Bool := (List.range l.length).any fun q => (el l q).2.any fun a => decide (1000000000 < (pshA vs q a).2.2.1)
theorem psh_length (vs : List Int) (l : List St) : (pshL vs l).length = l.length := by simp [pshL]
theorem psh_el {vs : List Int} {l : List St} {q : Nat} (h : q < l.length) : el (pshL vs l) q = pshS vs l q := el_range_map _ h
/-- What is answered. -/
def trmM (m : Mc) (aa bs : List Bool) : Mc := trimM m.1 m.2 (keptL aa bs m.2.length)
def PshAns (m x : Mc) (tot ec : Int) : Prop :=
  (faultM m ≠ 0 ∧ x = (0, []) ∧ tot = 0 ∧ ec = faultM m) ∨
  (faultM m = 0 ∧ ∃ aa bs vs e, Least (AheadC m.1 m.2) m.2.length aa ∧ Least (BackC m.2) m.2.length bs ∧ DstAns (trmM m aa bs) (EndC (trmM m aa bs).2) vs e ∧
    ((e ≠ 0 ∧ x = (0, []) ∧ tot = 0 ∧ ec = e) ∨ (e = 0 ∧ pshO vs (trmM m aa bs).2 = true ∧ x = (0, []) ∧ tot = 0 ∧ ec = 4) ∨
      (e = 0 ∧ pshO vs (trmM m aa bs).2 = false ∧ x = pshM vs (trmM m aa bs) ∧ tot = pshT vs (trmM m aa bs) ∧ ec = 0)))
theorem PshAns.one {m x x' : Mc} {t t' e e' : Int} (h : PshAns m x t e) (k : PshAns m x' t' e') : x = x' ∧ t = t' ∧ e = e' := by
  rcases h with ⟨h0, h1, h2, h3⟩ | ⟨h0, aa, bs, vs, f, hA, hB, hD, h⟩ <;> rcases k with ⟨k0, k1, k2, k3⟩ | ⟨k0, aa', bs', vs', f', kA, kB, kD, k⟩
  · exact ⟨h1.trans k1.symm, h2.trans k2.symm, h3.trans k3.symm⟩
  · exact absurd k0 h0
  · exact absurd h0 k0
  · obtain rfl := hA.one kA
    obtain rfl := hB.one kB
    obtain ⟨rfl, rfl⟩ := hD.one kD
    rcases h with ⟨h1, h2, h3, h4⟩ | ⟨h1, h5, h2, h3, h4⟩ | ⟨h1, h5, h2, h3, h4⟩ <;> rcases k with ⟨k1, k2, k3, k4⟩ | ⟨k1, k5, k2, k3, k4⟩ | ⟨k1, k5, k2, k3, k4⟩
    · exact ⟨h2.trans k2.symm, h3.trans k3.symm, h4.trans k4.symm⟩
    · exact absurd k1 h1
    · exact absurd k1 h1
    · exact absurd h1 k1
    · exact ⟨h2.trans k2.symm, h3.trans k3.symm, h4.trans k4.symm⟩
    · rw [h5] at k5; cases k5
    · exact absurd h1 k1
    · rw [h5] at k5; cases k5
    · exact ⟨h2.trans k2.symm, h3.trans k3.symm, h4.trans k4.symm⟩
/-- P15.2. -/
def pulF (total f : Int) : Int := if f = 1000000001 then 1000000001 else f + total
def pulM (total : Int) (m : Mc) : Mc := (m.1, m.2.map fun s => (pulF total s.1, s.2))
def pulO (total : Int) (l : List St) : Bool := l.any fun s => decide (s.1 ≠ 1000000001) && decide (1000000000 < s.1 + total)
def PulAns (m : Mc) (total : Int) (x : Mc) (ec : Int) : Prop :=
  (faultM m ≠ 0 ∧ x = (0, []) ∧ ec = faultM m) ∨
  (faultM m = 0 ∧ inB total 0 1000000000 = false ∧ x = (0, []) ∧ ec = 2) ∨
  (faultM m = 0 ∧ inB total 0 1000000000 = true ∧ ∃ aa bs, Least (AheadC m.1 m.2) m.2.length aa ∧ Least (BackC m.2) m.2.length bs ∧
    ((pulO total (trmM m aa bs).2 = true ∧ x = (0, []) ∧ ec = 4) ∨ (pulO total (trmM m aa bs).2 = false ∧ x = pulM total (trmM m aa bs) ∧ ec = 0)))
theorem PulAns.one {m x x' : Mc} {total e e' : Int} (h : PulAns m total x e) (k : PulAns m total x' e') : x = x' ∧ e = e' := by
  rcases h with ⟨h0, h1, h2⟩ | ⟨h0, h1, h2, h3⟩ | ⟨h0, h1, aa, bs, hA, hB, h⟩ <;> rcases k with ⟨k0, k1, k2⟩ | ⟨k0, k1, k2, k3⟩ | ⟨k0, k1, aa', bs', kA, kB, k⟩
  · exact ⟨h1.trans k1.symm, h2.trans k2.symm⟩
  · exact absurd k0 h0
  · exact absurd k0 h0
  · exact absurd h0 k0
  · exact ⟨h2.trans k2.symm, h3.trans k3.symm⟩
  · rw [h1] at k1; cases k1
  · exact absurd h0 k0
  · rw [h1] at k1; cases k1
  · obtain rfl := hA.one kA
    obtain rfl := hB.one kB
    rcases h with ⟨h5, h2, h3⟩ | ⟨h5, h2, h3⟩ <;> rcases k with ⟨k5, k2, k3⟩ | ⟨k5, k2, k3⟩
    · exact ⟨h2.trans k2.symm, h3.trans k3.symm⟩
    · rw [h5] at k5; cases k5
    · rw [h5] at k5; cases k5
    · exact ⟨h2.trans k2.symm, h3.trans k3.symm⟩
/-- A potential: no arc is a short cut, no end neither. -/
structure Pot (l : List St) (vs : List Int) : Prop where
  len : vs.length = l.length
  nn : ∀ q, q < l.length → 0 ≤ el vs q ∧ el vs q ≤ 1000000000
  arc : ∀ q, q < l.length → ∀ a ∈ (el l q).2, ∃ t : Nat, a.2.2.2 = (t : Int) ∧ t < l.length ∧ 0 ≤ a.2.2.1 ∧ el vs q ≤ a.2.2.1 + el vs t
  fin : ∀ q, q < l.length → (el l q).1 ≠ 1000000001 → el vs q ≤ (el l q).1 ∧ (el l q).1 ≤ 1000000000
theorem Pot.in_l {l : List St} {vs : List Int} (h : Pot l vs) {q : Nat} {a : Ar} (ha : a ∈ (el l q).2) : q < l.length := el_in ha
theorem Pot.way {l : List St} {vs : List Int} (h : Pot l vs) {q p c : Nat} {u v : List Int} (hq : q < l.length) (hw : Way l q u v p c) :
    p < l.length ∧ ∃ c' : Nat, Way (pshL vs l) q u v p c' ∧ (c' : Int) + el vs q = (c : Int) + el vs p := by
  induction hw with
  | nil => exact ⟨hq, 0, .nil, by omega⟩
  | snoc hw ha ht ih =>
    rename_i u v p c a t
    obtain ⟨hp, c', h1, h2⟩ := ih
    obtain ⟨t', e1, e2, e3, e4⟩ := h.arc p hp a ha
    have : t = t' := by omega
    subst this
    have hm : pshA vs p a ∈ (el (pshL vs l) p).2 := by
      rw [psh_el hp]
      exact List.mem_map_of_mem ha
    have h3 := h1.snoc hm (t := t) ht
    refine ⟨e2, _, h3, ?_⟩
    have e5 : (pshA vs p a).2.2.1 = a.2.2.1 + el vs t - el vs p := by simp only [pshA]; rw [ht, Int.toNat_natCast]
    rw [e5]
    omega
theorem Pot.back {l : List St} {vs : List Int} (h : Pot l vs) {q p c' : Nat} {u v : List Int} (hq : q < l.length) (hw : Way (pshL vs l) q u v p c') :
    p < l.length ∧ ∃ c : Nat, Way l q u v p c ∧ (c' : Int) + el vs q = (c : Int) + el vs p := by
  induction hw with
  | nil => exact ⟨hq, 0, .nil, by omega⟩
  | snoc hw ha ht ih =>
    rename_i u v p c a t
    obtain ⟨hp, c', h1, h2⟩ := ih
    rw [psh_el hp] at ha
    obtain ⟨b, hb, rfl⟩ := List.mem_map.1 ha
    obtain ⟨t', e1, e2, e3, e4⟩ := h.arc p hp b hb
    have ht' : b.2.2.2 = (t : Int) := ht
    have : t = t' := by omega
    subst this
    have h3 := h1.snoc hb (t := t) ht'
    refine ⟨e2, _, h3, ?_⟩
    have e5 : (pshA vs p b).2.2.1 = b.2.2.1 + el vs t - el vs p := by simp only [pshA]; rw [ht', Int.toNat_natCast]
    rw [e5]
    omega
/-- Pushed, each pair of words costs the total less. -/
theorem Pot.costs {z : Nat} {l : List St} {vs : List Int} (h : Pot l vs) (hz : z < l.length) (x y : List Int) (c : Nat) : Costs (pshM vs ((z : Int), l)) x y c ↔ ∃ d, Costs ((z : Int), l) x y d ∧ (d : Int) = (c : Int) + el vs z := by
  have hl : (pshM vs ((z : Int), l)).2.length = l.length := psh_length vs l
  constructor
  · rintro ⟨h0, p, d, hw, hp, hf, rfl⟩
    rw [hl] at hp
    have hw' : Way (pshL vs l) z x y p d := by simpa [pshM] using hw
    obtain ⟨_, c, h1, h2⟩ := h.back hz hw'
    have e1 : (el (pshM vs ((z : Int), l)).2 p).1 = pshF vs p (el l p).1 := by simp only [pshM]; rw [psh_el hp]; rfl
    have hf' : (el l p).1 ≠ 1000000001 := fun e => hf (by rw [e1, e]; rfl)
    obtain ⟨f1, f2⟩ := h.fin p hp hf'
    have f3 := (h.nn p hp).1
    refine ⟨c + (el l p).1.toNat, ⟨by simp, p, c, by simpa using h1, hp, hf', rfl⟩, ?_⟩
    rw [e1]
    simp only [pshF, if_neg hf']
    omega
  · rintro ⟨d, ⟨h0, p, c0, hw, hp, hf, rfl⟩, e⟩
    have hw' : Way l z x y p c0 := by simpa using hw
    obtain ⟨_, c', h1, h2⟩ := h.way hz hw'
    have e1 : (el (pshM vs ((z : Int), l)).2 p).1 = pshF vs p (el l p).1 := by simp only [pshM]; rw [psh_el hp]; rfl
    obtain ⟨f1, f2⟩ := h.fin p hp hf
    have f3 := (h.nn p hp).1
    have f4 := (h.nn p hp).2
    refine ⟨by simp [pshM], p, c', by simpa [pshM] using h1, by rw [hl]; exact hp, ?_, ?_⟩
    · rw [e1]
      simp only [pshF, if_neg hf]
      intro e3
      omega
    · rw [e1]
      simp only [pshF, if_neg hf]
      have : (el l p).1 ≠ 1000000001 := hf
      simp only at e
      omega
end Go.Proofs.Yteaafghmkkejfaa.Pl
