/- Made machines, pushed: ends for nothing, pushed again, and the least (no program in sight). -/
import Derived.Test.YteaafghmkkejfaaPlainPn
import Derived.Test.YteaafghmkkejfaaPlainDd
import Derived.Test.YteaafghmkkejfaaPlainDe
namespace Go.Proofs.Yteaafghmkkejfaa.Pl
set_option linter.unusedVariables false
set_option linter.unusedSimpArgs false
/-- From each state of a pushed machine an end can be had for 0. -/
theorem PshM.zeros {m x : Mc} {tot : Int} {T : Mc} {vs : List Int} (h : PshM m x tot T vs) {q : Nat} (hq : q < x.2.length) {n : Int} (hn : CstIs (EndC x.2 q) n) : n = 0 := by
  have hx := h.eqx
  have hl : x.2.length = T.2.length := by rw [hx]; exact psh_length _ _
  have h1 := psh_zero h.pot (q := q) (by omega) (h.least q (by omega))
  have h2 : LeastP (EndC x.2 q) 0 := by rw [hx]; exact h1
  rcases hn with ⟨_, k⟩ | ⟨c, hc, _, rfl⟩
  · exact absurd h2.1 (k 0)
  · have := hc.2 0 h2.1
    omega
/-- Pushed again it stays. -/
theorem PshM.again {m x : Mc} {tot : Int} {T : Mc} {vs : List Int} (h : PshM m x tot T vs) {y : Mc} {t g : Int} (hp : PshAns x y t g) : y = x ∧ t = 0 ∧ g = 0 := by
  rcases hp with ⟨k, _⟩ | ⟨_, aa, bs, us, e, hA, hB, hD, k⟩
  · exact absurd h.rightx k
  · have ht := h.trim hA hB
    rw [ht] at hD k
    obtain ⟨rfl, h1, h2⟩ := end_cst h.rightx h.cheapx hD
    obtain ⟨s1, s2, s3⟩ := psh_stays h.rightx (vs := us) (fun q hq => h.zeros hq (h2 q hq))
    rcases k with ⟨k, _⟩ | ⟨_, k, _⟩ | ⟨_, _, k1, k2, k3⟩
    · exact absurd rfl k
    · rw [s2] at k; cases k
    · exact ⟨by rw [k1, s1], by rw [k2, s3], k3⟩
theorem end_costs {m : Mc} (hz : 0 ≤ m.1) {c : Nat} : EndC m.2 m.1.toNat c ↔ ∃ X Y, Costs m X Y c := by
  constructor
  · rintro ⟨n, p, d, hr, hp, hn, rfl⟩
    obtain ⟨u, v, hw⟩ := runA_way hr
    exact ⟨u, v, hz, p, d, hw, hp, hn, rfl⟩
  · rintro ⟨X, Y, hc⟩
    exact costs_end hc
/-- The total is what the cheapest path costs. -/
theorem PshM.cheapest {m x : Mc} {tot : Int} {T : Mc} {vs : List Int} (h : PshM m x tot T vs) (hz : 0 ≤ m.1) {n : Int} (hn : CstIs (EndC m.2 m.1.toNat) n) : (n = 1000000001 ∧ x.2.length = 0 ∧ tot = 0) ∨ (n ≠ 1000000001 ∧ tot = n ∧ 0 ≤ x.1) := by
  have hx := h.eqx
  have hl : x.2.length = T.2.length := by rw [hx]; exact psh_length _ _
  by_cases ht : T.1 < 0
  · left
    have hno : ∀ c, ¬ EndC m.2 m.1.toNat c := fun c hc => by
      obtain ⟨X, Y, k⟩ := (end_costs hz).1 hc
      exact (h.none ht X Y).1 c k
    refine ⟨?_, by rw [hl]; exact h.start.1 ht, (h.none ht [] []).2.2⟩
    rcases hn with ⟨e, _⟩ | ⟨c, hc, _⟩
    · exact e
    · exact absurd hc.1 (hno c)
  · right
    have ht0 : 0 ≤ T.1 := by omega
    have htl : T.1.toNat < T.2.length := by
      have := (right_parts h.right).1.2
      omega
    have hiff : ∀ c, EndC m.2 m.1.toNat c ↔ EndC T.2 T.1.toNat c := fun c => by
      rw [end_costs hz, end_costs ht0]
      exact ⟨fun ⟨X, Y, k⟩ => ⟨X, Y, (h.costs X Y c).2 k⟩, fun ⟨X, Y, k⟩ => ⟨X, Y, (h.costs X Y c).1 k⟩⟩
    have hL := h.least _ htl
    have hlow := h.low _ htl
    have htot : tot = el vs T.1.toNat := by rw [h.eqt]; unfold pshT; rw [if_neg ht]
    rcases hn with ⟨_, k⟩ | ⟨c, hc, hb, rfl⟩
    · exact absurd ((hiff _).2 hL.1) (k _)
    · have h1 := hc.2 _ ((hiff _).2 hL.1)
      have h2 := hL.2 _ ((hiff _).1 hc.1)
      exact ⟨by omega, by rw [htot]; omega, by rw [hx]; exact ht0⟩
end Go.Proofs.Yteaafghmkkejfaa.Pl
