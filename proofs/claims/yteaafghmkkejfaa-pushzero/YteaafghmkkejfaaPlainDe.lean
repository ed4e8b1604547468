/- How far it is: ways of words are runs; reversed, the ends are as far from the start (no program in sight). -/
import Derived.Test.YteaafghmkkejfaaPlainDd
import Derived.Test.YteaafghmkkejfaaJ15e
namespace Go.Proofs.Yteaafghmkkejfaa.Pl
set_option linter.unusedVariables false
set_option linter.unusedSimpArgs false
theorem wayA_run {l : List St} {q p c : Nat} {u v : List Int} (h : Way l q u v p c) : ∃ n, Run (ArcE l) q n p c := by
  induction h with
  | nil => exact ⟨0, .nil⟩
  | snoc h ha ht ih =>
    obtain ⟨n, hn⟩ := ih
    exact ⟨n + 1, hn.step ⟨_, ha, ht, rfl⟩⟩
theorem runA_way {l : List St} {q n p c : Nat} (h : Run (ArcE l) q n p c) : ∃ u v, Way l q u v p c := by
  induction h with
  | nil => exact ⟨[], [], .nil⟩
  | step h e ih =>
    obtain ⟨u, v, hw⟩ := ih
    obtain ⟨a, ha, ht, rfl⟩ := e
    exact ⟨_, _, hw.snoc ha ht⟩
/-- No path is cheaper than the cheapest. -/
theorem costs_end {m : Mc} {x y : List Int} {c : Nat} (h : Costs m x y c) : EndC m.2 m.1.toNat c := by
  obtain ⟨_, p, d, hw, hp, hf, e⟩ := h
  obtain ⟨n, hn⟩ := wayA_run hw
  exact ⟨n, p, d, hn, hp, hf, e⟩
/-- From the start of the reversed machine to the state that was q. -/
theorem far_rev {m : Mc} (hto : ∀ q, q < m.2.length → ∀ a ∈ (el m.2 q).2, ∃ t : Nat, a.2.2.2 = (t : Int) ∧ t < m.2.length) {q : Nat} (hq : q < m.2.length) (c : Nat) : EndC m.2 q c ↔ FarC (revM m).1 (revM m).2 (q + 1) c := by
  have e0 : (revM m).1 = 0 := rfl
  rw [e0]
  constructor
  · rintro ⟨n, p, d, h, hp, hf, rfl⟩
    obtain ⟨u, v, hw⟩ := runA_way h
    have h1 := way_back hto hw
    have hm : (0, 0, (el m.2 p).1, (p : Int) + 1) ∈ (el (revM m).2 0).2 := by
      rw [rev_el0]
      exact first_mem hf hp
    have h2 := Way.cons (a := (0, 0, (el m.2 p).1, (p : Int) + 1)) hm (t := p + 1) (by simp) h1
    obtain ⟨k, hk⟩ := wayA_run h2
    refine ⟨Int.le_refl 0, k, ?_⟩
    rw [Nat.add_comm d]
    exact hk
  · rintro ⟨_, n, h⟩
    obtain ⟨u, v, hw⟩ := runA_way h
    rcases hw.first with ⟨_, _, e, _⟩ | ⟨a, ha, t, u', v', c', ht, hw', hu, hv, rfl⟩
    · exact absurd e (by simp)
    · rw [show (0 : Int).toNat = 0 from rfl, rev_el0] at ha
      obtain ⟨j, hj, hfj, rfl⟩ := mem_first ha
      simp only at ht
      obtain rfl : t = j + 1 := by omega
      obtain ⟨q', hq', hl, hb⟩ := back_way hj hw'
      obtain rfl : q = q' := by omega
      obtain ⟨k, hk⟩ := wayA_run hb
      exact ⟨k, j, c', hk, hj, hfj, by simp; omega⟩
end Go.Proofs.Yteaafghmkkejfaa.Pl
