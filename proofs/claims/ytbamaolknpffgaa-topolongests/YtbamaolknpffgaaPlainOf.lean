/- Paths counted from the start on, and the longest way to each state: the ends' sum is what is counted from behind (no program in sight). -/
import Derived.Test.YtbamaolknpffgaaPlainOa
namespace Go.Proofs.Ytbamaolknpffgaa.Pl
def updN (x : Nat → Nat) (t k : Nat) : Nat → Nat := fun j => if j = t then k else x j
/-- Along these arcs of q. -/
def addA (q : Nat) : List Ar → (Nat → Nat) → Nat → Nat
  | [], x => x
  | a :: l, x => addA q l (updN x a.2.2.2.toNat (x a.2.2.2.toNat + x q))
theorem addA_append (q : Nat) (a b : List Ar) (x : Nat → Nat) : addA q (a ++ b) x = addA q b (addA q a x) := by
  induction a generalizing x with
  | nil => rfl
  | cons c a ih => exact ih _
theorem addA_take (q : Nat) {ar : List Ar} {c t : Nat} (h : c < ar.length) (ht : (el ar c).2.2.2 = (t : Int)) (x : Nat → Nat) : addA q (ar.take (c + 1)) x = updN (addA q (ar.take c) x) t (addA q (ar.take c) x t + addA q (ar.take c) x q) := by
  rw [take_el h, addA_append]
  show updN _ (el ar c).2.2.2.toNat _ = _
  rw [ht, Int.toNat_natCast]
/-- Along all states in this order. -/
def addL (l : List St) : List Int → (Nat → Nat) → Nat → Nat
  | [], x => x
  | q :: out, x => addL l out (addA q.toNat (el l q.toNat).2 x)
theorem addL_append (l : List St) (a b : List Int) (x : Nat → Nat) : addL l (a ++ b) x = addL l b (addL l a x) := by
  induction a generalizing x with
  | nil => rfl
  | cons c a ih => exact ih _
theorem addL_take (l : List St) {out : List Int} {i q : Nat} (h : i < out.length) (hq : el out i = (q : Int)) (x : Nat → Nat) : addL l (out.take (i + 1)) x = addA q (el l q).2 (addL l (out.take i) x) := by
  rw [take_el h, addL_append, hq]
  show addA ((q : Int)).toNat _ _ = _
  rw [Int.toNat_natCast]
def dotN (f x : Nat → Nat) : Nat → Nat
  | 0 => 0
  | n + 1 => dotN f x n + f n * x n
theorem dotN_upd (f x : Nat → Nat) (t y : Nat) : ∀ n, dotN f (updN x t (x t + y)) n = dotN f x n + (if t < n then f t * y else 0) := by
  intro n
  induction n with
  | zero => simp [dotN]
  | succ n ih =>
    simp only [dotN, ih, updN]
    by_cases e : n = t
    · subst e
      rw [if_pos rfl, if_neg (by omega), if_pos (by omega), Nat.mul_add]
      omega
    · rw [if_neg e]
      by_cases c : t < n
      · rw [if_pos c, if_pos (by omega)]; omega
      · rw [if_neg c, if_neg (by omega)]; omega
theorem addA_same {q : Nat} {ar : List Ar} (h : ∀ a ∈ ar, a.2.2.2.toNat ≠ q) (x : Nat → Nat) : addA q ar x q = x q := by
  induction ar generalizing x with
  | nil => rfl
  | cons a l ih =>
    show addA q l _ q = _
    rw [ih (fun b hb => h b (by simp [hb]))]
    simp [updN, Ne.symm (h a (by simp))]
theorem dotN_addA (f : Nat → Nat) {q n : Nat} {ar : List Ar} (h : ∀ a ∈ ar, a.2.2.2.toNat ≠ q ∧ a.2.2.2.toNat < n) (x : Nat → Nat) : dotN f (addA q ar x) n = dotN f x n + sumF f ar * x q := by
  induction ar generalizing x with
  | nil => simp [addA, sumF]
  | cons a l ih =>
    show dotN f (addA q l _) n = _
    rw [ih (fun b hb => h b (by simp [hb])), dotN_upd, if_pos (h a (by simp)).2]
    have h1 : updN x a.2.2.2.toNat (x a.2.2.2.toNat + x q) q = x q := by simp [updN, Ne.symm (h a (by simp)).1]
    rw [h1, sumF, Nat.add_mul]
    omega
theorem dotN_but {f g x : Nat → Nat} {q : Nat} (h : ∀ p, p ≠ q → g p = f p) : ∀ n, q < n → ∃ R, dotN f x n = R + f q * x q ∧ dotN g x n = R + g q * x q := by
  have hlow : ∀ n, n ≤ q → dotN g x n = dotN f x n := by
    intro n
    induction n with
    | zero => intro _; rfl
    | succ n ih => intro hn; simp only [dotN]; rw [ih (by omega), h n (by omega)]
  intro n
  induction n with
  | zero => intro hq; omega
  | succ n ih =>
    intro hq
    by_cases e : n = q
    · subst e
      exact ⟨dotN f x n, rfl, by simp only [dotN]; rw [hlow n (Nat.le_refl _)]⟩
    · obtain ⟨R, h1, h2⟩ := ih (by omega)
      refine ⟨R + f n * x n, ?_, ?_⟩
      · simp only [dotN]; omega
      · simp only [dotN]; rw [h n e]; omega
theorem dotN_congr {f g x : Nat → Nat} : ∀ n, (∀ p, p < n → f p = g p) → dotN f x n = dotN g x n := by
  intro n
  induction n with
  | zero => intro _; rfl
  | succ n ih => intro h; simp only [dotN]; rw [ih (fun p hp => h p (by omega)), h n (by omega)]
/-- What counts at a state: behind it all that follows; once it is done, only whether one may end there. -/
def leftN (l : List St) (N : Nat → Nat) (out : List Int) : Nat → Nat := fun p => if (p : Int) ∈ out then baseN (el l p).1 else N p
theorem OrderL.out_later {l : List St} {out : List Int} (h : OrderL l out) {i q : Nat} (hi : i < out.length) (hq : el out i = (q : Int)) {a : Ar} (ha : a ∈ (el l q).2) {t : Nat} (ht : a.2.2.2 = (t : Int)) (htn : t < l.length) : (t : Int) ∉ out.take (i + 1) := by
  have h1 := h.later hi hq ha ht htn
  have h2 := h.ahead h1
  intro hm
  have := h2 _ hm
  simp at this
theorem OrderL.at {l : List St} {out : List Int} (h : OrderL l out) {i : Nat} (hi : i < out.length) : ∃ q : Nat, el out i = (q : Int) ∧ q < l.length ∧ (q : Int) ∉ out.take i := by
  obtain ⟨q, e, hq, hf, _⟩ := h.1 i hi
  exact ⟨q, e, hq, hf.1⟩
theorem along_step {l : List St} {out : List Int} (h : OrderL l out) (hto : ∀ q, q < l.length → ∀ a ∈ (el l q).2, ∃ t : Nat, a.2.2.2 = (t : Int) ∧ t < l.length) {N : Nat → Nat} (hN : CntEq l N) {i q : Nat} (hi : i < out.length) (hq : el out i = (q : Int)) (x : Nat → Nat) :
    dotN (leftN l N (out.take (i + 1))) (addA q (el l q).2 x) l.length = dotN (leftN l N (out.take i)) x l.length := by
  obtain ⟨q', e, hql, hno⟩ := h.at hi
  obtain rfl : q = q' := by rw [hq] at e; omega
  have htk : out.take (i + 1) = out.take i ++ [(q : Int)] := by rw [take_el hi, hq]
  have harc : ∀ a ∈ (el l q).2, a.2.2.2.toNat ≠ q ∧ a.2.2.2.toNat < l.length := by
    intro a ha
    obtain ⟨t, ht, htn⟩ := hto q hql a ha
    have h1 := h.out_later hi hq ha ht htn
    rw [ht, Int.toNat_natCast]
    refine ⟨fun e2 => h1 ?_, htn⟩
    rw [htk, e2]; simp
  rw [dotN_addA _ harc]
  have hsum : sumF (leftN l N (out.take (i + 1))) (el l q).2 = sumF N (el l q).2 := by
    refine sumF_congr fun a ha => ?_
    obtain ⟨t, ht, htn⟩ := hto q hql a ha
    have h1 := h.out_later hi hq ha ht htn
    rw [ht, Int.toNat_natCast]
    simp [leftN, h1]
  rw [hsum]
  have hother : ∀ p, p ≠ q → leftN l N (out.take (i + 1)) p = leftN l N (out.take i) p := by
    intro p hp
    have : ((p : Int) ∈ out.take (i + 1)) ↔ (p : Int) ∈ out.take i := by
      rw [htk, List.mem_append, List.mem_singleton]
      constructor
      · rintro (h9 | h9)
        · exact h9
        · exact absurd (by omega) hp
      · exact .inl
    simp only [leftN, this]
  obtain ⟨R, h1, h2⟩ := dotN_but (x := x) hother l.length hql
  have e1 : leftN l N (out.take i) q = N q := by simp only [leftN]; rw [if_neg hno]
  have e2 : leftN l N (out.take (i + 1)) q = baseN (el l q).1 := by simp only [leftN]; rw [if_pos (by rw [htk]; simp)]
  rw [h1, h2, e1, e2, hN q hql, Nat.add_mul]
  omega
theorem along_all {l : List St} {out : List Int} (h : OrderL l out) (hto : ∀ q, q < l.length → ∀ a ∈ (el l q).2, ∃ t : Nat, a.2.2.2 = (t : Int) ∧ t < l.length) {N : Nat → Nat} (hN : CntEq l N) (x : Nat → Nat) :
    dotN (fun p => baseN (el l p).1) (addL l out x) l.length = dotN N x l.length := by
  have key : ∀ i, i ≤ out.length → dotN (leftN l N (out.take i)) (addL l (out.take i) x) l.length = dotN N x l.length := by
    intro i
    induction i with
    | zero => intro _; exact dotN_congr _ (fun p _ => by simp [leftN])
    | succ i ih =>
      intro hi
      obtain ⟨q, hq, _⟩ := h.at (i := i) (by omega)
      rw [addL_take l (by omega) hq, along_step h hto hN (by omega) hq]
      exact ih (by omega)
  have := key out.length (Nat.le_refl _)
  rw [List.take_length] at this
  rw [← this]
  exact dotN_congr _ (fun p hp => by simp [leftN, h.all hp])
/-- At the start. -/
def begN (z : Int) : Nat → Nat := fun j => if (j : Int) = z then 1 else 0
theorem dotN_beg (N : Nat → Nat) (z : Int) : ∀ n, dotN N (begN z) n = if 0 ≤ z ∧ z < (n : Int) then N z.toNat else 0 := by
  intro n
  induction n with
  | zero => simp [dotN]; omega
  | succ n ih =>
    simp only [dotN, ih, begN]
    by_cases e : (n : Int) = z
    · subst e
      rw [if_pos rfl, if_neg (by omega), if_pos (by omega)]
      simp
    · rw [if_neg e]
      by_cases c : 0 ≤ z ∧ z < (n : Int)
      · rw [if_pos c, if_pos (by omega)]; omega
      · rw [if_neg c, if_neg (by omega)]; omega
theorem along_count {l : List St} {out : List Int} {z : Int} (h : OrderL l out) (hto : ∀ q, q < l.length → ∀ a ∈ (el l q).2, ∃ t : Nat, a.2.2.2 = (t : Int) ∧ t < l.length) (hz : -1 ≤ z ∧ z < (l.length : Int)) :
    dotN (fun p => baseN (el l p).1) (addL l out (begN z)) l.length = if z < 0 then 0 else cntF l out z.toNat := by
  rw [along_all h hto (h.cnt hto), dotN_beg]
  by_cases c : z < 0
  · rw [if_pos c, if_neg (by omega)]
  · rw [if_neg c, if_pos (by omega)]
end Go.Proofs.Ytbamaolknpffgaa.Pl
