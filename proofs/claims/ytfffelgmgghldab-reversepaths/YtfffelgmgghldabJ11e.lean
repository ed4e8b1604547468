/- Paths counted from the start on, and the longest way to each state: the ends' sum is what is counted from behind (no program in sight). The longest way from the start to each state, and to the ends (no program in sight). -/
import Derived.Test.YtfffelgmgghldabJ11a
namespace Go.Proofs.Ytfffelgmgghldab.Pl
def updN (x : Nat → Nat) (t k : Nat) : Nat → Nat := fun j => if j = t then k else x j
/-- Along these arcs of q. -/
def addA (q : Nat) : List Ar → (Nat → Nat) → Nat → Nat
  | [], x => x
  | a :: l, x => addA q l (updN x a.2.2.2.toNat (x a.2.2.2.toNat + x q))
theorem addA_append (q : Nat) (a b : List Ar) (x : Nat → Nat) : addA q (a ++ b) x = addA q b (addA q a x) := by
  induction a generalizing x with
  | nil => rfl
  | cons c a ih => exact ih _
theorem addA_take (q : Nat) {ar : List Ar} {c t : Nat} (h : c < ar.length) (ht : (el ar c).2.2.2 = (t : Int)) (x : Nat → Nat) : addA q (ar.take (c + 1)) x = updN (addA q (ar.take c) x) t (addA q (ar.take c) x t + addA q (ar.take c) x q) := by
  rw [take_el h, addA_append]
  show updN _ (el ar c).2.2.2.toNat _ = _
  rw [ht, Int.toNat_natCast]
/-- Along all states in this order. -/
def addL (l : List St) : List Int → (Nat → Nat) → Nat → Nat
  | [], x => x
  | q :: out, x => addL l out (addA q.toNat (el l q.toNat).2 x)
theorem addL_append (l : List St) (a b : List Int) (x : Nat → Nat) : addL l (a ++ b) x = addL l b (addL l a x) := by
  induction a generalizing x with
  | nil => rfl
  | cons c a ih => exact ih _
theorem addL_take (l : List St) {out : List Int} {i q : Nat} (h : i < out.length) (hq : el out i = (q : Int)) (x : Nat → Nat) : addL l (out.take (i + 1)) x = addA q (el l q).2 (addL l (out.take i) x) := by
  rw [take_el h, addL_append, hq]
  show addA ((q : Int)).toNat _ _ = _
  rw [Int.toNat_natCast]
def dotN (f x : Nat → Nat) : Nat → Nat
  | 0 => 0
  | n + 1 => dotN f x n + f n * x n
theorem dotN_upd (f x : Nat → Nat) (t y : Nat) : ∀ n, dotN f (updN x t (x t + y)) n = dotN f x n + (if t < n then f t * y else 0) := by
  intro n
  induction n with
  | zero => simp [dotN]
  | succ n ih =>
    simp only [dotN, ih, updN]
    by_cases e : n = t
    · subst e
      rw [if_pos rfl, if_neg (by omega), if_pos (by omega), Nat.mul_add]
      omega
    · rw [if_neg e]
      by_cases c : t < n
      · rw [if_pos c, if_pos (by omega)]; omega
      · rw [if_neg c, if_neg (by omega)]; omega
theorem addA_same {q : Nat} {ar : List Ar} (h : ∀ a ∈ ar, a.2.2.2.toNat ≠ q) (x : Nat → Nat) : addA q ar x q = x q := by
  induction ar generalizing x with
  | nil => rfl
  | cons a l ih =>
    show addA q l _ q = _
    rw [ih (fun b hb => h b (by simp [hb]))]
    simp [updN, Ne.symm (h a (by simp))]
theorem dotN_addA (f : Nat → Nat) {q n : Nat} {ar : List Ar} (h : ∀ a ∈ ar, a.2.2.2.toNat ≠ q ∧ a.2.2.2.toNat < n) (x : Nat → Nat) : dotN f (addA q ar x) n = dotN f x n + sumF f ar * x q := by
  induction ar generalizing x with
  | nil => simp [addA, sumF]
  | cons a l ih =>
    show dotN f (addA q l _) n = _
    rw [ih (fun b hb => h b (by simp [hb])), dotN_upd, if_pos (h a (by simp)).2]
    have h1 : updN x a.2.2.2.toNat (x a.2.2.2.toNat + x q) q = x q := by simp [updN, Ne.symm (h a (by simp)).1]
    rw [h1, sumF, Nat.add_mul]
    omega
theorem dotN_but {f g x : Nat → Nat} {q : Nat} (h : ∀ p, p ≠ q → g p = f p) : ∀ n, q < n → ∃ R, dotN f x n = R + f q * x q ∧ dotN g x n = R + g q * x q := by
  have hlow : ∀ n, n ≤ q → dotN g x n = dotN f x n := by
    intro n
    induction n with
    | zero => intro _; rfl
    | succ n ih => intro hn; simp only [dotN]; rw [ih (by omega), h n (by omega)]
  intro n
  induction n with
  | zero => intro hq; omega
  | succ n ih =>
    intro hq
    by_cases e : n = q
    · subst e
      exact ⟨dotN f x n, rfl, by simp only [dotN]; rw [hlow n (Nat.le_refl _)]⟩
    · obtain ⟨R, h1, h2⟩ := ih (by omega)
      refine ⟨R + f n * x n, ?_, ?_⟩
      · simp only [dotN]; omega
      · simp only [dotN]; rw [h n e]; omega
theorem dotN_congr {f g x : Nat → Nat} : ∀ n, (∀ p, p < n → f p = g p) → dotN f x n = dotN g x n := by
  intro n
  induction n with
  | zero => intro _; rfl
  | succ n ih => intro h; simp only [dotN]; rw [ih (fun p hp => h p (by omega)), h n (by omega)]
/-- What counts at a state: behind it all that follows; once it is done, only whether one may end there. -/
def leftN (l : List St) (N : Nat → Nat) (out : List Int) : Nat → Nat := fun p => if (p : Int) ∈ out then baseN (el l p).1 else N p
theorem OrderL.out_later {l : List St} {out : List Int} (h : OrderL l out) {i q : Nat} (hi : i < out.length) (hq : el out i = (q : Int)) {a : Ar} (ha : a ∈ (el l q).2) {t : Nat} (ht : a.2.2.2 = (t : Int)) (htn : t < l.length) : (t : Int) ∉ out.take (i + 1) := by
  have h1 := h.later hi hq ha ht htn
  have h2 := h.ahead h1
  intro hm
  have := h2 _ hm
  simp at this
theorem OrderL.at {l : List St} {out : List Int} (h : OrderL l out) {i : Nat} (hi : i < out.length) : ∃ q : Nat, el out i = (q : Int) ∧ q < l.length ∧ (q : Int) ∉ out.take i := by
  obtain ⟨q, e, hq, hf, _⟩ := h.1 i hi
  exact ⟨q, e, hq, hf.1⟩
theorem along_step {l : List St} {out : List Int} (h : OrderL l out) (hto : ∀ q, q < l.length → ∀ a ∈ (el l q).2, ∃ t : Nat, a.2.2.2 = (t : Int) ∧ t < l.length) {N : Nat → Nat} (hN : CntEq l N) {i q : Nat} (hi : i < out.length) (hq : el out i = (q : Int)) (x : Nat → Nat) :
    dotN (leftN l N (out.take (i + 1))) (addA q (el l q).2 x) l.length = dotN (leftN l N (out.take i)) x l.length := by
  obtain ⟨q', e, hql, hno⟩ := h.at hi
  obtain rfl : q = q' := by rw [hq] at e; omega
  have htk : out.take (i + 1) = out.take i ++ [(q : Int)] := by rw [take_el hi, hq]
  have harc : ∀ a ∈ (el l q).2, a.2.2.2.toNat ≠ q ∧ a.2.2.2.toNat < l.length := by
    intro a ha
    obtain ⟨t, ht, htn⟩ := hto q hql a ha
    have h1 := h.out_later hi hq ha ht htn
    rw [ht, Int.toNat_natCast]
    refine ⟨fun e2 => h1 ?_, htn⟩
    rw [htk, e2]; simp
  rw [dotN_addA _ harc]
  have hsum : sumF (leftN l N (out.take (i + 1))) (el l q).2 = sumF N (el l q).2 := by
    refine sumF_congr fun a ha => ?_
    obtain ⟨t, ht, htn⟩ := hto q hql a ha
    have h1 := h.out_later hi hq ha ht htn
    rw [ht, Int.toNat_natCast]
    simp [leftN, h1]
  rw [hsum]
  have hother : ∀ p, p ≠ q → leftN l N (out.take (i + 1)) p = leftN l N (out.take i) p := by
    intro p hp
    have : ((p : Int) ∈ out.take (i + 1)) ↔ (p : Int) ∈ out.take i := by
      rw [htk, List.mem_append, List.mem_singleton]
      constructor
      · rintro (h9 | h9)
        · exact h9
        · exact absurd (by omega) hp
      · exact .inl
    simp only [leftN, this]
  obtain ⟨R, h1, h2⟩ := dotN_but (x := x) hother l.length hql
  have e1 : leftN l N (out.take i) q = N q := by simp only [leftN]; rw [if_neg hno]
  have e2 : leftN l N (out.take (i + 1)) q = baseN (el l q).1 := by simp only [leftN]; rw [if_pos (by rw [htk]; simp)]
  rw [h1, h2, e1, e2, hN q hql, Nat.add_mul]
  omega
theorem along_all {l : List St} {out : List Int} (h : OrderL l out) (hto : ∀ q, q < l.length → ∀ a ∈ (el l q).2, ∃ t : Nat, a.2.2.2 = (t : Int) ∧ t < l.length) {N : Nat → Nat} (hN : CntEq l N) (x : Nat → Nat) :
    dotN (fun p => baseN (el l p).1) (addL l out x) l.length = dotN N x l.length := by
  have key : ∀ i, i ≤ out.length → dotN (leftN l N (out.take i)) (addL l (out.take i) x) l.length = dotN N x l.length := by
    intro i
    induction i with
    | zero => intro _; exact dotN_congr _ (fun p _ => by simp [leftN])
    | succ i ih =>
      intro hi
      obtain ⟨q, hq, _⟩ := h.at (i := i) (by omega)
      rw [addL_take l (by omega) hq, along_step h hto hN (by omega) hq]
      exact ih (by omega)
  have := key out.length (Nat.le_refl _)
  rw [List.take_length] at this
  rw [← this]
  exact dotN_congr _ (fun p hp => by simp [leftN, h.all hp])
/-- At the start. -/
def begN (z : Int) : Nat → Nat := fun j => if (j : Int) = z then 1 else 0
theorem dotN_beg (N : Nat → Nat) (z : Int) : ∀ n, dotN N (begN z) n = if 0 ≤ z ∧ z < (n : Int) then N z.toNat else 0 := by
  intro n
  induction n with
  | zero => simp [dotN]; omega
  | succ n ih =>
    simp only [dotN, ih, begN]
    by_cases e : (n : Int) = z
    · subst e
      rw [if_pos rfl, if_neg (by omega), if_pos (by omega)]
      simp
    · rw [if_neg e]
      by_cases c : 0 ≤ z ∧ z < (n : Int)
      · rw [if_pos c, if_pos (by omega)]; omega
      · rw [if_neg c, if_neg (by omega)]; omega
theorem along_count {l : List St} {out : List Int} {z : Int} (h : OrderL l out) (hto : ∀ q, q < l.length → ∀ a ∈ (el l q).2, ∃ t : Nat, a.2.2.2 = (t : Int) ∧ t < l.length) (hz : -1 ≤ z ∧ z < (l.length : Int)) :
    dotN (fun p => baseN (el l p).1) (addL l out (begN z)) l.length = if z < 0 then 0 else cntF l out z.toNat := by
  rw [along_all h hto (h.cnt hto), dotN_beg]
  by_cases c : z < 0
  · rw [if_pos c, if_neg (by omega)]
  · rw [if_neg c, if_pos (by omega)]
end Go.Proofs.Ytfffelgmgghldab.Pl
namespace Go.Proofs.Ytfffelgmgghldab.Pl
def updD (x : Nat → Int) (t : Nat) (k : Int) : Nat → Int := fun j => if j = t then k else x j
def addM (q : Nat) : List Ar → (Nat → Int) → Nat → Int
  | [], x => x
  | a :: l, x => addM q l (updD x a.2.2.2.toNat (max (x a.2.2.2.toNat) (x q + 1)))
theorem addM_append (q : Nat) (a b : List Ar) (x : Nat → Int) : addM q (a ++ b) x = addM q b (addM q a x) := by
  induction a generalizing x with
  | nil => rfl
  | cons c a ih => exact ih _
theorem addM_take (q : Nat) {ar : List Ar} {c t : Nat} (h : c < ar.length) (ht : (el ar c).2.2.2 = (t : Int)) (x : Nat → Int) : addM q (ar.take (c + 1)) x = updD (addM q (ar.take c) x) t (max (addM q (ar.take c) x t) (addM q (ar.take c) x q + 1)) := by
  rw [take_el h, addM_append]
  show updD _ (el ar c).2.2.2.toNat _ = _
  rw [ht, Int.toNat_natCast]
/-- Along the arcs of q, if there is a way to it. -/
def wayQ (l : List St) (q : Nat) (x : Nat → Int) : Nat → Int := if x q = -1 then x else addM q (el l q).2 x
def addW (l : List St) : List Int → (Nat → Int) → Nat → Int
  | [], x => x
  | q :: out, x => addW l out (wayQ l q.toNat x)
theorem addW_append (l : List St) (a b : List Int) (x : Nat → Int) : addW l (a ++ b) x = addW l b (addW l a x) := by
  induction a generalizing x with
  | nil => rfl
  | cons c a ih => exact ih _
theorem addW_take (l : List St) {out : List Int} {i q : Nat} (h : i < out.length) (hq : el out i = (q : Int)) (x : Nat → Int) : addW l (out.take (i + 1)) x = wayQ l q (addW l (out.take i) x) := by
  rw [take_el h, addW_append, hq]
  show wayQ l ((q : Int)).toNat _ = _
  rw [Int.toNat_natCast]
/-- One behind the other; -1: there is none. -/
def mulD (a b : Int) : Int := if a < 0 ∨ b < 0 then -1 else a + b
theorem mulD_max (f a b : Int) : mulD f (max a b) = max (mulD f a) (mulD f b) := by
  unfold mulD
  split <;> split <;> split <;> omega
theorem mulD_step (n d y : Int) (hy : 0 ≤ y) : mulD (stepD n d) y = max (mulD n y) (mulD d (y + 1)) := by
  unfold mulD stepD
  split <;> split <;> split <;> (try split) <;> omega
theorem mulD_ge (a b : Int) : -1 ≤ mulD a b := by
  unfold mulD; split <;> omega
def dotD (f x : Nat → Int) : Nat → Int
  | 0 => -1
  | n + 1 => max (dotD f x n) (mulD (f n) (x n))
theorem dotD_upd (f x : Nat → Int) (t : Nat) (y : Int) : ∀ n, dotD f (updD x t (max (x t) y)) n = if t < n then max (dotD f x n) (mulD (f t) y) else dotD f x n := by
  intro n
  induction n with
  | zero => simp [dotD]
  | succ n ih =>
    simp only [dotD, ih, updD]
    by_cases e : n = t
    · subst e
      rw [if_pos rfl, if_neg (by omega), if_pos (by omega), mulD_max]
      omega
    · rw [if_neg e]
      by_cases c : t < n
      · rw [if_pos c, if_pos (by omega)]; omega
      · rw [if_neg c, if_neg (by omega)]
def maxM (f : Nat → Int) (y : Int) : Int → List Ar → Int
  | m, [] => m
  | m, a :: l => maxM f y (max m (mulD (f a.2.2.2.toNat) y)) l
theorem maxM_max (f : Nat → Int) (y : Int) (ar : List Ar) (m k : Int) : maxM f y (max k m) ar = max k (maxM f y m ar) := by
  induction ar generalizing m with
  | nil => rfl
  | cons a l ih =>
    simp only [maxM]
    rw [← ih]
    congr 1
    omega
theorem maxM_congr {f g : Nat → Int} {ar : List Ar} (h : ∀ a ∈ ar, f a.2.2.2.toNat = g a.2.2.2.toNat) (y m : Int) : maxM f y m ar = maxM g y m ar := by
  induction ar generalizing m with
  | nil => rfl
  | cons a l ih => simp only [maxM]; rw [h a (by simp)]; exact ih (fun b hb => h b (by simp [hb])) _
theorem mulD_maxF (N : Nat → Int) (y : Int) (hy : 0 ≤ y) (ar : List Ar) (b : Int) : mulD (maxF N b ar) y = maxM N (y + 1) (mulD b y) ar := by
  induction ar generalizing b with
  | nil => rfl
  | cons a l ih =>
    simp only [maxF, maxM]
    rw [ih, mulD_step _ _ _ hy]
theorem addM_same {q : Nat} {ar : List Ar} (h : ∀ a ∈ ar, a.2.2.2.toNat ≠ q) (x : Nat → Int) : addM q ar x q = x q := by
  induction ar generalizing x with
  | nil => rfl
  | cons a l ih =>
    show addM q l _ q = _
    rw [ih (fun b hb => h b (by simp [hb]))]
    simp [updD, Ne.symm (h a (by simp))]
theorem dotD_addM (f : Nat → Int) {q n : Nat} {ar : List Ar} (h : ∀ a ∈ ar, a.2.2.2.toNat ≠ q ∧ a.2.2.2.toNat < n) (x : Nat → Int) : dotD f (addM q ar x) n = maxM f (x q + 1) (dotD f x n) ar := by
  induction ar generalizing x with
  | nil => rfl
  | cons a l ih =>
    show dotD f (addM q l _) n = _
    rw [ih (fun b hb => h b (by simp [hb])), dotD_upd, if_pos (h a (by simp)).2]
    have h1 : updD x a.2.2.2.toNat (max (x a.2.2.2.toNat) (x q + 1)) q = x q := by simp [updD, Ne.symm (h a (by simp)).1]
    rw [h1]
    rfl
theorem dotD_ge (f x : Nat → Int) : ∀ n, -1 ≤ dotD f x n := by
  intro n
  induction n with
  | zero => simp [dotD]
  | succ n ih => simp only [dotD]; omega
theorem dotD_but {f g x : Nat → Int} {q : Nat} (h : ∀ p, p ≠ q → g p = f p) : ∀ n, q < n → ∃ R, -1 ≤ R ∧ dotD f x n = max R (mulD (f q) (x q)) ∧ dotD g x n = max R (mulD (g q) (x q)) := by
  have hlow : ∀ n, n ≤ q → dotD g x n = dotD f x n := by
    intro n
    induction n with
    | zero => intro _; rfl
    | succ n ih => intro hn; simp only [dotD]; rw [ih (by omega), h n (by omega)]
  intro n
  induction n with
  | zero => intro hq; omega
  | succ n ih =>
    intro hq
    by_cases e : n = q
    · subst e
      exact ⟨dotD f x n, dotD_ge f x n, rfl, by simp only [dotD]; rw [hlow n (Nat.le_refl _)]⟩
    · obtain ⟨R, h0, h1, h2⟩ := ih (by omega)
      refine ⟨max R (mulD (f n) (x n)), by omega, ?_, ?_⟩
      · simp only [dotD]; omega
      · simp only [dotD]; rw [h n e]; omega
theorem dotD_congr {f g x : Nat → Int} : ∀ n, (∀ p, p < n → f p = g p) → dotD f x n = dotD g x n := by
  intro n
  induction n with
  | zero => intro _; rfl
  | succ n ih => intro h; simp only [dotD]; rw [ih (fun p hp => h p (by omega)), h n (by omega)]
def leftD (l : List St) (N : Nat → Int) (out : List Int) : Nat → Int := fun p => if (p : Int) ∈ out then baseD (el l p).1 else N p
/-- Numbers of arcs. -/
def WayB (x : Nat → Int) (k : Int) : Prop := ∀ j, -1 ≤ x j ∧ x j ≤ k
theorem WayB.addM {x : Nat → Int} {k : Int} {q : Nat} {ar : List Ar} (h : WayB x k) (hq : ∀ a ∈ ar, a.2.2.2.toNat ≠ q) (hk : x q + 1 ≤ k) : WayB (addM q ar x) k := by
  induction ar generalizing x with
  | nil => exact h
  | cons a l ih =>
    have h1 : updD x a.2.2.2.toNat (max (x a.2.2.2.toNat) (x q + 1)) q = x q := by simp [updD, Ne.symm (hq a (by simp))]
    refine ih (x := updD x a.2.2.2.toNat (max (x a.2.2.2.toNat) (x q + 1))) (fun j => ?_) (fun b hb => hq b (by simp [hb])) (by rw [h1]; exact hk)
    have h2 := h j
    have h3 := h a.2.2.2.toNat
    simp only [updD]
    split <;> omega
theorem WayB.up {x : Nat → Int} {k k' : Int} (h : WayB x k) (hk : k ≤ k') : WayB x k' := fun j => ⟨(h j).1, by have := (h j).2; omega⟩
theorem arc_facts {l : List St} {out : List Int} (h : OrderL l out) (hto : ∀ q, q < l.length → ∀ a ∈ (el l q).2, ∃ t : Nat, a.2.2.2 = (t : Int) ∧ t < l.length) {i q : Nat} (hi : i < out.length) (hq : el out i = (q : Int)) : ∀ a ∈ (el l q).2, a.2.2.2.toNat ≠ q ∧ a.2.2.2.toNat < l.length := by
  obtain ⟨q', e, hql, hno⟩ := h.at hi
  obtain rfl : q = q' := by rw [hq] at e; omega
  have htk : out.take (i + 1) = out.take i ++ [(q : Int)] := by rw [take_el hi, hq]
  intro a ha
  obtain ⟨t, ht, htn⟩ := hto q hql a ha
  have h1 := h.out_later hi hq ha ht htn
  rw [ht, Int.toNat_natCast]
  refine ⟨fun e2 => h1 ?_, htn⟩
  rw [htk, e2]; simp
theorem way_step {l : List St} {out : List Int} (h : OrderL l out) (hto : ∀ q, q < l.length → ∀ a ∈ (el l q).2, ∃ t : Nat, a.2.2.2 = (t : Int) ∧ t < l.length) {N : Nat → Int} (hN : FarEq l N) {i q : Nat} (hi : i < out.length) (hq : el out i = (q : Int)) (x : Nat → Int) (hx : ∀ j, -1 ≤ x j) :
    dotD (leftD l N (out.take (i + 1))) (wayQ l q x) l.length = dotD (leftD l N (out.take i)) x l.length := by
  obtain ⟨q', e, hql, hno⟩ := h.at hi
  obtain rfl : q = q' := by rw [hq] at e; omega
  have htk : out.take (i + 1) = out.take i ++ [(q : Int)] := by rw [take_el hi, hq]
  have harc := arc_facts h hto hi hq
  have hother : ∀ p, p ≠ q → leftD l N (out.take (i + 1)) p = leftD l N (out.take i) p := by
    intro p hp
    have : ((p : Int) ∈ out.take (i + 1)) ↔ (p : Int) ∈ out.take i := by
      rw [htk, List.mem_append, List.mem_singleton]
      constructor
      · rintro (h9 | h9)
        · exact h9
        · exact absurd (by omega) hp
      · exact .inl
    simp only [leftD, this]
  have e1 : leftD l N (out.take i) q = N q := by simp only [leftD]; rw [if_neg hno]
  have e2 : leftD l N (out.take (i + 1)) q = baseD (el l q).1 := by simp only [leftD]; rw [if_pos (by rw [htk]; simp)]
  obtain ⟨R, h0, h1, h2⟩ := dotD_but (x := x) hother l.length hql
  rw [h1, e1]
  unfold wayQ
  by_cases c : x q = -1
  · rw [if_pos c, h2, e2, c]
    have z1 : ∀ a, mulD a (-1) = -1 := fun a => by unfold mulD; rw [if_pos (by omega)]
    rw [z1, z1]
  · rw [if_neg c, dotD_addM _ harc]
    have hsum : maxM (leftD l N (out.take (i + 1))) (x q + 1) (dotD (leftD l N (out.take (i + 1))) x l.length) (el l q).2 = maxM N (x q + 1) (dotD (leftD l N (out.take (i + 1))) x l.length) (el l q).2 := by
      refine maxM_congr (fun a ha => ?_) _ _
      obtain ⟨t, ht, htn⟩ := hto q hql a ha
      have h1 := h.out_later hi hq ha ht htn
      rw [ht, Int.toNat_natCast]
      simp [leftD, h1]
    have h3 := hx q
    rw [hsum, h2, e2, maxM_max, hN q hql, mulD_maxF N (x q) (by omega)]
/-- At the start. -/
def begD (z : Int) : Nat → Int := fun j => if (j : Int) = z then 0 else -1
theorem way_bound {l : List St} {out : List Int} (h : OrderL l out) (hto : ∀ q, q < l.length → ∀ a ∈ (el l q).2, ∃ t : Nat, a.2.2.2 = (t : Int) ∧ t < l.length) (z : Int) : ∀ i, i ≤ out.length → WayB (addW l (out.take i) (begD z)) (i : Int) := by
  intro i
  induction i with
  | zero => intro _ j; show -1 ≤ begD z j ∧ begD z j ≤ _; unfold begD; split <;> omega
  | succ i ih =>
    intro hi
    obtain ⟨q, hq, _⟩ := h.at (i := i) (by omega)
    rw [addW_take l (by omega) hq]
    have h1 := ih (by omega)
    unfold wayQ
    split
    · exact h1.up (by omega)
    · refine (h1.up (k' := ((i + 1 : Nat) : Int)) (by omega)).addM (fun a ha => (arc_facts h hto (by omega) hq a ha).1) ?_
      have := (h1 q).2
      omega
theorem way_all {l : List St} {out : List Int} (h : OrderL l out) (hto : ∀ q, q < l.length → ∀ a ∈ (el l q).2, ∃ t : Nat, a.2.2.2 = (t : Int) ∧ t < l.length) {N : Nat → Int} (hN : FarEq l N) (z : Int) :
    dotD (fun p => baseD (el l p).1) (addW l out (begD z)) l.length = dotD N (begD z) l.length := by
  have key : ∀ i, i ≤ out.length → dotD (leftD l N (out.take i)) (addW l (out.take i) (begD z)) l.length = dotD N (begD z) l.length := by
    intro i
    induction i with
    | zero => intro _; exact dotD_congr _ (fun p _ => by simp [leftD])
    | succ i ih =>
      intro hi
      obtain ⟨q, hq, _⟩ := h.at (i := i) (by omega)
      rw [addW_take l (by omega) hq, way_step h hto hN (by omega) hq _ (fun j => (way_bound h hto z i (by omega) j).1)]
      exact ih (by omega)
  have := key out.length (Nat.le_refl _)
  rw [List.take_length] at this
  rw [← this]
  exact dotD_congr _ (fun p hp => by simp [leftD, h.all hp])
theorem dotD_beg (N : Nat → Int) (z : Int) (hN : ∀ p, -1 ≤ N p) : ∀ n, dotD N (begD z) n = if 0 ≤ z ∧ z < (n : Int) then N z.toNat else -1 := by
  intro n
  induction n with
  | zero => simp [dotD]; omega
  | succ n ih =>
    simp only [dotD, ih, begD]
    by_cases e : (n : Int) = z
    · subst e
      rw [if_pos rfl, if_neg (by omega), if_pos (by omega)]
      have := hN n
      simp only [Int.toNat_natCast, mulD]
      split <;> omega
    · rw [if_neg e]
      have z1 : mulD (N n) (-1) = -1 := by unfold mulD; rw [if_pos (by omega)]
      rw [z1]
      by_cases c : 0 ≤ z ∧ z < (n : Int)
      · rw [if_pos c, if_pos (by omega)]; have := hN z.toNat; omega
      · rw [if_neg c, if_neg (by omega)]; omega
theorem maxF_low (f : Nat → Int) (ar : List Ar) (n : Int) (hn : -1 ≤ n) : -1 ≤ maxF f n ar := by
  induction ar generalizing n with
  | nil => exact hn
  | cons a l ih => exact ih _ (by unfold stepD; split <;> omega)
theorem far_ge (l : List St) (out : List Int) (p : Nat) : -1 ≤ farF l out p := by
  induction out generalizing p with
  | nil => show -1 ≤ (0 : Int); omega
  | cons x out ih =>
    show -1 ≤ (if p = x.toNat then _ else _)
    split
    · exact maxF_low _ _ _ (by unfold baseD; split <;> omega)
    · exact ih p
theorem way_far {l : List St} {out : List Int} {z : Int} (h : OrderL l out) (hto : ∀ q, q < l.length → ∀ a ∈ (el l q).2, ∃ t : Nat, a.2.2.2 = (t : Int) ∧ t < l.length) (hz : -1 ≤ z ∧ z < (l.length : Int)) :
    dotD (fun p => baseD (el l p).1) (addW l out (begD z)) l.length = if z < 0 then -1 else farF l out z.toNat := by
  rw [way_all h hto (h.far hto), dotD_beg _ _ (far_ge l out)]
  by_cases c : z < 0
  · rw [if_pos c, if_neg (by omega)]
  · rw [if_neg c, if_pos (by omega)]
end Go.Proofs.Ytfffelgmgghldab.Pl
