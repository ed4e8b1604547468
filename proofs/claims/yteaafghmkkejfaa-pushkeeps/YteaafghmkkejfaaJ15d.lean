/- Machines the other way round: labels exchanged (no program in sight). Machines that are right, turned round (no program in sight). From behind there are as many paths (no program in sight). -/
import Derived.Test.YteaafghmkkejfaaPlainRa
import Derived.Test.YteaafghmkkejfaaJ15c
namespace Go.Proofs.Yteaafghmkkejfaa.Pl
set_option linter.unusedVariables false
set_option linter.unusedSimpArgs false
/-- P11.1 to P11.3, an arc: 0 over, 1 what is read, 2 what is written. -/
def tuA (k : Int) (a : Ar) : Ar := (if k = 1 then a.1 else a.2.1, if k = 2 then a.2.1 else a.1, a.2.2.1, a.2.2.2)
def tuS (k : Int) (s : St) : St := (s.1, s.2.map (tuA k))
def tuM (k : Int) (m : Mc) : Mc := (m.1, m.2.map (tuS k))
/-- What is answered. -/
def turM (k : Int) (m : Mc) : Mc := if faultM m = 0 then tuM k m else (0, [])
theorem tuM_len (k : Int) (m : Mc) : (tuM k m).2.length = m.2.length := by simp [tuM]
theorem tuM_el (k : Int) (m : Mc) {j : Nat} (h : j < m.2.length) : el (tuM k m).2 j = tuS k (el m.2 j) := el_map h _
theorem arcN_tu (k : Int) (l : List St) : arcN (l.map (tuS k)) = arcN l := by
  induction l with
  | nil => rfl
  | cons s l ih => simp only [List.map_cons, arcN, ih, tuS, List.length_map]
theorem arcB_tu {n : Nat} {k : Int} {a : Ar} (h : arcB n a = true) : arcB n (tuA k a) = true := by
  obtain ⟨p, q, r, t⟩ := a
  simp only [arcB, inB, Bool.and_eq_true, decide_eq_true_eq, tuA] at h ⊢
  obtain ⟨⟨⟨h1, h2⟩, h3⟩, h4⟩ := h
  refine ⟨⟨⟨?_, ?_⟩, h3⟩, h4⟩
  · split
    · exact h1
    · exact h2
  · split
    · exact h2
    · exact h1
theorem stB_tu {n : Nat} {k : Int} {s : St} (h : stB n s = true) : stB n (tuS k s) = true := by
  simp only [stB, tuS, Bool.and_eq_true, List.all_map] at h ⊢
  refine ⟨h.1, ?_⟩
  rw [List.all_eq_true] at h ⊢
  exact fun a ha => arcB_tu (h.2 a ha)
theorem tuM_right {k : Int} {m : Mc} (h : faultM m = 0) : faultM (tuM k m) = 0 := by
  have h1 := (faultM_zero h).1
  obtain ⟨h2, h3⟩ := right_parts h
  refine faultM_ok ?_ ?_
  · simp only [sizeB, tuM, List.length_map, arcN_tu] at h1 ⊢
    exact h1
  · unfold rangeB
    rw [tuM_len]
    simp only [Bool.and_eq_true, inB, decide_eq_true_eq, List.all_eq_true]
    refine ⟨h2, ?_⟩
    intro s hs
    simp only [tuM, List.mem_map] at hs
    obtain ⟨t, ht, rfl⟩ := hs
    exact stB_tu (h3 t ht)
theorem turM_ok (k : Int) (m : Mc) : okM (turM k m) := by
  unfold turM
  split
  · rename_i h
    have := right_size (z := m.1) (l := m.2) h
    refine small_ok (by rw [tuM_len]; omega) ?_
    show arcN (m.2.map (tuS k)) ≤ _
    rw [arcN_tu]; omega
  · exact ⟨by simp, fun j hj => absurd hj (by simp)⟩
theorem tuM_tuM {j k i : Int} (h : ∀ a, tuA j (tuA k a) = tuA i a) (m : Mc) : tuM j (tuM k m) = tuM i m := by
  obtain ⟨z, l⟩ := m
  simp only [tuM, List.map_map]
  congr 2
  funext s
  simp only [Function.comp, tuS, List.map_map]
  congr 2
  funext a
  exact h a
theorem over_over (m : Mc) : tuM 0 (tuM 0 m) = m := by
  obtain ⟨z, l⟩ := m
  simp only [tuM, List.map_map]
  congr 1
  conv => rhs; rw [← List.map_id l]
  apply List.map_congr_left
  intro s _
  obtain ⟨f, ar⟩ := s
  simp only [Function.comp, tuS, List.map_map, id]
  congr 1
  conv => rhs; rw [← List.map_id ar]
  apply List.map_congr_left
  intro a _
  obtain ⟨p, q, r, t⟩ := a
  simp [tuA]
theorem writes_over (m : Mc) : tuM 2 (tuM 0 m) = tuM 1 m := tuM_tuM (fun a => by simp [tuA]) m
theorem reads_reads (m : Mc) : tuM 1 (tuM 1 m) = tuM 1 m := tuM_tuM (fun a => by simp [tuA]) m
theorem writes_reads (m : Mc) : tuM 2 (tuM 1 m) = tuM 1 m := tuM_tuM (fun a => by simp [tuA]) m
/-! From behind. -/
def intoA (q : Nat) (t : Nat) (l : List Ar) : List Ar := (l.filter fun a => decide (a.2.2.2 = (t : Int))).map fun a => (a.1, a.2.1, a.2.2.1, (q : Int) + 1)
def intoL (l : List St) (t : Nat) : Nat → List Ar
  | 0 => []
  | q + 1 => intoL l t q ++ intoA q t (el l q).2
def firstL (l : List St) : Nat → List Ar
  | 0 => []
  | q + 1 => firstL l q ++ (if (el l q).1 = 1000000001 then [] else [(0, 0, (el l q).1, (q : Int) + 1)])
def revS (z : Int) (l : List St) (q : Nat) : St := (if (q : Int) = z then 0 else 1000000001, intoL l q l.length)
def revM (m : Mc) : Mc := (0, (1000000001, firstL m.2 m.2.length) :: (List.range m.2.length).map (revS m.1 m.2))
theorem revM_len (m : Mc) : (revM m).2.length = m.2.length + 1 := by simp [revM]
theorem intoA_take {q t : Nat} {l : List Ar} {j : Nat} (h : j < l.length) : intoA q t (l.take (j + 1)) = intoA q t (l.take j) ++ (if (el l j).2.2.2 = (t : Int) then [((el l j).1, (el l j).2.1, (el l j).2.2.1, (q : Int) + 1)] else []) := by
  unfold intoA
  rw [take_el h, List.filter_append, List.map_append]
  congr 1
  by_cases e : (el l j).2.2.2 = (t : Int)
  · simp [e]
  · simp [e]
theorem firstL_le (l : List St) (q : Nat) : (firstL l q).length ≤ q := by
  induction q with
  | zero => simp [firstL]
  | succ q ih =>
    simp only [firstL, List.length_append]
    split <;> simp <;> omega
theorem intoA_le (q t : Nat) (l : List Ar) : (intoA q t l).length ≤ l.length := by
  unfold intoA
  rw [List.length_map]
  exact List.length_filter_le _ _
theorem intoL_le (l : List St) (t : Nat) : ∀ q, q ≤ l.length → (intoL l t q).length ≤ arcN (l.take q)
  | 0, _ => by simp [intoL]
  | q + 1, h => by
    have h1 := intoL_le l t q (by omega)
    have h2 := intoA_le q t (el l q).2
    have h3 := arcN_take (show q < l.length by omega)
    simp only [intoL, List.length_append]
    omega
end Go.Proofs.Yteaafghmkkejfaa.Pl
namespace Go.Proofs.Yteaafghmkkejfaa.Pl
set_option linter.unusedVariables false
set_option linter.unusedSimpArgs false
theorem right_okM {m : Mc} (h : faultM m = 0) : okM m := by
  have h1 := right_size (z := m.1) (l := m.2) h
  exact small_ok (by omega) (by omega)
theorem tur_right {k : Int} {m : Mc} (h : faultM m = 0) : turM k m = tuM k m := by unfold turM; rw [if_pos h]
end Go.Proofs.Yteaafghmkkejfaa.Pl
namespace Go.Proofs.Yteaafghmkkejfaa.Pl
set_option linter.unusedVariables false
set_option linter.unusedSimpArgs false
/-! Sums. -/
def S (f : Nat → Nat) : Nat → Nat
  | 0 => 0
  | n + 1 => S f n + f n
theorem S_congr {f g : Nat → Nat} : ∀ {n : Nat}, (∀ q, q < n → f q = g q) → S f n = S g n
  | 0, _ => rfl
  | n + 1, h => by simp only [S]; rw [S_congr (fun q hq => h q (by omega)), h n (by omega)]
theorem S_add (f g : Nat → Nat) : ∀ n, S (fun q => f q + g q) n = S f n + S g n
  | 0 => rfl
  | n + 1 => by simp only [S]; rw [S_add f g n]; omega
theorem S_mul (f : Nat → Nat) (c : Nat) : ∀ n, S (fun q => f q * c) n = S f n * c
  | 0 => by simp [S]
  | n + 1 => by simp only [S]; rw [S_mul f c n, Nat.add_mul]
theorem S_zero : ∀ n, S (fun _ => 0) n = 0
  | 0 => rfl
  | n + 1 => by simp only [S]; rw [S_zero n]
theorem S_swap (f : Nat → Nat → Nat) (k : Nat) : ∀ n, S (fun q => S (fun t => f q t) k) n = S (fun t => S (fun q => f q t) n) k
  | 0 => by simp only [S]; rw [S_zero]
  | n + 1 => by simp only [S]; rw [S_swap f k n, ← S_add]
theorem S_one (F : Nat → Nat) (z : Nat) : ∀ n, S (fun t => (if t = z then 1 else 0) * F t) n = if z < n then F z else 0
  | 0 => by simp [S]
  | n + 1 => by
    simp only [S]
    rw [S_one F z n]
    by_cases e : n = z
    · subst e; rw [if_neg (Nat.lt_irrefl n), if_pos rfl, if_pos (Nat.lt_succ_self n)]; omega
    · rw [if_neg e]
      by_cases h : z < n
      · rw [if_pos h, if_pos (show z < n + 1 by omega)]; omega
      · rw [if_neg h, if_neg (show ¬ z < n + 1 by omega)]; omega
/-- How many arcs lead to t. -/
def ctA (t : Nat) (ar : List Ar) : Nat := (ar.filter fun a => decide (a.2.2.2 = (t : Int))).length
theorem sumF_ct {F : Nat → Nat} {n : Nat} {ar : List Ar} (h : ∀ a ∈ ar, ∃ t : Nat, a.2.2.2 = (t : Int) ∧ t < n) : sumF F ar = S (fun t => ctA t ar * F t) n := by
  induction ar with
  | nil =>
    have : S (fun t => ctA t [] * F t) n = S (fun _ => 0) n := S_congr fun q _ => by simp [ctA]
    rw [this, S_zero]; rfl
  | cons a ar ih =>
    obtain ⟨z, hz, hn⟩ := h a (by simp)
    have e : S (fun t => ctA t (a :: ar) * F t) n = S (fun t => (if t = z then 1 else 0) * F t + ctA t ar * F t) n := S_congr fun t _ => by
      simp only [ctA, List.filter_cons, hz]
      by_cases g : t = z
      · subst g; simp [Nat.add_mul]; omega
      · rw [if_neg (by simpa using fun h => g (by omega)), if_neg g]; omega
    rw [e, S_add, S_one, if_pos hn, ← ih (fun a ha => h a (by simp [ha]))]
    simp only [sumF, hz, Int.toNat_natCast]
theorem sumF_into (G : Nat → Nat) (p t : Nat) (ar : List Ar) : sumF G (intoA p t ar) = ctA t ar * G (p + 1) := by
  unfold intoA ctA
  generalize ar.filter (fun a => decide (a.2.2.2 = (t : Int))) = l
  induction l with
  | nil => simp [sumF]
  | cons a l ih =>
    simp only [List.map_cons, sumF, ih, List.length_cons, Nat.add_mul]
    have : ((p : Int) + 1).toNat = p + 1 := by omega
    rw [this]; omega
theorem sumF_intoL (G : Nat → Nat) (l : List St) (t : Nat) : ∀ k, sumF G (intoL l t k) = S (fun p => ctA t (el l p).2 * G (p + 1)) k
  | 0 => rfl
  | k + 1 => by simp only [intoL, sumF_append, S]; rw [sumF_intoL G l t k, sumF_into]
theorem sumF_first (G : Nat → Nat) (l : List St) : ∀ k, sumF G (firstL l k) = S (fun q => baseN (el l q).1 * G (q + 1)) k
  | 0 => rfl
  | k + 1 => by
    simp only [firstL, sumF_append, S]
    rw [sumF_first G l k]
    congr 1
    have : ((k : Int) + 1).toNat = k + 1 := by omega
    by_cases h : (el l k).1 = 1000000001
    · simp [h, sumF, baseN]
    · simp [h, sumF, baseN, this]
theorem rev_el0 (m : Mc) : el (revM m).2 0 = (1000000001, firstL m.2 m.2.length) := rfl
theorem rev_elS (m : Mc) {q : Nat} (h : q < m.2.length) : el (revM m).2 (q + 1) = revS m.1 m.2 q := by
  show el (_ :: _) (q + 1) = _
  rw [el_succ, el_range_map _ h]
theorem rev_cases (m : Mc) {q : Nat} (h : q < (revM m).2.length) : q = 0 ∨ ∃ p, q = p + 1 ∧ p < m.2.length := by
  rw [revM_len] at h
  rcases q with _ | q
  · exact .inl rfl
  · exact .inr ⟨q, rfl, by omega⟩
/-- Counted the one way and the other. -/
theorem rev_count {m : Mc} (hto : ∀ q, q < m.2.length → ∀ a ∈ (el m.2 q).2, ∃ t : Nat, a.2.2.2 = (t : Int) ∧ t < m.2.length) {z : Nat} (hz : m.1 = (z : Int)) (hzn : z < m.2.length) {F G : Nat → Nat} (hF : CntEq m.2 F) (hG : CntEq (revM m).2 G) : G 0 = F z := by
  have h0 := hG 0 (by rw [revM_len]; omega)
  rw [rev_el0] at h0
  simp only [sumF_first] at h0
  have h1 : ∀ t, t < m.2.length → G (t + 1) = (if t = z then 1 else 0) + S (fun p => ctA t (el m.2 p).2 * G (p + 1)) m.2.length := fun t ht => by
    have := hG (t + 1) (by rw [revM_len]; omega)
    rw [rev_elS m ht] at this
    rw [this]
    simp only [revS, sumF_intoL, hz]
    congr 1
    by_cases e : t = z
    · subst e; simp [baseN]
    · rw [if_neg (by omega), if_neg e]; rfl
  have h2 : ∀ q, q < m.2.length → F q = baseN (el m.2 q).1 + S (fun t => ctA t (el m.2 q).2 * F t) m.2.length := fun q hq => by
    rw [← sumF_ct (hto q hq)]
    exact hF q hq
  have e1 : S (fun q => F q * G (q + 1)) m.2.length = S (fun q => baseN (el m.2 q).1 * G (q + 1)) m.2.length + S (fun q => S (fun t => ctA t (el m.2 q).2 * F t * G (q + 1)) m.2.length) m.2.length := by
    rw [← S_add]
    refine S_congr fun q hq => ?_
    rw [S_mul (fun t => ctA t (el m.2 q).2 * F t), ← Nat.add_mul, ← h2 q hq]
  have e2 : S (fun q => F q * G (q + 1)) m.2.length = F z + S (fun t => S (fun p => ctA t (el m.2 p).2 * G (p + 1) * F t) m.2.length) m.2.length := by
    have : S (fun t => (if t = z then 1 else 0) * F t) m.2.length = F z := by rw [S_one, if_pos hzn]
    rw [← this, ← S_add]
    refine S_congr fun t ht => ?_
    rw [S_mul (fun p => ctA t (el m.2 p).2 * G (p + 1)), ← Nat.add_mul, ← h1 t ht, Nat.mul_comm]
  have e3 : S (fun q => S (fun t => ctA t (el m.2 q).2 * F t * G (q + 1)) m.2.length) m.2.length = S (fun t => S (fun p => ctA t (el m.2 p).2 * G (p + 1) * F t) m.2.length) m.2.length := by
    rw [S_swap]
    refine S_congr fun t _ => S_congr fun q _ => ?_
    rw [Nat.mul_assoc, Nat.mul_comm (F t), ← Nat.mul_assoc]
  rw [h0, show baseN 1000000001 = 0 from rfl]
  omega
/-! What leads where. -/
theorem mem_first {l : List St} {c : Ar} : ∀ {k : Nat}, c ∈ firstL l k → ∃ q, q < k ∧ (el l q).1 ≠ 1000000001 ∧ c = (0, 0, (el l q).1, (q : Int) + 1)
  | 0, h => absurd h (by simp [firstL])
  | k + 1, h => by
    simp only [firstL, List.mem_append] at h
    rcases h with h | h
    · obtain ⟨q, h1, h2⟩ := mem_first h
      exact ⟨q, by omega, h2⟩
    · by_cases e : (el l k).1 = 1000000001
      · rw [if_pos e] at h; exact absurd h (by simp)
      · rw [if_neg e] at h
        exact ⟨k, by omega, e, by simpa using h⟩
theorem mem_into {l : List St} {t : Nat} {c : Ar} : ∀ {k : Nat}, c ∈ intoL l t k → ∃ q, q < k ∧ ∃ a ∈ (el l q).2, a.2.2.2 = (t : Int) ∧ c = (a.1, a.2.1, a.2.2.1, (q : Int) + 1)
  | 0, h => absurd h (by simp [intoL])
  | k + 1, h => by
    simp only [intoL, List.mem_append] at h
    rcases h with h | h
    · obtain ⟨q, h1, h2⟩ := mem_into h
      exact ⟨q, by omega, h2⟩
    · simp only [intoA, List.mem_map, List.mem_filter, decide_eq_true_eq] at h
      obtain ⟨a, ⟨h1, h2⟩, rfl⟩ := h
      exact ⟨k, by omega, a, h1, h2, rfl⟩
/-- Where each arc leads to a later rank there is no cycle. -/
theorem ranked {l : List St} (rk : Nat → Nat) (h : ∀ p, p < l.length → ∀ q, leadsB l p q = true → rk p < rk q) : ¬ CycleL l := by
  rintro ⟨out, _, hl, hf⟩
  have key : ∀ k q, rk q < k → q < l.length → (q : Int) ∈ out := by
    intro k
    induction k with
    | zero => intro q hq; omega
    | succ k ih =>
      intro q hq hql
      by_cases e : (q : Int) ∈ out
      · exact e
      · exact absurd ⟨e, fun p hp hlp => ih p (by have := h p hp q hlp; omega) hp⟩ (hf q hql)
  obtain ⟨q, hq, hn⟩ := stuck_some hl
  exact hn (key (rk q + 1) q (by omega) hq)
theorem leads_mem {l : List St} {p q : Nat} (h : leadsB l p q = true) : ∃ a ∈ (el l p).2, a.2.2.2 = (q : Int) := by
  simpa [leadsB] using h
theorem rev_noCycle {m : Mc} (fw : Fwd m.2) : ¬ CycleL (revM m).2 := by
  refine ranked (fun q => if q = 0 then 0 else m.2.length + 1 - q) fun p hp q hl => ?_
  obtain ⟨c, hc, hq⟩ := leads_mem hl
  rcases rev_cases m hp with rfl | ⟨t, rfl, ht⟩
  · rw [rev_el0] at hc
    obtain ⟨j, hj, _, rfl⟩ := mem_first hc
    simp only at hq
    rw [if_pos rfl, if_neg (by omega)]
    omega
  · rw [rev_elS m ht] at hc
    obtain ⟨j, hj, a, ha, hat, rfl⟩ := mem_into hc
    simp only at hq
    obtain ⟨t', e1, e2, e3⟩ := fw j hj a ha
    rw [if_neg (by omega), if_neg (by omega)]
    omega
theorem rev_to {m : Mc} : ∀ q, q < (revM m).2.length → ∀ a ∈ (el (revM m).2 q).2, ∃ t : Nat, a.2.2.2 = (t : Int) ∧ t < (revM m).2.length := fun q hq c hc => by
  rw [revM_len]
  rcases rev_cases m hq with rfl | ⟨t, rfl, ht⟩
  · rw [rev_el0] at hc
    obtain ⟨j, hj, _, rfl⟩ := mem_first hc
    exact ⟨j + 1, by simp, by omega⟩
  · rw [rev_elS m ht] at hc
    obtain ⟨j, hj, a, ha, hat, rfl⟩ := mem_into hc
    exact ⟨j + 1, by simp, by omega⟩
/-- As many paths. -/
theorem rev_paths {m : Mc} (fw : Fwd m.2) (hz : m.1 = 0) (hl : 0 < m.2.length) (h8 : m.2.length ≤ 8) (h4 : ∀ q, q < m.2.length → (el m.2 q).2.length ≤ 4) {n f k g : Int} (h1 : PathAns m 0 n f) (h2 : PathAns (revM m) 0 k g) : f = 0 ∧ g = 0 ∧ n = k := by
  have hF := fw.order.cnt fw.to
  have hb := cnt_bound fw hF h4 8 0 hl (by omega)
  have hb' : cntF m.2 (numsL m.2.length) 0 ≤ 390625 := by simpa using hb
  unfold PathAns at h1 h2
  rw [if_pos rfl] at h1 h2
  have a1 : f = 0 ∧ n = (cntF m.2 (numsL m.2.length) 0 : Int) := by
    rcases h1 with ⟨out, ho, he⟩ | ⟨hc, _⟩
    · have e1 := cnt_one ho fw.to (ho.cnt fw.to) hF 0 hl
      rw [hz] at he
      simp only [Int.toNat_zero, e1, pathA] at he
      rw [if_neg (by omega), if_neg (by omega)] at he
      simp only [Prod.mk.injEq] at he
      exact ⟨he.2.symm, he.1.symm⟩
    · exact absurd hc fw.order.noCycle
  have a2 : g = 0 ∧ k = (cntF m.2 (numsL m.2.length) 0 : Int) := by
    rcases h2 with ⟨out, ho, he⟩ | ⟨hc, _⟩
    · have e1 := rev_count fw.to (z := 0) hz hl hF (ho.cnt rev_to)
      have e0 : (revM m).1 = 0 := rfl
      rw [e0] at he
      simp only [Int.toNat_zero, e1, pathA] at he
      rw [if_neg (by omega), if_neg (by omega)] at he
      simp only [Prod.mk.injEq] at he
      exact ⟨he.2.symm, he.1.symm⟩
    · exact absurd hc (rev_noCycle fw)
  exact ⟨a1.1, a2.1, by rw [a1.2, a2.2]⟩
/-- A machine turned round is right if it is small. -/
theorem arcN_each {l : List St} {k : Nat} (h : ∀ s ∈ l, s.2.length ≤ k) : arcN l ≤ l.length * k := by
  induction l with
  | nil => simp [arcN]
  | cons s l ih =>
    have h1 := h s (by simp)
    have h2 := ih (fun s hs => h s (by simp [hs]))
    simp only [arcN, List.length_cons, Nat.add_mul]
    omega
theorem revM_each (m : Mc) : ∀ s ∈ (revM m).2, s.2.length ≤ m.2.length + arcN m.2 := fun s hs => by
  obtain ⟨q, hq, rfl⟩ := mem_el hs
  rcases rev_cases m hq with rfl | ⟨t, rfl, ht⟩
  · rw [rev_el0]
    have := firstL_le m.2 m.2.length
    simp only
    omega
  · rw [rev_elS m ht]
    have := intoL_le m.2 t m.2.length (Nat.le_refl _)
    rw [List.take_length] at this
    simp only [revS]
    omega
theorem revM_right {m : Mc} (h : faultM m = 0) (hs : sizeB (revM m) = true) : faultM (revM m) = 0 := by
  obtain ⟨h2, h3⟩ := right_parts h
  refine faultM_ok hs ?_
  unfold rangeB
  rw [revM_len]
  simp only [Bool.and_eq_true, inB, decide_eq_true_eq, List.all_eq_true]
  refine ⟨by simp [revM], ?_⟩
  intro s hs'
  obtain ⟨q, hq, rfl⟩ := mem_el hs'
  have hst : ∀ j, j < m.2.length → stB m.2.length (el m.2 j) = true := fun j hj => h3 _ (el_mem hj)
  simp only [stB, Bool.and_eq_true, List.all_eq_true] at hst ⊢
  rcases rev_cases m hq with rfl | ⟨t, rfl, ht⟩
  · rw [rev_el0]
    refine ⟨by simp [finB], fun c hc => ?_⟩
    obtain ⟨j, hj, hne, rfl⟩ := mem_first hc
    have := (hst j hj).1
    simp only [finB, inB, Bool.or_eq_true, Bool.and_eq_true, decide_eq_true_eq] at this
    simp only [arcB, inB, Bool.and_eq_true, decide_eq_true_eq]
    omega
  · rw [rev_elS m ht]
    refine ⟨?_, fun c hc => ?_⟩
    · simp only [revS]
      split <;> simp [finB, inB]
    · obtain ⟨j, hj, a, ha, hat, rfl⟩ := mem_into hc
      have := (hst j hj).2 a ha
      simp only [arcB, inB, Bool.and_eq_true, decide_eq_true_eq] at this ⊢
      omega
end Go.Proofs.Yteaafghmkkejfaa.Pl
