/- The strides that leave a spot of two machines, as the keeping statements go them (no program in sight). Along strides: just where both machines come by a word between, for both costs (no program in sight). A table over spots, rounds until nothing changes (no program in sight). Rounds over a table of spots: what holds in the middle of a round, and at the end (no program in sight). Values of a table over spots stay small (no program in sight). -/
import Derived.Test.YthcfkiinjcbajaaJ16e
namespace Go.Proofs.Ythcfkiinjcbajaa.Pl
set_option linter.unusedVariables false
/-- Behind a label, from place i on; -1: it can't be read there. -/
def ovI (l : List Int) (i : Nat) (x : Int) : Int := if x = 0 then (i : Int) else if i < l.length ∧ el l i = x then (i : Int) + 1 else -1
theorem ovI_bd (l : List Int) (i : Nat) (x : Int) : -1 ≤ ovI l i x ∧ ovI l i x ≤ (i : Int) + 1 := by
  unfold ovI
  split
  · omega
  · split <;> omega
/-- A stride: to which spot, for how much. -/
abbrev Sd := Int × Int × Int × Int × Int
/-- The spot: states p, q, places i, j. -/
abbrev Sq := Nat × Nat × Nat × Nat
def sdB (v w : List Int) (s : Sq) (x y : Ar) : List Sd := if y.1 = x.2.1 ∧ 0 ≤ ovI w s.2.2.2 y.2.1 then [(x.2.2.2, y.2.2.2, ovI v s.2.2.1 x.1, ovI w s.2.2.2 y.2.1, x.2.2.1 + y.2.2.1)] else []
def sdX (v w : List Int) (s : Sq) (ys : List Ar) (x : Ar) : List Sd := if ovI v s.2.2.1 x.1 < 0 then [] else if x.2.1 = 0 then [(x.2.2.2, (s.2.1 : Int), ovI v s.2.2.1 x.1, (s.2.2.2 : Int), x.2.2.1)] else ys.flatMap (sdB v w s x)
def sdY (w : List Int) (s : Sq) (y : Ar) : List Sd := if y.1 = 0 ∧ 0 ≤ ovI w s.2.2.2 y.2.1 then [((s.1 : Int), y.2.2.2, (s.2.2.1 : Int), ovI w s.2.2.2 y.2.1, y.2.2.1)] else []
/-- All strides, in their order. -/
def sdL (xs ys : List Ar) (s : Sq) (v w : List Int) : List Sd := xs.flatMap (sdX v w s ys) ++ ys.flatMap (sdY w s)
theorem flat_take {α β : Type} [Inhabited α] (f : α → List β) {l : List α} {k : Nat} (h : k < l.length) : (l.take (k + 1)).flatMap f = (l.take k).flatMap f ++ f (el l k) := by
  rw [take_el h, List.flatMap_append]; simp
theorem sdB_len (v w : List Int) (s : Sq) (x y : Ar) : (sdB v w s x y).length ≤ 1 := by unfold sdB; split <;> simp
theorem sdY_len (w : List Int) (s : Sq) (y : Ar) : (sdY w s y).length ≤ 1 := by unfold sdY; split <;> simp
theorem flat_len1 {α β : Type} {f : α → List β} {m : Nat} (h : ∀ a, (f a).length ≤ m) (l : List α) : (l.flatMap f).length ≤ l.length * m := by
  induction l with
  | nil => simp
  | cons a l ih => have := h a; rw [List.flatMap_cons, List.length_append, List.length_cons, Nat.add_mul, Nat.one_mul]; omega
theorem sdX_len (v w : List Int) (s : Sq) (ys : List Ar) (x : Ar) : (sdX v w s ys x).length ≤ ys.length + 1 := by
  unfold sdX
  split
  · simp
  · split
    · simp
    · have := flat_len1 (sdB_len v w s x) ys
      omega
end Go.Proofs.Ythcfkiinjcbajaa.Pl
namespace Go.Proofs.Ythcfkiinjcbajaa.Pl
set_option linter.unusedVariables false
set_option linter.unusedSimpArgs false
theorem ov_take {l : List Int} {i i' : Nat} {a : Int} (hi : i ≤ l.length) (h : ovI l i a = (i' : Int)) : i' ≤ l.length ∧ l.take i' = l.take i ++ lab a := by
  unfold ovI at h
  by_cases h0 : a = 0
  · rw [if_pos h0] at h
    obtain rfl : i = i' := by omega
    exact ⟨hi, by simp [lab, h0]⟩
  · rw [if_neg h0] at h
    by_cases g : i < l.length ∧ el l i = a
    · rw [if_pos g] at h
      obtain rfl : i' = i + 1 := by omega
      exact ⟨by omega, by rw [take_el g.1, g.2]; simp [lab, h0]⟩
    · rw [if_neg g] at h; omega
theorem ov_of {l u : List Int} {a : Int} {i' : Nat} (hi : i' ≤ l.length) (h : l.take i' = u ++ lab a) : u = l.take u.length ∧ u.length ≤ l.length ∧ ovI l u.length a = (i' : Int) := by
  have hlen : i' = u.length + (lab a).length := by
    have := congrArg List.length h
    rw [List.length_take, List.length_append] at this
    omega
  by_cases h0 : a = 0
  · have e : lab a = [] := by simp [lab, h0]
    rw [e, List.append_nil] at h
    rw [e] at hlen
    simp at hlen
    subst hlen
    exact ⟨h.symm, hi, by unfold ovI; rw [if_pos h0]⟩
  · have e : lab a = [a] := by simp [lab, h0]
    rw [e] at h hlen
    simp at hlen
    subst hlen
    have h1 : l.take (u.length + 1) = l.take u.length ++ [el l u.length] := take_el (by omega)
    rw [h1] at h
    obtain ⟨e1, e2⟩ := List.append_inj h (by rw [List.length_take]; omega)
    simp at e2
    refine ⟨e1.symm, by omega, ?_⟩
    unfold ovI
    rw [if_neg h0, if_pos ⟨by omega, e2⟩]
    omega
theorem take_none {l : List Int} {i : Nat} (hi : i ≤ l.length) (h : l.take i = []) : i = 0 := by
  have := congrArg List.length h
  rw [List.length_take, List.length_nil] at this
  omega
theorem mem_sdL {xs ys : List Ar} {s : Sq} {v w : List Int} {d : Sd} : d ∈ sdL xs ys s v w ↔
    (∃ x ∈ xs, 0 ≤ ovI v s.2.2.1 x.1 ∧ x.2.1 = 0 ∧ d = (x.2.2.2, (s.2.1 : Int), ovI v s.2.2.1 x.1, (s.2.2.2 : Int), x.2.2.1)) ∨
    (∃ x ∈ xs, ∃ y ∈ ys, 0 ≤ ovI v s.2.2.1 x.1 ∧ x.2.1 ≠ 0 ∧ y.1 = x.2.1 ∧ 0 ≤ ovI w s.2.2.2 y.2.1 ∧ d = (x.2.2.2, y.2.2.2, ovI v s.2.2.1 x.1, ovI w s.2.2.2 y.2.1, x.2.2.1 + y.2.2.1)) ∨
    (∃ y ∈ ys, y.1 = 0 ∧ 0 ≤ ovI w s.2.2.2 y.2.1 ∧ d = ((s.1 : Int), y.2.2.2, (s.2.2.1 : Int), ovI w s.2.2.2 y.2.1, y.2.2.1)) := by
  unfold sdL
  rw [List.mem_append, List.mem_flatMap, List.mem_flatMap]
  constructor
  · rintro (⟨x, hx, h⟩ | ⟨y, hy, h⟩)
    · unfold sdX at h
      split at h
      · simp at h
      · rename_i h1
        split at h
        · rename_i h2
          exact .inl ⟨x, hx, by omega, h2, by simpa using h⟩
        · rename_i h2
          rw [List.mem_flatMap] at h
          obtain ⟨y, hy, h⟩ := h
          unfold sdB at h
          split at h
          · rename_i h3
            exact .inr (.inl ⟨x, hx, y, hy, by omega, h2, h3.1, h3.2, by simpa using h⟩)
          · simp at h
    · unfold sdY at h
      split at h
      · rename_i h3
        exact .inr (.inr ⟨y, hy, h3.1, h3.2, by simpa using h⟩)
      · simp at h
  · rintro (⟨x, hx, h1, h2, rfl⟩ | ⟨x, hx, y, hy, h1, h2, h3, h4, rfl⟩ | ⟨y, hy, h1, h2, rfl⟩)
    · exact .inl ⟨x, hx, by unfold sdX; rw [if_neg (by omega), if_pos h2]; simp⟩
    · refine .inl ⟨x, hx, ?_⟩
      unfold sdX
      rw [if_neg (by omega), if_neg h2, List.mem_flatMap]
      exact ⟨y, hy, by unfold sdB; rw [if_pos ⟨h3, h4⟩]; simp⟩
    · exact .inr ⟨y, hy, by unfold sdY; rw [if_pos ⟨h1, h2⟩]; simp⟩
/-- Along strides, from both Starts on. -/
inductive Strd (la lb : List St) (za zb : Nat) (x z : List Int) : Nat → Nat → Nat → Nat → Nat → Prop
  | nil : Strd la lb za zb x z za zb 0 0 0
  | snoc {p q i j c : Nat} (h : Strd la lb za zb x z p q i j c) {d : Sd} (hd : d ∈ sdL (el la p).2 (el lb q).2 (p, q, i, j) x z) {p' q' i' j' : Nat} (h1 : d.1 = (p' : Int)) (h2 : d.2.1 = (q' : Int)) (h3 : d.2.2.1 = (i' : Int)) (h4 : d.2.2.2.1 = (j' : Int)) : Strd la lb za zb x z p' q' i' j' (c + d.2.2.2.2.toNat)
theorem Strd.ways {la lb : List St} (pa : PosA la) (pb : PosA lb) {za zb : Nat} {x z : List Int} {p q i j c : Nat} (h : Strd la lb za zb x z p q i j c) :
    i ≤ x.length ∧ j ≤ z.length ∧ ∃ y d e, Way la za (x.take i) y p d ∧ Way lb zb y (z.take j) q e ∧ c = d + e := by
  induction h with
  | nil => exact ⟨Nat.zero_le _, Nat.zero_le _, [], 0, 0, by simpa using Way.nil, by simpa using Way.nil, rfl⟩
  | @snoc p q i j c h k hd p' q' i' j' h1 h2 h3 h4 ih =>
    obtain ⟨hi, hj, y, d, e, w1, w2, rfl⟩ := ih
    rcases mem_sdL.1 hd with ⟨a, ha, g1, g2, rfl⟩ | ⟨a, ha, b, hb, g1, g2, g3, g4, rfl⟩ | ⟨b, hb, g1, g2, rfl⟩
    · simp only at h1 h2 h3 h4 ⊢
      obtain ⟨k1, k2⟩ := ov_take hi h3
      obtain rfl : q = q' := by omega
      obtain rfl : j = j' := by omega
      have w3 := w1.snoc ha h1
      rw [g2, lab_zero, List.append_nil, ← k2] at w3
      exact ⟨k1, hj, _, _, _, w3, w2, by omega⟩
    · simp only at h1 h2 h3 h4 ⊢
      obtain ⟨k1, k2⟩ := ov_take hi h3
      obtain ⟨k3, k4⟩ := ov_take hj h4
      have w3 := w1.snoc ha h1
      have w4 := w2.snoc hb h2
      rw [← k2] at w3
      rw [← k4, g3] at w4
      have := (pa p a ha).2.2
      have := (pb q b hb).2.2
      exact ⟨k1, k3, _, _, _, w3, w4, by omega⟩
    · simp only at h1 h2 h3 h4 ⊢
      obtain ⟨k3, k4⟩ := ov_take hj h4
      obtain rfl : p = p' := by omega
      obtain rfl : i = i' := by omega
      have w4 := w2.snoc hb h2
      rw [g1, lab_zero, List.append_nil, ← k4] at w4
      exact ⟨hi, k3, _, _, _, w1, w4, by omega⟩
/-- Ways with their arcs counted. -/
inductive WayL (l : List St) (q : Nat) : List Int → List Int → Nat → Nat → Nat → Prop
  | nil : WayL l q [] [] q 0 0
  | snoc {u v : List Int} {p c n : Nat} (h : WayL l q u v p c n) {a : Ar} (ha : a ∈ (el l p).2) {t : Nat} (ht : a.2.2.2 = (t : Int)) : WayL l q (u ++ lab a.1) (v ++ lab a.2.1) t (c + a.2.2.1.toNat) (n + 1)
theorem Way.count {l : List St} {q : Nat} {u v : List Int} {p c : Nat} (h : Way l q u v p c) : ∃ n, WayL l q u v p c n := by
  induction h with
  | nil => exact ⟨0, .nil⟩
  | snoc h ha ht ih => obtain ⟨n, hn⟩ := ih; exact ⟨n + 1, hn.snoc ha ht⟩
theorem strd_of {la lb : List St} (pa : PosA la) (pb : PosA lb) {za zb : Nat} {x z : List Int} (N : Nat) : ∀ {u y v : List Int} {p q c d n k i j : Nat}, n + k < N → u = x.take i → i ≤ x.length → v = z.take j → j ≤ z.length → WayL la za u y p c n → WayL lb zb y v q d k → Strd la lb za zb x z p q i j (c + d) := by
  induction N with
  | zero =>
    intro u y v p q c d n k i j hN
    omega
  | succ N ih =>
    have alone : ∀ {y v' : List Int} {p q c d n k i j t : Nat} {b : Ar}, n + k < N → i ≤ x.length → j ≤ z.length → WayL la za (x.take i) y p c n → WayL lb zb y v' q d k → b ∈ (el lb q).2 → b.2.2.2 = (t : Int) → b.1 = 0 → v' ++ lab b.2.1 = z.take j → Strd la lb za zb x z p t i j (c + (d + b.2.2.1.toNat)) := by
      intro y v' p q c d n k i j t b hN hi hj wa wb hb ht h0 hv
      obtain ⟨e1, e2, e3⟩ := ov_of hj hv.symm
      have hs := ih hN rfl hi e1 e2 wa wb
      have hd : ((p : Int), b.2.2.2, (i : Int), ovI z v'.length b.2.1, b.2.2.1) ∈ sdL (el la p).2 (el lb q).2 (p, q, i, v'.length) x z := mem_sdL.2 (.inr (.inr ⟨b, hb, h0, by simp only; omega, rfl⟩))
      have := hs.snoc hd (p' := p) (q' := t) (i' := i) (j' := j) rfl ht rfl e3
      rwa [Nat.add_assoc] at this
    intro u y v p q c d n k i j hN hu hi hv hj wa wb
    subst hu hv
    generalize hU : x.take i = U at wa
    generalize hV : z.take j = V at wb
    cases wa with
    | nil =>
      generalize hY : ([] : List Int) = Y at wb
      cases wb with
      | nil =>
        have e1 : i = 0 := take_none hi hU
        have e2 : j = 0 := take_none hj hV
        subst e1 e2
        exact .nil
      | @snoc y' v' q' d' k' wb b hb t ht =>
        have h0 : b.1 = 0 := by
          rcases Decidable.em (b.1 = 0) with g | g
          · exact g
          · have := congrArg List.length hY
            simp [lab, g] at this
        have hy : y' = [] := by
          rw [h0, lab_zero, List.append_nil] at hY
          exact hY.symm
        subst hy
        exact alone (n := 0) (k := k') (by omega) hi hj (by rw [hU]; exact .nil) wb hb ht h0 hV.symm
    | @snoc u' y' p' c' n' wa a ha s hs =>
      obtain ⟨e1, e2, e3⟩ := ov_of hi hU
      by_cases h0 : a.2.1 = 0
      · rw [h0, lab_zero, List.append_nil] at wb
        rw [← hV] at wb
        have h := ih (by omega) e1 e2 rfl hj wa wb
        have hd : (a.2.2.2, (q : Int), ovI x u'.length a.1, (j : Int), a.2.2.1) ∈ sdL (el la p').2 (el lb q).2 (p', q, u'.length, j) x z := mem_sdL.2 (.inl ⟨a, ha, by simp only; omega, h0, rfl⟩)
        have := h.snoc hd (p' := p) (q' := q) (i' := i) (j' := j) hs rfl e3 rfl
        rwa [show c' + d + a.2.2.1.toNat = c' + a.2.2.1.toNat + d by omega] at this
      · have wa' : WayL la za (x.take i) (y' ++ lab a.2.1) p (c' + a.2.2.1.toNat) (n' + 1) := by rw [hU]; exact wa.snoc ha hs
        generalize hY : y' ++ lab a.2.1 = Y at wb wa'
        have el1 : lab a.2.1 = [a.2.1] := by simp [lab, h0]
        rw [el1] at hY
        cases wb with
        | nil => simp at hY
        | @snoc y2 v' q' d' k' wb b hb t ht =>
          by_cases hb0 : b.1 = 0
          · rw [hb0, lab_zero, List.append_nil] at wa'
            exact alone (by omega) hi hj wa' wb hb ht hb0 hV.symm
          · have el2 : lab b.1 = [b.1] := by simp [lab, hb0]
            rw [el2] at hY
            obtain ⟨k1, k2⟩ := List.append_inj' hY rfl
            simp at k2
            subst k1
            obtain ⟨f1, f2, f3⟩ := ov_of hj hV
            have h := ih (by omega) e1 e2 f1 f2 wa wb
            have hd : (a.2.2.2, b.2.2.2, ovI x u'.length a.1, ovI z v'.length b.2.1, a.2.2.1 + b.2.2.1) ∈ sdL (el la p').2 (el lb q').2 (p', q', u'.length, v'.length) x z := mem_sdL.2 (.inr (.inl ⟨a, ha, b, hb, by simp only; omega, h0, k2.symm, by simp only; omega, rfl⟩))
            have := h.snoc hd (p' := p) (q' := q) (i' := i) (j' := j) hs ht e3 f3
            have g1 := (pa p' a ha).2.2
            have g2 := (pb q' b hb).2.2
            rwa [show c' + d' + (a.2.2.1 + b.2.2.1).toNat = c' + a.2.2.1.toNat + (d' + b.2.2.1.toNat) by omega] at this
theorem strd_iff {la lb : List St} (pa : PosA la) (pb : PosA lb) {za zb : Nat} {x z : List Int} {p q c : Nat} : Strd la lb za zb x z p q x.length z.length c ↔ ∃ y d e, Way la za x y p d ∧ Way lb zb y z q e ∧ c = d + e := by
  constructor
  · intro h
    obtain ⟨_, _, y, d, e, h1, h2, h3⟩ := h.ways pa pb
    rw [List.take_length] at h1 h2
    exact ⟨y, d, e, h1, h2, h3⟩
  · rintro ⟨y, d, e, h1, h2, rfl⟩
    obtain ⟨n, hn⟩ := h1.count
    obtain ⟨k, hk⟩ := h2.count
    exact strd_of pa pb (n + k + 1) (Nat.lt_succ_self _) (List.take_length).symm (Nat.le_refl _) (List.take_length).symm (Nat.le_refl _) hn hk
end Go.Proofs.Ythcfkiinjcbajaa.Pl
namespace Go.Proofs.Ythcfkiinjcbajaa.Pl
set_option linter.unusedVariables false
set_option linter.unusedSimpArgs false
/-- A spot's place in the table. -/
def ixS (n X Z p q i j : Nat) : Nat := ((p * n + q) * (X + 1) + i) * (Z + 1) + j
theorem two_lt {a b m n : Nat} (h1 : a < m) (h2 : b < n) : a * n + b < m * n := by
  have : (a + 1) * n ≤ m * n := Nat.mul_le_mul_right _ h1
  rw [Nat.add_mul, Nat.one_mul] at this
  omega
theorem two_inj {a b a' b' n : Nat} (h1 : b < n) (h2 : b' < n) (h : a * n + b = a' * n + b') : a = a' ∧ b = b' := by
  have e1 : a = a' := by
    have h3 : (a * n + b) / n = (a' * n + b') / n := by rw [h]
    have hn : 0 < n := by omega
    rw [Nat.add_comm (a * n), Nat.add_comm (a' * n), Nat.add_mul_div_right _ _ hn, Nat.add_mul_div_right _ _ hn, Nat.div_eq_of_lt h1, Nat.div_eq_of_lt h2] at h3
    omega
  subst e1
  exact ⟨rfl, by omega⟩
theorem ixS_lt {m n X Z p q i j : Nat} (h1 : p < m) (h2 : q < n) (h3 : i ≤ X) (h4 : j ≤ Z) : ixS n X Z p q i j < m * n * (X + 1) * (Z + 1) := two_lt (two_lt (two_lt h1 h2) (by omega)) (by omega)
theorem ixS_inj {n X Z p q i j p' q' i' j' : Nat} (h2 : q < n) (h3 : i ≤ X) (h4 : j ≤ Z) (g2 : q' < n) (g3 : i' ≤ X) (g4 : j' ≤ Z) (h : ixS n X Z p q i j = ixS n X Z p' q' i' j') : p = p' ∧ q = q' ∧ i = i' ∧ j = j' := by
  obtain ⟨e1, e2⟩ := two_inj (by omega) (by omega) h
  obtain ⟨e3, e4⟩ := two_inj (by omega) (by omega) e1
  obtain ⟨e5, e6⟩ := two_inj h2 g2 e3
  exact ⟨e5, e6, e4, e2⟩
section
variable {la lb : List St} {za zb : Nat} {x z : List Int}
structure TabT (la lb : List St) (za zb : Nat) (x z : List Int) (cs : List Int) : Prop where
  len : cs.length = la.length * lb.length * (x.length + 1) * (z.length + 1)
  rng : ∀ k, k < cs.length → 0 ≤ el cs k ∧ el cs k ≤ 1000000001
  sta : za < la.length ∧ zb < lb.length
  zero : el cs (ixS lb.length x.length z.length za zb 0 0) = 0
  run : ∀ p q i j, p < la.length → q < lb.length → i ≤ x.length → j ≤ z.length → el cs (ixS lb.length x.length z.length p q i j) < 1000000001 → Strd la lb za zb x z p q i j (el cs (ixS lb.length x.length z.length p q i j)).toNat
/-- Where strides lead. -/
theorem sd_in {ma mb : Mc} (fa : faultM ma = 0) (fb : faultM mb = 0) {p q i j : Nat} (hp : p < ma.2.length) (hq : q < mb.2.length) (hi : i ≤ x.length) (hj : j ≤ z.length) {d : Sd} (hd : d ∈ sdL (el ma.2 p).2 (el mb.2 q).2 (p, q, i, j) x z) :
    ∃ p' q' i' j' : Nat, d.1 = (p' : Int) ∧ d.2.1 = (q' : Int) ∧ d.2.2.1 = (i' : Int) ∧ d.2.2.2.1 = (j' : Int) ∧ p' < ma.2.length ∧ q' < mb.2.length ∧ i' ≤ x.length ∧ j' ≤ z.length ∧ 0 ≤ d.2.2.2.2 := by
  have arc : ∀ (m : Mc), faultM m = 0 → ∀ p, p < m.2.length → ∀ a ∈ (el m.2 p).2, 0 ≤ a.2.2.1 ∧ ∃ t : Nat, a.2.2.2 = (t : Int) ∧ t < m.2.length := fun m hm p hp a ha => by
    have h3 := (right_parts hm).2 (el m.2 p) (el_mem hp)
    simp only [stB, Bool.and_eq_true, List.all_eq_true] at h3
    have h4 := h3.2 a ha
    simp only [arcB, inB, Bool.and_eq_true, decide_eq_true_eq] at h4
    exact ⟨by omega, a.2.2.2.toNat, by omega, by omega⟩
  have ov : ∀ (l : List Int) (i : Nat) (a : Int), i ≤ l.length → 0 ≤ ovI l i a → ∃ i' : Nat, ovI l i a = (i' : Int) ∧ i' ≤ l.length := fun l i a hi h0 => ⟨(ovI l i a).toNat, by omega, (ov_take (i' := (ovI l i a).toNat) (a := a) hi (by omega)).1⟩
  rcases mem_sdL.1 hd with ⟨a, ha, g1, g2, rfl⟩ | ⟨a, ha, b, hb, g1, g2, g3, g4, rfl⟩ | ⟨b, hb, g1, g2, rfl⟩
  · obtain ⟨w0, t, ht, htl⟩ := arc ma fa p hp a ha
    obtain ⟨i', e1, e2⟩ := ov x i a.1 hi g1
    exact ⟨t, q, i', j, ht, rfl, e1, rfl, htl, hq, e2, hj, w0⟩
  · obtain ⟨w0, t, ht, htl⟩ := arc ma fa p hp a ha
    obtain ⟨w1, s, hs, hsl⟩ := arc mb fb q hq b hb
    obtain ⟨i', e1, e2⟩ := ov x i a.1 hi g1
    obtain ⟨j', e3, e4⟩ := ov z j b.2.1 hj g4
    exact ⟨t, s, i', j', ht, hs, e1, e3, htl, hsl, e2, e4, by simp only; omega⟩
  · obtain ⟨w1, s, hs, hsl⟩ := arc mb fb q hq b hb
    obtain ⟨j', e3, e4⟩ := ov z j b.2.1 hj g2
    exact ⟨p, s, i, j', rfl, hs, rfl, e3, hp, hsl, hi, e4, w1⟩
/-- One cell less. -/
theorem TabT.put {cs : List Int} (h : TabT la lb za zb x z cs) {p q i j : Nat} (hp : p < la.length) (hq : q < lb.length) (hi : i ≤ x.length) (hj : j ≤ z.length) (hc : el cs (ixS lb.length x.length z.length p q i j) < 1000000001) {d : Sd} (hd : d ∈ sdL (el la p).2 (el lb q).2 (p, q, i, j) x z)
    {p' q' i' j' : Nat} (h1 : d.1 = (p' : Int)) (h2 : d.2.1 = (q' : Int)) (h3 : d.2.2.1 = (i' : Int)) (h4 : d.2.2.2.1 = (j' : Int)) (g1 : p' < la.length) (g2 : q' < lb.length) (g3 : i' ≤ x.length) (g4 : j' ≤ z.length) (h0 : 0 ≤ d.2.2.2.2)
    (hl : el cs (ixS lb.length x.length z.length p q i j) + d.2.2.2.2 < el cs (ixS lb.length x.length z.length p' q' i' j')) : TabT la lb za zb x z (cs.set (ixS lb.length x.length z.length p' q' i' j') (el cs (ixS lb.length x.length z.length p q i j) + d.2.2.2.2)) := by
  have hk : ixS lb.length x.length z.length p' q' i' j' < cs.length := by rw [h.len]; exact ixS_lt g1 g2 g3 g4
  have hks : ixS lb.length x.length z.length p q i j < cs.length := by rw [h.len]; exact ixS_lt hp hq hi hj
  have hr := h.rng _ hks
  have hr' := h.rng _ hk
  refine ⟨by rw [List.length_set]; exact h.len, fun k hk2 => ?_, h.sta, ?_, fun a b c o ha hb hcc he hlt => ?_⟩
  · rw [List.length_set] at hk2
    rw [el_set hk2]
    split
    · omega
    · exact h.rng k hk2
  · rw [el_set (by rw [h.len]; exact ixS_lt h.sta.1 h.sta.2 (Nat.zero_le _) (Nat.zero_le _))]
    split
    · rename_i e
      rw [e, h.zero] at hl
      omega
    · exact h.zero
  · rw [el_set (by rw [h.len]; exact ixS_lt ha hb hcc he)] at hlt ⊢
    by_cases e : ixS lb.length x.length z.length p' q' i' j' = ixS lb.length x.length z.length a b c o
    · rw [if_pos e] at hlt ⊢
      obtain ⟨rfl, rfl, rfl, rfl⟩ := ixS_inj g2 g3 g4 hb hcc he e
      have := (h.run p q i j hp hq hi hj hc).snoc hd h1 h2 h3 h4
      rwa [show (el cs (ixS lb.length x.length z.length p q i j) + d.2.2.2.2).toNat = (el cs (ixS lb.length x.length z.length p q i j)).toNat + d.2.2.2.2.toNat by omega]
    · rw [if_neg e] at hlt ⊢
      exact h.run a b c o ha hb hcc he hlt
/-- Nothing is left to do at these strides. -/
def DoneS (lb : List St) (x z : List Int) (cs : List Int) (p q i j : Nat) (L : List Sd) : Prop := el cs (ixS lb.length x.length z.length p q i j) < 1000000001 → ∀ d ∈ L, ∀ p' q' i' j' : Nat, d.1 = (p' : Int) → d.2.1 = (q' : Int) → d.2.2.1 = (i' : Int) → d.2.2.2.1 = (j' : Int) → el cs (ixS lb.length x.length z.length p' q' i' j') ≤ el cs (ixS lb.length x.length z.length p q i j) + d.2.2.2.2
/-- At the end no stride is a short cut: the table tells the least. -/
theorem TabT.least {ma mb : Mc} (fa : faultM ma = 0) (fb : faultM mb = 0) {cs : List Int} (h : TabT ma.2 mb.2 za zb x z cs) (hc : ∀ p q i j, p < ma.2.length → q < mb.2.length → i ≤ x.length → j ≤ z.length → DoneS mb.2 x z cs p q i j (sdL (el ma.2 p).2 (el mb.2 q).2 (p, q, i, j) x z)) {p q i j c : Nat} (hs : Strd ma.2 mb.2 za zb x z p q i j c) :
    p < ma.2.length ∧ q < mb.2.length ∧ i ≤ x.length ∧ j ≤ z.length ∧ el cs (ixS mb.2.length x.length z.length p q i j) ≤ (c : Int) := by
  induction hs with
  | nil => exact ⟨h.sta.1, h.sta.2, Nat.zero_le _, Nat.zero_le _, by rw [h.zero]; simp⟩
  | @snoc p q i j c hs d hd p' q' i' j' h1 h2 h3 h4 ih =>
    obtain ⟨i1, i2, i3, i4, i5⟩ := ih
    obtain ⟨p2, q2, i2', j2, e1, e2, e3, e4, k1, k2, k3, k4, k5⟩ := sd_in fa fb i1 i2 i3 i4 hd
    obtain rfl : p2 = p' := by omega
    obtain rfl : q2 = q' := by omega
    obtain rfl : i2' = i' := by omega
    obtain rfl : j2 = j' := by omega
    refine ⟨k1, k2, k3, k4, ?_⟩
    have hr := h.rng _ (show ixS mb.2.length x.length z.length p2 q2 i2' j2 < cs.length by rw [h.len]; exact ixS_lt k1 k2 k3 k4)
    by_cases g : el cs (ixS mb.2.length x.length z.length p q i j) < 1000000001
    · have := hc p q i j i1 i2 i3 i4 g d hd p2 q2 i2' j2 e1 e2 e3 e4
      omega
    · omega
/-- What two machines cost together for x and z. -/
def TogP (ma mb : Mc) (x z : List Int) (c : Nat) : Prop := ∃ p q d, Strd ma.2 mb.2 ma.1.toNat mb.1.toNat x z p q x.length z.length d ∧ p < ma.2.length ∧ q < mb.2.length ∧ (el ma.2 p).1 ≠ 1000000001 ∧ (el mb.2 q).1 ≠ 1000000001 ∧ c = d + ((el ma.2 p).1.toNat + (el mb.2 q).1.toNat)
theorem tog_iff {ma mb : Mc} (fa : faultM ma = 0) (fb : faultM mb = 0) (h1 : 0 ≤ ma.1) (h2 : 0 ≤ mb.1) {x z : List Int} {c : Nat} : TogP ma mb x z c ↔ ∃ y d e, Costs ma x y d ∧ Costs mb y z e ∧ c = d + e := by
  have pa := right_posA fa
  have pb := right_posA fb
  constructor
  · rintro ⟨p, q, d, hs, hp, hq, n1, n2, rfl⟩
    obtain ⟨y, d1, d2, w1, w2, rfl⟩ := (strd_iff pa pb).1 hs
    exact ⟨y, _, _, ⟨h1, p, d1, w1, hp, n1, rfl⟩, ⟨h2, q, d2, w2, hq, n2, rfl⟩, by omega⟩
  · rintro ⟨y, _, _, ⟨_, p, d1, w1, hp, n1, rfl⟩, ⟨_, q, d2, w2, hq, n2, rfl⟩, rfl⟩
    exact ⟨p, q, d1 + d2, (strd_iff pa pb).2 ⟨y, d1, d2, w1, w2, rfl⟩, hp, hq, n1, n2, by omega⟩
/-- What together answers. -/
def TogA (ma mb : Mc) (x z : List Int) (n : Int) : Prop := (n = 1000000001 ∨ ∃ c : Nat, TogP ma mb x z c ∧ n = (c : Int)) ∧ ∀ c : Nat, TogP ma mb x z c → n ≤ (c : Int)
/-- It is what composed they cost. -/
theorem tog_cst {ma mb m : Mc} (fa : faultM ma = 0) (fb : faultM mb = 0) (h1 : 0 ≤ ma.1) (h2 : 0 ≤ mb.1) (e : cpsA ma mb = (m, 0)) {x z : List Int} {n k : Int} (hn : TogA ma mb x z n) (hk : CstIs (Costs m x z) k) : k = n := by
  have hi : ∀ c, Costs m x z c ↔ TogP ma mb x z c := fun c => (cmp_costs fa fb h1 h2 e x z c).trans (tog_iff fa fb h1 h2).symm
  rcases hk with ⟨rfl, hk⟩ | ⟨c, hc, hl, rfl⟩
  · rcases hn.1 with rfl | ⟨c, hc, _⟩
    · rfl
    · exact absurd ((hi c).2 hc) (hk c)
  · have h3 := hn.2 c ((hi c).1 hc.1)
    rcases hn.1 with rfl | ⟨d, hd, rfl⟩
    · omega
    · have := hc.2 d ((hi d).2 hd)
      omega
end
end Go.Proofs.Ythcfkiinjcbajaa.Pl
namespace Go.Proofs.Ythcfkiinjcbajaa.Pl
set_option linter.unusedVariables false
set_option linter.unusedSimpArgs false
section
variable {ma mb : Mc} {x z : List Int} {cs : List Int} {best : Int} {ag : Bool} {S0 K : Nat}
/-- A spot's place. -/
def ixT (mb : Mc) (x z : List Int) (p q i j : Nat) : Nat := ixS mb.2.length x.length z.length p q i j
/-- Both may end there: it is counted. -/
def EndS (ma mb : Mc) (x z : List Int) (cs : List Int) (best : Int) (p q i j : Nat) : Prop := i = x.length → j = z.length → el cs (ixT mb x z p q i j) < 1000000001 → (el ma.2 p).1 ≠ 1000000001 → (el mb.2 q).1 ≠ 1000000001 → best ≤ el cs (ixT mb x z p q i j) + ((el ma.2 p).1 + (el mb.2 q).1)
structure InvT (ma mb : Mc) (x z : List Int) (cs : List Int) (best : Int) (ag : Bool) (S0 K : Nat) : Prop where
  tab : TabT ma.2 mb.2 ma.1.toNat mb.1.toNat x z cs
  sum : sumT cs ≤ S0
  les : ag = true → sumT cs < S0
  bst : best = 1000000001 ∨ ∃ c : Nat, TogP ma mb x z c ∧ best = (c : Int)
  bd : 0 ≤ best ∧ best ≤ 1000000001
  don : ag = false → ∀ p q i j, p < ma.2.length → q < mb.2.length → i ≤ x.length → j ≤ z.length → ixT mb x z p q i j < K → DoneS mb.2 x z cs p q i j (sdL (el ma.2 p).2 (el mb.2 q).2 (p, q, i, j) x z) ∧ EndS ma mb x z cs best p q i j
theorem InvT.start (h : TabT ma.2 mb.2 ma.1.toNat mb.1.toNat x z cs) (hb : best = 1000000001 ∨ ∃ c : Nat, TogP ma mb x z c ∧ best = (c : Int)) (hd : 0 ≤ best ∧ best ≤ 1000000001) : InvT ma mb x z cs best false (sumT cs) 0 :=
  ⟨h, Nat.le_refl _, fun g => (by cases g), hb, hd, fun _ p q i j _ _ _ _ g => absurd g (by omega)⟩
/-- What a spot costs that both may end at. -/
def bothT (c f g : Int) : Int := if c = 1000000001 ∨ (if f = 1000000001 ∨ g = 1000000001 then 1000000001 else f + g) = 1000000001 then 1000000001 else c + (if f = 1000000001 ∨ g = 1000000001 then 1000000001 else f + g)
/-- At a spot at the words' end: counted. -/
theorem InvT.count (fa : faultM ma = 0) (fb : faultM mb = 0) (h : InvT ma mb x z cs best ag S0 K) {p q : Nat} (hp : p < ma.2.length) (hq : q < mb.2.length) (hc : el cs (ixT mb x z p q x.length z.length) < 1000000001) (hf : 0 ≤ (el ma.2 p).1 ∧ (el ma.2 p).1 ≤ 1000000001 ∧ ((el ma.2 p).1 ≠ 1000000001 → (el ma.2 p).1 ≤ 1000)) (hg : 0 ≤ (el mb.2 q).1 ∧ (el mb.2 q).1 ≤ 1000000001 ∧ ((el mb.2 q).1 ≠ 1000000001 → (el mb.2 q).1 ≤ 1000)) (hcb : el cs (ixT mb x z p q x.length z.length) ≤ 999990000) :
    InvT ma mb x z cs (if bothT (el cs (ixT mb x z p q x.length z.length)) (el ma.2 p).1 (el mb.2 q).1 < best then bothT (el cs (ixT mb x z p q x.length z.length)) (el ma.2 p).1 (el mb.2 q).1 else best) ag S0 K ∧ EndS ma mb x z cs (if bothT (el cs (ixT mb x z p q x.length z.length)) (el ma.2 p).1 (el mb.2 q).1 < best then bothT (el cs (ixT mb x z p q x.length z.length)) (el ma.2 p).1 (el mb.2 q).1 else best) p q x.length z.length := by
  have hk : ixT mb x z p q x.length z.length < cs.length := by rw [h.tab.len]; exact ixS_lt hp hq (Nat.le_refl _) (Nat.le_refl _)
  have hr := h.tab.rng _ hk
  have hrun := h.tab.run p q x.length z.length hp hq (Nat.le_refl _) (Nat.le_refl _) hc
  have hbd := h.bd
  generalize hce : el cs (ixT mb x z p q x.length z.length) = c at *
  have hce' : el cs (ixS mb.2.length x.length z.length p q x.length z.length) = c := hce
  rw [hce'] at hrun
  obtain ⟨B, hB⟩ : ∃ B, bothT c (el ma.2 p).1 (el mb.2 q).1 = B := ⟨_, rfl⟩
  rw [hB]
  have hfin : (el ma.2 p).1 ≠ 1000000001 → (el mb.2 q).1 ≠ 1000000001 → B = c + ((el ma.2 p).1 + (el mb.2 q).1) := fun n1 n2 => by
    rw [← hB]
    have := hf.2.2 n1
    have := hg.2.2 n2
    unfold bothT
    rw [if_neg (by rw [if_neg (by omega)]; omega), if_neg (by omega)]
  have hinf : (el ma.2 p).1 = 1000000001 ∨ (el mb.2 q).1 = 1000000001 → B = 1000000001 := fun g => by
    rw [← hB]
    unfold bothT
    rw [if_pos (.inr (if_pos g))]
  have hB0 : 0 ≤ B ∧ B ≤ 1000000001 := by
    by_cases g : (el ma.2 p).1 = 1000000001 ∨ (el mb.2 q).1 = 1000000001
    · rw [hinf g]; omega
    · have n1 : (el ma.2 p).1 ≠ 1000000001 := fun e => g (.inl e)
      have n2 : (el mb.2 q).1 ≠ 1000000001 := fun e => g (.inr e)
      rw [hfin n1 n2]
      have := hf.2.2 n1
      have := hg.2.2 n2
      omega
  have hle : (if B < best then B else best) ≤ best ∧ (if B < best then B else best) ≤ B := by split <;> omega
  refine ⟨⟨h.tab, h.sum, h.les, ?_, by split <;> omega, fun ha a b i j h1 h2 h3 h4 h5 => ?_⟩, fun _ _ _ n1 n2 => ?_⟩
  · split
    · rename_i hlt
      right
      by_cases g : (el ma.2 p).1 = 1000000001 ∨ (el mb.2 q).1 = 1000000001
      · rw [hinf g] at hlt; omega
      · have n1 : (el ma.2 p).1 ≠ 1000000001 := fun e => g (.inl e)
        have n2 : (el mb.2 q).1 ≠ 1000000001 := fun e => g (.inr e)
        refine ⟨c.toNat + ((el ma.2 p).1.toNat + (el mb.2 q).1.toNat), ⟨p, q, c.toNat, hrun, hp, hq, n1, n2, rfl⟩, ?_⟩
        rw [hfin n1 n2]
        omega
    · exact h.bst
  · obtain ⟨d1, d2⟩ := h.don ha a b i j h1 h2 h3 h4 h5
    exact ⟨d1, fun k1 k2 k3 k4 k5 => by have := d2 k1 k2 k3 k4 k5; omega⟩
  · rw [hce]
    have := hfin n1 n2
    omega
/-- One spot more is done. -/
theorem InvT.next (h : InvT ma mb x z cs best ag S0 K) {p q i j : Nat} (hp : p < ma.2.length) (hq : q < mb.2.length) (hi : i ≤ x.length) (hj : j ≤ z.length) (hK : ixT mb x z p q i j = K) (hd : ag = false → DoneS mb.2 x z cs p q i j (sdL (el ma.2 p).2 (el mb.2 q).2 (p, q, i, j) x z) ∧ EndS ma mb x z cs best p q i j) : InvT ma mb x z cs best ag S0 (K + 1) := by
  refine ⟨h.tab, h.sum, h.les, h.bst, h.bd, fun ha a b c d h1 h2 h3 h4 h5 => ?_⟩
  by_cases e : ixT mb x z a b c d = K
  · obtain ⟨rfl, rfl, rfl, rfl⟩ := ixS_inj h2 h3 h4 hq hi hj (e.trans hK.symm)
    exact hd ha
  · exact h.don ha a b c d h1 h2 h3 h4 (by omega)
/-- Nothing has changed in a whole round: what is answered. -/
theorem InvT.fin (fa : faultM ma = 0) (fb : faultM mb = 0) (h : InvT ma mb x z cs best false S0 K) (hK : ma.2.length * mb.2.length * (x.length + 1) * (z.length + 1) ≤ K) (hm : ∀ p, p < ma.2.length → 0 ≤ (el ma.2 p).1) (hn : ∀ q, q < mb.2.length → 0 ≤ (el mb.2 q).1) : TogA ma mb x z best := by
  refine ⟨h.bst, fun c hc => ?_⟩
  obtain ⟨p, q, d, hs, hp, hq, n1, n2, rfl⟩ := hc
  have hall : ∀ p q i j, p < ma.2.length → q < mb.2.length → i ≤ x.length → j ≤ z.length → DoneS mb.2 x z cs p q i j (sdL (el ma.2 p).2 (el mb.2 q).2 (p, q, i, j) x z) ∧ EndS ma mb x z cs best p q i j := fun p q i j h1 h2 h3 h4 => h.don rfl p q i j h1 h2 h3 h4 (Nat.lt_of_lt_of_le (ixS_lt h1 h2 h3 h4) hK)
  obtain ⟨_, _, _, _, hl⟩ := h.tab.least fa fb (fun p q i j h1 h2 h3 h4 => (hall p q i j h1 h2 h3 h4).1) hs
  have hl' : el cs (ixT mb x z p q x.length z.length) ≤ (d : Int) := hl
  have hE := (hall p q x.length z.length hp hq (Nat.le_refl _) (Nat.le_refl _)).2 rfl rfl
  have hb := h.bd
  have g1 := hm p hp
  have g2 := hn q hq
  by_cases g : el cs (ixT mb x z p q x.length z.length) < 1000000001
  · have := hE g n1 n2
    omega
  · omega
/-- In the middle of a spot's strides: the first k are gone. -/
structure StrT (ma mb : Mc) (x z : List Int) (cs : List Int) (best : Int) (ag : Bool) (S0 K p q i j : Nat) (c : Int) (k : Nat) : Prop where
  inv : InvT ma mb x z cs best ag S0 K
  cur : el cs (ixT mb x z p q i j) = c
  seen : ag = false → ∀ t, t < k → ∀ p' q' i' j' : Nat, (el (sdL (el ma.2 p).2 (el mb.2 q).2 (p, q, i, j) x z) t).1 = (p' : Int) → (el (sdL (el ma.2 p).2 (el mb.2 q).2 (p, q, i, j) x z) t).2.1 = (q' : Int) → (el (sdL (el ma.2 p).2 (el mb.2 q).2 (p, q, i, j) x z) t).2.2.1 = (i' : Int) → (el (sdL (el ma.2 p).2 (el mb.2 q).2 (p, q, i, j) x z) t).2.2.2.1 = (j' : Int) → el cs (ixT mb x z p' q' i' j') ≤ c + (el (sdL (el ma.2 p).2 (el mb.2 q).2 (p, q, i, j) x z) t).2.2.2.2
variable {p q i j k : Nat} {c : Int}
theorem StrT.first (h : InvT ma mb x z cs best ag S0 K) (hc : el cs (ixT mb x z p q i j) = c) : StrT ma mb x z cs best ag S0 K p q i j c 0 := ⟨h, hc, fun _ t ht => absurd ht (by omega)⟩
theorem StrT.skip (h : StrT ma mb x z cs best ag S0 K p q i j c k) {d : Sd} (hd : el (sdL (el ma.2 p).2 (el mb.2 q).2 (p, q, i, j) x z) k = d) {p' q' i' j' : Nat} (h1 : d.1 = (p' : Int)) (h2 : d.2.1 = (q' : Int)) (h3 : d.2.2.1 = (i' : Int)) (h4 : d.2.2.2.1 = (j' : Int)) (hn : ¬ c + d.2.2.2.2 < el cs (ixT mb x z p' q' i' j')) : StrT ma mb x z cs best ag S0 K p q i j c (k + 1) := by
  refine ⟨h.inv, h.cur, fun ha t ht a b e o g1 g2 g3 g4 => ?_⟩
  by_cases ek : t = k
  · subst ek
    rw [hd] at g1 g2 g3 g4 ⊢
    obtain rfl : a = p' := by omega
    obtain rfl : b = q' := by omega
    obtain rfl : e = i' := by omega
    obtain rfl : o = j' := by omega
    omega
  · exact h.seen ha t (by omega) a b e o g1 g2 g3 g4
theorem StrT.put (fa : faultM ma = 0) (fb : faultM mb = 0) (h : StrT ma mb x z cs best ag S0 K p q i j c k) (hp : p < ma.2.length) (hq : q < mb.2.length) (hi : i ≤ x.length) (hj : j ≤ z.length) (hc : c < 1000000001) {d : Sd} (hk : k < (sdL (el ma.2 p).2 (el mb.2 q).2 (p, q, i, j) x z).length) (hd : el (sdL (el ma.2 p).2 (el mb.2 q).2 (p, q, i, j) x z) k = d) {p' q' i' j' : Nat} (h1 : d.1 = (p' : Int)) (h2 : d.2.1 = (q' : Int)) (h3 : d.2.2.1 = (i' : Int)) (h4 : d.2.2.2.1 = (j' : Int)) (g1 : p' < ma.2.length) (g2 : q' < mb.2.length) (g3 : i' ≤ x.length) (g4 : j' ≤ z.length) (h0 : 0 ≤ d.2.2.2.2)
    (hl : c + d.2.2.2.2 < el cs (ixT mb x z p' q' i' j')) : StrT ma mb x z (cs.set (ixT mb x z p' q' i' j') (c + d.2.2.2.2)) best true S0 K p q i j c (k + 1) := by
  have hcur := h.cur
  have hks : ixT mb x z p q i j < cs.length := by rw [h.inv.tab.len]; exact ixS_lt hp hq hi hj
  have hkt : ixT mb x z p' q' i' j' < cs.length := by rw [h.inv.tab.len]; exact ixS_lt g1 g2 g3 g4
  have hr := h.inv.tab.rng _ hks
  have hmem : d ∈ sdL (el ma.2 p).2 (el mb.2 q).2 (p, q, i, j) x z := by rw [← hd]; exact el_mem hk
  have ht := h.inv.tab.put hp hq hi hj (by show el cs (ixT mb x z p q i j) < _; omega) hmem h1 h2 h3 h4 g1 g2 g3 g4 h0 (by show el cs (ixT mb x z p q i j) + _ < el cs (ixT mb x z p' q' i' j'); omega)
  have e9 : el cs (ixS mb.2.length x.length z.length p q i j) = c := hcur
  rw [e9] at ht
  have hs := sumT_set hkt (v := c + d.2.2.2.2) (by omega) hl
  have h5 := h.inv.sum
  refine ⟨⟨ht, by show sumT (cs.set (ixT mb x z p' q' i' j') _) ≤ _; omega, fun _ => by show sumT (cs.set (ixT mb x z p' q' i' j') _) < _; omega, h.inv.bst, h.inv.bd, fun g => (by cases g)⟩, ?_, fun g => (by cases g)⟩
  rw [el_set hks]
  split
  · rename_i e
    rw [e] at hl
    omega
  · exact hcur
theorem StrT.done (h : StrT ma mb x z cs best ag S0 K p q i j c k) (hk : (sdL (el ma.2 p).2 (el mb.2 q).2 (p, q, i, j) x z).length ≤ k) : ag = false → DoneS mb.2 x z cs p q i j (sdL (el ma.2 p).2 (el mb.2 q).2 (p, q, i, j) x z) := fun ha hlt d hd p' q' i' j' h1 h2 h3 h4 => by
  obtain ⟨t, ht, rfl⟩ := mem_el hd
  have := h.seen ha t (by omega) p' q' i' j' h1 h2 h3 h4
  have e9 : el cs (ixS mb.2.length x.length z.length p q i j) = c := h.cur
  rw [e9]
  exact this
end
end Go.Proofs.Ythcfkiinjcbajaa.Pl
namespace Go.Proofs.Ythcfkiinjcbajaa.Pl
set_option linter.unusedVariables false
set_option linter.unusedSimpArgs false
/-- How many places are told. -/
def tolN (cs : List Int) : Nat := cs.countP fun c => decide (c < 1000000001)
def LowT (cs : List Int) : Prop := ∀ k, k < cs.length → el cs k < 1000000001 → el cs k ≤ 20 * (tolN cs : Int)
theorem tolN_le (cs : List Int) : tolN cs ≤ cs.length := List.countP_le_length
theorem tolN_set {cs : List Int} {k : Nat} (hk : k < cs.length) {v : Int} (hv : v < 1000000001) : tolN (cs.set k v) = tolN cs + (if el cs k < 1000000001 then 0 else 1) := by
  unfold tolN
  induction cs generalizing k with
  | nil => simp at hk
  | cons c cs ih =>
    cases k with
    | zero =>
      simp only [List.set_cons_zero, List.countP_cons, el, List.getElem?_cons_zero, Option.getD_some]
      by_cases hc : c < 1000000001
      · simp [hv, hc]
      · simp [hv, hc]
    | succ k =>
      have := ih (k := k) (by simpa using hk)
      simp only [List.set_cons_succ, List.countP_cons, this]
      have e : el (c :: cs) (k + 1) = el cs k := by simp [el]
      rw [e]
      omega
theorem LowT.put {cs : List Int} (h : LowT cs) {s k : Nat} {c d : Int} (hs : s < cs.length) (hc : el cs s = c) (hk : k < cs.length) (d1 : d ≤ 20) (hi : c < 1000000001) (hl : c + d < el cs k) (hr : el cs k ≤ 1000000001) : LowT (cs.set k (c + d)) := by
  have h1 := h s hs (by omega)
  rw [hc] at h1
  have h2 := tolN_set hk (v := c + d) (by omega)
  intro j hj hlt
  rw [List.length_set] at hj
  rw [el_set hj] at hlt ⊢
  split
  · by_cases g : el cs k < 1000000001
    · have := h k hk g
      rw [if_pos g] at h2
      rw [h2]
      omega
    · rw [if_neg g] at h2
      rw [h2]
      omega
  · rename_i e
    rw [if_neg e] at hlt
    have := h j hj hlt
    rw [h2]
    split <;> omega
theorem LowT.le {cs : List Int} (h : LowT cs) {N : Nat} (hl : cs.length ≤ N) (hN : N ≤ 1000000) {k : Nat} (hk : k < cs.length) (hlt : el cs k < 1000000001) : el cs k ≤ 20000000 := by
  have := h k hk hlt
  have := tolN_le cs
  omega
theorem lowT_start {N k : Nat} : LowT ((List.replicate N (1000000001 : Int)).set k 0) := by
  intro j hj hlt
  rw [List.length_set] at hj
  rw [el_set hj] at hlt ⊢
  split
  · omega
  · rename_i e
    rw [if_neg e] at hlt
    rw [el_get (by simpa using hj)] at hlt
    simp at hlt
/-- What strides cost. -/
theorem sd_low {ma mb : Mc} {x z : List Int} (la : ∀ p, ∀ a ∈ (el ma.2 p).2, a.2.2.1 ≤ 10) (lb : ∀ q, ∀ a ∈ (el mb.2 q).2, a.2.2.1 ≤ 10) (na : ∀ p, ∀ a ∈ (el ma.2 p).2, 0 ≤ a.2.2.1) (nb : ∀ q, ∀ a ∈ (el mb.2 q).2, 0 ≤ a.2.2.1) {p q : Nat} {s : Sq} {d : Sd} (hd : d ∈ sdL (el ma.2 p).2 (el mb.2 q).2 s x z) : d.2.2.2.2 ≤ 20 := by
  rcases mem_sdL.1 hd with ⟨a, ha, g1, g2, rfl⟩ | ⟨a, ha, b, hb, g1, g2, g3, g4, rfl⟩ | ⟨b, hb, g1, g2, rfl⟩
  · have := la p a ha; simp only; omega
  · have := la p a ha; have := lb q b hb; simp only; omega
  · have := lb q b hb; simp only; omega
theorem sdL_len {xs ys : List Ar} {s : Sq} {v w : List Int} (hx : xs.length ≤ 400) (hy : ys.length ≤ 400) : (sdL xs ys s v w).length ≤ 200000 := by
  unfold sdL
  rw [List.length_append]
  have h1 := flat_len1 (f := sdX v w s ys) (m := ys.length + 1) (fun a => sdX_len v w s ys a) xs
  have h2 := flat_len1 (f := sdY w s) (m := 1) (fun a => sdY_len w s a) ys
  have h3 : xs.length * (ys.length + 1) ≤ 400 * 401 := Nat.mul_le_mul hx (by omega)
  omega
/-- The table at the start. -/
theorem tabT_start {la lb : List St} {za zb : Nat} {x z : List Int} (h1 : za < la.length) (h2 : zb < lb.length) : TabT la lb za zb x z ((List.replicate (la.length * lb.length * (x.length + 1) * (z.length + 1)) (1000000001 : Int)).set (ixS lb.length x.length z.length za zb 0 0) 0) := by
  have hk := ixS_lt (m := la.length) (n := lb.length) (X := x.length) (Z := z.length) h1 h2 (Nat.zero_le _) (Nat.zero_le _)
  refine ⟨by simp, fun k hk2 => ?_, ⟨h1, h2⟩, ?_, fun p q i j hp hq hi hj hlt => ?_⟩
  · rw [List.length_set, List.length_replicate] at hk2
    rw [el_set (by simpa using hk2)]
    split
    · omega
    · rw [el_get (by simpa using hk2)]; simp
  · rw [el_set (by simpa using hk), if_pos rfl]
  · have hk3 := ixS_lt (m := la.length) (n := lb.length) (X := x.length) (Z := z.length) hp hq hi hj
    rw [el_set (by simpa using hk3)] at hlt ⊢
    by_cases e : ixS lb.length x.length z.length za zb 0 0 = ixS lb.length x.length z.length p q i j
    · obtain ⟨rfl, rfl, rfl, rfl⟩ := ixS_inj h2 (Nat.zero_le _) (Nat.zero_le _) hq hi hj e
      rw [if_pos e]
      exact .nil
    · rw [if_neg e] at hlt
      rw [el_get (by simpa using hk3)] at hlt
      simp at hlt
end Go.Proofs.Ythcfkiinjcbajaa.Pl
