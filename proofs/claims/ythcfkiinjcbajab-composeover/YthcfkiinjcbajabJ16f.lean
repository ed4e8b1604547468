/- Small machines, composed, are never too large (no program in sight). How far it is: the answers as numbers, for machines of small weights; what the ways have to do with each other (no program in sight). How far it is: ways of words are runs; reversed, the ends are as far from the start (no program in sight). Composed: inverted, over one or the other, between two lines, and a walk along hops (no program in sight). -/
import Derived.Test.YthcfkiinjcbajabJ16e
import Derived.Test.YthcfkiinjcbajabJ16a
import Derived.Test.YthcfkiinjcbajabJ16c
namespace Go.Proofs.Ythcfkiinjcbajab.Pl
set_option linter.unusedVariables false
set_option linter.unusedSimpArgs false
theorem flat_most {α β : Type} (f : α → List β) (k : Nat) : ∀ l : List α, (∀ x ∈ l, (f x).length ≤ k) → (l.flatMap f).length ≤ l.length * k := by
  intro l
  induction l with
  | nil => intro _; simp
  | cons x l ih =>
    intro h
    have h1 := h x (List.mem_cons_self ..)
    have h2 := ih fun y hy => h y (List.mem_cons_of_mem _ hy)
    rw [List.flatMap_cons, List.length_append, List.length_cons, Nat.add_mul]
    omega
theorem expL_len (l r : List Ar) (t : Tr) : (expL l r t).length ≤ l.length * (r.length + 1) + r.length := by
  unfold expL
  rw [List.length_append]
  have h1 := flat_most (expX r t.2.1 t.2.2) (r.length + 1) l fun x _ => by
    unfold expX
    rw [List.length_append, List.length_map]
    have h2 := List.length_filter_le (metB x · t.2.2) r
    split
    · rw [List.length_singleton]; omega
    · rw [List.length_nil]; omega
  have h2 : (if t.2.2 ≠ 1 then (r.filter (fun y => y.1 == 0)).map (hopR · t.1) else []).length ≤ r.length := by
    split
    · rw [List.length_map]
      exact List.length_filter_le _ _
    · rw [List.length_nil]; omega
  omega
/-- A triple's number. -/
def codT (nb : Nat) (t : Tr) : Nat := (t.1.toNat * nb + t.2.1.toNat) * 3 + t.2.2.toNat
theorem codT_lt {a b : Mc} {t : Tr} (h : trB a b t = true) : codT b.2.length t < a.2.length * b.2.length * 3 := by
  obtain ⟨s, r, e, h1, h2, h3, h4⟩ := trB_nat h
  have e1 : t.1 = (s : Int) := by rw [e]
  have e2 : t.2.1 = (r : Int) := by rw [e]
  unfold codT
  rw [e1, e2, Int.toNat_natCast, Int.toNat_natCast]
  have h5 : (s + 1) * b.2.length ≤ a.2.length * b.2.length := Nat.mul_le_mul_right _ h1
  rw [Nat.add_mul, Nat.one_mul] at h5
  have h6 : t.2.2.toNat ≤ 2 := by omega
  generalize s * b.2.length = X at *
  generalize a.2.length * b.2.length = Y at *
  omega
theorem codT_inj {a b : Mc} {t t' : Tr} (h : trB a b t = true) (h' : trB a b t' = true) (e : codT b.2.length t = codT b.2.length t') : t = t' := by
  obtain ⟨s, r, e0, h1, h2, h3, h4⟩ := trB_nat h
  obtain ⟨s', r', e0', h1', h2', h3', h4'⟩ := trB_nat h'
  have e1 : t.1 = (s : Int) := by rw [e0]
  have e2 : t.2.1 = (r : Int) := by rw [e0]
  have e1' : t'.1 = (s' : Int) := by rw [e0']
  have e2' : t'.2.1 = (r' : Int) := by rw [e0']
  unfold codT at e
  rw [e1, e2, e1', e2'] at e
  simp only [Int.toNat_natCast] at e
  have k1 : s * b.2.length + r = s' * b.2.length + r' := by omega
  have k2 : t.2.2 = t'.2.2 := by omega
  have k3 : s = s' := by
    rcases Nat.lt_trichotomy s s' with g | g | g
    · have : (s + 1) * b.2.length ≤ s' * b.2.length := Nat.mul_le_mul_right _ g
      rw [Nat.add_mul, Nat.one_mul] at this
      omega
    · exact g
    · have : (s' + 1) * b.2.length ≤ s * b.2.length := Nat.mul_le_mul_right _ g
      rw [Nat.add_mul, Nat.one_mul] at this
      omega
  subst k3
  have k4 : r = r' := by omega
  subst k4
  rw [e0, e0', k2]
theorem trs_len {a b : Mc} {L : List Tr} (hn : L.Nodup) (h : ∀ t ∈ L, trB a b t = true) : L.length ≤ a.2.length * b.2.length * 3 := by
  have h1 := pigeon (a.2.length * b.2.length * 3) (L.map (codT b.2.length)) (by
    unfold List.Nodup at hn ⊢
    rw [List.pairwise_map]
    exact hn.imp_of_mem fun ha hb hne e => hne (codT_inj (h _ ha) (h _ hb) e)) (fun x hx => by
    obtain ⟨t, ht, rfl⟩ := List.mem_map.1 hx
    exact codT_lt (h t ht))
  rwa [List.length_map] at h1
theorem cpsS_fits {a b : Mc} {W V : Int} {K : Nat} (h0 : 0 ≤ W) (h1 : 0 ≤ V) (hs : W + V ≤ 1000000000) (ha : LowL W a.2) (hb : LowL V b.2) (fa : faultM a = 0) (fb : faultM b = 0)
    (hN : a.2.length * b.2.length * 3 ≤ 60) (hK : a.2.length * b.2.length * 3 * K ≤ 400) (hE : ∀ t, trB a b t = true → (expT a b t).length ≤ K) :
    ∀ (k q : Nat) (L : List Tr) (S : List St) (n : Nat), CmpI a b q L S → (∀ t ∈ L, trB a b t = true) → 61 ≤ k + q → n ≤ q * K → (cpsS a b k q L S n).2 = 0 := by
  intro k
  induction k with
  | zero =>
    intro q L S n h hT hk hn
    have := trs_len h.nodup hT
    have := h.le
    omega
  | succ k ih =>
    intro q L S n h hT hk hn
    simp only [cpsS]
    split
    · rename_i hq
      have ht := hT _ (el_mem hq)
      have he : expE a b (el L q) = 0 := by
        unfold expE
        rw [if_neg (by simpa using fa), if_neg (by simpa using fb), if_neg (by simp [ht]), if_neg (by simp [expO_low h0 h1 hs ha hb ht])]
      rw [if_neg (by simpa using he)]
      have hT' : ∀ t ∈ (cpsH (expT a b (el L q)) L).1, trB a b t = true := cpsS_low.cpsH_all (fun t => trB a b t = true) _ L hT (fun g hg => exp_trB fa fb ht hg)
      have hstep := h.step hq he
      have hl := trs_len hstep.nodup hT'
      have hl0 := trs_len h.nodup hT
      have hx := hE _ ht
      have hn' : n + (expT a b (el L q)).length ≤ (q + 1) * K := by rw [Nat.add_mul, Nat.one_mul]; omega
      have hq' : (q + 1) * K ≤ a.2.length * b.2.length * 3 * K := Nat.mul_le_mul_right _ (by omega)
      rw [if_neg (by omega)]
      exact ih _ _ _ _ hstep hT' (by omega) hn'
    · rfl
/-- Two states each, four arcs each: composed. -/
theorem cmp_fits {a b : Mc} {W V : Int} (h0 : 0 ≤ W) (h3 : 0 ≤ V) (hs : W + V ≤ 1000000000) (la : LowL W a.2) (lb : LowL V b.2) (ha : faultM a = 0) (hb : faultM b = 0) (h1 : 0 ≤ a.1) (h2 : 0 ≤ b.1)
    (na : a.2.length ≤ 2) (nb : b.2.length ≤ 2) (ra : ∀ q, (el a.2 q).2.length ≤ 4) (rb : ∀ q, (el b.2 q).2.length ≤ 4) : ∃ x, cpsA a b = (x, 0) := by
  have hN : a.2.length * b.2.length ≤ 2 * 2 := Nat.mul_le_mul na nb
  have h := cpsS_fits (K := 24) h0 h3 hs la lb ha hb (by omega) (by omega) (fun t _ => by
    have := expL_len (el a.2 t.1.toNat).2 (el b.2 t.2.1.toNat).2 t
    have k1 := ra t.1.toNat
    have k2 := rb t.2.1.toNat
    have k3 : (el a.2 t.1.toNat).2.length * ((el b.2 t.2.1.toNat).2.length + 1) ≤ 4 * 5 := Nat.mul_le_mul k1 (by omega)
    unfold expT
    omega) 61 0 [(a.1, b.1, 0)] [] 0 (CmpI.init a b) (fun t ht => by
    rw [List.mem_singleton.1 ht]
    have k1 := (right_parts ha).1
    have k2 := (right_parts hb).1
    refine trB_may ?_ ?_ ?_ <;> simp only <;> omega) (by omega) (by omega)
  have e : cpsA a b = cpsS a b 61 0 [(a.1, b.1, 0)] [] 0 := by
    unfold cpsA
    rw [if_neg (by simpa using ha), if_neg (by simpa using hb), if_neg (by omega)]
  exact ⟨(cpsA a b).1, by rw [e]; exact Prod.ext rfl h⟩
end Go.Proofs.Ythcfkiinjcbajab.Pl
namespace Go.Proofs.Ythcfkiinjcbajab.Pl
set_option linter.unusedVariables false
set_option linter.unusedSimpArgs false
theorem arcE_cheap {m : Mc} (hc : CheapL m.2) {k w j : Nat} (e : ArcE m.2 k w j) : w ≤ 1000 := by
  have hk := arcE_in e
  obtain ⟨a, ha, _, rfl⟩ := e
  have := (hc _ (el_mem hk)).2 a ha
  omega
theorem run_cheap {m : Mc} (hr : faultM m = 0) (hc : CheapL m.2) {s n q c : Nat} (hs : s < m.2.length) (h : Run (ArcE m.2) s n q c) : ∃ n' d, d ≤ 60000 ∧ d ≤ c ∧ Run (ArcE m.2) s n' q d := by
  have h60 := (right_size (z := m.1) (l := m.2) hr).1
  obtain ⟨n', d, hn, hd, h'⟩ := h.cheap hs (fun k w j e => (arcE_small hr e).1)
  have h1 := h'.cost (W := 1000) (fun k w j e => arcE_cheap hc e)
  have h2 : n' * 1000 ≤ 60 * 1000 := Nat.mul_le_mul_right _ (by omega)
  exact ⟨n', d, by omega, hd, h'⟩
theorem far_bound {m : Mc} (hr : faultM m = 0) (hc : CheapL m.2) {q c : Nat} (h : FarC m.1 m.2 q c) : ∃ d, d ≤ 100000000 ∧ FarC m.1 m.2 q d := by
  obtain ⟨hz, n, h⟩ := h
  obtain ⟨n', d, hd, _, h'⟩ := run_cheap hr hc (by have := (right_parts hr).1; omega) h
  exact ⟨d, by omega, hz, n', h'⟩
theorem end_bound {m : Mc} (hr : faultM m = 0) (hc : CheapL m.2) {q c : Nat} (hq : q < m.2.length) (h : EndC m.2 q c) : ∃ d, d ≤ 100000000 ∧ EndC m.2 q d := by
  obtain ⟨n, p, d, h, hp, hf, rfl⟩ := h
  obtain ⟨n', d', hd, _, h'⟩ := run_cheap hr hc hq h
  have := (hc _ (el_mem hp)).1 hf
  exact ⟨d' + (el m.2 p).1.toNat, by omega, n', p, d', h', hp, hf, rfl⟩
theorem dst_cst {m : Mc} {P : Nat → Nat → Prop} {vs : List Int} {ec : Int} (hr : faultM m = 0) (hb : ∀ q, q < m.2.length → ∀ c, P q c → ∃ d, d ≤ 100000000 ∧ P q d) (h : DstAns m P vs ec) : ec = 0 ∧ vs.length = m.2.length ∧ ∀ q, q < m.2.length → CstIs (P q) (el vs q) := by
  rcases h with ⟨h, _⟩ | ⟨_, ⟨h1, h2, h3⟩ | ⟨_, _, q, hq, h4⟩⟩
  · exact absurd hr h
  · exact ⟨h1, h2, fun q hq => (cst_of (h3 q hq) (hb q hq)).2⟩
  · exact absurd (cst_of h4 (hb q hq)).1 (by decide)
theorem far_cst {m : Mc} {vs : List Int} {ec : Int} (hr : faultM m = 0) (hc : CheapL m.2) (h : DstAns m (FarC m.1 m.2) vs ec) : ec = 0 ∧ vs.length = m.2.length ∧ ∀ q, q < m.2.length → CstIs (FarC m.1 m.2 q) (el vs q) := dst_cst hr (fun q hq c => far_bound hr hc) h
theorem end_cst {m : Mc} {vs : List Int} {ec : Int} (hr : faultM m = 0) (hc : CheapL m.2) (h : DstAns m (EndC m.2) vs ec) : ec = 0 ∧ vs.length = m.2.length ∧ ∀ q, q < m.2.length → CstIs (EndC m.2 q) (el vs q) := dst_cst hr (fun q hq c => end_bound hr hc hq) h
theorem lpa_cst {m : Mc} {x ec : Int} (hr : faultM m = 0) (hc : CheapL m.2) (hz : 0 ≤ m.1) (h : LpaAns m x ec) : ec = 0 ∧ CstIs (EndC m.2 m.1.toNat) x := by
  obtain ⟨vs, f, h1, h2⟩ := h
  obtain ⟨rfl, h3, h4⟩ := end_cst hr hc h1
  rcases h2 with ⟨h2, _⟩ | ⟨_, h5, h6⟩
  · exact absurd rfl h2
  · rw [if_neg (by omega)] at h6
    rw [h6]
    exact ⟨h5, h4 _ (by have := (right_parts hr).1; omega)⟩
/-- From the start to an end: over some state. -/
theorem end_by {m : Mc} (hz : 0 ≤ m.1) (c : Nat) : EndC m.2 m.1.toNat c ↔ ∃ q a, q < m.2.length ∧ FarC m.1 m.2 q a ∧ (el m.2 q).1 ≠ 1000000001 ∧ c = a + (el m.2 q).1.toNat :=
  ⟨fun ⟨n, p, d, h, hp, hf, e⟩ => ⟨p, d, hp, ⟨hz, n, h⟩, hf, e⟩, fun ⟨q, a, hq, ⟨_, n, h⟩, hf, e⟩ => ⟨n, q, a, h, hq, hf, e⟩⟩
theorem end_on {m : Mc} (hr : faultM m = 0) (hz : 0 ≤ m.1) (c : Nat) : EndC m.2 m.1.toNat c ↔ ∃ q a b, q < m.2.length ∧ FarC m.1 m.2 q a ∧ EndC m.2 q b ∧ c = a + b := by
  constructor
  · intro h
    exact ⟨m.1.toNat, 0, c, by have := (right_parts hr).1; omega, ⟨hz, 0, .nil⟩, h, by omega⟩
  · rintro ⟨q, a, b, hq, ⟨_, n, h⟩, ⟨n', p, d, h', hp, hf, rfl⟩, rfl⟩
    exact ⟨n + n', p, a + d, h.trans h', hp, hf, by omega⟩
end Go.Proofs.Ythcfkiinjcbajab.Pl
namespace Go.Proofs.Ythcfkiinjcbajab.Pl
set_option linter.unusedVariables false
set_option linter.unusedSimpArgs false
theorem wayA_run {l : List St} {q p c : Nat} {u v : List Int} (h : Way l q u v p c) : ∃ n, Run (ArcE l) q n p c := by
  induction h with
  | nil => exact ⟨0, .nil⟩
  | snoc h ha ht ih =>
    obtain ⟨n, hn⟩ := ih
    exact ⟨n + 1, hn.step ⟨_, ha, ht, rfl⟩⟩
theorem runA_way {l : List St} {q n p c : Nat} (h : Run (ArcE l) q n p c) : ∃ u v, Way l q u v p c := by
  induction h with
  | nil => exact ⟨[], [], .nil⟩
  | step h e ih =>
    obtain ⟨u, v, hw⟩ := ih
    obtain ⟨a, ha, ht, rfl⟩ := e
    exact ⟨_, _, hw.snoc ha ht⟩
/-- No path is cheaper than the cheapest. -/
theorem costs_end {m : Mc} {x y : List Int} {c : Nat} (h : Costs m x y c) : EndC m.2 m.1.toNat c := by
  obtain ⟨_, p, d, hw, hp, hf, e⟩ := h
  obtain ⟨n, hn⟩ := wayA_run hw
  exact ⟨n, p, d, hn, hp, hf, e⟩
/-- From the start of the reversed machine to the state that was q. -/
theorem far_rev {m : Mc} (hto : ∀ q, q < m.2.length → ∀ a ∈ (el m.2 q).2, ∃ t : Nat, a.2.2.2 = (t : Int) ∧ t < m.2.length) {q : Nat} (hq : q < m.2.length) (c : Nat) : EndC m.2 q c ↔ FarC (revM m).1 (revM m).2 (q + 1) c := by
  have e0 : (revM m).1 = 0 := rfl
  rw [e0]
  constructor
  · rintro ⟨n, p, d, h, hp, hf, rfl⟩
    obtain ⟨u, v, hw⟩ := runA_way h
    have h1 := way_back hto hw
    have hm : (0, 0, (el m.2 p).1, (p : Int) + 1) ∈ (el (revM m).2 0).2 := by
      rw [rev_el0]
      exact first_mem hf hp
    have h2 := Way.cons (a := (0, 0, (el m.2 p).1, (p : Int) + 1)) hm (t := p + 1) (by simp) h1
    obtain ⟨k, hk⟩ := wayA_run h2
    refine ⟨Int.le_refl 0, k, ?_⟩
    rw [Nat.add_comm d]
    exact hk
  · rintro ⟨_, n, h⟩
    obtain ⟨u, v, hw⟩ := runA_way h
    rcases hw.first with ⟨_, _, e, _⟩ | ⟨a, ha, t, u', v', c', ht, hw', hu, hv, rfl⟩
    · exact absurd e (by simp)
    · rw [show (0 : Int).toNat = 0 from rfl, rev_el0] at ha
      obtain ⟨j, hj, hfj, rfl⟩ := mem_first ha
      simp only at ht
      obtain rfl : t = j + 1 := by omega
      obtain ⟨q', hq', hl, hb⟩ := back_way hj hw'
      obtain rfl : q = q' := by omega
      obtain ⟨k, hk⟩ := wayA_run hb
      exact ⟨k, j, c', hk, hj, hfj, by simp; omega⟩
end Go.Proofs.Ythcfkiinjcbajab.Pl
namespace Go.Proofs.Ythcfkiinjcbajab.Pl
set_option linter.unusedVariables false
set_option linter.unusedSimpArgs false
/-- Inverted, two that are composed are the inverted ones, composed the other way round. -/
theorem cmp_turns {a b i j ab ji : Mc} (fa : faultM a = 0) (fb : faultM b = 0) (fi : faultM i = 0) (fj : faultM j = 0) (za : 0 ≤ a.1) (zb : 0 ≤ b.1) (zi : 0 ≤ i.1) (zj : 0 ≤ j.1)
    (hi : ∀ x y c, Costs i x y c ↔ Costs a y x c) (hj : ∀ x y c, Costs j x y c ↔ Costs b y x c) (e1 : cpsA a b = (ab, 0)) (e2 : cpsA j i = (ji, 0)) (u v : List Int) (c : Nat) : Costs ji v u c ↔ Costs ab u v c := by
  rw [cmp_costs fj fi zj zi e2 v u c, cmp_costs fa fb za zb e1 u v c]
  constructor
  · rintro ⟨y, d, e, k1, k2, rfl⟩
    exact ⟨y, e, d, (hi _ _ _).1 k2, (hj _ _ _).1 k1, by omega⟩
  · rintro ⟨y, d, e, k1, k2, rfl⟩
    exact ⟨y, e, d, (hj _ _ _).2 k2, (hi _ _ _).2 k1, by omega⟩
/-- Composed, over one or the other. -/
theorem cmp_over {a b d u c l r : Mc} (fa : faultM a = 0) (fb : faultM b = 0) (fd : faultM d = 0) (fu : faultM u = 0) (za : 0 ≤ a.1) (zb : 0 ≤ b.1) (zd : 0 ≤ d.1) (zu : 0 ≤ u.1)
    (hu : ∀ x y k, Costs u x y k ↔ Costs a x y k ∨ Costs b x y k) (e1 : cpsA u d = (c, 0)) (e2 : cpsA a d = (l, 0)) (e3 : cpsA b d = (r, 0)) (x y : List Int) (k : Nat) : Costs c x y k ↔ Costs l x y k ∨ Costs r x y k := by
  rw [cmp_costs fu fd zu zd e1 x y k, cmp_costs fa fd za zd e2 x y k, cmp_costs fb fd zb zd e3 x y k]
  constructor
  · rintro ⟨w, p, q, k1, k2, rfl⟩
    rcases (hu _ _ _).1 k1 with k3 | k3
    · exact .inl ⟨w, p, q, k3, k2, rfl⟩
    · exact .inr ⟨w, p, q, k3, k2, rfl⟩
  · rintro (⟨w, p, q, k1, k2, rfl⟩ | ⟨w, p, q, k1, k2, rfl⟩)
    · exact ⟨w, p, q, (hu _ _ _).2 (.inl k1), k2, rfl⟩
    · exact ⟨w, p, q, (hu _ _ _).2 (.inr k1), k2, rfl⟩
/-- Between two lines the paths are those of the two words. -/
theorem cmp_lines {m a b c d : Mc} {x y : List Int} (fm : faultM m = 0) (fa : faultM a = 0) (fb : faultM b = 0) (zm : 0 ≤ m.1) (za : 0 ≤ a.1) (zb : 0 ≤ b.1)
    (ha : ∀ u v k, Costs a u v k ↔ u = x ∧ v = x ∧ k = 0) (hb : ∀ u v k, Costs b u v k ↔ u = y ∧ v = y ∧ k = 0) (e1 : cpsA a m = (c, 0)) (e2 : cpsA c b = (d, 0)) (k : Nat) : EndC d.2 d.1.toNat k ↔ Costs m x y k := by
  obtain ⟨f1, _, z1⟩ := cmp_right fa fm za zm e1
  obtain ⟨f2, _, z2⟩ := cmp_right f1 fb (by omega) zb e2
  have h1 := fun u v k => cmp_costs fa fm za zm e1 u v k
  have h2 := fun u v k => cmp_costs f1 fb (by omega) zb e2 u v k
  constructor
  · rintro ⟨n, p, e, hr, hp, hn, rfl⟩
    obtain ⟨u, v, hw⟩ := runA_way hr
    obtain ⟨w, d1, d2, k1, k2, e3⟩ := (h2 u v _).1 ⟨by omega, p, e, hw, hp, hn, rfl⟩
    obtain ⟨w', d3, d4, k3, k4, e4⟩ := (h1 _ _ _).1 k1
    obtain ⟨_, rfl, rfl⟩ := (ha _ _ _).1 k3
    obtain ⟨rfl, _, rfl⟩ := (hb _ _ _).1 k2
    rw [show e + (el d.2 p).1.toNat = d4 by omega]
    exact k4
  · intro h
    have k1 := (h1 x y k).2 ⟨x, 0, k, (ha _ _ _).2 ⟨rfl, rfl, rfl⟩, h, by omega⟩
    have k2 := (h2 x y k).2 ⟨y, k, 0, k1, (hb _ _ _).2 ⟨rfl, rfl, rfl⟩, by omega⟩
    exact costs_end k2
/-- A walk along hops: the state that stands for a triple is what was expanded, and each of its arcs leads to what stands for where its hop leads. -/
theorem CmpI.walk {a b : Mc} {L : List Tr} {S : List St} (h : CmpI a b L.length L S) {q : Nat} (hq : q < L.length) :
    expE a b (el L q) = 0 ∧ el S q = (finTr a b (el L q), (expT a b (el L q)).map (arcTr L)) ∧ ∀ i, i < (expT a b (el L q)).length →
      ∃ p : Nat, p < L.length ∧ (el (el S q).2 i).2.2.2 = (p : Int) ∧ el L p = (el (expT a b (el L q)) i).2.2.2 ∧ (el (el S q).2 i).1 = (el (expT a b (el L q)) i).1 ∧ (el (el S q).2 i).2.1 = (el (expT a b (el L q)) i).2.1 ∧ (el (el S q).2 i).2.2.1 = (el (expT a b (el L q)) i).2.2.1 := by
  refine ⟨h.right q hq, h.sts q hq, fun i hi => ?_⟩
  obtain ⟨i1, i2⟩ := el_idx (h.shut q hq _ (el_mem hi))
  rw [h.sts q hq]
  simp only
  rw [el_map hi]
  exact ⟨_, i1, rfl, i2, rfl, rfl, rfl⟩
end Go.Proofs.Ythcfkiinjcbajab.Pl
