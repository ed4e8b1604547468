/- What a machine costs for words: turned round (no program in sight). One machine or the other, one behind the other: how many paths, the longest one (no program in sight). What a machine costs for words: one machine or the other, one behind the other (no program in sight). What a machine costs for words: one behind the other, again and again (no program in sight). Words: what is wrong with them; a machine that reads one and writes another (no program in sight). -/
import Derived.Test.YteaafghmkkejfaaPlainWg
import Derived.Test.YteaafghmkkejfaaJ15d
import Derived.Test.YteaafghmkkejfaaPlainRa
import Derived.Test.YteaafghmkkejfaaJ15c
import Derived.Test.YteaafghmkkejfaaPlainK
namespace Go.Proofs.Yteaafghmkkejfaa.Pl
set_option linter.unusedVariables false
set_option linter.unusedSimpArgs false
theorem el_in {l : List St} {p : Nat} {a : Ar} (h : a ∈ (el l p).2) : p < l.length := by
  rcases Nat.lt_or_ge p l.length with g | g
  · exact g
  · have : el l p = default := by simp [el, g]
    rw [this] at h
    exact absurd h (by simp [default])
/-- The labels of all arcs exchanged, or put for each other. -/
theorem Way.map {l : List St} {k : Int} {q p c : Nat} {u v : List Int} (h : Way l q u v p c) {U V : List Int → List Int → List Int}
    (hU0 : U [] [] = []) (hV0 : V [] [] = []) (hU : ∀ u v (a : Ar), U (u ++ lab a.1) (v ++ lab a.2.1) = U u v ++ lab (tuA k a).1) (hV : ∀ u v (a : Ar), V (u ++ lab a.1) (v ++ lab a.2.1) = V u v ++ lab (tuA k a).2.1) : Way (l.map (tuS k)) q (U u v) (V u v) p c := by
  induction h with
  | nil => rw [hU0, hV0]; exact .nil
  | snoc h ha ht ih =>
    rw [hU, hV]
    refine ih.snoc (a := tuA k _) ?_ ht
    rw [el_map (el_in ha)]
    exact List.mem_map_of_mem ha
theorem way_over {l : List St} {q p c : Nat} {u v : List Int} (h : Way l q u v p c) : Way (l.map (tuS 0)) q v u p c :=
  h.map (U := fun _ v => v) (V := fun u _ => u) rfl rfl (fun u v a => by simp [tuA]) (fun u v a => by simp [tuA])
theorem over_list (l : List St) : (l.map (tuS 0)).map (tuS 0) = l := by
  have := over_over (0, l)
  simp only [tuM, Prod.mk.injEq, true_and] at this
  exact this
theorem way_over_iff {l : List St} {q p c : Nat} {u v : List Int} : Way (l.map (tuS 0)) q u v p c ↔ Way l q v u p c :=
  ⟨fun h => by have := way_over h; rwa [over_list] at this, way_over⟩
theorem way_reads {l : List St} {q p c : Nat} {u v : List Int} (h : Way l q u v p c) : Way (l.map (tuS 1)) q u u p c :=
  h.map (U := fun u _ => u) (V := fun u _ => u) rfl rfl (fun u v a => by simp [tuA]) (fun u v a => by simp [tuA])
theorem reads_way {l : List St} {q p c : Nat} {u v : List Int} (h : Way (l.map (tuS 1)) q u v p c) : v = u ∧ ∃ v', Way l q u v' p c := by
  induction h with
  | nil => exact ⟨rfl, [], .nil⟩
  | snoc h ha ht ih =>
    obtain ⟨rfl, v', hw⟩ := ih
    have hp := el_in ha
    rw [List.length_map] at hp
    rw [el_map hp] at ha
    simp only [tuS, List.mem_map] at ha
    obtain ⟨b, hb, rfl⟩ := ha
    refine ⟨by simp [tuA], v' ++ lab b.2.1, ?_⟩
    have := hw.snoc hb (t := _) ht
    simpa [tuA] using this
theorem tu_final {k : Int} {l : List St} {p : Nat} (h : p < l.length) : (el (l.map (tuS k)) p).1 = (el l p).1 := by rw [el_map h]; rfl
/-- P11.1: inverted it costs the same for the words exchanged. -/
theorem costs_over (m : Mc) (x y : List Int) (c : Nat) : Costs (tuM 0 m) x y c ↔ Costs m y x c := by
  constructor
  · rintro ⟨h0, p, d, hw, hp, hf, rfl⟩
    have hp' : p < m.2.length := by simpa [tuM] using hp
    refine ⟨h0, p, d, way_over_iff.1 hw, hp', ?_, ?_⟩
    · rw [← tu_final (k := 0) hp']; exact hf
    · rw [← tu_final (k := 0) hp']; rfl
  · rintro ⟨h0, p, d, hw, hp, hf, rfl⟩
    refine ⟨h0, p, d, way_over_iff.2 hw, by simpa [tuM] using hp, ?_, ?_⟩
    · show (el (m.2.map (tuS 0)) p).1 ≠ _
      rw [tu_final hp]; exact hf
    · show _ = d + (el (m.2.map (tuS 0)) p).1.toNat
      rw [tu_final hp]
/-- P11.2: what is read, whatever is written. -/
theorem costs_reads (m : Mc) (x : List Int) (c : Nat) : Costs (tuM 1 m) x x c ↔ CostsR m x c := by
  constructor
  · rintro ⟨h0, p, d, hw, hp, hf, rfl⟩
    have hp' : p < m.2.length := by simpa [tuM] using hp
    obtain ⟨_, v', hw'⟩ := reads_way hw
    refine ⟨v', h0, p, d, hw', hp', ?_, ?_⟩
    · rw [← tu_final (k := 1) hp']; exact hf
    · rw [← tu_final (k := 1) hp']; rfl
  · rintro ⟨v, h0, p, d, hw, hp, hf, rfl⟩
    refine ⟨h0, p, d, way_reads hw, by simpa [tuM] using hp, ?_, ?_⟩
    · show (el (m.2.map (tuS 1)) p).1 ≠ _
      rw [tu_final hp]; exact hf
    · show _ = d + (el (m.2.map (tuS 1)) p).1.toNat
      rw [tu_final hp]
/-! From behind. -/
theorem lab_rev (a : Int) : (lab a).reverse = lab a := by unfold lab; split <;> rfl
theorem into_mem {l : List St} {t q : Nat} {a : Ar} (ha : a ∈ (el l q).2) (ht : a.2.2.2 = (t : Int)) : ∀ {k : Nat}, q < k → (a.1, a.2.1, a.2.2.1, (q : Int) + 1) ∈ intoL l t k
  | 0, h => by omega
  | k + 1, h => by
    simp only [intoL, List.mem_append]
    by_cases e : q = k
    · subst e
      right
      simp only [intoA, List.mem_map, List.mem_filter, decide_eq_true_eq]
      exact ⟨a, ⟨ha, ht⟩, rfl⟩
    · exact .inl (into_mem ha ht (by omega))
theorem first_mem {l : List St} {q : Nat} (hf : (el l q).1 ≠ 1000000001) : ∀ {k : Nat}, q < k → (0, 0, (el l q).1, (q : Int) + 1) ∈ firstL l k
  | 0, h => by omega
  | k + 1, h => by
    simp only [firstL, List.mem_append]
    by_cases e : q = k
    · subst e
      right
      rw [if_neg hf]
      simp
    · exact .inl (first_mem hf (by omega))
theorem way_back {m : Mc} (hto : ∀ q, q < m.2.length → ∀ a ∈ (el m.2 q).2, ∃ t : Nat, a.2.2.2 = (t : Int) ∧ t < m.2.length) {q p c : Nat} {u v : List Int} (h : Way m.2 q u v p c) : Way (revM m).2 (p + 1) u.reverse v.reverse (q + 1) c := by
  induction h with
  | nil => exact .nil
  | snoc h ha ht ih =>
    rename_i u v p c a t
    have hp := el_in ha
    obtain ⟨t', e1, e2⟩ := hto _ hp a ha
    have : t = t' := by omega
    subst this
    rw [List.reverse_append, List.reverse_append, lab_rev, lab_rev, Nat.add_comm c]
    have hm : (a.1, a.2.1, a.2.2.1, (p : Int) + 1) ∈ (el (revM m).2 (t + 1)).2 := by
      rw [rev_elS m e2]
      exact into_mem ha ht hp
    exact Way.cons (a := (a.1, a.2.1, a.2.2.1, (p : Int) + 1)) hm (t := p + 1) (by simp) ih
theorem back_way {m : Mc} {p r c : Nat} {u v : List Int} (hp : p < m.2.length) (h : Way (revM m).2 (p + 1) u v r c) : ∃ q, r = q + 1 ∧ q < m.2.length ∧ Way m.2 q u.reverse v.reverse p c := by
  induction h with
  | nil => exact ⟨p, rfl, hp, .nil⟩
  | snoc h ha ht ih =>
    obtain ⟨q, rfl, hq, hw⟩ := ih
    rw [rev_elS m hq] at ha
    obtain ⟨j, hj, b, hb, hbt, rfl⟩ := mem_into ha
    simp only at ht
    refine ⟨j, by omega, hj, ?_⟩
    have := Way.cons hb hbt hw
    rw [List.reverse_append, List.reverse_append, lab_rev, lab_rev, Nat.add_comm]
    exact this
/-- P11.4: reversed it costs the same for the words from behind. -/
theorem costs_rev {m : Mc} (hto : ∀ q, q < m.2.length → ∀ a ∈ (el m.2 q).2, ∃ t : Nat, a.2.2.2 = (t : Int) ∧ t < m.2.length) (hz : m.1 < (m.2.length : Int)) (x y : List Int) (c : Nat) : Costs (revM m) x.reverse y.reverse c ↔ Costs m x y c := by
  constructor
  · rintro ⟨_, p, d, hw, hp, hf, rfl⟩
    have e0 : (revM m).1.toNat = 0 := rfl
    rw [e0] at hw
    rcases hw.first with ⟨_, _, rfl, _⟩ | ⟨a, ha, t, u', v', c', ht, hw', hu, hv, rfl⟩
    · rw [rev_el0] at hf; exact absurd rfl hf
    · rw [rev_el0] at ha
      obtain ⟨j, hj, hfj, rfl⟩ := mem_first ha
      simp only at ht
      obtain rfl : t = j + 1 := by omega
      obtain ⟨q, rfl, hq, hq'⟩ := back_way hj hw'
      rw [rev_elS m hq] at hf ⊢
      simp only [revS] at hf ⊢
      by_cases hqz : (q : Int) = m.1
      · rw [if_pos hqz]
        simp only [lab, if_true, List.nil_append] at hu hv
        rw [← hu, ← hv, List.reverse_reverse, List.reverse_reverse] at hq'
        refine ⟨by omega, j, c', ?_, hj, hfj, by simp; omega⟩
        rw [show m.1.toNat = q by omega]
        exact hq'
      · rw [if_neg hqz] at hf; exact absurd rfl hf
  · rintro ⟨h0, p, d, hw, hp, hf, rfl⟩
    refine ⟨Int.le_refl 0, m.1.toNat + 1, (el m.2 p).1.toNat + d, ?_, by rw [revM_len]; omega, ?_, ?_⟩
    · have h1 := way_back hto hw
      have hm : (0, 0, (el m.2 p).1, (p : Int) + 1) ∈ (el (revM m).2 0).2 := by
        rw [rev_el0]
        exact first_mem hf hp
      have := Way.cons (a := (0, 0, (el m.2 p).1, (p : Int) + 1)) hm (t := p + 1) (by simp) h1
      have e0 : (revM m).1.toNat = 0 := rfl
      rw [e0]
      simpa [lab] using this
    · rw [rev_elS m (by omega)]
      simp only [revS]
      rw [if_pos (by omega)]
      decide
    · rw [rev_elS m (by omega)]
      simp only [revS]
      rw [if_pos (by omega)]
      simp; omega
end Go.Proofs.Yteaafghmkkejfaa.Pl
namespace Go.Proofs.Yteaafghmkkejfaa.Pl
set_option linter.unusedVariables false
set_option linter.unusedSimpArgs false
theorem uni_el0 (a b : Mc) : el (uniM a b).2 0 = (1000000001, hopA a.1 1 0 ++ hopA b.1 (1 + (a.2.length : Int)) 0) := rfl
theorem uni_elA (a b : Mc) {q : Nat} (h : q < a.2.length) : el (uniM a b).2 (q + 1) = shS 1 (el a.2 q).1 [] (el a.2 q) := by
  show el (_ :: _) (q + 1) = _
  rw [el_succ, el_left (by simpa using h), el_map h]
theorem uni_elB (a b : Mc) {q : Nat} (h : q < b.2.length) : el (uniM a b).2 (a.2.length + 1 + q) = shS (1 + (a.2.length : Int)) (el b.2 q).1 [] (el b.2 q) := by
  show el (_ :: _) _ = _
  rw [show a.2.length + 1 + q = (a.2.length + q) + 1 by omega, el_succ, el_right (by simp), List.length_map, Nat.add_sub_cancel_left, el_map h]
theorem cat_elA (a b : Mc) {q : Nat} (h : q < a.2.length) : el (catM a b).2 q = shS 0 1000000001 (endA (el a.2 q).1 b.1 (a.2.length : Int)) (el a.2 q) := by
  show el (_ ++ _) q = _
  rw [el_left (by simpa using h), el_map h]
theorem cat_elB (a b : Mc) {q : Nat} (h : q < b.2.length) : el (catM a b).2 (a.2.length + q) = shS (a.2.length : Int) (el b.2 q).1 [] (el b.2 q) := by
  show el (_ ++ _) _ = _
  rw [el_right (by simp), List.length_map, Nat.add_sub_cancel_left, el_map h]
theorem sta_el0 (a : Mc) : el (staM a).2 0 = (0, hopA a.1 1 0) := rfl
theorem sta_elA (a : Mc) {q : Nat} (h : q < a.2.length) : el (staM a).2 (q + 1) = shS 1 1000000001 (endA (el a.2 q).1 0 0) (el a.2 q) := by
  show el (_ :: _) (q + 1) = _
  rw [el_succ, el_map h]
/-- Where a state of the union comes from. -/
theorem uni_cases (a b : Mc) {q : Nat} (h : q < (uniM a b).2.length) : q = 0 ∨ (∃ p, q = p + 1 ∧ p < a.2.length) ∨ ∃ p, q = a.2.length + 1 + p ∧ p < b.2.length := by
  rw [uniM_len] at h
  by_cases h0 : q = 0
  · exact .inl h0
  · by_cases h1 : q - 1 < a.2.length
    · exact .inr (.inl ⟨q - 1, by omega, h1⟩)
    · exact .inr (.inr ⟨q - 1 - a.2.length, by omega, by omega⟩)
theorem cat_cases (a b : Mc) {q : Nat} (h : q < (catM a b).2.length) : q < a.2.length ∨ ∃ p, q = a.2.length + p ∧ p < b.2.length := by
  rw [catM_len] at h
  by_cases h1 : q < a.2.length
  · exact .inl h1
  · exact .inr ⟨q - a.2.length, by omega, by omega⟩
theorem mem_hop {z d x : Int} {c : Ar} (h : c ∈ hopA z d x) : 0 ≤ z ∧ c = (0, 0, x, z + d) := by
  unfold hopA at h
  split at h
  · simp at h
  · rename_i hz
    simp at h
    exact ⟨by omega, h⟩
theorem mem_end {f z d : Int} {c : Ar} (h : c ∈ endA f z d) : f ≠ 1000000001 ∧ 0 ≤ z ∧ c = (0, 0, f, z + d) := by
  unfold endA at h
  split at h
  · simp at h
  · rename_i hf
    exact ⟨hf, mem_hop h⟩
theorem uni_fwd {a b : Mc} (ha : Fwd a.2) (hb : Fwd b.2) (sa : a.1 < (a.2.length : Int)) (sb : b.1 < (b.2.length : Int)) : Fwd (uniM a b).2 := by
  intro q hq c hc
  have hlen := uniM_len a b
  rcases uni_cases a b hq with rfl | ⟨p, rfl, hp⟩ | ⟨p, rfl, hp⟩
  · rw [uni_el0] at hc
    rcases List.mem_append.1 hc with h | h
    · obtain ⟨h1, rfl⟩ := mem_hop h
      exact ⟨(a.1 + 1).toNat, by simp only; omega, by omega, by omega⟩
    · obtain ⟨h1, rfl⟩ := mem_hop h
      exact ⟨(b.1 + (1 + (a.2.length : Int))).toNat, by simp only; omega, by omega, by omega⟩
  · rw [uni_elA a b hp] at hc
    simp only [shS, List.append_nil, List.mem_map] at hc
    obtain ⟨x, hx, rfl⟩ := hc
    obtain ⟨t, h1, h2, h3⟩ := ha p hp x hx
    exact ⟨t + 1, by simp only [shA]; omega, by omega, by omega⟩
  · rw [uni_elB a b hp] at hc
    simp only [shS, List.append_nil, List.mem_map] at hc
    obtain ⟨x, hx, rfl⟩ := hc
    obtain ⟨t, h1, h2, h3⟩ := hb p hp x hx
    exact ⟨a.2.length + 1 + t, by simp only [shA]; omega, by omega, by omega⟩
theorem cat_fwd {a b : Mc} (ha : Fwd a.2) (hb : Fwd b.2) (sb : b.1 < (b.2.length : Int)) : Fwd (catM a b).2 := by
  intro q hq c hc
  have hlen := catM_len a b
  rcases cat_cases a b hq with hp | ⟨p, rfl, hp⟩
  · rw [cat_elA a b hp] at hc
    simp only [shS, List.mem_append, List.mem_map] at hc
    rcases hc with ⟨x, hx, rfl⟩ | h
    · obtain ⟨t, h1, h2, h3⟩ := ha q hp x hx
      exact ⟨t, by simp only [shA]; omega, by omega, by omega⟩
    · obtain ⟨_, h1, rfl⟩ := mem_end h
      exact ⟨(b.1 + (a.2.length : Int)).toNat, by simp only; omega, by omega, by omega⟩
  · rw [cat_elB a b hp] at hc
    simp only [shS, List.append_nil, List.mem_map] at hc
    obtain ⟨x, hx, rfl⟩ := hc
    obtain ⟨t, h1, h2, h3⟩ := hb p hp x hx
    exact ⟨a.2.length + t, by simp only [shA]; omega, by omega, by omega⟩
theorem sumF_map (f : Nat → Nat) (g : Ar → Ar) (l : List Ar) : sumF f (l.map g) = sumF (fun t => 0) l + (l.map fun x => f (g x).2.2.2.toNat).sum := by
  induction l with
  | nil => rfl
  | cons x l ih => simp only [List.map_cons, sumF, ih, List.sum_cons]; omega
/-- Arcs that lead further. -/
theorem sumF_sh {f g : Nat → Nat} {d : Nat} {ar : List Ar} (h : ∀ x ∈ ar, 0 ≤ x.2.2.2 ∧ f (x.2.2.2.toNat + d) = g x.2.2.2.toNat) : sumF f (ar.map (shA (d : Int))) = sumF g ar := by
  induction ar with
  | nil => rfl
  | cons x l ih =>
    obtain ⟨h1, h2⟩ := h x (by simp)
    rw [List.map_cons, sumF, sumF, ih (fun y hy => h y (by simp [hy])), ← h2]
    congr 2
    simp only [shA]
    omega
theorem sumF_mul (g : Nat → Nat) (k : Nat) (ar : List Ar) : sumF (fun t => g t * k) ar = sumF g ar * k := by
  induction ar with
  | nil => simp [sumF]
  | cons x l ih => simp only [sumF, ih, Nat.add_mul]
theorem maxF_sh {f g : Nat → Int} {d : Nat} {ar : List Ar} (h : ∀ x ∈ ar, 0 ≤ x.2.2.2 ∧ f (x.2.2.2.toNat + d) = g x.2.2.2.toNat) (n : Int) : maxF f n (ar.map (shA (d : Int))) = maxF g n ar := by
  induction ar generalizing n with
  | nil => rfl
  | cons x l ih =>
    obtain ⟨h1, h2⟩ := h x (by simp)
    rw [List.map_cons, maxF, maxF, ← ih (fun y hy => h y (by simp [hy])), ← h2]
    congr 2
    simp only [shA]
    congr 1
    omega
def startN (f : Nat → Nat) (z : Int) : Nat := if z < 0 then 0 else f z.toNat
def startD (f : Nat → Int) (z : Int) : Int := if z < 0 then -1 else f z.toNat
theorem sumF_hop (F : Nat → Nat) (z d x : Int) : sumF F (hopA z d x) = if z < 0 then 0 else F (z + d).toNat := by
  unfold hopA
  split <;> simp [sumF]
/-- As many paths as both together. -/
def uniF (n : Nat) (za zb : Int) (f g : Nat → Nat) (q : Nat) : Nat := if q = 0 then startN f za + startN g zb else if q ≤ n then f (q - 1) else g (q - 1 - n)
theorem uniF_a {n : Nat} {za zb : Int} {f g : Nat → Nat} {q : Nat} (h : q < n) : uniF n za zb f g (q + 1) = f q := by
  unfold uniF
  rw [if_neg (by omega), if_pos (by omega)]
  rfl
theorem uniF_b {n : Nat} {za zb : Int} {f g : Nat → Nat} (q : Nat) : uniF n za zb f g (n + 1 + q) = g q := by
  unfold uniF
  rw [if_neg (by omega), if_neg (by omega)]
  congr 1
  omega
theorem uni_cnt {a b : Mc} (ha : Fwd a.2) (hb : Fwd b.2) (sa : a.1 < (a.2.length : Int)) (sb : b.1 < (b.2.length : Int)) {f g : Nat → Nat} (hf : CntEq a.2 f) (hg : CntEq b.2 g) : CntEq (uniM a b).2 (uniF a.2.length a.1 b.1 f g) := by
  intro q hq
  rcases uni_cases a b hq with rfl | ⟨p, rfl, hp⟩ | ⟨p, rfl, hp⟩
  · rw [uni_el0]
    simp only [sumF_append, sumF_hop]
    have h1 : (if a.1 < 0 then 0 else uniF a.2.length a.1 b.1 f g (a.1 + 1).toNat) = startN f a.1 := by
      unfold startN
      split
      · rfl
      · rw [show (a.1 + 1).toNat = a.1.toNat + 1 by omega]
        exact uniF_a (by omega)
    have h2 : (if b.1 < 0 then 0 else uniF a.2.length a.1 b.1 f g (b.1 + (1 + (a.2.length : Int))).toNat) = startN g b.1 := by
      unfold startN
      split
      · rfl
      · rw [show (b.1 + (1 + (a.2.length : Int))).toNat = a.2.length + 1 + b.1.toNat by omega]
        exact uniF_b _
    rw [h1, h2]
    simp [uniF, baseN]
  · rw [uni_elA a b hp, uniF_a hp]
    simp only [shS, List.append_nil]
    rw [show (shA (1 : Int)) = shA ((1 : Nat) : Int) from rfl, sumF_sh (g := f)]
    · exact hf p hp
    · intro x hx
      obtain ⟨t, h1, h2, h3⟩ := ha p hp x hx
      refine ⟨by omega, ?_⟩
      rw [h1, Int.toNat_natCast]
      exact uniF_a h3
  · rw [uni_elB a b hp, uniF_b]
    simp only [shS, List.append_nil]
    rw [show (1 + (a.2.length : Int)) = ((a.2.length + 1 : Nat) : Int) by omega, sumF_sh (g := g)]
    · exact hg p hp
    · intro x hx
      obtain ⟨t, h1, h2, h3⟩ := hb p hp x hx
      refine ⟨by omega, ?_⟩
      rw [h1, Int.toNat_natCast, Nat.add_comm]
      exact uniF_b _
/-- As many as both times each other. -/
def catF (n : Nat) (zb : Int) (f g : Nat → Nat) (q : Nat) : Nat := if q < n then f q * startN g zb else g (q - n)
theorem catF_a {n : Nat} {zb : Int} {f g : Nat → Nat} {q : Nat} (h : q < n) : catF n zb f g q = f q * startN g zb := by
  unfold catF
  rw [if_pos h]
theorem catF_b {n : Nat} {zb : Int} {f g : Nat → Nat} (q : Nat) : catF n zb f g (n + q) = g q := by
  unfold catF
  rw [if_neg (by omega), Nat.add_sub_cancel_left]
theorem cat_cnt {a b : Mc} (ha : Fwd a.2) (hb : Fwd b.2) {f g : Nat → Nat} (hf : CntEq a.2 f) (hg : CntEq b.2 g) : CntEq (catM a b).2 (catF a.2.length b.1 f g) := by
  intro q hq
  rcases cat_cases a b hq with hp | ⟨p, rfl, hp⟩
  · rw [cat_elA a b hp, catF_a hp]
    simp only [shS, sumF_append]
    rw [show (shA (0 : Int)) = shA ((0 : Nat) : Int) from rfl, sumF_sh (g := fun t => f t * startN g b.1)]
    · rw [sumF_mul, hf q hp, Nat.add_mul]
      have h1 : sumF (catF a.2.length b.1 f g) (endA (el a.2 q).1 b.1 (a.2.length : Int)) = baseN (el a.2 q).1 * startN g b.1 := by
        unfold endA baseN
        split
        · simp [sumF]
        · rw [sumF_hop]
          unfold startN
          split
          · rfl
          · rw [show (b.1 + (a.2.length : Int)).toNat = a.2.length + b.1.toNat by omega, catF_b, Nat.one_mul]
      rw [h1]
      simp [baseN]
      omega
    · intro x hx
      obtain ⟨t, h1, h2, h3⟩ := ha q hp x hx
      refine ⟨by omega, ?_⟩
      rw [h1, Int.toNat_natCast]
      exact catF_a h3
  · rw [cat_elB a b hp, catF_b]
    simp only [shS, List.append_nil]
    rw [sumF_sh (g := g)]
    · exact hg p hp
    · intro x hx
      obtain ⟨t, h1, h2, h3⟩ := hb p hp x hx
      refine ⟨by omega, ?_⟩
      rw [h1, Int.toNat_natCast, Nat.add_comm]
      exact catF_b _
/-! The longest path. -/
theorem stepD_comm (n x y : Int) : stepD (stepD n x) y = stepD (stepD n y) x := by
  unfold stepD
  split <;> split <;> (try split) <;> (try split) <;> omega
theorem maxF_step (F : Nat → Int) (n x : Int) (ar : List Ar) : maxF F (stepD n x) ar = stepD (maxF F n ar) x := by
  induction ar generalizing n with
  | nil => rfl
  | cons c l ih => rw [maxF, maxF, stepD_comm, ih]
/-- What comes behind it: one arc, and as far as it is there. -/
def farB (L x : Int) : Int := if x < 0 ∨ L < 0 then -1 else x + 1 + L
theorem farB_step (L n d : Int) (hn : -1 ≤ n) : stepD (farB L n) (farB L d) = farB L (stepD n d) := by
  unfold stepD farB
  split <;> split <;> (try split) <;> (try split) <;> omega
theorem stepD_ge {n d : Int} (h : -1 ≤ n) : -1 ≤ stepD n d := by
  unfold stepD
  split <;> omega
theorem maxF_farB {F f : Nat → Int} {L : Int} {ar : List Ar} (h : ∀ x ∈ ar, F x.2.2.2.toNat = farB L (f x.2.2.2.toNat)) {n : Int} (hn : -1 ≤ n) : maxF F (farB L n) ar = farB L (maxF f n ar) := by
  induction ar generalizing n with
  | nil => rfl
  | cons x l ih => rw [maxF, maxF, h x (by simp), farB_step _ _ _ hn, ih (fun y hy => h y (by simp [hy])) (stepD_ge hn)]
def catD (n : Nat) (zb : Int) (f g : Nat → Int) (q : Nat) : Int := if q < n then farB (startD g zb) (f q) else g (q - n)
theorem catD_a {n : Nat} {zb : Int} {f g : Nat → Int} {q : Nat} (h : q < n) : catD n zb f g q = farB (startD g zb) (f q) := by
  unfold catD
  rw [if_pos h]
theorem catD_b {n : Nat} {zb : Int} {f g : Nat → Int} (q : Nat) : catD n zb f g (n + q) = g q := by
  unfold catD
  rw [if_neg (by omega), Nat.add_sub_cancel_left]
theorem cat_far {a b : Mc} (ha : Fwd a.2) (hb : Fwd b.2) {f g : Nat → Int} (hf : FarEq a.2 f) (hg : FarEq b.2 g) (hgb : -1 ≤ startD g b.1) : FarEq (catM a b).2 (catD a.2.length b.1 f g) := by
  intro q hq
  rcases cat_cases a b hq with hp | ⟨p, rfl, hp⟩
  · rw [cat_elA a b hp, catD_a hp]
    simp only [shS, maxF_append]
    have hsh : maxF (catD a.2.length b.1 f g) (baseD 1000000001) ((el a.2 q).2.map (shA 0)) = maxF (fun t => farB (startD g b.1) (f t)) (-1) (el a.2 q).2 := by
      rw [show (shA (0 : Int)) = shA ((0 : Nat) : Int) from rfl]
      refine maxF_sh (fun x hx => ?_) _
      obtain ⟨t, h1, h2, h3⟩ := ha q hp x hx
      refine ⟨by omega, ?_⟩
      rw [h1, Int.toNat_natCast]
      exact catD_a h3
    rw [hsh, hf q hp]
    have hend : maxF (catD a.2.length b.1 f g) (maxF (fun t => farB (startD g b.1) (f t)) (-1) (el a.2 q).2) (endA (el a.2 q).1 b.1 (a.2.length : Int)) = maxF (fun t => farB (startD g b.1) (f t)) (farB (startD g b.1) (baseD (el a.2 q).1)) (el a.2 q).2 := by
      unfold endA baseD
      split
      · rfl
      · unfold hopA
        by_cases hz : b.1 < 0
        · rw [if_pos hz]
          have : startD g b.1 = -1 := by unfold startD; rw [if_pos hz]
          rw [this]
          rfl
        · rw [if_neg hz]
          have hs : startD g b.1 = g b.1.toNat := by unfold startD; rw [if_neg hz]
          show stepD _ (catD a.2.length b.1 f g (b.1 + (a.2.length : Int)).toNat) = _
          rw [show (b.1 + (a.2.length : Int)).toNat = a.2.length + b.1.toNat by omega, catD_b, ← maxF_step, hs]
          congr 1
          rw [hs] at hgb
          unfold stepD farB
          split <;> split <;> omega
    rw [hend]
    exact (maxF_farB (fun _ _ => rfl) (by unfold baseD; split <;> omega)).symm
  · rw [cat_elB a b hp, catD_b]
    simp only [shS, List.append_nil]
    rw [maxF_sh (g := g)]
    · exact hg p hp
    · intro x hx
      obtain ⟨t, h1, h2, h3⟩ := hb p hp x hx
      refine ⟨by omega, ?_⟩
      rw [h1, Int.toNat_natCast, Nat.add_comm]
      exact catD_b _
end Go.Proofs.Yteaafghmkkejfaa.Pl
namespace Go.Proofs.Yteaafghmkkejfaa.Pl
set_option linter.unusedVariables false
set_option linter.unusedSimpArgs false
def ToIn (l : List St) : Prop := ∀ q, q < l.length → ∀ a ∈ (el l q).2, ∃ t : Nat, a.2.2.2 = (t : Int) ∧ t < l.length
/-- A machine within another one, s states further. -/
theorem shift_way {l L : List St} {s : Nat} (hto : ToIn l) (hin : ∀ q, q < l.length → ∀ a ∈ (el l q).2, shA (s : Int) a ∈ (el L (q + s)).2) {q p c : Nat} {u v : List Int} (h : Way l q u v p c) : Way L (q + s) u v (p + s) c := by
  induction h with
  | nil => exact .nil
  | snoc h ha ht ih => exact ih.snoc (hin _ (el_in ha) _ ha) (by simp [shA, ht])
theorem unshift_way {l L : List St} {s : Nat} (hto : ToIn l) (hout : ∀ q, q < l.length → ∀ a ∈ (el L (q + s)).2, ∃ b ∈ (el l q).2, a = shA (s : Int) b) {q r c : Nat} {u v : List Int} (hq : q < l.length) (h : Way L (q + s) u v r c) : ∃ p, r = p + s ∧ p < l.length ∧ Way l q u v p c := by
  induction h with
  | nil => exact ⟨q, rfl, hq, .nil⟩
  | snoc h ha ht ih =>
    obtain ⟨p, rfl, hp, hw⟩ := ih
    obtain ⟨b, hb, rfl⟩ := hout p hp _ ha
    obtain ⟨t, e1, e2⟩ := hto p hp b hb
    simp only [shA] at ht
    refine ⟨t, by omega, e2, ?_⟩
    exact hw.snoc hb e1
theorem shS_arcs (d f : Int) (ex : List Ar) (s : St) : (shS d f ex s).2 = s.2.map (shA d) ++ ex := rfl
/-- P10.2. -/
theorem costs_uni {a b : Mc} (ta : ToIn a.2) (tb : ToIn b.2) (sa : a.1 < (a.2.length : Int)) (sb : b.1 < (b.2.length : Int)) (x y : List Int) (c : Nat) : Costs (uniM a b) x y c ↔ Costs a x y c ∨ Costs b x y c := by
  have inA : ∀ q, q < a.2.length → ∀ e ∈ (el a.2 q).2, shA ((1 : Nat) : Int) e ∈ (el (uniM a b).2 (q + 1)).2 := fun q hq e he => by
    rw [uni_elA a b hq, shS_arcs, List.append_nil]
    exact List.mem_map_of_mem he
  have outA : ∀ q, q < a.2.length → ∀ e ∈ (el (uniM a b).2 (q + 1)).2, ∃ d ∈ (el a.2 q).2, e = shA ((1 : Nat) : Int) d := fun q hq e he => by
    rw [uni_elA a b hq, shS_arcs, List.append_nil, List.mem_map] at he
    obtain ⟨d, hd, rfl⟩ := he
    exact ⟨d, hd, rfl⟩
  have elB : ∀ q, q < b.2.length → el (uniM a b).2 (q + (a.2.length + 1)) = shS (1 + (a.2.length : Int)) (el b.2 q).1 [] (el b.2 q) := fun q hq => by rw [Nat.add_comm q]; exact uni_elB a b hq
  have hs : ((a.2.length + 1 : Nat) : Int) = 1 + (a.2.length : Int) := by omega
  have inB' : ∀ q, q < b.2.length → ∀ e ∈ (el b.2 q).2, shA ((a.2.length + 1 : Nat) : Int) e ∈ (el (uniM a b).2 (q + (a.2.length + 1))).2 := fun q hq e he => by
    rw [elB q hq, shS_arcs, List.append_nil, hs]
    exact List.mem_map_of_mem he
  have outB : ∀ q, q < b.2.length → ∀ e ∈ (el (uniM a b).2 (q + (a.2.length + 1))).2, ∃ d ∈ (el b.2 q).2, e = shA ((a.2.length + 1 : Nat) : Int) d := fun q hq e he => by
    rw [elB q hq, shS_arcs, List.append_nil, List.mem_map] at he
    obtain ⟨d, hd, rfl⟩ := he
    exact ⟨d, hd, by rw [hs]⟩
  constructor
  · rintro ⟨_, p, d, hw, hp, hf, rfl⟩
    have e0 : (uniM a b).1.toNat = 0 := rfl
    rw [e0] at hw
    rcases hw.first with ⟨_, _, rfl, _⟩ | ⟨e, he, t, u', v', c', ht, hw', hu, hv, rfl⟩
    · rw [uni_el0] at hf; exact absurd rfl hf
    · rw [uni_el0, List.mem_append] at he
      rcases he with he | he
      · obtain ⟨hz, rfl⟩ := mem_hop he
        simp only at ht
        obtain rfl : t = a.1.toNat + 1 := by omega
        obtain ⟨r, rfl, hr, hw2⟩ := unshift_way ta outA (by omega) hw'
        rw [uni_elA a b hr] at hf ⊢
        simp only [lab, if_true, List.nil_append] at hu hv
        subst hu; subst hv
        exact .inl ⟨hz, r, c', hw2, hr, hf, by simp [shS]⟩
      · obtain ⟨hz, rfl⟩ := mem_hop he
        simp only at ht
        obtain rfl : t = b.1.toNat + (a.2.length + 1) := by omega
        obtain ⟨r, rfl, hr, hw2⟩ := unshift_way tb outB (by omega) hw'
        rw [elB r hr] at hf ⊢
        simp only [lab, if_true, List.nil_append] at hu hv
        subst hu; subst hv
        exact .inr ⟨hz, r, c', hw2, hr, hf, by simp [shS]⟩
  · rintro (⟨hz, p, d, hw, hp, hf, rfl⟩ | ⟨hz, p, d, hw, hp, hf, rfl⟩)
    · have h1 := shift_way ta inA hw
      have hm : (0, 0, 0, a.1 + 1) ∈ (el (uniM a b).2 0).2 := by
        rw [uni_el0]
        refine List.mem_append_left _ ?_
        unfold hopA
        rw [if_neg (by omega)]
        simp
      have h2 := Way.cons (a := (0, 0, 0, a.1 + 1)) hm (t := a.1.toNat + 1) (by simp only; omega) h1
      refine ⟨Int.le_refl 0, p + 1, d, ?_, by rw [uniM_len]; omega, ?_, ?_⟩
      · have e0 : (uniM a b).1.toNat = 0 := rfl
        rw [e0]
        simpa [lab] using h2
      · rw [uni_elA a b hp]; exact hf
      · rw [uni_elA a b hp]; rfl
    · have h1 := shift_way tb inB' hw
      have hm : (0, 0, 0, b.1 + (1 + (a.2.length : Int))) ∈ (el (uniM a b).2 0).2 := by
        rw [uni_el0]
        refine List.mem_append_right _ ?_
        unfold hopA
        rw [if_neg (by omega)]
        simp
      have h2 := Way.cons (a := (0, 0, 0, b.1 + (1 + (a.2.length : Int)))) hm (t := b.1.toNat + (a.2.length + 1)) (by simp only; omega) h1
      refine ⟨Int.le_refl 0, p + (a.2.length + 1), d, ?_, by rw [uniM_len]; omega, ?_, ?_⟩
      · have e0 : (uniM a b).1.toNat = 0 := rfl
        rw [e0]
        simpa [lab] using h2
      · rw [elB p hp]; exact hf
      · rw [elB p hp]; rfl
end Go.Proofs.Yteaafghmkkejfaa.Pl
namespace Go.Proofs.Yteaafghmkkejfaa.Pl
set_option linter.unusedVariables false
set_option linter.unusedSimpArgs false
theorem shA_same (a : Ar) : shA 0 a = a := by obtain ⟨p, q, r, t⟩ := a; simp [shA]
theorem cat_arcA {a b : Mc} {q : Nat} (hq : q < a.2.length) {e : Ar} : e ∈ (el (catM a b).2 q).2 ↔ e ∈ (el a.2 q).2 ∨ ((el a.2 q).1 ≠ 1000000001 ∧ 0 ≤ b.1 ∧ e = (0, 0, (el a.2 q).1, b.1 + (a.2.length : Int))) := by
  rw [cat_elA a b hq, shS_arcs, List.mem_append]
  constructor
  · rintro (h | h)
    · rw [List.mem_map] at h
      obtain ⟨d, hd, rfl⟩ := h
      rw [shA_same]; exact .inl hd
    · exact .inr (mem_end h)
  · rintro (h | ⟨h1, h2, rfl⟩)
    · exact .inl (List.mem_map.2 ⟨e, h, shA_same e⟩)
    · right
      unfold endA hopA
      rw [if_neg h1, if_neg (by omega)]
      simp
/-- A way in both, one behind the other. -/
theorem cat_way {a b : Mc} (ta : ToIn a.2) (tb : ToIn b.2) (sb : b.1 < (b.2.length : Int)) {q r c : Nat} {u v : List Int} (hq : q < a.2.length) (h : Way (catM a b).2 q u v r c) :
    (r < a.2.length ∧ Way a.2 q u v r c) ∨ ∃ p r' u1 u2 v1 v2 c1 c2, Way a.2 q u1 v1 p c1 ∧ p < a.2.length ∧ (el a.2 p).1 ≠ 1000000001 ∧ 0 ≤ b.1 ∧ Way b.2 b.1.toNat u2 v2 r' c2 ∧ r = r' + a.2.length ∧ r' < b.2.length ∧ u = u1 ++ u2 ∧ v = v1 ++ v2 ∧ c = c1 + (el a.2 p).1.toNat + c2 := by
  induction h with
  | nil => exact .inl ⟨hq, .nil⟩
  | snoc h ha ht ih =>
    rename_i u v r c e t
    rcases ih with ⟨hr, hw⟩ | ⟨p, r', u1, u2, v1, v2, c1, c2, w1, hp, hf, hb, w2, rfl, hr', rfl, rfl, rfl⟩
    · rcases (cat_arcA hr).1 ha with he | ⟨hf, hb, rfl⟩
      · obtain ⟨t', e1, e2⟩ := ta r hr e he
        have : t = t' := by omega
        subst this
        exact .inl ⟨e2, hw.snoc he ht⟩
      · simp only at ht
        refine .inr ⟨r, b.1.toNat, u, [], v, [], c, 0, hw, hr, hf, hb, .nil, by omega, by omega, by simp [lab], by simp [lab], by simp⟩
    · rw [Nat.add_comm r', cat_elB a b hr', shS_arcs, List.append_nil, List.mem_map] at ha
      obtain ⟨d, hd, rfl⟩ := ha
      obtain ⟨t', e1, e2⟩ := tb r' hr' d hd
      simp only [shA] at ht
      exact .inr ⟨p, t', u1, u2 ++ lab d.1, v1, v2 ++ lab d.2.1, c1, c2 + d.2.2.1.toNat, w1, hp, hf, hb, w2.snoc hd e1, by omega, e2, by simp [shA], by simp [shA], by simp [shA]; omega⟩
/-- P10.3. -/
theorem costs_cat {a b : Mc} (ta : ToIn a.2) (tb : ToIn b.2) (sa : a.1 < (a.2.length : Int)) (sb : b.1 < (b.2.length : Int)) (x y : List Int) (c : Nat) : Costs (catM a b) x y c ↔ ∃ x1 x2 y1 y2 c1 c2, x = x1 ++ x2 ∧ y = y1 ++ y2 ∧ Costs a x1 y1 c1 ∧ Costs b x2 y2 c2 ∧ c = c1 + c2 := by
  constructor
  · rintro ⟨hz, p, d, hw, hp, hf, rfl⟩
    have hz' : 0 ≤ a.1 := hz
    have hw' : Way (catM a b).2 a.1.toNat x y p d := hw
    rcases cat_way ta tb sb (by omega) hw' with ⟨hr, _⟩ | ⟨p', r', u1, u2, v1, v2, c1, c2, w1, hp', hf', hb, w2, rfl, hr', rfl, rfl, rfl⟩
    · rw [cat_elA a b hr] at hf; exact absurd rfl hf
    · rw [Nat.add_comm r', cat_elB a b hr'] at hf ⊢
      exact ⟨u1, u2, v1, v2, _, _, rfl, rfl, ⟨hz', p', c1, w1, hp', hf', rfl⟩, ⟨hb, r', c2, w2, hr', hf, rfl⟩, by simp only [shS]; omega⟩
  · rintro ⟨x1, x2, y1, y2, _, _, rfl, rfl, ⟨hz, p, d, hw, hp, hf, rfl⟩, ⟨hb, r, e, hw2, hr, hf2, rfl⟩, rfl⟩
    have h1 : Way (catM a b).2 a.1.toNat x1 y1 p d := by
      have := shift_way (L := (catM a b).2) (s := 0) ta (fun q hq e he => by
        have : shA ((0 : Nat) : Int) e = e := shA_same e
        rw [this]
        exact (cat_arcA hq).2 (.inl he)) hw
      simpa using this
    have h2 : Way (catM a b).2 (b.1.toNat + a.2.length) x2 y2 (r + a.2.length) e := shift_way tb (fun q hq e he => by
      rw [Nat.add_comm q, cat_elB a b hq, shS_arcs, List.append_nil]
      exact List.mem_map_of_mem he) hw2
    have hm : (0, 0, (el a.2 p).1, b.1 + (a.2.length : Int)) ∈ (el (catM a b).2 p).2 := (cat_arcA hp).2 (.inr ⟨hf, hb, rfl⟩)
    have h3 := Way.cons (a := (0, 0, (el a.2 p).1, b.1 + (a.2.length : Int))) hm (t := b.1.toNat + a.2.length) (by simp only; omega) h2
    have h4 := h1.trans h3
    refine ⟨hz, r + a.2.length, d + ((el a.2 p).1.toNat + e), ?_, by rw [catM_len]; omega, ?_, ?_⟩
    · have e0 : (catM a b).1 = a.1 := rfl
      rw [e0]
      simpa [lab] using h4
    · rw [Nat.add_comm r, cat_elB a b hr]; exact hf2
    · rw [Nat.add_comm r, cat_elB a b hr]; simp only [shS]; omega
/-- P10.4: pieces one behind the other. -/
inductive Stc (a : Mc) : List Int → List Int → Nat → Prop
  | nil : Stc a [] [] 0
  | snoc {x y x' y' : List Int} {c d : Nat} (h : Stc a x y c) (k : Costs a x' y' d) : Stc a (x ++ x') (y ++ y') (c + d)
theorem sta_arcS {a : Mc} {q : Nat} (hq : q < a.2.length) {e : Ar} : e ∈ (el (staM a).2 (q + 1)).2 ↔ (∃ d ∈ (el a.2 q).2, e = shA 1 d) ∨ ((el a.2 q).1 ≠ 1000000001 ∧ e = (0, 0, (el a.2 q).1, 0)) := by
  rw [sta_elA a hq, shS_arcs, List.mem_append]
  constructor
  · rintro (h | h)
    · rw [List.mem_map] at h
      obtain ⟨d, hd, rfl⟩ := h
      exact .inl ⟨d, hd, rfl⟩
    · obtain ⟨h1, _, h3⟩ := mem_end h
      exact .inr ⟨h1, h3⟩
  · rintro (⟨d, hd, rfl⟩ | ⟨h1, rfl⟩)
    · exact .inl (List.mem_map_of_mem hd)
    · right
      unfold endA hopA
      rw [if_neg h1, if_neg (by omega)]
      simp
/-- A way in a star: whole pieces, and a piece that is under way. -/
theorem sta_way {a : Mc} (ta : ToIn a.2) (sa : a.1 < (a.2.length : Int)) {r c : Nat} {u v : List Int} (h : Way (staM a).2 0 u v r c) :
    (r = 0 ∧ Stc a u v c) ∨ ∃ p u1 u2 v1 v2 c1 c2, r = p + 1 ∧ p < a.2.length ∧ 0 ≤ a.1 ∧ Stc a u1 v1 c1 ∧ Way a.2 a.1.toNat u2 v2 p c2 ∧ u = u1 ++ u2 ∧ v = v1 ++ v2 ∧ c = c1 + c2 := by
  induction h with
  | nil => exact .inl ⟨rfl, .nil⟩
  | snoc h ha ht ih =>
    rename_i u v r c e t
    rcases ih with ⟨rfl, hs⟩ | ⟨p, u1, u2, v1, v2, c1, c2, rfl, hp, hz, hs, hw, rfl, rfl, rfl⟩
    · rw [sta_el0] at ha
      obtain ⟨hz, rfl⟩ := mem_hop ha
      simp only at ht
      exact .inr ⟨a.1.toNat, u, [], v, [], c, 0, by omega, by omega, hz, hs, .nil, by simp [lab], by simp [lab], by simp⟩
    · rcases (sta_arcS hp).1 ha with ⟨d, hd, rfl⟩ | ⟨hf, rfl⟩
      · obtain ⟨t', e1, e2⟩ := ta p hp d hd
        simp only [shA] at ht
        exact .inr ⟨t', u1, u2 ++ lab d.1, v1, v2 ++ lab d.2.1, c1, c2 + d.2.2.1.toNat, by omega, e2, hz, hs, hw.snoc hd e1, by simp [shA], by simp [shA], by simp [shA]; omega⟩
      · simp only at ht
        obtain rfl : t = 0 := by omega
        left
        refine ⟨rfl, ?_⟩
        have := hs.snoc ⟨hz, p, c2, hw, hp, hf, rfl⟩
        simpa [lab, Nat.add_assoc] using this
theorem way_sta {a : Mc} (ta : ToIn a.2) (sa : a.1 < (a.2.length : Int)) {u v : List Int} {c : Nat} (h : Stc a u v c) : Way (staM a).2 0 u v 0 c := by
  induction h with
  | nil => exact .nil
  | snoc h k ih =>
    obtain ⟨hz, p, d, hw, hp, hf, rfl⟩ := k
    have h1 := shift_way (L := (staM a).2) (s := 1) ta (fun q hq e he => (sta_arcS hq).2 (.inl ⟨e, he, rfl⟩)) hw
    have hm : (0, 0, 0, a.1 + 1) ∈ (el (staM a).2 0).2 := by
      rw [sta_el0]
      unfold hopA
      rw [if_neg (by omega)]
      simp
    have h2 := Way.cons (a := (0, 0, 0, a.1 + 1)) hm (t := a.1.toNat + 1) (by simp only; omega) h1
    have h3 := h2.snoc (a := (0, 0, (el a.2 p).1, 0)) ((sta_arcS hp).2 (.inr ⟨hf, rfl⟩)) (t := 0) rfl
    have h4 := ih.trans h3
    simpa [lab, Nat.add_assoc] using h4
theorem costs_sta {a : Mc} (ta : ToIn a.2) (sa : a.1 < (a.2.length : Int)) (x y : List Int) (c : Nat) : Costs (staM a) x y c ↔ Stc a x y c := by
  constructor
  · rintro ⟨_, p, d, hw, hp, hf, rfl⟩
    have hw' : Way (staM a).2 0 x y p d := hw
    rcases sta_way ta sa hw' with ⟨rfl, hs⟩ | ⟨q, _, _, _, _, _, _, rfl, hq, _⟩
    · rw [sta_el0]
      simpa using hs
    · rw [sta_elA a hq] at hf; exact absurd rfl hf
  · intro h
    refine ⟨Int.le_refl 0, 0, c, way_sta ta sa h, by rw [staM_len]; omega, ?_, ?_⟩
    · rw [sta_el0]; simp
    · rw [sta_el0]; simp
end Go.Proofs.Yteaafghmkkejfaa.Pl
namespace Go.Proofs.Yteaafghmkkejfaa.Pl
set_option linter.unusedVariables false
set_option linter.unusedSimpArgs false
/-- P12.1. -/
def wrdE (l : List Int) : Int := if 12 < l.length then 1 else if l.all (fun b => inB b 1 1000) = true then 0 else 2
theorem wrd_long {l : List Int} (h : 12 < l.length) : wrdE l = 1 := by unfold wrdE; rw [if_pos h]
theorem wrd_bad {l : List Int} (h : ¬ 12 < l.length) {i : Nat} (hi : i < l.length) (hb : inB (el l i) 1 1000 = false) : wrdE l = 2 := by
  unfold wrdE
  rw [if_neg h, if_neg]
  rw [List.all_eq_true]
  intro g
  have := g (el l i) (el_mem hi)
  rw [hb] at this
  cases this
theorem wrd_ok {l : List Int} (h : ¬ 12 < l.length) (ha : ∀ i, i < l.length → inB (el l i) 1 1000 = true) : wrdE l = 0 := by
  unfold wrdE
  rw [if_neg h, if_pos]
  rw [List.all_eq_true]
  intro b hb
  obtain ⟨j, hj, rfl⟩ := mem_el hb
  exact ha j hj
theorem wrd_parts {l : List Int} (h : wrdE l = 0) : l.length ≤ 12 ∧ ∀ i, i < l.length → 1 ≤ el l i ∧ el l i ≤ 1000 := by
  unfold wrdE at h
  by_cases g : 12 < l.length
  · rw [if_pos g] at h; cases h
  · rw [if_neg g] at h
    by_cases k : l.all (fun b => inB b 1 1000) = true
    · refine ⟨by omega, fun i hi => ?_⟩
      rw [List.all_eq_true] at k
      have := k (el l i) (el_mem hi)
      simpa [inB] using this
    · rw [if_neg k] at h; cases h
/-- P12.2. -/
def atW (l : List Int) (i : Nat) : Int := if i < l.length then el l i else 0
def croS (x y : List Int) (i : Nat) : St := (1000000001, [(atW x i, atW y i, 0, (i : Int) + 1)])
def croM (x y : List Int) : Mc := (0, (List.range (max x.length y.length)).map (croS x y) ++ [(0, [])])
def croE (x y : List Int) : Int := if wrdE x ≠ 0 then wrdE x else wrdE y
def croR (x y : List Int) : Mc := if croE x y = 0 then croM x y else (0, [])
theorem croR_ok (x y : List Int) : okM (croR x y) := by
  have hz : okM (0, []) := ⟨by simp, fun j hj => absurd hj (by simp)⟩
  unfold croR
  split
  · rename_i h
    have hx : wrdE x = 0 := by
      by_cases g : wrdE x = 0
      · exact g
      · unfold croE at h; rw [if_pos g] at h; exact h
    have hy : wrdE y = 0 := by unfold croE at h; rw [if_neg (by simp [hx])] at h; exact h
    have h1 := (wrd_parts hx).1
    have h2 := (wrd_parts hy).1
    have hlen : (croM x y).2.length ≤ 13 := by simp [croM]; omega
    refine ⟨by omega, fun j hj => ?_⟩
    have : (el (croM x y).2 j).2.length ≤ 1 := by
      have hm := el_mem hj
      simp only [croM, List.mem_append, List.mem_map, List.mem_singleton] at hm
      rcases hm with ⟨i, _, e⟩ | e
      · rw [← show croS x y i = el (croM x y).2 j from e]; simp [croS]
      · rw [show el (croM x y).2 j = (0, []) from e]; simp
    omega
  · exact hz
end Go.Proofs.Yteaafghmkkejfaa.Pl
