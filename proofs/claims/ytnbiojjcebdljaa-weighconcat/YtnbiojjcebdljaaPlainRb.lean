/- One machine or the other, one behind the other: how many paths, the longest one (no program in sight). -/
import Derived.Test.YtnbiojjcebdljaaPlainRa
import Derived.Test.YtnbiojjcebdljaaJ12f
namespace Go.Proofs.Ytnbiojjcebdljaa.Pl
set_option linter.unusedVariables false
set_option linter.unusedSimpArgs false
theorem uni_el0 (a b : Mc) : el (uniM a b).2 0 = (1000000001, hopA a.1 1 0 ++ hopA b.1 (1 + (a.2.length : Int)) 0) := rfl
theorem uni_elA (a b : Mc) {q : Nat} (h : q < a.2.length) : el (uniM a b).2 (q + 1) = shS 1 (el a.2 q).1 [] (el a.2 q) := by
  show el (_ :: _) (q + 1) = _
  rw [el_succ, el_left (by simpa using h), el_map h]
theorem uni_elB (a b : Mc) {q : Nat} (h : q < b.2.length) : el (uniM a b).2 (a.2.length + 1 + q) = shS (1 + (a.2.length : Int)) (el b.2 q).1 [] (el b.2 q) := by
  show el (_ :: _) _ = _
  rw [show a.2.length + 1 + q = (a.2.length + q) + 1 by omega, el_succ, el_right (by simp), List.length_map, Nat.add_sub_cancel_left, el_map h]
theorem cat_elA (a b : Mc) {q : Nat} (h : q < a.2.length) : el (catM a b).2 q = shS 0 1000000001 (endA (el a.2 q).1 b.1 (a.2.length : Int)) (el a.2 q) := by
  show el (_ ++ _) q = _
  rw [el_left (by simpa using h), el_map h]
theorem cat_elB (a b : Mc) {q : Nat} (h : q < b.2.length) : el (catM a b).2 (a.2.length + q) = shS (a.2.length : Int) (el b.2 q).1 [] (el b.2 q) := by
  show el (_ ++ _) _ = _
  rw [el_right (by simp), List.length_map, Nat.add_sub_cancel_left, el_map h]
theorem sta_el0 (a : Mc) : el (staM a).2 0 = (0, hopA a.1 1 0) := rfl
theorem sta_elA (a : Mc) {q : Nat} (h : q < a.2.length) : el (staM a).2 (q + 1) = shS 1 1000000001 (endA (el a.2 q).1 0 0) (el a.2 q) := by
  show el (_ :: _) (q + 1) = _
  rw [el_succ, el_map h]
/-- Where a state of the union comes from. -/
theorem uni_cases (a b : Mc) {q : Nat} (h : q < (uniM a b).2.length) : q = 0 ∨ (∃ p, q = p + 1 ∧ p < a.2.length) ∨ ∃ p, q = a.2.length + 1 + p ∧ p < b.2.length := by
  rw [uniM_len] at h
  by_cases h0 : q = 0
  · exact .inl h0
  · by_cases h1 : q - 1 < a.2.length
    · exact .inr (.inl ⟨q - 1, by omega, h1⟩)
    · exact .inr (.inr ⟨q - 1 - a.2.length, by omega, by omega⟩)
theorem cat_cases (a b : Mc) {q : Nat} (h : q < (catM a b).2.length) : q < a.2.length ∨ ∃ p, q = a.2.length + p ∧ p < b.2.length := by
  rw [catM_len] at h
  by_cases h1 : q < a.2.length
  · exact .inl h1
  · exact .inr ⟨q - a.2.length, by omega, by omega⟩
theorem mem_hop {z d x : Int} {c : Ar} (h : c ∈ hopA z d x) : 0 ≤ z ∧ c = (0, 0, x, z + d) := by
  unfold hopA at h
  split at h
  · simp at h
  · rename_i hz
    simp at h
    exact ⟨by omega, h⟩
theorem mem_end {f z d : Int} {c : Ar} (h : c ∈ endA f z d) : f ≠ 1000000001 ∧ 0 ≤ z ∧ c = (0, 0, f, z + d) := by
  unfold endA at h
  split at h
  · simp at h
  · rename_i hf
    exact ⟨hf, mem_hop h⟩
theorem uni_fwd {a b : Mc} (ha : Fwd a.2) (hb : Fwd b.2) (sa : a.1 < (a.2.length : Int)) (sb : b.1 < (b.2.length : Int)) : Fwd (uniM a b).2 := by
  intro q hq c hc
  have hlen := uniM_len a b
  rcases uni_cases a b hq with rfl | ⟨p, rfl, hp⟩ | ⟨p, rfl, hp⟩
  · rw [uni_el0] at hc
    rcases List.mem_append.1 hc with h | h
    · obtain ⟨h1, rfl⟩ := mem_hop h
      exact ⟨(a.1 + 1).toNat, by simp only; omega, by omega, by omega⟩
    · obtain ⟨h1, rfl⟩ := mem_hop h
      exact ⟨(b.1 + (1 + (a.2.length : Int))).toNat, by simp only; omega, by omega, by omega⟩
  · rw [uni_elA a b hp] at hc
    simp only [shS, List.append_nil, List.mem_map] at hc
    obtain ⟨x, hx, rfl⟩ := hc
    obtain ⟨t, h1, h2, h3⟩ := ha p hp x hx
    exact ⟨t + 1, by simp only [shA]; omega, by omega, by omega⟩
  · rw [uni_elB a b hp] at hc
    simp only [shS, List.append_nil, List.mem_map] at hc
    obtain ⟨x, hx, rfl⟩ := hc
    obtain ⟨t, h1, h2, h3⟩ := hb p hp x hx
    exact ⟨a.2.length + 1 + t, by simp only [shA]; omega, by omega, by omega⟩
theorem cat_fwd {a b : Mc} (ha : Fwd a.2) (hb : Fwd b.2) (sb : b.1 < (b.2.length : Int)) : Fwd (catM a b).2 := by
  intro q hq c hc
  have hlen := catM_len a b
  rcases cat_cases a b hq with hp | ⟨p, rfl, hp⟩
  · rw [cat_elA a b hp] at hc
    simp only [shS, List.mem_append, List.mem_map] at hc
    rcases hc with ⟨x, hx, rfl⟩ | h
    · obtain ⟨t, h1, h2, h3⟩ := ha q hp x hx
      exact ⟨t, by simp only [shA]; omega, by omega, by omega⟩
    · obtain ⟨_, h1, rfl⟩ := mem_end h
      exact ⟨(b.1 + (a.2.length : Int)).toNat, by simp only; omega, by omega, by omega⟩
  · rw [cat_elB a b hp] at hc
    simp only [shS, List.append_nil, List.mem_map] at hc
    obtain ⟨x, hx, rfl⟩ := hc
    obtain ⟨t, h1, h2, h3⟩ := hb p hp x hx
    exact ⟨a.2.length + t, by simp only [shA]; omega, by omega, by omega⟩
theorem sumF_map (f : Nat → Nat) (g : Ar → Ar) (l : List Ar) : sumF f (l.map g) = sumF (fun t => 0) l + (l.map fun x => f (g x).2.2.2.toNat).sum := by
  induction l with
  | nil => rfl
  | cons x l ih => simp only [List.map_cons, sumF, ih, List.sum_cons]; omega
/-- Arcs that lead further. -/
theorem sumF_sh {f g : Nat → Nat} {d : Nat} {ar : List Ar} (h : ∀ x ∈ ar, 0 ≤ x.2.2.2 ∧ f (x.2.2.2.toNat + d) = g x.2.2.2.toNat) : sumF f (ar.map (shA (d : Int))) = sumF g ar := by
  induction ar with
  | nil => rfl
  | cons x l ih =>
    obtain ⟨h1, h2⟩ := h x (by simp)
    rw [List.map_cons, sumF, sumF, ih (fun y hy => h y (by simp [hy])), ← h2]
    congr 2
    simp only [shA]
    omega
theorem sumF_mul (g : Nat → Nat) (k : Nat) (ar : List Ar) : sumF (fun t => g t * k) ar = sumF g ar * k := by
  induction ar with
  | nil => simp [sumF]
  | cons x l ih => simp only [sumF, ih, Nat.add_mul]
theorem maxF_sh {f g : Nat → Int} {d : Nat} {ar : List Ar} (h : ∀ x ∈ ar, 0 ≤ x.2.2.2 ∧ f (x.2.2.2.toNat + d) = g x.2.2.2.toNat) (n : Int) : maxF f n (ar.map (shA (d : Int))) = maxF g n ar := by
  induction ar generalizing n with
  | nil => rfl
  | cons x l ih =>
    obtain ⟨h1, h2⟩ := h x (by simp)
    rw [List.map_cons, maxF, maxF, ← ih (fun y hy => h y (by simp [hy])), ← h2]
    congr 2
    simp only [shA]
    congr 1
    omega
def startN (f : Nat → Nat) (z : Int) : Nat := if z < 0 then 0 else f z.toNat
def startD (f : Nat → Int) (z : Int) : Int := if z < 0 then -1 else f z.toNat
theorem sumF_hop (F : Nat → Nat) (z d x : Int) : sumF F (hopA z d x) = if z < 0 then 0 else F (z + d).toNat := by
  unfold hopA
  split <;> simp [sumF]
/-- As many paths as both together. -/
def uniF (n : Nat) (za zb : Int) (f g : Nat → Nat) (q : Nat) : Nat := if q = 0 then startN f za + startN g zb else if q ≤ n then f (q - 1) else g (q - 1 - n)
theorem uniF_a {n : Nat} {za zb : Int} {f g : Nat → Nat} {q : Nat} (h : q < n) : uniF n za zb f g (q + 1) = f q := by
  unfold uniF
  rw [if_neg (by omega), if_pos (by omega)]
  rfl
theorem uniF_b {n : Nat} {za zb : Int} {f g : Nat → Nat} (q : Nat) : uniF n za zb f g (n + 1 + q) = g q := by
  unfold uniF
  rw [if_neg (by omega), if_neg (by omega)]
  congr 1
  omega
theorem uni_cnt {a b : Mc} (ha : Fwd a.2) (hb : Fwd b.2) (sa : a.1 < (a.2.length : Int)) (sb : b.1 < (b.2.length : Int)) {f g : Nat → Nat} (hf : CntEq a.2 f) (hg : CntEq b.2 g) : CntEq (uniM a b).2 (uniF a.2.length a.1 b.1 f g) := by
  intro q hq
  rcases uni_cases a b hq with rfl | ⟨p, rfl, hp⟩ | ⟨p, rfl, hp⟩
  · rw [uni_el0]
    simp only [sumF_append, sumF_hop]
    have h1 : (if a.1 < 0 then 0 else uniF a.2.length a.1 b.1 f g (a.1 + 1).toNat) = startN f a.1 := by
      unfold startN
      split
      · rfl
      · rw [show (a.1 + 1).toNat = a.1.toNat + 1 by omega]
        exact uniF_a (by omega)
    have h2 : (if b.1 < 0 then 0 else uniF a.2.length a.1 b.1 f g (b.1 + (1 + (a.2.length : Int))).toNat) = startN g b.1 := by
      unfold startN
      split
      · rfl
      · rw [show (b.1 + (1 + (a.2.length : Int))).toNat = a.2.length + 1 + b.1.toNat by omega]
        exact uniF_b _
    rw [h1, h2]
    simp [uniF, baseN]
  · rw [uni_elA a b hp, uniF_a hp]
    simp only [shS, List.append_nil]
    rw [show (shA (1 : Int)) = shA ((1 : Nat) : Int) from rfl, sumF_sh (g := f)]
    · exact hf p hp
    · intro x hx
      obtain ⟨t, h1, h2, h3⟩ := ha p hp x hx
      refine ⟨by omega, ?_⟩
      rw [h1, Int.toNat_natCast]
      exact uniF_a h3
  · rw [uni_elB a b hp, uniF_b]
    simp only [shS, List.append_nil]
    rw [show (1 + (a.2.length : Int)) = ((a.2.length + 1 : Nat) : Int) by omega, sumF_sh (g := g)]
    · exact hg p hp
    · intro x hx
      obtain ⟨t, h1, h2, h3⟩ := hb p hp x hx
      refine ⟨by omega, ?_⟩
      rw [h1, Int.toNat_natCast, Nat.add_comm]
      exact uniF_b _
/-- As many as both times each other. -/
def catF (n : Nat) (zb : Int) (f g : Nat → Nat) (q : Nat) : Nat := if q < n then f q * startN g zb else g (q - n)
theorem catF_a {n : Nat} {zb : Int} {f g : Nat → Nat} {q : Nat} (h : q < n) : catF n zb f g q = f q * startN g zb := by
  unfold catF
  rw [if_pos h]
theorem catF_b {n : Nat} {zb : Int} {f g : Nat → Nat} (q : Nat) : catF n zb f g (n + q) = g q := by
  unfold catF
  rw [if_neg (by omega), Nat.add_sub_cancel_left]
theorem cat_cnt {a b : Mc} (ha : Fwd a.2) (hb : Fwd b.2) {f g : Nat → Nat} (hf : CntEq a.2 f) (hg : CntEq b.2 g) : CntEq (catM a b).2 (catF a.2.length b.1 f g) := by
  intro q hq
  rcases cat_cases a b hq with hp | ⟨p, rfl, hp⟩
  · rw [cat_elA a b hp, catF_a hp]
    simp only [shS, sumF_append]
    rw [show (shA (0 : Int)) = shA ((0 : Nat) : Int) from rfl, sumF_sh (g := fun t => f t * startN g b.1)]
    · rw [sumF_mul, hf q hp, Nat.add_mul]
      have h1 : sumF (catF a.2.length b.1 f g) (endA (el a.2 q).1 b.1 (a.2.length : Int)) = baseN (el a.2 q).1 * startN g b.1 := by
        unfold endA baseN
        split
        · simp [sumF]
        · rw [sumF_hop]
          unfold startN
          split
          · rfl
          · rw [show (b.1 + (a.2.length : Int)).toNat = a.2.length + b.1.toNat by omega, catF_b, Nat.one_mul]
      rw [h1]
      simp [baseN]
      omega
    · intro x hx
      obtain ⟨t, h1, h2, h3⟩ := ha q hp x hx
      refine ⟨by omega, ?_⟩
      rw [h1, Int.toNat_natCast]
      exact catF_a h3
  · rw [cat_elB a b hp, catF_b]
    simp only [shS, List.append_nil]
    rw [sumF_sh (g := g)]
    · exact hg p hp
    · intro x hx
      obtain ⟨t, h1, h2, h3⟩ := hb p hp x hx
      refine ⟨by omega, ?_⟩
      rw [h1, Int.toNat_natCast, Nat.add_comm]
      exact catF_b _
/-! The longest path. -/
theorem stepD_comm (n x y : Int) : stepD (stepD n x) y = stepD (stepD n y) x := by
  unfold stepD
  split <;> split <;> (try split) <;> (try split) <;> omega
theorem maxF_step (F : Nat → Int) (n x : Int) (ar : List Ar) : maxF F (stepD n x) ar = stepD (maxF F n ar) x := by
  induction ar generalizing n with
  | nil => rfl
  | cons c l ih => rw [maxF, maxF, stepD_comm, ih]
/-- What comes behind it: one arc, and as far as it is there. -/
def farB (L x : Int) : Int := if x < 0 ∨ L < 0 then -1 else x + 1 + L
theorem farB_step (L n d : Int) (hn : -1 ≤ n) : stepD (farB L n) (farB L d) = farB L (stepD n d) := by
  unfold stepD farB
  split <;> split <;> (try split) <;> (try split) <;> omega
theorem stepD_ge {n d : Int} (h : -1 ≤ n) : -1 ≤ stepD n d := by
  unfold stepD
  split <;> omega
theorem maxF_farB {F f : Nat → Int} {L : Int} {ar : List Ar} (h : ∀ x ∈ ar, F x.2.2.2.toNat = farB L (f x.2.2.2.toNat)) {n : Int} (hn : -1 ≤ n) : maxF F (farB L n) ar = farB L (maxF f n ar) := by
  induction ar generalizing n with
  | nil => rfl
  | cons x l ih => rw [maxF, maxF, h x (by simp), farB_step _ _ _ hn, ih (fun y hy => h y (by simp [hy])) (stepD_ge hn)]
def catD (n : Nat) (zb : Int) (f g : Nat → Int) (q : Nat) : Int := if q < n then farB (startD g zb) (f q) else g (q - n)
theorem catD_a {n : Nat} {zb : Int} {f g : Nat → Int} {q : Nat} (h : q < n) : catD n zb f g q = farB (startD g zb) (f q) := by
  unfold catD
  rw [if_pos h]
theorem catD_b {n : Nat} {zb : Int} {f g : Nat → Int} (q : Nat) : catD n zb f g (n + q) = g q := by
  unfold catD
  rw [if_neg (by omega), Nat.add_sub_cancel_left]
theorem cat_far {a b : Mc} (ha : Fwd a.2) (hb : Fwd b.2) {f g : Nat → Int} (hf : FarEq a.2 f) (hg : FarEq b.2 g) (hgb : -1 ≤ startD g b.1) : FarEq (catM a b).2 (catD a.2.length b.1 f g) := by
  intro q hq
  rcases cat_cases a b hq with hp | ⟨p, rfl, hp⟩
  · rw [cat_elA a b hp, catD_a hp]
    simp only [shS, maxF_append]
    have hsh : maxF (catD a.2.length b.1 f g) (baseD 1000000001) ((el a.2 q).2.map (shA 0)) = maxF (fun t => farB (startD g b.1) (f t)) (-1) (el a.2 q).2 := by
      rw [show (shA (0 : Int)) = shA ((0 : Nat) : Int) from rfl]
      refine maxF_sh (fun x hx => ?_) _
      obtain ⟨t, h1, h2, h3⟩ := ha q hp x hx
      refine ⟨by omega, ?_⟩
      rw [h1, Int.toNat_natCast]
      exact catD_a h3
    rw [hsh, hf q hp]
    have hend : maxF (catD a.2.length b.1 f g) (maxF (fun t => farB (startD g b.1) (f t)) (-1) (el a.2 q).2) (endA (el a.2 q).1 b.1 (a.2.length : Int)) = maxF (fun t => farB (startD g b.1) (f t)) (farB (startD g b.1) (baseD (el a.2 q).1)) (el a.2 q).2 := by
      unfold endA baseD
      split
      · rfl
      · unfold hopA
        by_cases hz : b.1 < 0
        · rw [if_pos hz]
          have : startD g b.1 = -1 := by unfold startD; rw [if_pos hz]
          rw [this]
          rfl
        · rw [if_neg hz]
          have hs : startD g b.1 = g b.1.toNat := by unfold startD; rw [if_neg hz]
          show stepD _ (catD a.2.length b.1 f g (b.1 + (a.2.length : Int)).toNat) = _
          rw [show (b.1 + (a.2.length : Int)).toNat = a.2.length + b.1.toNat by omega, catD_b, ← maxF_step, hs]
          congr 1
          rw [hs] at hgb
          unfold stepD farB
          split <;> split <;> omega
    rw [hend]
    exact (maxF_farB (fun _ _ => rfl) (by unfold baseD; split <;> omega)).symm
  · rw [cat_elB a b hp, catD_b]
    simp only [shS, List.append_nil]
    rw [maxF_sh (g := g)]
    · exact hg p hp
    · intro x hx
      obtain ⟨t, h1, h2, h3⟩ := hb p hp x hx
      refine ⟨by omega, ?_⟩
      rw [h1, Int.toNat_natCast, Nat.add_comm]
      exact catD_b _
end Go.Proofs.Ytnbiojjcebdljaa.Pl
