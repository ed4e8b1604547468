/- Runs along empty arcs, through ever more states (no program in sight). What a machine is like when one state of it has an arc more (no program in sight). The least costs along empty arcs alone, between all states (no program in sight). A machine without its empty arcs (no program in sight). Without empty arcs it costs the same (no program in sight). What a machine without empty arcs is like; there nothing happens but that arcs are merged (no program in sight). Where there are no empty arcs nothing happens but that arcs are merged; merged again they stay (no program in sight). Made machines without their empty arcs: what is answered (no program in sight). -/
import Derived.Test.YteaafghmkkejfaaJ15g
import Derived.Test.YteaafghmkkejfaaPlainW
import Derived.Test.YteaafghmkkejfaaJ15j
import Derived.Test.YteaafghmkkejfaaPlainRa
import Derived.Test.YteaafghmkkejfaaJ15d
namespace Go.Proofs.Yteaafghmkkejfaa.Pl
set_option linter.unusedVariables false
set_option linter.unusedSimpArgs false
section
variable {E : Nat → Nat → Nat → Prop}
theorem run_one {s w j : Nat} (e : E s w j) : Run E s 1 j w := by
  have h : Run E s (0 + 1) j (0 + w) := .step .nil e
  simpa using h
/-- From q to p for c; the states between are below k. -/
inductive Via (E : Nat → Nat → Nat → Prop) (k : Nat) : Nat → Nat → Nat → Prop
  | nil (q : Nat) : Via E k q q 0
  | arc {q w p : Nat} (e : E q w p) : Via E k q p w
  | step {q w j p c : Nat} (e : E q w j) (hj : j < k) (h : Via E k j p c) : Via E k q p (w + c)
theorem Via.mono {k k' q p c : Nat} (h : Via E k q p c) (hk : k ≤ k') : Via E k' q p c := by
  induction h with
  | nil q => exact .nil q
  | arc e => exact .arc e
  | step e hj _ ih => exact .step e (by omega) ih
theorem Via.run {k q p c : Nat} (h : Via E k q p c) : ∃ n, Run E q n p c := by
  induction h with
  | nil q => exact ⟨0, .nil⟩
  | arc e => exact ⟨1, run_one e⟩
  | step e _ _ ih =>
    obtain ⟨n, hn⟩ := ih
    exact ⟨n + 1, hn.first e⟩
theorem run_via {N : Nat} (hE : ∀ k w j, E k w j → j < N) : ∀ {n q p c : Nat}, Run E q n p c → Via E N q p c
  | 0, q, p, c, h => by cases h; exact .nil q
  | n + 1, q, p, c, h => by
    obtain ⟨j, w, c', e, h', rfl⟩ := h.head
    exact .step e (hE _ _ _ e) (run_via hE h')
theorem Via.split {k q p c : Nat} (h : Via E (k + 1) q p c) : Via E k q p c ∨ ∃ c1 c2, Via E k q k c1 ∧ Via E k k p c2 ∧ c1 + c2 ≤ c := by
  induction h with
  | nil q => exact .inl (.nil q)
  | arc e => exact .inl (.arc e)
  | @step q w j p c e hj h ih =>
    by_cases hjk : j < k
    · rcases ih with ih | ⟨c1, c2, h1, h2, h3⟩
      · exact .inl (.step e hjk ih)
      · exact .inr ⟨w + c1, c2, .step e hjk h1, h2, by omega⟩
    · obtain rfl : j = k := by omega
      rcases ih with ih | ⟨c1, c2, h1, h2, h3⟩
      · exact .inr ⟨w, c, .arc e, ih, Nat.le_refl _⟩
      · exact .inr ⟨w, c2, .arc e, h2, by omega⟩
theorem Via.joinAt {k q r p c1 c2 : Nat} (h : Via E k q r c1) (hr : r = k) (g : Via E k k p c2) : Via E (k + 1) q p (c1 + c2) := by
  induction h with
  | nil q => subst hr; rw [Nat.zero_add]; exact g.mono (by omega)
  | arc e => subst hr; exact .step e (by omega) (g.mono (by omega))
  | step e hj _ ih => rw [Nat.add_assoc]; exact .step e (by omega) (ih hr)
theorem Via.join {k q p c1 c2 : Nat} (h : Via E k q k c1) (g : Via E k k p c2) : Via E (k + 1) q p (c1 + c2) := h.joinAt rfl g
/-- The same with the first and the last place apart. -/
def EndsE (E : Nat → Nat → Nat → Prop) (k q p : Nat) (x w y : Nat) : Prop := (y < k ∧ ((x = k ∧ E q w y) ∨ (x < k ∧ E x w y))) ∨ (y = k + 1 ∧ ((x = k ∧ E q w p) ∨ (x < k ∧ E x w p)))
theorem via_ends {k q0 p : Nat} : ∀ {x c : Nat}, Via E k x p c → (x = p ∧ c = 0) ∨ ∀ X, (X = k ∧ x = q0) ∨ (X < k ∧ X = x) → ∃ n, Run (EndsE E k q0 p) X n (k + 1) c := by
  intro x c h
  induction h with
  | nil q => exact .inl ⟨rfl, rfl⟩
  | @arc x w p e =>
    exact .inr fun X hX => ⟨1, run_one (.inr ⟨rfl, by rcases hX with ⟨h1, rfl⟩ | ⟨h1, rfl⟩; exact .inl ⟨h1, e⟩; exact .inr ⟨h1, e⟩⟩)⟩
  | @step x w j p c e hj h ih =>
    refine .inr fun X hX => ?_
    rcases ih with ⟨rfl, rfl⟩ | ih
    · exact ⟨1, run_one (.inr ⟨rfl, by rcases hX with ⟨h1, rfl⟩ | ⟨h1, rfl⟩; exact .inl ⟨h1, e⟩; exact .inr ⟨h1, e⟩⟩)⟩
    · obtain ⟨n, hn⟩ := ih j (.inr ⟨hj, rfl⟩)
      exact ⟨n + 1, hn.first (.inl ⟨hj, by rcases hX with ⟨h1, rfl⟩ | ⟨h1, rfl⟩; exact .inl ⟨h1, e⟩; exact .inr ⟨h1, e⟩⟩)⟩
theorem ends_via {k q0 p : Nat} : ∀ {n X c : Nat}, Run (EndsE E k q0 p) X n (k + 1) c → ∀ x, (X = k ∧ x = q0) ∨ (X < k ∧ X = x) → Via E k x p c
  | 0, X, c, h, x, hX => by cases h; omega
  | n + 1, X, c, h, x, hX => by
    obtain ⟨j, w, c', e, h', rfl⟩ := h.head
    rcases e with ⟨hj, he⟩ | ⟨rfl, he⟩
    · have e' : E x w j := by
        rcases he with ⟨h1, he⟩ | ⟨h1, he⟩ <;> rcases hX with ⟨h2, rfl⟩ | ⟨h2, rfl⟩
        · exact he
        · omega
        · omega
        · exact he
      exact .step e' hj (ends_via h' j (.inr ⟨hj, rfl⟩))
    · have e' : E x w p := by
        rcases he with ⟨h1, he⟩ | ⟨h1, he⟩ <;> rcases hX with ⟨h2, rfl⟩ | ⟨h2, rfl⟩
        · exact he
        · omega
        · omega
        · exact he
      cases n with
      | zero => cases h'; exact .arc e'
      | succ n =>
        obtain ⟨j, w', c'', e'', _⟩ := h'.head
        rcases e'' with ⟨_, ⟨h1, _⟩ | ⟨h1, _⟩⟩ | ⟨_, ⟨h1, _⟩ | ⟨h1, _⟩⟩ <;> omega
theorem Via.cheap {W k q p c : Nat} (hW : ∀ x w y, E x w y → w ≤ W) (h : Via E k q p c) : ∃ d, d ≤ c ∧ d ≤ (k + 1) * W ∧ Via E k q p d := by
  rcases via_ends (q0 := q) h with ⟨rfl, rfl⟩ | h1
  · exact ⟨0, Nat.le_refl _, Nat.zero_le _, .nil _⟩
  · obtain ⟨n, hn⟩ := h1 k (.inl ⟨rfl, rfl⟩)
    obtain ⟨m, d, hm, hd, hr⟩ := hn.cheap (N := k + 2) (by omega) (fun x w y e => by rcases e with ⟨h, _⟩ | ⟨h, _⟩ <;> omega)
    have hc := hr.cost (W := W) (fun x w y e => by rcases e with ⟨_, ⟨_, e⟩ | ⟨_, e⟩⟩ | ⟨_, ⟨_, e⟩ | ⟨_, e⟩⟩ <;> exact hW _ _ _ e)
    exact ⟨d, hd, Nat.le_trans hc (Nat.mul_le_mul_right _ (by omega)), ends_via hr q (.inl ⟨rfl, rfl⟩)⟩
/-- The least through states below k, or none. -/
def LstV (E : Nat → Nat → Nat → Prop) (k q p : Nat) (b : Int) : Prop := (b = noneI ∧ ∀ c, ¬ Via E k q p c) ∨ ∃ c : Nat, LeastP (Via E k q p) c ∧ b = (c : Int) ∧ c ≤ (k + 1) * 1000000000
theorem LstV.one {k q p : Nat} {a b : Int} (h : LstV E k q p a) (g : LstV E k q p b) : a = b := by
  rcases h with ⟨rfl, h⟩ | ⟨c, h, rfl, _⟩ <;> rcases g with ⟨rfl, g⟩ | ⟨d, g, rfl, _⟩
  · rfl
  · exact absurd g.1 (h _)
  · exact absurd h.1 (g _)
  · rw [h.one g]
theorem LstV.mk {k q p : Nat} {b : Int} (hW : ∀ x w y, E x w y → w ≤ 1000000000) (h1 : b = noneI ∨ ∃ c : Nat, Via E k q p c ∧ b = (c : Int)) (h2 : ∀ c, Via E k q p c → b ≤ (c : Int)) (hk : k ≤ 60) : LstV E k q p b := by
  rcases h1 with rfl | ⟨c, hc, rfl⟩
  · refine .inl ⟨rfl, fun c hc => ?_⟩
    obtain ⟨d, _, hd, hv⟩ := hc.cheap hW
    have h3 := h2 d hv
    have : (k + 1) * 1000000000 ≤ 61 * 1000000000 := Nat.mul_le_mul_right _ (by omega)
    unfold noneI at h3
    omega
  · have hle : ∀ d, Via E k q p d → c ≤ d := fun d hd => by have := h2 d hd; omega
    obtain ⟨d, _, hd, hv⟩ := hc.cheap hW
    exact .inr ⟨c, ⟨hc, hle⟩, rfl, Nat.le_trans (hle d hv) hd⟩
theorem LstV.le {k q p c : Nat} {b : Int} (h : LstV E k q p b) (hc : Via E k q p c) : b ≤ (c : Int) := by
  rcases h with ⟨_, h⟩ | ⟨d, h, rfl, _⟩
  · exact absurd hc (h c)
  · have := h.2 c hc; omega
theorem LstV.has {k q p : Nat} {b : Int} (h : LstV E k q p b) : b = noneI ∨ ∃ c : Nat, Via E k q p c ∧ b = (c : Int) := by
  rcases h with ⟨h, _⟩ | ⟨d, h, e, _⟩
  · exact .inl h
  · exact .inr ⟨d, h.1, e⟩
theorem LstV.bd {k q p : Nat} {b : Int} (h : LstV E k q p b) (hk : k ≤ 60) : 0 ≤ b ∧ (b = noneI ∨ b ≤ 61000000000) := by
  rcases h with ⟨h, _⟩ | ⟨d, h, e, hd⟩
  · exact ⟨by rw [h]; decide, .inl h⟩
  · have : (k + 1) * 1000000000 ≤ 61 * 1000000000 := Nat.mul_le_mul_right _ (by omega)
    exact ⟨by omega, .inr (by omega)⟩
/-- One state more between. -/
theorem LstV.step {k q p : Nat} {a b c : Int} (hW : ∀ x w y, E x w y → w ≤ 1000000000) (hk : k + 1 ≤ 60) (ha : LstV E k q p a) (hb : LstV E k q k b) (hc : LstV E k k p c) : LstV E (k + 1) q p (if b ≠ noneI ∧ c ≠ noneI ∧ b + c < a then b + c else a) := by
  have ba := ha.bd (by omega)
  have bb := hb.bd (by omega)
  have bc := hc.bd (by omega)
  refine LstV.mk hW ?_ (fun d hd => ?_) hk
  · by_cases h : b ≠ noneI ∧ c ≠ noneI ∧ b + c < a
    · rw [if_pos h]
      rcases hb.has with hb' | ⟨x, hx, rfl⟩
      · exact absurd hb' h.1
      rcases hc.has with hc' | ⟨y, hy, rfl⟩
      · exact absurd hc' h.2.1
      exact .inr ⟨x + y, hx.join hy, by omega⟩
    · rw [if_neg h]
      rcases ha.has with ha' | ⟨x, hx, rfl⟩
      · exact .inl ha'
      · exact .inr ⟨x, hx.mono (by omega), rfl⟩
  · rcases hd.split with h | ⟨c1, c2, h1, h2, h3⟩
    · have := ha.le h
      split <;> omega
    · have e1 := hb.le h1
      have e2 := hc.le h2
      by_cases h : b ≠ noneI ∧ c ≠ noneI ∧ b + c < a
      · rw [if_pos h]; omega
      · rw [if_neg h]
        rcases hb.has with hb' | ⟨x, hx, hbx⟩
        · rcases hb with ⟨_, hn⟩ | ⟨y, hy, hye, hyb⟩
          · exact absurd h1 (hn _)
          · rw [hye] at hb'; have : (k + 1) * 1000000000 ≤ 61 * 1000000000 := Nat.mul_le_mul_right _ (by omega)
            unfold noneI at hb'; omega
        rcases hc with ⟨_, hn⟩ | ⟨y, hy, hye, hyb⟩
        · exact absurd h2 (hn _)
        · have hcn : c ≠ noneI := by
            have : (k + 1) * 1000000000 ≤ 61 * 1000000000 := Nat.mul_le_mul_right _ (by omega)
            unfold noneI; omega
          have hbn : b ≠ noneI := by
            rcases hb with ⟨_, hn⟩ | ⟨y', hy', hye', hyb'⟩
            · exact absurd h1 (hn _)
            · have : (k + 1) * 1000000000 ≤ 61 * 1000000000 := Nat.mul_le_mul_right _ (by omega)
              unfold noneI; omega
          have : ¬ b + c < a := fun g => h ⟨hbn, hcn, g⟩
          omega
theorem LstV.colK {k q : Nat} {b : Int} (hW : ∀ x w y, E x w y → w ≤ 1000000000) (hk : k + 1 ≤ 60) (h : LstV E (k + 1) q k b) : LstV E k q k b := by
  refine LstV.mk hW ?_ (fun c hc => h.le (hc.mono (by omega))) (by omega)
  rcases h.has with h' | ⟨c, hc, rfl⟩
  · exact .inl h'
  · refine .inr ⟨c, ?_, rfl⟩
    rcases hc.split with g | ⟨c1, c2, h1, h2, h3⟩
    · exact g
    · have := h.le (h1.mono (show k ≤ k + 1 by omega))
      have e : c1 = c := by omega
      rw [← e]; exact h1
theorem LstV.rowK {k p : Nat} {b : Int} (hW : ∀ x w y, E x w y → w ≤ 1000000000) (hk : k + 1 ≤ 60) (h : LstV E (k + 1) k p b) : LstV E k k p b := by
  refine LstV.mk hW ?_ (fun c hc => h.le (hc.mono (by omega))) (by omega)
  rcases h.has with h' | ⟨c, hc, rfl⟩
  · exact .inl h'
  · refine .inr ⟨c, ?_, rfl⟩
    rcases hc.split with g | ⟨c1, c2, h1, h2, h3⟩
    · exact g
    · have := h.le (h2.mono (show k ≤ k + 1 by omega))
      have e : c2 = c := by omega
      rw [← e]; exact h2
end
end Go.Proofs.Yteaafghmkkejfaa.Pl
namespace Go.Proofs.Yteaafghmkkejfaa.Pl
section
variable {α : Type} [Inhabited α]
theorem el_set {l : List α} {q j : Nat} {s : α} (hj : j < l.length) : el (l.set q s) j = if q = j then s else el l j := by
  rw [el_get (by simpa using hj), el_get hj, List.getElem_set]
theorem all_set_same {l : List α} {q : Nat} {s : α} {p : α → Bool} (h : q < l.length) (hp : p s = p (el l q)) : (l.set q s).all p = l.all p := by
  rw [Bool.eq_iff_iff, List.all_eq_true, List.all_eq_true]
  constructor
  · intro g a ha
    obtain ⟨j, hj, rfl⟩ := mem_el ha
    have h1 := g _ (el_mem (l := l.set q s) (j := j) (by simpa using hj))
    rw [el_set hj] at h1
    split at h1
    · rename_i e; subst e; rw [← hp]; exact h1
    · exact h1
  · intro g a ha
    obtain ⟨j, hj, rfl⟩ := mem_el ha
    have hj' : j < l.length := by simpa using hj
    rw [el_set hj']
    split
    · rename_i e; subst e; rw [hp]; exact g _ (el_mem h)
    · exact g _ (el_mem hj')
theorem all_set_false {l : List α} {q : Nat} {s : α} {p : α → Bool} (h : q < l.length) (hp : p s = false) : (l.set q s).all p = false :=
  all_false_el (k := q) (by simpa using h) (by rw [el_set h, if_pos rfl]; exact hp)
end
theorem arcN_set {l : List St} {q : Nat} {s : St} (h : q < l.length) : arcN (l.set q s) + (el l q).2.length = arcN l + s.2.length := by
  induction l generalizing q with
  | nil => simp at h
  | cons t l ih =>
    cases q with
    | zero => rw [el_zero]; simp [arcN]; omega
    | succ q => rw [el_succ]; have := ih (q := q) (by simpa using h); simp [arcN]; omega
/-- One state with one arc more that may be: still a right machine, if there is room. -/
theorem right_set {z : Int} {l : List St} {q : Nat} {b : Ar} (h : faultM (z, l) = 0) (hq : q < l.length) (hb : arcB l.length b = true) (hroom : arcN l + 1 ≤ 400) : faultM (z, l.set q ((el l q).1, (el l q).2 ++ [b])) = 0 := by
  obtain ⟨h1, h2⟩ := faultM_zero h
  refine faultM_ok ?_ ?_
  · have h3 := arcN_set (s := ((el l q).1, (el l q).2 ++ [b])) hq
    simp only [List.length_append, List.length_cons, List.length_nil] at h3
    simp only [sizeB, Bool.and_eq_true, decide_eq_true_eq, List.length_set] at h1 ⊢
    omega
  · simp only [rangeB, Bool.and_eq_true, List.length_set] at h2 ⊢
    refine ⟨h2.1, ?_⟩
    rw [all_set_same hq]
    · exact h2.2
    · have h4 : stB l.length (el l q) = true := List.all_eq_true.1 h2.2 _ (el_mem hq)
      rw [h4]
      simp only [stB, Bool.and_eq_true, List.all_append, List.all_cons, List.all_nil, Bool.and_true] at h4 ⊢
      exact ⟨h4.1, h4.2, hb⟩
theorem once_twice {l : List Ar} (h : 0 < l.length) : onceB (l ++ [el l 0]) = false := by
  rcases bool_cases' (onceB (l ++ [el l 0])) with g | g
  · have h1 := onceB_iff.1 g l.length (by simp) 0 h
    rw [el_last, el_left h] at h1
    have h2 : pairB (el l 0) (el l 0) = true := pairB_iff.2 ⟨rfl, rfl⟩
    rw [h2] at h1; cases h1
  · exact g
theorem all_again {l : List Ar} (p : Ar → Bool) (h : 0 < l.length) : (l ++ [el l 0]).all p = l.all p := by
  simp only [List.all_append, List.all_cons, List.all_nil, Bool.and_true]
  rcases bool_cases' (l.all p) with g | g
  · rw [g, List.all_eq_true.1 g _ (el_mem h)]; rfl
  · rw [g]; rfl
end Go.Proofs.Yteaafghmkkejfaa.Pl
namespace Go.Proofs.Yteaafghmkkejfaa.Pl
set_option linter.unusedVariables false
set_option linter.unusedSimpArgs false
def empA (a : Ar) : Bool := decide (a.1 = 0) && decide (a.2.1 = 0)
theorem empA_iff {a : Ar} : empA a = true ↔ a.1 = 0 ∧ a.2.1 = 0 := by simp [empA]
def EmpE (l : List St) (k w j : Nat) : Prop := ∃ a ∈ (el l k).2, empA a = true ∧ a.2.2.2 = (j : Int) ∧ w = a.2.2.1.toNat
def HopC (l : List St) (q p c : Nat) : Prop := ∃ n, Run (EmpE l) q n p c
/-- What the least hops cost. -/
def HopT (m : Mc) (H : Nat → Nat → Int) : Prop := ∀ q p, q < m.2.length → p < m.2.length → TldQ (HopC m.2 q p) (H q p)
theorem emp_arc {l : List St} {k w j : Nat} (h : EmpE l k w j) : ArcE l k w j := by
  obtain ⟨a, h1, _, h2, h3⟩ := h
  exact ⟨a, h1, h2, h3⟩
theorem emp_small {m : Mc} (h : faultM m = 0) {k w j : Nat} (e : EmpE m.2 k w j) : j < m.2.length ∧ w ≤ 1000000000 := arcE_small h (emp_arc e)
theorem LstV.told {m : Mc} (h : faultM m = 0) {q p : Nat} {b : Int} (hb : LstV (EmpE m.2) m.2.length q p b) : TldQ (HopC m.2 q p) b := by
  have h60 := (right_size (z := m.1) (l := m.2) h).1
  have e1 : ∀ c, HopC m.2 q p c → Via (EmpE m.2) m.2.length q p c := fun c ⟨n, hn⟩ => run_via (fun k w j e => (emp_small h e).1) hn
  rcases hb with ⟨rfl, hb⟩ | ⟨c, hc, rfl, hl⟩
  · exact .inl ⟨rfl, fun c hc => hb c (e1 c hc)⟩
  · have : (m.2.length + 1) * 1000000000 ≤ 61 * 1000000000 := Nat.mul_le_mul_right _ (by omega)
    exact .inr ⟨c, ⟨hc.1.run, fun d hd => hc.2 d (e1 d hd)⟩, rfl, by omega⟩
theorem TldQ.one {P : Nat → Prop} {a b : Int} (h : TldQ P a) (g : TldQ P b) : a = b := by
  rcases h with ⟨rfl, h⟩ | ⟨c, h, rfl, _⟩ <;> rcases g with ⟨rfl, g⟩ | ⟨d, g, rfl, _⟩
  · rfl
  · exact absurd g.1 (h _)
  · exact absurd h.1 (g _)
  · rw [h.one g]
theorem least_of {P : Nat → Prop} {c : Nat} (h : P c) : ∃ d, LeastP P d := by
  induction c using Nat.strongRecOn with
  | _ c ih =>
    by_cases g : ∃ d, d < c ∧ P d
    · obtain ⟨d, h1, h2⟩ := g
      exact ih d h1 h2
    · exact ⟨c, h, fun d hd => by
        rcases Nat.lt_or_ge d c with h1 | h1
        · exact absurd ⟨d, h1, hd⟩ g
        · exact h1⟩
theorem hop_told {m : Mc} (h : faultM m = 0) (q p : Nat) : ∃ b, TldQ (HopC m.2 q p) b := by
  have h60 := (right_size (z := m.1) (l := m.2) h).1
  by_cases g : ∃ c, HopC m.2 q p c
  · obtain ⟨c, hc⟩ := g
    obtain ⟨d, hd⟩ := least_of hc
    obtain ⟨n, hn⟩ := hd.1
    obtain ⟨d', _, h2, h3⟩ := (run_via (fun k w j e => (emp_small h e).1) hn).cheap (W := 1000000000) (fun x w y e => (emp_small h e).2)
    have h4 := hd.2 d' h3.run
    have : (m.2.length + 1) * 1000000000 ≤ 61 * 1000000000 := Nat.mul_le_mul_right _ (by omega)
    exact ⟨(d : Int), .inr ⟨d, hd, rfl, by omega⟩⟩
  · exact ⟨noneI, .inl ⟨rfl, fun c hc => g ⟨c, hc⟩⟩⟩
theorem hopT_exists {m : Mc} (h : faultM m = 0) : ∃ H, HopT m H := ⟨fun q p => Classical.choose (hop_told h q p), fun q p _ _ => Classical.choose_spec (hop_told h q p)⟩
theorem TldQ.bd {P : Nat → Prop} {b : Int} (h : TldQ P b) : 0 ≤ b ∧ (b = noneI ∨ b ≤ 100000000000) := by
  rcases h with ⟨rfl, _⟩ | ⟨c, _, rfl, hc⟩
  · exact ⟨by decide, .inl rfl⟩
  · exact ⟨by omega, .inr (by omega)⟩
/-- A row behind j arcs of its state. -/
def RowI (l : List St) (q j : Nat) (row : List Int) : Prop := row.length = l.length ∧ ∀ p, p < l.length → (el row p = noneI ∨ ∃ c : Nat, Via (EmpE l) 0 q p c ∧ el row p = (c : Int)) ∧ (q = p → el row p ≤ 0) ∧ ∀ i, i < j → empA (el (el l q).2 i) = true → (el (el l q).2 i).2.2.2 = (p : Int) → el row p ≤ (el (el l q).2 i).2.2.1
theorem rowI_start {l : List St} {q : Nat} (hq : q < l.length) : RowI l q 0 ((List.replicate l.length noneI).set q 0) := by
  refine ⟨by simp, fun p hp => ?_⟩
  rw [el_set (by simpa using hp)]
  by_cases e : q = p
  · subst e
    rw [if_pos rfl]
    exact ⟨.inr ⟨0, .nil q, rfl⟩, fun _ => Int.le_refl _, fun i hi => by omega⟩
  · rw [if_neg e, el_replicateT hp]
    exact ⟨.inl rfl, fun h => absurd h e, fun i hi => by omega⟩
theorem rowI_skip {l : List St} {q j : Nat} {row : List Int} (h : RowI l q j row) (hn : empA (el (el l q).2 j) = false ∨ ∀ p, p < l.length → (el (el l q).2 j).2.2.2 = (p : Int) → el row p ≤ (el (el l q).2 j).2.2.1) : RowI l q (j + 1) row := by
  refine ⟨h.1, fun p hp => ⟨(h.2 p hp).1, (h.2 p hp).2.1, fun i hi h1 h2 => ?_⟩⟩
  by_cases e : i = j
  · subst e
    rcases hn with hn | hn
    · rw [hn] at h1; cases h1
    · exact hn p hp h2
  · exact (h.2 p hp).2.2 i (by omega) h1 h2
theorem rowI_set {l : List St} {q j t : Nat} {row : List Int} (h : RowI l q j row) (hj : j < (el l q).2.length) (he : empA (el (el l q).2 j) = true) (ht : (el (el l q).2 j).2.2.2 = (t : Int)) (htl : t < l.length) (h0 : 0 ≤ (el (el l q).2 j).2.2.1) (hl : (el (el l q).2 j).2.2.1 < el row t) : RowI l q (j + 1) (row.set t (el (el l q).2 j).2.2.1) := by
  refine ⟨by rw [List.length_set]; exact h.1, fun p hp => ?_⟩
  rw [el_set (by rw [h.1]; exact hp)]
  by_cases e : t = p
  · subst e
    rw [if_pos rfl]
    refine ⟨.inr ⟨(el (el l q).2 j).2.2.1.toNat, .arc ⟨_, el_mem hj, he, ht, rfl⟩, by omega⟩, fun hq => ?_, fun i hi h1 h2 => ?_⟩
    · have := (h.2 t hp).2.1 hq; omega
    · by_cases ei : i = j
      · subst ei; exact Int.le_refl _
      · have := (h.2 t hp).2.2 i (by omega) h1 h2; omega
  · rw [if_neg e]
    refine ⟨(h.2 p hp).1, (h.2 p hp).2.1, fun i hi h1 h2 => ?_⟩
    by_cases ei : i = j
    · subst ei; rw [ht] at h2; omega
    · exact (h.2 p hp).2.2 i (by omega) h1 h2
theorem rowI_end {m : Mc} (hr : faultM m = 0) {q : Nat} {row : List Int} (h : RowI m.2 q (el m.2 q).2.length row) {p : Nat} (hp : p < m.2.length) (hq : q < m.2.length) : LstV (EmpE m.2) 0 q p (el row p) := by
  refine LstV.mk (fun x w y e => (emp_small hr e).2) (h.2 p hp).1 (fun c hc => ?_) (by omega)
  cases hc with
  | nil => exact (h.2 _ hp).2.1 rfl
  | arc e =>
    obtain ⟨a, ha, he, ht, hw⟩ := e
    obtain ⟨i, hi, rfl⟩ := List.getElem_of_mem ha
    rw [← el_get hi] at he ht hw
    have h1 := (h.2 p hp).2.2 i hi he ht
    have h3 := (right_parts hr).2 (el m.2 q) (el_mem hq)
    simp only [stB, Bool.and_eq_true, List.all_eq_true] at h3
    have h4 := h3.2 _ (el_mem hi)
    simp only [arcB, inB, Bool.and_eq_true, decide_eq_true_eq] at h4
    omega
  | step e hj _ => omega
/-- The table in round k, ahead of place q, p. -/
def FwQ (l : List St) (k q p : Nat) (d : List (List Int)) : Prop := d.length = l.length ∧ (∀ q', q' < l.length → (el d q').length = l.length) ∧ ∀ q' p', q' < l.length → p' < l.length → LstV (EmpE l) (if q' < q ∨ (q' = q ∧ p' < p) then k + 1 else k) q' p' (el (el d q') p')
theorem fw_row {l : List St} {k q : Nat} {d : List (List Int)} (h : FwQ l k q l.length d) : FwQ l k (q + 1) 0 d := by
  refine ⟨h.1, h.2.1, fun q' p' h1 h2 => ?_⟩
  have h3 := h.2.2 q' p' h1 h2
  by_cases e : q' < q ∨ (q' = q ∧ p' < l.length)
  · rw [if_pos e] at h3; rw [if_pos (by omega)]; exact h3
  · rw [if_neg e] at h3; rw [if_neg (by omega)]; exact h3
theorem fw_round {l : List St} {k : Nat} {d : List (List Int)} (h : FwQ l k l.length 0 d) : FwQ l (k + 1) 0 0 d := by
  refine ⟨h.1, h.2.1, fun q' p' h1 h2 => ?_⟩
  have h3 := h.2.2 q' p' h1 h2
  rw [if_pos (.inl h1)] at h3
  rw [if_neg (by omega)]
  exact h3
theorem fw_end {m : Mc} (hr : faultM m = 0) {d : List (List Int)} (h : FwQ m.2 m.2.length 0 0 d) : HopT m (fun q p => el (el d q) p) := fun q p hq hp => by
  have h3 := h.2.2 q p hq hp
  rw [if_neg (by omega)] at h3
  exact h3.told hr
theorem FwQ.at {m : Mc} (hr : faultM m = 0) {k q p : Nat} {d : List (List Int)} (h : FwQ m.2 k q p d) (hk : k < m.2.length) (hq : q < m.2.length) (hp : p < m.2.length) : LstV (EmpE m.2) k q p (el (el d q) p) ∧ LstV (EmpE m.2) k q k (el (el d q) k) ∧ LstV (EmpE m.2) k k p (el (el d k) p) := by
  have h60 := (right_size (z := m.1) (l := m.2) hr).1
  have hW : ∀ x w y, EmpE m.2 x w y → w ≤ 1000000000 := fun x w y e => (emp_small hr e).2
  refine ⟨?_, ?_, ?_⟩
  · have h3 := h.2.2 q p hq hp
    rw [if_neg (by omega)] at h3; exact h3
  · have h3 := h.2.2 q k hq hk
    by_cases e : q < q ∨ (q = q ∧ k < p)
    · rw [if_pos e] at h3; exact h3.colK hW (by omega)
    · rw [if_neg e] at h3; exact h3
  · have h3 := h.2.2 k p hk hp
    by_cases e : k < q ∨ (k = q ∧ p < p)
    · rw [if_pos e] at h3; exact h3.rowK hW (by omega)
    · rw [if_neg e] at h3; exact h3
theorem FwQ.bd {m : Mc} (hr : faultM m = 0) {k q p : Nat} {d : List (List Int)} (h : FwQ m.2 k q p d) (hk : k < m.2.length) {q' p' : Nat} (hq : q' < m.2.length) (hp : p' < m.2.length) : 0 ≤ el (el d q') p' ∧ (el (el d q') p' = noneI ∨ el (el d q') p' ≤ 61000000000) := by
  have h60 := (right_size (z := m.1) (l := m.2) hr).1
  exact (h.2.2 q' p' hq hp).bd (by split <;> omega)
def putD (d : List (List Int)) (q p : Nat) (v : Int) : List (List Int) := d.set q ((el d q).set p v)
theorem fw_same {m : Mc} (hr : faultM m = 0) {k q p : Nat} {d : List (List Int)} (h : FwQ m.2 k q p d) (hk : k < m.2.length) (hq : q < m.2.length) (hp : p < m.2.length) (hn : ¬ (el (el d q) k ≠ noneI ∧ el (el d k) p ≠ noneI ∧ el (el d q) k + el (el d k) p < el (el d q) p)) : FwQ m.2 k q (p + 1) d := by
  have h60 := (right_size (z := m.1) (l := m.2) hr).1
  obtain ⟨a, b, c⟩ := h.at hr hk hq hp
  have s := LstV.step (fun x w y e => (emp_small hr e).2) (by omega) a b c
  rw [if_neg hn] at s
  refine ⟨h.1, h.2.1, fun q' p' h1 h2 => ?_⟩
  by_cases e : q' = q ∧ p' = p
  · obtain ⟨rfl, rfl⟩ := e
    rw [if_pos (.inr ⟨rfl, by omega⟩)]; exact s
  · have h3 := h.2.2 q' p' h1 h2
    by_cases e2 : q' < q ∨ (q' = q ∧ p' < p)
    · rw [if_pos e2] at h3; rw [if_pos (by omega)]; exact h3
    · rw [if_neg e2] at h3; rw [if_neg (by omega)]; exact h3
theorem fw_less {m : Mc} (hr : faultM m = 0) {k q p : Nat} {d : List (List Int)} (h : FwQ m.2 k q p d) (hk : k < m.2.length) (hq : q < m.2.length) (hp : p < m.2.length) (hn : el (el d q) k ≠ noneI ∧ el (el d k) p ≠ noneI ∧ el (el d q) k + el (el d k) p < el (el d q) p) : FwQ m.2 k q (p + 1) (putD d q p (el (el d q) k + el (el d k) p)) := by
  have h60 := (right_size (z := m.1) (l := m.2) hr).1
  obtain ⟨a, b, c⟩ := h.at hr hk hq hp
  have s := LstV.step (fun x w y e => (emp_small hr e).2) (by omega) a b c
  rw [if_pos hn] at s
  unfold putD
  refine ⟨by rw [List.length_set]; exact h.1, fun q' hq' => ?_, fun q' p' h1 h2 => ?_⟩
  · rw [el_set (by rw [h.1]; exact hq')]
    split
    · rw [List.length_set]; exact h.2.1 q hq
    · exact h.2.1 q' hq'
  · rw [el_set (by rw [h.1]; exact h1)]
    by_cases eq : q = q'
    · subst eq
      rw [if_pos rfl, el_set (by rw [h.2.1 q hq]; exact h2)]
      by_cases ep : p = p'
      · subst ep
        rw [if_pos rfl, if_pos (.inr ⟨rfl, by omega⟩)]; exact s
      · rw [if_neg ep]
        have h3 := h.2.2 q p' h1 h2
        by_cases e2 : q < q ∨ (q = q ∧ p' < p)
        · rw [if_pos e2] at h3; rw [if_pos (by omega)]; exact h3
        · rw [if_neg e2] at h3; rw [if_neg (by omega)]; exact h3
    · rw [if_neg eq]
      have h3 := h.2.2 q' p' h1 h2
      by_cases e2 : q' < q ∨ (q' = q ∧ p' < p)
      · rw [if_pos e2] at h3; rw [if_pos (by omega)]; exact h3
      · rw [if_neg e2] at h3; rw [if_neg (by omega)]; exact h3
/-- Rows that are all there. -/
def RowsT (l : List St) (q : Nat) (d : List (List Int)) : Prop := d.length = q ∧ ∀ q', q' < q → RowI l q' (el l q').2.length (el d q')
theorem rowsT_snoc {l : List St} {q : Nat} {d : List (List Int)} {row : List Int} (h : RowsT l q d) (hr : RowI l q (el l q).2.length row) : RowsT l (q + 1) (d ++ [row]) := by
  refine ⟨by simp [h.1], fun q' hq' => ?_⟩
  by_cases e : q' < q
  · rw [el_left (by rw [h.1]; exact e)]; exact h.2 q' e
  · obtain rfl : q' = q := by omega
    rw [← h.1, el_last, h.1]; exact hr
theorem fw_start {m : Mc} (hr : faultM m = 0) {d : List (List Int)} (h : RowsT m.2 m.2.length d) : FwQ m.2 0 0 0 d := by
  refine ⟨h.1, fun q' hq' => (h.2 q' hq').1, fun q' p' h1 h2 => ?_⟩
  rw [if_neg (by omega)]
  exact rowI_end hr (h.2 q' h1) h2 h1
end Go.Proofs.Yteaafghmkkejfaa.Pl
namespace Go.Proofs.Yteaafghmkkejfaa.Pl
set_option linter.unusedVariables false
set_option linter.unusedSimpArgs false
def hwA (c : Int) (a : Ar) : Ar := (a.1, a.2.1, c + a.2.2.1, a.2.2.2)
def remFin (H : Nat → Nat → Int) (l : List St) (q : Nat) : Nat → Int
  | 0 => noneI
  | p + 1 => if H q p ≠ noneI ∧ (el l p).1 ≠ 1000000001 ∧ H q p + (el l p).1 < remFin H l q p then H q p + (el l p).1 else remFin H l q p
def remOf (c : Int) (ar : List Ar) : List Ar := (ar.filter fun a => !empA a).map (hwA c)
def remArc (H : Nat → Nat → Int) (l : List St) (q : Nat) : Nat → List Ar
  | 0 => []
  | p + 1 => remArc H l q p ++ (if H q p = noneI then [] else remOf (H q p) (el l p).2)
def remL (H : Nat → Nat → Int) (l : List St) (q : Nat) : List Ar := lightL (sortS false (remArc H l q l.length))
def remS (H : Nat → Nat → Int) (l : List St) (q : Nat) : St := (tldN (remFin H l q l.length), remL H l q)
def bigA (a : Ar) : Bool := decide (1000000000 < a.2.2.1)
def ovB (H : Nat → Nat → Int) (l : List St) (q : Nat) : Bool := decide (tldE (remFin H l q l.length) ≠ 0) || (remL H l q).any bigA
def ovTo (H : Nat → Nat → Int) (l : List St) : Nat → Bool
  | 0 => false
  | q + 1 => ovTo H l q || ovB H l q
def remM (H : Nat → Nat → Int) (m : Mc) : Mc := (m.1, (List.range m.2.length).map (remS H m.2))
/-- What is answered. -/
def remR (H : Nat → Nat → Int) (m : Mc) : Mc := if faultM m ≠ 0 then (0, []) else if ovTo H m.2 m.2.length = true then (0, []) else fitM (remM H m)
def remE (H : Nat → Nat → Int) (m : Mc) : Int := if faultM m ≠ 0 then faultM m else if ovTo H m.2 m.2.length = true then 4 else fitE (remM H m)
theorem remOf_take {c : Int} {ar : List Ar} {i : Nat} (h : i < ar.length) : remOf c (ar.take (i + 1)) = remOf c (ar.take i) ++ (if empA (el ar i) = true then [] else [hwA c (el ar i)]) := by
  unfold remOf
  rw [take_el h, List.filter_append, List.map_append]
  congr 1
  cases hb : empA (el ar i) <;> simp [hb]
theorem remOf_le (c : Int) (ar : List Ar) : (remOf c ar).length ≤ ar.length := by
  unfold remOf
  rw [List.length_map]
  exact List.length_filter_le _ _
theorem remArc_le (H : Nat → Nat → Int) (l : List St) (q : Nat) : ∀ p, p ≤ l.length → (remArc H l q p).length ≤ arcN (l.take p)
  | 0, _ => by simp [remArc]
  | p + 1, h => by
    have h1 := remArc_le H l q p (by omega)
    have h2 := remOf_le (H q p) (el l p).2
    have h3 := arcN_take (show p < l.length by omega)
    simp only [remArc, List.length_append]
    split <;> simp <;> omega
theorem remL_le (H : Nat → Nat → Int) (l : List St) (q : Nat) : (remL H l q).length ≤ arcN l := by
  have h1 := lightL_le (sortS false (remArc H l q l.length))
  have h2 := sortS_length false (remArc H l q l.length)
  have h3 := remArc_le H l q l.length (Nat.le_refl _)
  rw [List.take_length] at h3
  unfold remL
  omega
theorem remFin_congr {H K : Nat → Nat → Int} {l : List St} {q : Nat} : ∀ {p : Nat}, (∀ p', p' < p → H q p' = K q p') → remFin H l q p = remFin K l q p
  | 0, _ => rfl
  | p + 1, h => by
    have h1 := remFin_congr (l := l) (p := p) (fun p' hp => h p' (by omega))
    simp only [remFin]
    rw [h p (by omega), h1]
theorem remArc_congr {H K : Nat → Nat → Int} {l : List St} {q : Nat} : ∀ {p : Nat}, (∀ p', p' < p → H q p' = K q p') → remArc H l q p = remArc K l q p
  | 0, _ => rfl
  | p + 1, h => by
    have h1 := remArc_congr (l := l) (p := p) (fun p' hp => h p' (by omega))
    simp only [remArc]
    rw [h p (by omega), h1]
theorem remS_congr {H K : Nat → Nat → Int} {l : List St} {q : Nat} (h : ∀ p, p < l.length → H q p = K q p) : remS H l q = remS K l q ∧ ovB H l q = ovB K l q := by
  unfold remS ovB remL
  rw [remFin_congr h, remArc_congr h]
  exact ⟨rfl, rfl⟩
theorem ovTo_congr {H K : Nat → Nat → Int} {l : List St} : ∀ {n : Nat}, n ≤ l.length → (∀ q p, q < l.length → p < l.length → H q p = K q p) → ovTo H l n = ovTo K l n
  | 0, _, _ => rfl
  | n + 1, hn, h => by
    simp only [ovTo]
    rw [ovTo_congr (n := n) (by omega) h, (remS_congr (fun p hp => h n p (by omega) hp)).2]
/-- There is but one table, so but one answer. -/
theorem rem_one {m : Mc} {H K : Nat → Nat → Int} (h : faultM m = 0 → HopT m H) (k : faultM m = 0 → HopT m K) : remR H m = remR K m ∧ remE H m = remE K m := by
  unfold remR remE
  by_cases h0 : faultM m = 0
  · have e : ∀ q p, q < m.2.length → p < m.2.length → H q p = K q p := fun q p hq hp => (h h0 q p hq hp).one (k h0 q p hq hp)
    have e1 : remM H m = remM K m := by
      unfold remM
      refine congrArg (Prod.mk m.1) (List.map_congr_left fun q hq => ?_)
      exact (remS_congr (fun p hp => e q p (by simpa using hq) hp)).1
    rw [ovTo_congr (Nat.le_refl _) e, e1]
    exact ⟨rfl, rfl⟩
  · rw [if_pos h0, if_pos h0, if_pos h0, if_pos h0]
    exact ⟨rfl, rfl⟩
theorem rem_len (H : Nat → Nat → Int) (m : Mc) : (remM H m).2.length = m.2.length := by simp [remM]
theorem rem_el (H : Nat → Nat → Int) (m : Mc) {q : Nat} (hq : q < m.2.length) : el (remM H m).2 q = remS H m.2 q := el_range_map _ hq
theorem rem_each {H : Nat → Nat → Int} {m : Mc} (h : faultM m = 0) : okM (remM H m) := by
  have h1 := (right_size (z := m.1) (l := m.2) h).1
  have h2 := (right_size (z := m.1) (l := m.2) h).2
  refine ⟨by rw [rem_len]; omega, fun j hj => ?_⟩
  rw [rem_len] at hj
  rw [rem_el H m hj]
  have := remL_le H m.2 j
  show (remL H m.2 j).length * 32 ≤ _
  omega
theorem remR_ok (H : Nat → Nat → Int) (m : Mc) : okM (remR H m) := by
  have hz : okM (0, []) := ⟨by simp, fun j hj => absurd hj (by simp)⟩
  unfold remR fitM
  split
  · exact hz
  · split
    · exact hz
    · split
      · rename_i h
        simp only [sizeB, Bool.and_eq_true, decide_eq_true_eq] at h
        exact small_ok (by omega) (by omega)
      · exact hz
theorem remS_snoc (H : Nat → Nat → Int) (l : List St) (q : Nat) : (List.range (q + 1)).map (remS H l) = (List.range q).map (remS H l) ++ [remS H l q] := by rw [List.range_succ, List.map_append]; rfl
theorem any_take {l : List Ar} {i : Nat} (h : i < l.length) (f : Ar → Bool) : (l.take (i + 1)).any f = ((l.take i).any f || f (el l i)) := by rw [take_el h]; simp
end Go.Proofs.Yteaafghmkkejfaa.Pl
namespace Go.Proofs.Yteaafghmkkejfaa.Pl
set_option linter.unusedVariables false
set_option linter.unusedSimpArgs false
theorem hop_way {l : List St} {q p n c : Nat} (h : Run (EmpE l) q n p c) : Way l q [] [] p c := by
  induction h with
  | nil => exact .nil
  | step h e ih =>
    obtain ⟨a, ha, he, ht, rfl⟩ := e
    obtain ⟨h1, h2⟩ := empA_iff.1 he
    have := Way.snoc ih ha ht
    simpa [lab, h1, h2] using this
theorem mem_remArc {H : Nat → Nat → Int} {l : List St} {q : Nat} {x : Ar} : ∀ {k : Nat}, x ∈ remArc H l q k → ∃ p, p < k ∧ H q p ≠ noneI ∧ ∃ a ∈ (el l p).2, empA a = false ∧ x = hwA (H q p) a
  | 0, h => by simp [remArc] at h
  | k + 1, h => by
    simp only [remArc, List.mem_append] at h
    rcases h with h | h
    · obtain ⟨p, hp, g⟩ := mem_remArc h
      exact ⟨p, by omega, g⟩
    · by_cases hn : H q k = noneI
      · rw [if_pos hn] at h; simp at h
      · rw [if_neg hn] at h
        unfold remOf at h
        simp only [List.mem_map, List.mem_filter] at h
        obtain ⟨a, ⟨ha, he⟩, rfl⟩ := h
        exact ⟨k, by omega, hn, a, ha, by simpa using he, rfl⟩
theorem remArc_mem {H : Nat → Nat → Int} {l : List St} {q p : Nat} {a : Ar} (hn : H q p ≠ noneI) (ha : a ∈ (el l p).2) (he : empA a = false) : ∀ {k : Nat}, p < k → hwA (H q p) a ∈ remArc H l q k
  | 0, h => by omega
  | k + 1, h => by
    simp only [remArc, List.mem_append]
    by_cases e : p = k
    · subst e
      right
      rw [if_neg hn]
      unfold remOf
      simp only [List.mem_map, List.mem_filter]
      exact ⟨a, ⟨ha, by simp [he]⟩, rfl⟩
    · exact .inl (remArc_mem hn ha he (by omega))
theorem light_some {l : List Ar} {x : Ar} (h : x ∈ l) : ∃ y ∈ lightL (sortS false l), lessB y x = true := by
  have h1 := light_count h
  have h2 : 0 < (lightL (sortS false l)).countP (fun y => lessB y x) := by omega
  rw [List.countP_pos_iff] at h2
  exact h2
theorem TldQ.get {P : Nat → Prop} {b : Int} (h : TldQ P b) (hn : b ≠ noneI) : ∃ c : Nat, P c ∧ b = (c : Int) := by
  rcases h with ⟨g, _⟩ | ⟨c, hc, e, _⟩
  · exact absurd g hn
  · exact ⟨c, hc.1, e⟩
theorem TldQ.le {P : Nat → Prop} {b : Int} (h : TldQ P b) {c : Nat} (hc : P c) : b ≠ noneI ∧ b ≤ (c : Int) := by
  rcases h with ⟨_, g⟩ | ⟨d, hd, rfl, hl⟩
  · exact absurd hc (g c)
  · have := hd.2 c hc
    exact ⟨by unfold noneI; omega, by omega⟩
/-- The ends, too. -/
theorem remFin_has {H : Nat → Nat → Int} {l : List St} {q : Nat} : ∀ k, remFin H l q k = noneI ∨ ∃ p, p < k ∧ H q p ≠ noneI ∧ (el l p).1 ≠ 1000000001 ∧ remFin H l q k = H q p + (el l p).1
  | 0 => .inl rfl
  | k + 1 => by
    simp only [remFin]
    split
    · rename_i h
      exact .inr ⟨k, by omega, h.1, h.2.1, rfl⟩
    · rcases remFin_has (H := H) (l := l) (q := q) k with h | ⟨p, hp, h⟩
      · exact .inl h
      · exact .inr ⟨p, by omega, h⟩
theorem remFin_le {H : Nat → Nat → Int} {l : List St} {q p : Nat} (hn : H q p ≠ noneI) (hf : (el l p).1 ≠ 1000000001) : ∀ {k : Nat}, p < k → remFin H l q k ≤ H q p + (el l p).1
  | 0, h => by omega
  | k + 1, h => by
    simp only [remFin]
    by_cases e : p = k
    · subst e
      split
      · exact Int.le_refl _
      · rename_i g
        have : ¬ H q p + (el l p).1 < remFin H l q p := fun x => g ⟨hn, hf, x⟩
        omega
    · have := remFin_le (H := H) (l := l) (q := q) hn hf (k := k) (by omega)
      split
      · rename_i g; omega
      · exact this
theorem rem_way {m : Mc} (hr : faultM m = 0) {H : Nat → Nat → Int} (hH : HopT m H) {q : Nat} (hq : q < m.2.length) {u v : List Int} {p c : Nat} (h : Way (remM H m).2 q u v p c) : Way m.2 q u v p c ∧ p < m.2.length := by
  induction h with
  | nil => exact ⟨.nil, hq⟩
  | @snoc u v p c h a ha t ht ih =>
    obtain ⟨ih, hp⟩ := ih
    rw [rem_el H m hp] at ha
    have ha := merge_sub _ _ ha
    obtain ⟨p', hp', hn, b, hb, he, rfl⟩ := mem_remArc ha
    obtain ⟨d, ⟨n, hd⟩, hde⟩ := (hH p p' hp hp').get hn
    have hw := (right_parts hr).2 (el m.2 p') (el_mem hp')
    simp only [stB, Bool.and_eq_true, List.all_eq_true] at hw
    have hw := hw.2 _ hb
    simp only [arcB, inB, Bool.and_eq_true, decide_eq_true_eq] at hw
    have h1 := Way.snoc (ih.trans (hop_way hd)) hb ht
    have e1 : (hwA (H p p') b).2.2.1.toNat = d + b.2.2.1.toNat := by
      show (H p p' + b.2.2.1).toNat = _
      rw [hde]; omega
    rw [List.append_nil, List.append_nil, Nat.add_assoc, ← e1] at h1
    refine ⟨h1, ?_⟩
    have : b.2.2.2 = (t : Int) := ht
    omega
theorem ov_none {H : Nat → Nat → Int} {l : List St} : ∀ {n : Nat}, ovTo H l n = false → ∀ q, q < n → ovB H l q = false
  | 0, _, q, hq => by omega
  | n + 1, h, q, hq => by
    simp only [ovTo, Bool.or_eq_false_iff] at h
    by_cases e : q = n
    · subst e; exact h.2
    · exact ov_none h.1 q (by omega)
theorem fin_told {H : Nat → Nat → Int} {l : List St} {q : Nat} (h : ovB H l q = false) : (remFin H l q l.length = noneI ∧ tldN (remFin H l q l.length) = 1000000001) ∨ (remFin H l q l.length ≠ noneI ∧ remFin H l q l.length ≤ 1000000000 ∧ tldN (remFin H l q l.length) = remFin H l q l.length) := by
  simp only [ovB, Bool.or_eq_false_iff, decide_eq_false_iff_not, Decidable.not_not] at h
  have h1 := h.1
  unfold tldE at h1
  unfold tldN
  by_cases e : remFin H l q l.length = noneI
  · exact .inl ⟨e, if_pos e⟩
  · rw [if_neg e] at h1
    by_cases g : 1000000000 < remFin H l q l.length
    · rw [if_pos g] at h1; cases h1
    · exact .inr ⟨e, by omega, by rw [if_neg e, if_neg g]⟩
/-- What costs something in it costs so in the machine. -/
theorem rem_costs {m : Mc} (hr : faultM m = 0) {H : Nat → Nat → Int} (hH : HopT m H) (hov : ovTo H m.2 m.2.length = false) {x y : List Int} {c : Nat} (h : Costs (remM H m) x y c) : Costs m x y c := by
  obtain ⟨hz, p, d, hw, hp, hf, rfl⟩ := h
  have hz' : 0 ≤ m.1 := hz
  obtain ⟨⟨hzl, hzu⟩, hst⟩ := right_parts hr
  have hq : m.1.toNat < m.2.length := by omega
  obtain ⟨h1, hp'⟩ := rem_way hr hH hq hw
  rw [rem_el H m hp'] at hf ⊢
  have hf' : tldN (remFin H m.2 p m.2.length) ≠ 1000000001 := hf
  show Costs m x y (d + (tldN (remFin H m.2 p m.2.length)).toNat)
  rcases fin_told (ov_none hov p hp') with ⟨_, e⟩ | ⟨e1, _, e2⟩
  · exact absurd e hf'
  · rw [e2]
    rcases remFin_has (H := H) (l := m.2) (q := p) m.2.length with g | ⟨p2, hp2, hn, hfi, hg⟩
    · exact absurd g e1
    · obtain ⟨e, ⟨n, he⟩, hee⟩ := (hH p p2 hp' hp2).get hn
      have h2 := h1.trans (hop_way he)
      rw [List.append_nil, List.append_nil] at h2
      have hb := stB_fin (hst (el m.2 p2) (el_mem hp2))
      simp only [finB, Bool.or_eq_true, inB, Bool.and_eq_true, decide_eq_true_eq, beq_iff_eq] at hb
      exact ⟨hz', p2, d + e, h2, hp2, hfi, by rw [hg, hee]; omega⟩
/-- What costs something costs no more in it. -/
theorem way_rem {m : Mc} (hr : faultM m = 0) {H : Nat → Nat → Int} (hH : HopT m H) {q : Nat} (hq : q < m.2.length) {u v : List Int} {p c : Nat} (h : Way m.2 q u v p c) : p < m.2.length ∧ ∃ q' d e, Way (remM H m).2 q u v q' d ∧ q' < m.2.length ∧ HopC m.2 q' p e ∧ d + e ≤ c := by
  induction h with
  | nil => exact ⟨hq, q, 0, 0, .nil, hq, ⟨0, .nil⟩, Nat.le_refl _⟩
  | @snoc u v p c h a ha t ht ih =>
    obtain ⟨hp, q', d, e, h1, hq', ⟨n, h2⟩, h3⟩ := ih
    have hw := (right_parts hr).2 (el m.2 p) (el_mem hp)
    simp only [stB, Bool.and_eq_true, List.all_eq_true] at hw
    have hw := hw.2 _ ha
    simp only [arcB, inB, Bool.and_eq_true, decide_eq_true_eq] at hw
    have htl : t < m.2.length := by omega
    refine ⟨htl, ?_⟩
    rcases Bool.eq_false_or_eq_true (empA a) with he | he
    · obtain ⟨e1, e2⟩ := empA_iff.1 he
      refine ⟨q', d, e + a.2.2.1.toNat, by simpa [lab, e1, e2] using h1, hq', ⟨n + 1, h2.step ⟨a, ha, he, ht, rfl⟩⟩, by omega⟩
    · obtain ⟨hn, hle⟩ := (hH q' p hq' hp).le ⟨n, h2⟩
      have hb0 := (hH q' p hq' hp).bd.1
      obtain ⟨b, hb, hl⟩ := light_some (remArc_mem (l := m.2) hn ha he hp)
      obtain ⟨l1, l2, l3, l4⟩ := less_iff.1 hl
      have hb' : b ∈ (el (remM H m).2 q').2 := by rw [rem_el H m hq']; exact hb
      have h4 := Way.snoc h1 hb' (t := t) (by rw [l3]; exact ht)
      rw [l1, l2] at h4
      refine ⟨t, _, 0, h4, htl, ⟨0, .nil⟩, ?_⟩
      have h5 : b.2.2.1 ≤ H q' p + a.2.2.1 := l4
      omega
theorem costs_rem {m : Mc} (hr : faultM m = 0) {H : Nat → Nat → Int} (hH : HopT m H) (hov : ovTo H m.2 m.2.length = false) {x y : List Int} {c : Nat} (h : Costs m x y c) : ∃ d, d ≤ c ∧ Costs (remM H m) x y d := by
  obtain ⟨hz, p, d, hw, hp, hf, rfl⟩ := h
  obtain ⟨⟨hzl, hzu⟩, hst⟩ := right_parts hr
  have hq : m.1.toNat < m.2.length := by omega
  obtain ⟨_, q', d', e, h1, hq', h2, h3⟩ := way_rem hr hH hq hw
  obtain ⟨hn, hle⟩ := (hH q' p hq' hp).le h2
  have hb0 := (hH q' p hq' hp).bd.1
  have h4 := remFin_le (H := H) (l := m.2) (q := q') hn hf hp
  have hb := stB_fin (hst (el m.2 p) (el_mem hp))
  simp only [finB, Bool.or_eq_true, inB, Bool.and_eq_true, decide_eq_true_eq, beq_iff_eq] at hb
  rcases fin_told (ov_none hov q' hq') with ⟨e1, _⟩ | ⟨e1, e2, e3⟩
  · rcases (hH q' p hq' hp).bd.2 with g | g
    · exact absurd g hn
    · rw [e1] at h4; unfold noneI at h4; omega
  · refine ⟨d' + (remFin H m.2 q' m.2.length).toNat, by omega, hz, q', d', h1, by rw [rem_len]; exact hq', ?_, ?_⟩
    · rw [rem_el H m hq']
      show tldN (remFin H m.2 q' m.2.length) ≠ 1000000001
      rw [e3]; omega
    · rw [rem_el H m hq']
      show _ = d' + (tldN (remFin H m.2 q' m.2.length)).toNat
      rw [e3]
/-- RemoveKeeps. -/
theorem rem_cst {m : Mc} (hr : faultM m = 0) {H : Nat → Nat → Int} (hH : HopT m H) (hov : ovTo H m.2 m.2.length = false) {x y : List Int} {a b : Int} (ha : CstIs (Costs m x y) a) (hb : CstIs (Costs (remM H m) x y) b) : b = a := hb.sub ha (fun c h => rem_costs hr hH hov h) (fun c h => costs_rem hr hH hov h)
end Go.Proofs.Yteaafghmkkejfaa.Pl
namespace Go.Proofs.Yteaafghmkkejfaa.Pl
set_option linter.unusedVariables false
set_option linter.unusedSimpArgs false
theorem rem_full {H : Nat → Nat → Int} {l : List St} {q : Nat} {a : Ar} (h : a ∈ remL H l q) : empA a = false := by
  obtain ⟨p, _, _, b, _, he, rfl⟩ := mem_remArc (merge_sub _ _ h)
  exact he
/-- No arc is empty. -/
def NoEmp (l : List St) : Prop := ∀ q, q < l.length → ∀ a ∈ (el l q).2, empA a = false
theorem rem_noEmp (H : Nat → Nat → Int) (m : Mc) : NoEmp (remM H m).2 := fun q hq a ha => by
  rw [rem_len] at hq
  rw [rem_el H m hq] at ha
  exact rem_full ha
theorem noEmp_run {l : List St} (h : NoEmp l) {q n p c : Nat} (hr : Run (EmpE l) q n p c) : p = q ∧ c = 0 := by
  induction hr with
  | nil => exact ⟨rfl, rfl⟩
  | step h1 e ih =>
    obtain ⟨a, ha, he, ht, hw⟩ := e
    obtain ⟨rfl, _⟩ := ih
    rw [h _ (arcE_in (l := l) ⟨a, ha, ht, hw⟩) a ha] at he
    cases he
theorem noEmp_hop {m : Mc} (h : NoEmp m.2) {H : Nat → Nat → Int} (hH : HopT m H) {q p : Nat} (hq : q < m.2.length) (hp : p < m.2.length) : H q p = if p = q then 0 else noneI := by
  refine (hH q p hq hp).one ?_
  by_cases e : p = q
  · subst e
    rw [if_pos rfl]
    exact .inr ⟨0, ⟨⟨0, .nil⟩, fun d _ => Nat.zero_le _⟩, rfl, by omega⟩
  · rw [if_neg e]
    exact .inl ⟨rfl, fun c ⟨n, hn⟩ => e (noEmp_run h hn).1⟩
/-- Weights below ten. -/
def NineL (l : List St) : Prop := ∀ s ∈ l, (s.1 ≠ 1000000001 → s.1 ≤ 9) ∧ ∀ a ∈ s.2, a.2.2.1 ≤ 9
theorem nine_hop {m : Mc} (hr : faultM m = 0) (h9 : NineL m.2) {H : Nat → Nat → Int} (hH : HopT m H) {q p : Nat} (hq : q < m.2.length) (hp : p < m.2.length) (hn : H q p ≠ noneI) : 0 ≤ H q p ∧ H q p ≤ ((m.2.length : Int) + 1) * 9 := by
  have h0 := (hH q p hq hp).bd.1
  refine ⟨h0, ?_⟩
  obtain ⟨c, ⟨n, hc⟩, hce⟩ := (hH q p hq hp).get hn
  obtain ⟨d, _, h2, h3⟩ := (run_via (fun k w j e => (emp_small hr e).1) hc).cheap (W := 9) (fun x w y e => by
    obtain ⟨a, ha, _, _, rfl⟩ := e
    have hx : x < m.2.length := arcE_in (l := m.2) (w := a.2.2.1.toNat) (j := y) ⟨a, ha, by assumption, rfl⟩
    have := (h9 (el m.2 x) (el_mem hx)).2 a ha
    omega)
  have h4 := ((hH q p hq hp).le h3.run).2
  have h5 : (d : Int) ≤ ((m.2.length : Int) + 1) * 9 := by
    have : ((m.2.length + 1) * 9 : Nat) = ((m.2.length : Int) + 1) * 9 := by push_cast; rfl
    omega
  omega
theorem nine_arc {m : Mc} (hr : faultM m = 0) (h9 : NineL m.2) (h8 : m.2.length ≤ 8) {H : Nat → Nat → Int} (hH : HopT m H) {q : Nat} (hq : q < m.2.length) {a : Ar} (ha : a ∈ remL H m.2 q) : arcB m.2.length a = true ∧ a.2.2.1 ≤ 90 := by
  obtain ⟨p, hp, hn, b, hb, _, rfl⟩ := mem_remArc (merge_sub _ _ ha)
  have h1 := nine_hop hr h9 hH hq hp hn
  have h2 := (h9 (el m.2 p) (el_mem hp)).2 b hb
  have hw := (right_parts hr).2 (el m.2 p) (el_mem hp)
  simp only [stB, Bool.and_eq_true, List.all_eq_true] at hw
  have hw := hw.2 _ hb
  simp only [arcB, inB, Bool.and_eq_true, decide_eq_true_eq] at hw
  have h3 : ((m.2.length : Int) + 1) * 9 ≤ 81 := by omega
  obtain ⟨h0, h1'⟩ := h1
  refine ⟨?_, by show H q p + b.2.2.1 ≤ 90; omega⟩
  simp only [arcB, inB, Bool.and_eq_true, decide_eq_true_eq]
  refine ⟨⟨⟨by show 0 ≤ b.1 ∧ b.1 ≤ 1000; omega, by show 0 ≤ b.2.1 ∧ b.2.1 ≤ 1000; omega⟩, by show 0 ≤ H q p + b.2.2.1 ∧ H q p + b.2.2.1 ≤ 1000000000; omega⟩, ?_⟩
  show 0 ≤ b.2.2.2 ∧ b.2.2.2 ≤ (m.2.length : Int) - 1
  omega
theorem nine_fin {m : Mc} (hr : faultM m = 0) (h9 : NineL m.2) (h8 : m.2.length ≤ 8) {H : Nat → Nat → Int} (hH : HopT m H) {q : Nat} (hq : q < m.2.length) : remFin H m.2 q m.2.length = noneI ∨ (0 ≤ remFin H m.2 q m.2.length ∧ remFin H m.2 q m.2.length ≤ 90) := by
  rcases remFin_has (H := H) (l := m.2) (q := q) m.2.length with h | ⟨p, hp, hn, hf, hg⟩
  · exact .inl h
  · right
    have h1 := nine_hop hr h9 hH hq hp hn
    have h2 := (h9 (el m.2 p) (el_mem hp)).1 hf
    have hb := stB_fin ((right_parts hr).2 (el m.2 p) (el_mem hp))
    simp only [finB, Bool.or_eq_true, inB, Bool.and_eq_true, decide_eq_true_eq, beq_iff_eq] at hb
    have h3 : ((m.2.length : Int) + 1) * 9 ≤ 81 := by omega
    rw [hg]
    omega
theorem nine_ov {m : Mc} (hr : faultM m = 0) (h9 : NineL m.2) (h8 : m.2.length ≤ 8) {H : Nat → Nat → Int} (hH : HopT m H) : ∀ {n : Nat}, n ≤ m.2.length → ovTo H m.2 n = false
  | 0, _ => rfl
  | n + 1, hn => by
    simp only [ovTo, Bool.or_eq_false_iff]
    refine ⟨nine_ov hr h9 h8 hH (by omega), ?_⟩
    simp only [ovB, Bool.or_eq_false_iff, decide_eq_false_iff_not, Decidable.not_not, List.any_eq_false]
    refine ⟨?_, fun a ha => ?_⟩
    · unfold tldE
      rcases nine_fin hr h9 h8 hH (show n < m.2.length by omega) with h | ⟨_, h⟩
      · rw [if_pos h]
      · split
        · rfl
        · rw [if_neg (by omega)]
    · have := (nine_arc hr h9 h8 hH (show n < m.2.length by omega) ha).2
      simp only [bigA, decide_eq_true_eq]
      omega
theorem nine_right {m : Mc} (hr : faultM m = 0) (h9 : NineL m.2) (h8 : m.2.length ≤ 8) (h32 : arcN m.2 ≤ 32) {H : Nat → Nat → Int} (hH : HopT m H) : faultM (remM H m) = 0 ∧ CheapL (remM H m).2 := by
  have hov := nine_ov hr h9 h8 hH (Nat.le_refl _)
  have hel : ∀ s ∈ (remM H m).2, ∃ q, q < m.2.length ∧ s = remS H m.2 q := fun s hs => by
    simp only [remM, List.mem_map, List.mem_range] at hs
    obtain ⟨q, hq, rfl⟩ := hs
    exact ⟨q, hq, rfl⟩
  have hfin : ∀ q, q < m.2.length → (remS H m.2 q).1 = 1000000001 ∨ (0 ≤ (remS H m.2 q).1 ∧ (remS H m.2 q).1 ≤ 90) := fun q hq => by
    show tldN _ = _ ∨ (0 ≤ tldN _ ∧ tldN _ ≤ _)
    rcases fin_told (ov_none hov q hq) with ⟨_, e⟩ | ⟨e1, _, e2⟩
    · exact .inl e
    · rcases nine_fin hr h9 h8 hH hq with g | g
      · exact absurd g e1
      · rw [e2]; exact .inr g
  refine ⟨faultM_ok ?_ ?_, fun s hs => ?_⟩
  · have h1 : arcN (remM H m).2 ≤ (remM H m).2.length * 32 := arcN_each fun s hs => by
      obtain ⟨q, hq, rfl⟩ := hel s hs
      exact Nat.le_trans (remL_le H m.2 q) h32
    rw [rem_len] at h1
    simp only [sizeB, Bool.and_eq_true, decide_eq_true_eq]
    rw [rem_len]
    omega
  · unfold rangeB
    rw [rem_len]
    simp only [Bool.and_eq_true, List.all_eq_true]
    refine ⟨?_, fun s hs => ?_⟩
    · have := (right_parts hr).1
      simp only [inB, Bool.and_eq_true, decide_eq_true_eq]
      exact this
    · obtain ⟨q, hq, rfl⟩ := hel s hs
      simp only [stB, Bool.and_eq_true, List.all_eq_true]
      refine ⟨?_, fun a ha => (nine_arc hr h9 h8 hH hq ha).1⟩
      simp only [finB, Bool.or_eq_true, inB, Bool.and_eq_true, decide_eq_true_eq, beq_iff_eq]
      have := hfin q hq
      omega
  · obtain ⟨q, hq, rfl⟩ := hel s hs
    refine ⟨fun h => ?_, fun a ha => ?_⟩
    · have := hfin q hq
      omega
    · have := (nine_arc hr h9 h8 hH hq ha).2
      omega
end Go.Proofs.Yteaafghmkkejfaa.Pl
namespace Go.Proofs.Yteaafghmkkejfaa.Pl
set_option linter.unusedVariables false
set_option linter.unusedSimpArgs false
def mrgL (l : List Ar) : List Ar := lightL (sortS false l)
theorem remOf_zero {ar : List Ar} (h : ∀ a ∈ ar, empA a = false) : remOf 0 ar = ar := by
  unfold remOf
  rw [List.filter_eq_self.2 (fun a ha => by simp [h a ha])]
  conv => rhs; rw [← List.map_id ar]
  refine List.map_congr_left fun a _ => ?_
  obtain ⟨p0, p1, p2, p3⟩ := a
  simp [hwA]
theorem noEmp_arc {m : Mc} (h : NoEmp m.2) {H : Nat → Nat → Int} (hH : HopT m H) {q : Nat} (hq : q < m.2.length) : ∀ k, k ≤ m.2.length → remArc H m.2 q k = if q < k then (el m.2 q).2 else []
  | 0, _ => by rw [if_neg (by omega)]; rfl
  | k + 1, hk => by
    have ih := noEmp_arc h hH hq k (by omega)
    simp only [remArc]
    rw [noEmp_hop h hH hq (show k < m.2.length by omega), ih]
    by_cases e : k = q
    · subst e
      rw [if_neg (by omega), if_pos rfl, if_neg (by decide), if_pos (by omega), List.nil_append, remOf_zero (h k hq)]
    · rw [if_neg e, if_pos rfl, List.append_nil]
      by_cases g : q < k
      · rw [if_pos g, if_pos (by omega)]
      · rw [if_neg g, if_neg (by omega)]
theorem noEmp_fin {m : Mc} (hr : faultM m = 0) (h : NoEmp m.2) {H : Nat → Nat → Int} (hH : HopT m H) {q : Nat} (hq : q < m.2.length) : ∀ k, k ≤ m.2.length → remFin H m.2 q k = if q < k ∧ (el m.2 q).1 ≠ 1000000001 then (el m.2 q).1 else noneI
  | 0, _ => by rw [if_neg (by omega)]; rfl
  | k + 1, hk => by
    have ih := noEmp_fin hr h hH hq k (by omega)
    simp only [remFin]
    rw [noEmp_hop h hH hq (show k < m.2.length by omega), ih]
    have hb := stB_fin ((right_parts hr).2 (el m.2 q) (el_mem hq))
    simp only [finB, Bool.or_eq_true, inB, Bool.and_eq_true, decide_eq_true_eq, beq_iff_eq] at hb
    by_cases e : k = q
    · subst e
      rw [if_pos rfl]
      by_cases g : (el m.2 k).1 ≠ 1000000001
      · have g2 : ¬ (k < k ∧ (el m.2 k).1 ≠ 1000000001) := by omega
        rw [if_neg g2, if_pos ⟨by decide, g, by unfold noneI; omega⟩, if_pos ⟨by omega, g⟩]
        omega
      · have g2 : ¬ (k < k ∧ (el m.2 k).1 ≠ 1000000001) := by omega
        rw [if_neg g2, if_neg (fun x => g x.2.1), if_neg (fun x => g x.2)]
    · rw [if_neg e, if_neg (fun x => x.1 rfl)]
      by_cases g : q < k ∧ (el m.2 q).1 ≠ 1000000001
      · rw [if_pos g, if_pos ⟨by omega, g.2⟩]
      · rw [if_neg g, if_neg (fun x => g ⟨by omega, x.2⟩)]
theorem noEmp_rem {m : Mc} (hr : faultM m = 0) (h : NoEmp m.2) {H : Nat → Nat → Int} (hH : HopT m H) : remM H m = mapM mrgL m := by
  unfold remM mapM
  refine congrArg (Prod.mk m.1) (el_ext (by simp) fun q hq => ?_)
  have hq' : q < m.2.length := by simpa using hq
  rw [el_range_map _ hq', el_map hq']
  have hb := stB_fin ((right_parts hr).2 (el m.2 q) (el_mem hq'))
  simp only [finB, Bool.or_eq_true, inB, Bool.and_eq_true, decide_eq_true_eq, beq_iff_eq] at hb
  unfold remS remL mrgL
  rw [noEmp_arc h hH hq' _ (Nat.le_refl _), noEmp_fin hr h hH hq' _ (Nat.le_refl _), if_pos hq']
  congr 1
  by_cases g : (el m.2 q).1 = 1000000001
  · rw [if_neg (fun x => x.2 g), g]; rfl
  · rw [if_pos ⟨hq', g⟩]
    unfold tldN
    rw [if_neg (by unfold noneI; omega), if_neg (by omega)]
theorem sortL_self {l : List Ar} (h : l.Pairwise fun a b => leB a b = true) : sortL l = l := (sortL_one (List.Perm.refl l) h).symm
theorem light_pair : ∀ {l : List Ar} {p : Ar}, (p :: l).Pairwise (fun a b => leB a b = true) → (p :: lightFrom p l).Pairwise fun a b => leB a b = true := fun {l p} h => by
  have h1 := List.pairwise_cons.1 h
  refine List.pairwise_cons.2 ⟨fun y hy => h1.1 y (lightFrom_mem hy), ?_⟩
  induction l generalizing p with
  | nil => simp [lightFrom]
  | cons x l ih =>
    have h2 := List.pairwise_cons.1 h1.2
    unfold lightFrom
    split
    · exact ih (p := x) h1.2 h2
    · exact List.pairwise_cons.2 ⟨fun y hy => h2.1 y (lightFrom_mem hy), ih (p := x) h1.2 h2⟩
theorem light_self : ∀ {l : List Ar} {p : Ar}, (p :: l).Pairwise (fun a b => alikeB b a = false) → lightFrom p l = l
  | [], p, _ => rfl
  | x :: l, p, h => by
    have h1 := List.pairwise_cons.1 h
    unfold lightFrom
    rw [if_neg (by rw [h1.1 x (by simp)]; simp), light_self h1.2]
theorem mrg_mrg (l : List Ar) : mrgL (mrgL l) = mrgL l := by
  unfold mrgL
  have hs : sortS false l = sortL l := rfl
  have hp := sortL_pair l
  rw [hs]
  generalize sortL l = r at hp
  cases r with
  | nil =>
    have h3 : sortS false ([] : List Ar) = [] := List.eq_nil_of_length_eq_zero (by rw [sortS_length]; rfl)
    show lightL (sortS false []) = []
    rw [h3]; rfl
  | cons p r =>
    have h1 : (lightL (p :: r)) = p :: lightFrom p r := rfl
    rw [h1, show sortS false (p :: lightFrom p r) = sortL (p :: lightFrom p r) from rfl, sortL_self (light_pair hp)]
    have h2 := light_apart hp
    show p :: lightFrom p (lightFrom p r) = _
    rw [light_self (List.pairwise_cons.2 ⟨h2.1, h2.2⟩)]
end Go.Proofs.Yteaafghmkkejfaa.Pl
namespace Go.Proofs.Yteaafghmkkejfaa.Pl
set_option linter.unusedVariables false
set_option linter.unusedSimpArgs false
theorem made_nine (r : Int × List (Int × Bool × List Ar)) (states : Nat) (full : Bool) : NineL (madeM r states full).2 := fun s hs => by
  simp only [madeM, statesM, List.mem_map] at hs
  obtain ⟨q, _, rfl⟩ := hs
  split
  · exact ⟨fun _ => by simp, fun a ha => absurd ha (by simp)⟩
  · refine ⟨fun h => ?_, fun a ha => ?_⟩
    · unfold stM at h ⊢
      simp only at h ⊢
      split
      · have := pkR_bd (el r.2 q).1 10 (by omega); omega
      · rename_i g; rw [if_neg g] at h; exact absurd rfl h
    · simp only [stM, List.mem_map] at ha
      obtain ⟨e, _, rfl⟩ := ha
      unfold arM
      have := pkR_bd e.2.2.1 10 (by omega)
      simp only
      omega
theorem made_noEmp (r : Int × List (Int × Bool × List Ar)) (states : Nat) : NoEmp (madeM r states true).2 := fun q hq a ha => by
  have hm := el_mem hq
  simp only [madeM, statesM, List.mem_map] at hm
  obtain ⟨k, _, e⟩ := hm
  have e' : (if r.2.length ≤ k then ((0, []) : St) else stM (sizeM r states) true (el r.2 k)) = el (madeM r states true).2 q := e
  rw [← e'] at ha
  split at ha
  · exact absurd ha (by simp)
  · simp only [stM, List.mem_map] at ha
    obtain ⟨x, _, rfl⟩ := ha
    unfold empA arM
    by_cases h1 : pkR x.1 3 = 0
    · by_cases h2 : pkR x.2.1 3 = 0
      · simp [h1, h2]
      · simp [h2]
    · simp [h1]
theorem mrg_pair (l : List Ar) : (mrgL l).Pairwise fun a b => leB a b = true := by
  unfold mrgL
  have hp := sortL_pair l
  rw [show sortS false l = sortL l from rfl]
  generalize sortL l = r at hp
  cases r with
  | nil => exact List.Pairwise.nil
  | cons p r => exact light_pair hp
theorem mrg_mem {l : List Ar} {a : Ar} (h : a ∈ mrgL l) : a ∈ l := merge_sub l a h
theorem mrg_le (l : List Ar) : (mrgL l).length ≤ l.length := Nat.le_trans (lightL_le _) (by rw [sortS_length]; exact Nat.le_refl _)
theorem rem_sorted (H : Nat → Nat → Int) (m : Mc) : (remM H m).2.all (fun s => sortB s.2) = true := by
  rw [List.all_eq_true]
  intro s hs
  obtain ⟨q, _, rfl⟩ := List.mem_map.1 hs
  exact pair_sortB (mrg_pair _)
theorem rem_mrg (H : Nat → Nat → Int) (m : Mc) : mapM mrgL (remM H m) = remM H m := by
  unfold mapM remM
  simp only [List.map_map]
  congr 1
  refine List.map_congr_left fun q _ => ?_
  show ((remS H m.2 q).1, mrgL (remS H m.2 q).2) = remS H m.2 q
  have : mrgL (remS H m.2 q).2 = (remS H m.2 q).2 := mrg_mrg _
  rw [this]
theorem right_fit {m : Mc} (h : faultM m = 0) : fitM m = m ∧ fitE m = 0 := by
  have h1 := (faultM_zero h).1
  unfold fitM fitE
  rw [if_pos h1, if_pos h1]
  exact ⟨rfl, rfl⟩
/-- Where there are no empty arcs nothing is too large. -/
theorem noEmp_ov {m : Mc} (hr : faultM m = 0) (h : NoEmp m.2) {H : Nat → Nat → Int} (hH : HopT m H) : ∀ {n : Nat}, n ≤ m.2.length → ovTo H m.2 n = false
  | 0, _ => rfl
  | n + 1, hn => by
    have hq : n < m.2.length := by omega
    have hb := stB_fin ((right_parts hr).2 (el m.2 n) (el_mem hq))
    simp only [finB, Bool.or_eq_true, inB, Bool.and_eq_true, decide_eq_true_eq, beq_iff_eq] at hb
    simp only [ovTo, noEmp_ov hr h hH (by omega : n ≤ m.2.length), Bool.false_or]
    unfold ovB remL
    rw [noEmp_arc h hH hq _ (Nat.le_refl _), noEmp_fin hr h hH hq _ (Nat.le_refl _), if_pos hq]
    rw [Bool.or_eq_false_iff]
    constructor
    · rw [decide_eq_false_iff_not]
      intro e
      apply e
      by_cases g : (el m.2 n).1 = 1000000001
      · rw [if_neg (fun x => x.2 g)]; rfl
      · rw [if_pos ⟨hq, g⟩]
        unfold tldE
        rw [if_neg (by unfold noneI; omega), if_neg (by omega)]
    · rw [List.any_eq_false]
      intro a ha
      have ha' : a ∈ (el m.2 n).2 := mrg_mem (l := (el m.2 n).2) ha
      have h1 := (right_parts hr).2 (el m.2 n) (el_mem hq)
      simp only [stB, Bool.and_eq_true, List.all_eq_true] at h1
      have h2 := h1.2 a ha'
      simp only [arcB, inB, Bool.and_eq_true, decide_eq_true_eq] at h2
      simp [bigA]
      omega
theorem rem_fit {m : Mc} (hr : faultM m = 0) {H : Nat → Nat → Int} (h2 : ovTo H m.2 m.2.length = false) : remR H m = fitM (remM H m) ∧ remE H m = fitE (remM H m) := by
  constructor
  · unfold remR
    rw [if_neg (by rw [hr]; simp), if_neg (by rw [h2]; simp)]
  · unfold remE
    rw [if_neg (by rw [hr]; simp), if_neg (by rw [h2]; simp)]
/-- A made machine, removed. -/
theorem made_rem {r : Int × List (Int × Bool × List Ar)} {k : Nat} {full : Bool} (hr : faultM (madeM r k full) = 0) (h8 : (madeM r k full).2.length ≤ 8) (h32 : arcN (madeM r k full).2 ≤ 32) {H : Nat → Nat → Int} (hH : HopT (madeM r k full) H) :
    remR H (madeM r k full) = remM H (madeM r k full) ∧ remE H (madeM r k full) = 0 ∧ faultM (remM H (madeM r k full)) = 0 ∧ CheapL (remM H (madeM r k full)).2 := by
  have h9 := made_nine r k full
  have h1 := nine_right hr h9 h8 h32 hH
  have h2 := nine_ov hr h9 h8 hH (Nat.le_refl _)
  have h3 := right_fit h1.1
  have e1 := rem_fit hr h2
  exact ⟨e1.1.trans h3.1, e1.2.trans h3.2, h1.1, h1.2⟩
/-- Removed again: only merged. -/
theorem noEmp_again {m : Mc} (hr : faultM m = 0) (h : NoEmp m.2) (hm : faultM (mapM mrgL m) = 0) {H : Nat → Nat → Int} (hH : HopT m H) : remR H m = mapM mrgL m ∧ remE H m = 0 := by
  have h1 := noEmp_rem hr h hH
  have h2 := noEmp_ov hr h hH (Nat.le_refl _)
  have h3 := right_fit hm
  have e1 := rem_fit hr h2
  rw [h1] at e1
  exact ⟨e1.1.trans h3.1, e1.2.trans h3.2⟩
theorem mrg_right {m : Mc} (h : faultM m = 0) : faultM (mapM mrgL m) = 0 := fault_map (fun l => mrg_le l) (fun l a ha => mrg_mem ha) h
end Go.Proofs.Yteaafghmkkejfaa.Pl
