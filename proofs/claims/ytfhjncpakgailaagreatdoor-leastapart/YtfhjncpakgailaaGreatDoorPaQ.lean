/- Apart within so many rounds: as many rounds as states tell all that is apart (no program in sight). -/
import Derived.Test.YtfhjncpakgailaaGreatDoorPav
import Derived.Test.YtfhjncpakgailaaGreatDoorPaO
namespace Go.Proofs.YtfhjncpakgailaaGreatDoor.Pl
set_option linter.unusedVariables false
set_option linter.unusedSimpArgs false
def aprB (l : List St) : Nat → Nat → Nat → Bool
 | 0 => fun _ _ => false
 | k + 1 => aptB l (aprB l k)
theorem aptB_mono {l : List St} {T U : Nat → Nat → Bool} (h : ∀ q p, T q p = true → U q p = true) {q p : Nat} (k : aptB l T q p = true) : aptB l U q p = true := by
 rw [aptB_true] at k ⊢
 rcases k with k | ⟨i, hi, k⟩
 ·exact .inl k
 ·exact .inr ⟨i, hi, h _ _ k⟩
theorem aprB_mono (l : List St) (k : Nat) : ∀ q p, aprB l k q p = true → aprB l (k + 1) q p = true := by
 induction k with
 | zero => intro q p h; cases h
 | succ k ih => intro q p h; exact aptB_mono ih h
theorem aprB_refl (l : List St) (k q : Nat) : aprB l k q q = false := by
  induction k generalizing q with
  | zero => rfl
  | succ k ih =>
    rw [← Bool.not_eq_true]
    intro h
    rcases aptB_true.1 h with h | ⟨i, hi, h⟩
    · rw [dif_refl] at h; cases h
    · rw [ih] at h; cases h
theorem aprB_symm (l : List St) (k : Nat) : ∀ q p, aprB l k q p = true → aprB l k p q = true := by
  induction k with
  | zero => intro q p h; cases h
  | succ k ih =>
    intro q p h
    refine aptB_true.2 ?_
    rcases aptB_true.1 h with h | ⟨i, hi, h⟩
    · exact .inl (by rw [dif_symm]; exact h)
    · cases hd : difB (el l q) (el l p)
      · exact .inr ⟨i, by rw [← dif_len hd]; exact hi, ih _ _ h⟩
      · exact .inl (by rw [dif_symm]; exact hd)
theorem aprB_trans (l : List St) (k : Nat) : ∀ q p r, aprB l k q r = true → aprB l k q p = true ∨ aprB l k p r = true := by
  induction k with
  | zero => intro q p r h; cases h
  | succ k ih =>
    intro q p r h
    cases h1 : difB (el l q) (el l p)
    · cases h2 : difB (el l p) (el l r)
      · rcases aptB_true.1 h with h | ⟨i, hi, h⟩
        · rw [dif_trans h1 h2] at h; cases h
        · rcases ih _ (el (el l p).2 i).2.2.2.toNat _ h with g | g
          · exact .inl (aptB_true.2 (.inr ⟨i, hi, g⟩))
          · exact .inr (aptB_true.2 (.inr ⟨i, by rw [← dif_len h1]; exact hi, g⟩))
      · exact .inr (aptB_true.2 (.inl h2))
    · exact .inl (aptB_true.2 (.inl h1))
theorem aprB_sound {l : List St} (hto : ∀ q, q < l.length → ∀ a ∈ (el l q).2, ∃ t : Nat, a.2.2.2 = (t : Int) ∧ t < l.length) (k : Nat) : ∀ q p, q < l.length → p < l.length → aprB l k q p = true → Aprt l q p := by
 induction k with
 | zero => intro q p _ _ h; cases h
 | succ k ih => intro q p hq hp h; exact apt_sound hto ih hq hp h
theorem countP_lt' {α : Type} {P Q : α → Bool} : ∀ {L : List α}, (∀ x ∈ L, P x = true → Q x = true) → (∃ x ∈ L, Q x = true ∧ P x = false) → L.countP P < L.countP Q
  | [], _, ⟨x, hx, _⟩ => by cases hx
  | a :: L, h, ⟨x, hx, h1, h2⟩ => by
    rw [List.countP_cons, List.countP_cons]
    have hle : L.countP P ≤ L.countP Q := List.countP_mono_left fun x hx => h x (List.mem_cons_of_mem _ hx)
    rcases List.mem_cons.1 hx with rfl | hx
    · simp only [h1, h2, if_true]
      simp; omega
    · have h3 := countP_lt' (L := L) (fun x hx => h x (List.mem_cons_of_mem _ hx)) ⟨x, hx, h1, h2⟩
      have h4 := h a (List.mem_cons_self ..)
      cases e1 : P a <;> cases e2 : Q a <;> simp <;> first | omega | (rw [h4 e1] at e2; cases e2)
def rpsN (l : List St) (k : Nat) : Nat := (List.range l.length).countP fun q => (List.range q).all fun p => aprB l k p q
theorem rps_le (l : List St) (k : Nat) : rpsN l k ≤ l.length := by
 have := List.countP_le_length (p := fun q => (List.range q).all fun p => aprB l k p q) (l := List.range l.length)
 rw [List.length_range] at this
 exact this
theorem rps_grow {l : List St} {k q p : Nat} (hq : q < l.length) (hp : p < l.length) (h1 : aprB l (k + 1) q p = true) (h0 : aprB l k q p = false) : rpsN l k < rpsN l (k + 1) := by
  have first : ∀ j q, ∃ c, c ≤ q ∧ aprB l j c q = false ∧ ∀ d, d < c → aprB l j d q = true := fun j q => by
    have key : ∀ n c, c + n = q → (∀ d, d < c → aprB l j d q = true) → ∃ c, c ≤ q ∧ aprB l j c q = false ∧ ∀ d, d < c → aprB l j d q = true := by
      intro n
      induction n with
      | zero =>
        intro c e hc
        refine ⟨q, Nat.le_refl _, aprB_refl l j q, ?_⟩
        rw [show q = c by omega] at hc ⊢
        exact hc
      | succ n ih =>
        intro c e hc
        cases g : aprB l j c q
        · exact ⟨c, by omega, g, hc⟩
        · refine ih (c + 1) (by omega) fun d hd => ?_
          rcases Nat.lt_or_ge d c with x | x
          · exact hc d x
          · rw [show d = c by omega]; exact g
    exact key q 0 (by omega) fun d hd => by omega
  have sy : ∀ j a b, aprB l j a b = false → aprB l j b a = false := fun j a b h => by
    rw [← Bool.not_eq_true] at h ⊢
    exact fun k => h (aprB_symm l j _ _ k)
  have tr : ∀ j a b c, aprB l j a b = false → aprB l j b c = false → aprB l j a c = false := fun j a b c h g => by
    rw [← Bool.not_eq_true]
    intro k
    rcases aprB_trans l j a b c k with x | x
    · rw [h] at x; cases x
    · rw [g] at x; cases x
  obtain ⟨r, r1, r2, r3⟩ := first k q
  have rp : aprB l k r p = false := tr k r q p r2 h0
  have hnew : ∃ s, s < l.length ∧ aprB l (k + 1) r s = true ∧ aprB l k r s = false := by
    rcases aprB_trans l (k + 1) q r p h1 with x | x
    · exact ⟨q, hq, aprB_symm l _ _ _ x, r2⟩
    · exact ⟨p, hp, x, rp⟩
  obtain ⟨s, s1, s2, s3⟩ := hnew
  obtain ⟨c, c1, c2, c3⟩ := first (k + 1) s
  have hcr : c ≠ r := fun e => by rw [e, s2] at c2; cases c2
  have hck : aprB l k c s = false := by
    rw [← Bool.not_eq_true] at c2 ⊢
    exact fun g => c2 (aprB_mono l k _ _ g)
  have hrc : aprB l k r c = false := tr k r s c s3 (sy k c s hck)
  have hlt : r < c := by
    rcases Nat.lt_or_ge c r with x | x
    · have h9 := r3 c x
      have h8 := tr k c r q (sy k r c hrc) r2
      rw [h8] at h9; cases h9
    · omega
  refine countP_lt' (fun x hx h => ?_) ⟨c, List.mem_range.2 (by omega), ?_, ?_⟩
  · rw [List.all_eq_true] at h ⊢
    exact fun d hd => aprB_mono l k _ _ (h d hd)
  · rw [List.all_eq_true]
    intro d hd
    rw [List.mem_range] at hd
    cases g : aprB l (k + 1) d c
    · have h9 := c3 d hd
      rw [tr (k + 1) d c s g c2] at h9
      cases h9
    · rfl
  · rw [List.all_eq_false]
    exact ⟨r, List.mem_range.2 hlt, by rw [hrc]; simp⟩
theorem apr_stable {l : List St} (h0 : 0 < l.length) : ∃ k, k < l.length ∧ ∀ q p, q < l.length → p < l.length → aprB l (k + 1) q p = true → aprB l k q p = true := by
  have key : ∀ m, (∃ k, k < m ∧ ∀ q p, q < l.length → p < l.length → aprB l (k + 1) q p = true → aprB l k q p = true) ∨ m + 1 ≤ rpsN l m := by
    intro m
    induction m with
    | zero =>
      right
      refine List.countP_pos_iff.2 ⟨0, List.mem_range.2 h0, by simp⟩
    | succ m ih =>
      rcases ih with ⟨k, hk, h⟩ | h
      · exact .inl ⟨k, by omega, h⟩
      · by_cases g : ∀ q p, q < l.length → p < l.length → aprB l (m + 1) q p = true → aprB l m q p = true
        · exact .inl ⟨m, by omega, g⟩
        · right
          have ⟨q, p, hq, hp, g1, g2⟩ : ∃ q p, q < l.length ∧ p < l.length ∧ aprB l (m + 1) q p = true ∧ aprB l m q p = false := by
            refine Classical.byContradiction fun hn => g fun q p hq hp h1 => ?_
            cases h2 : aprB l m q p
            · exact absurd ⟨q, p, hq, hp, h1, h2⟩ hn
            · rfl
          have := rps_grow hq hp g1 g2
          omega
  rcases key l.length with h | h
  · exact h
  · have := rps_le l l.length
    omega
theorem aprB_le (l : List St) {j k : Nat} (h : j ≤ k) (q p : Nat) (g : aprB l j q p = true) : aprB l k q p = true := by
 induction h with
 | refl => exact g
 | step _ ih => exact aprB_mono l _ _ _ ih
theorem apr_all {l : List St} (hto : ∀ q, q < l.length → ∀ a ∈ (el l q).2, ∃ t : Nat, a.2.2.2 = (t : Int) ∧ t < l.length) {k : Nat} (hk : l.length ≤ k) {q p : Nat} (hq : q < l.length) (hp : p < l.length) : aprB l k q p = true ↔ Aprt l q p := by
 refine ⟨aprB_sound hto k q p hq hp, fun h => ?_⟩
 obtain ⟨j, hj, hs⟩ := apr_stable (l := l) (by omega)
 have h1 := (apt_all hto (aprB_sound hto j) (fun q p hq hp h => by
  rw [← Bool.not_eq_true] at h ⊢
  exact fun g => h (hs q p hq hp g)) q p hq hp).2 h
 exact aprB_le l (by omega) q p h1
structure RndT (l : List St) (k a b : Nat) (T : Nat → Nat → Bool) : Prop where
 sound : ∀ q p, q < l.length → p < l.length → T q p = true → Aprt l q p
 base : ∀ q p, q < l.length → p < l.length → aprB l k q p = true → T q p = true
 done : ∀ q p, q < l.length → p < l.length → (q < a ∨ q = a ∧ p < b) → aprB l (k + 1) q p = true → T q p = true
theorem RndT.start (l : List St) : RndT l 0 0 0 fun _ _ => false :=
 ⟨fun q p _ _ h => (by cases h), fun q p _ _ h => (by cases h), fun q p _ _ h _ => by omega⟩
theorem RndT.row {l : List St} {k a b : Nat} {T : Nat → Nat → Bool} (h : RndT l k a b T) (hb : l.length ≤ b) : RndT l k (a + 1) 0 T :=
 ⟨h.sound, h.base, fun q p hq hp hd => h.done q p hq hp (by omega)⟩
theorem RndT.round {l : List St} {k a b : Nat} {T : Nat → Nat → Bool} (h : RndT l k a b T) (ha : l.length ≤ a) : RndT l (k + 1) 0 0 T :=
 ⟨h.sound, fun q p hq hp g => h.done q p hq hp (by omega) g, fun q p hq hp hd => by omega⟩
theorem RndT.step {l : List St} (hto : ∀ q, q < l.length → ∀ a ∈ (el l q).2, ∃ t : Nat, a.2.2.2 = (t : Int) ∧ t < l.length) {k a b : Nat} {T U : Nat → Nat → Bool} (h : RndT l k a b T) (ha : a < l.length) (hb : b < l.length) (hU : ∀ q p, q < l.length → p < l.length → U q p = if q = a ∧ p = b then (T q p || aptB l T q p) else T q p) : RndT l k a (b + 1) U := by
 have hm : ∀ q p, q < l.length → p < l.length → T q p = true → U q p = true := fun q p hq hp g => by
  rw [hU q p hq hp]
  split
  ·rw [g]; rfl
  ·exact g
 refine ⟨fun q p hq hp g => ?_, fun q p hq hp g => hm q p hq hp (h.base q p hq hp g), fun q p hq hp hd g => ?_⟩
 ·rw [hU q p hq hp] at g
  split at g
  ·rcases Bool.or_eq_true _ _ ▸ g with g | g
   ·exact h.sound q p hq hp g
   ·exact apt_sound hto h.sound hq hp g
  ·exact h.sound q p hq hp g
 ·by_cases e : q = a ∧ p = b
  ·rw [hU q p hq hp, if_pos e, Bool.or_eq_true]
   right
   refine aptB_true.2 ?_
   rcases aptB_true.1 g with g | ⟨i, hi, g⟩
   ·exact .inl g
   ·cases hd : difB (el l q) (el l p)
    ·refine .inr ⟨i, hi, ?_⟩
     obtain ⟨t, e1, e2⟩ := hto q hq _ (el_mem hi)
     obtain ⟨u, f1, f2⟩ := hto p hp _ (el_mem (show i < (el l p).2.length by rw [← dif_len hd]; exact hi))
     rw [e1, f1, Int.toNat_natCast, Int.toNat_natCast] at g ⊢
     exact h.base t u e2 f2 g
    ·exact .inl rfl
  ·exact hm q p hq hp (h.done q p hq hp (by omega) g)
theorem RndT.all {l : List St} (hto : ∀ q, q < l.length → ∀ a ∈ (el l q).2, ∃ t : Nat, a.2.2.2 = (t : Int) ∧ t < l.length) {k a b : Nat} {T : Nat → Nat → Bool} (h : RndT l k a b T) (hk : l.length ≤ k) {q p : Nat} (hq : q < l.length) (hp : p < l.length) : T q p = true ↔ Aprt l q p :=
 ⟨h.sound q p hq hp, fun g => h.base q p hq hp ((apr_all hto hk hq hp).2 g)⟩
def tblF (n : Nat) (D : List Bool) (q p : Nat) : Bool := el D (q * n + p)
theorem tbl_start (n m : Nat) : tblF n (List.replicate m false) = fun _ _ => false := by
 funext q p
 unfold tblF
 by_cases h : q * n + p < m
 ·rw [el_get (by simpa using h)]; simp
 ·simp only [el, List.getD_eq_getElem?_getD, List.getElem?_eq_none (l := List.replicate m false) (i := q * n + p) (by simp; omega)]; rfl
theorem flt_lt {n q p : Nat} (hq : q < n) (hp : p < n) : q * n + p < n * n := by
 have h1 : (q + 1) * n ≤ n * n := Nat.mul_le_mul_right n hq
 rw [Nat.succ_mul] at h1
 omega
theorem flt_one {n q p a b : Nat} (hp : p < n) (hb : b < n) : q * n + p = a * n + b ↔ q = a ∧ p = b := by
 constructor
 ·intro h
  have hn : 0 < n := by omega
  have h1 : (q * n + p) / n = q := by rw [Nat.mul_comm, Nat.mul_add_div hn, Nat.div_eq_of_lt hp, Nat.add_zero]
  have h2 : (a * n + b) / n = a := by rw [Nat.mul_comm, Nat.mul_add_div hn, Nat.div_eq_of_lt hb, Nat.add_zero]
  have e : q = a := by rw [← h1, ← h2, h]
  subst e
  exact ⟨rfl, by omega⟩
 ·rintro ⟨rfl, rfl⟩; rfl
theorem tbl_set {n q p a b : Nat} {D : List Bool} (hD : D.length = n * n) (hp : p < n) (ha : a < n) (hb : b < n) (c : Bool) : tblF n (D.set (a * n + b) c) q p = if q = a ∧ p = b then c else tblF n D q p := by
 unfold tblF
 by_cases h : q = a ∧ p = b
 ·obtain ⟨rfl, rfl⟩ := h
  have h1 := flt_lt ha hb
  rw [if_pos ⟨rfl, rfl⟩, el_get (by rw [List.length_set, hD]; exact h1)]
  simp
 ·rw [if_neg h]
  have h1 : ¬ a * n + b = q * n + p := fun e => h ((flt_one hp hb).1 e.symm)
  simp only [el, List.getD_eq_getElem?_getD, List.getElem?_set_ne h1]
def badT (T : Nat → Nat → Bool) (a b : Ar) : Bool := decide (a.1 ≠ b.1) || decide (a.2.1 ≠ b.2.1) || decide (a.2.2.1 ≠ b.2.2.1) || T a.2.2.2.toNat b.2.2.2.toNat
theorem apt_head {l : List St} {T : Nat → Nat → Bool} {q p : Nat} (h : (el l q).1 ≠ (el l p).1 ∨ (el l q).2.length ≠ (el l p).2.length) : aptB l T q p = true := by
 refine aptB_true.2 (.inl ?_)
 cases hd : difB (el l q) (el l p)
 ·rcases h with h | h
  ·exact absurd (dif_false.1 hd).1 h
  ·exact absurd (dif_len hd) h
 ·rfl
theorem apt_bad {l : List St} {T : Nat → Nat → Bool} {q p i : Nat} (hi : i < (el l q).2.length) (h : badT T (el (el l q).2 i) (el (el l p).2 i) = true) : aptB l T q p = true := by
 cases hd : difB (el l q) (el l p)
 ·obtain ⟨e1, e2, e3⟩ := dif_el hd hi
  simp only [badT, e1, e2, e3, ne_eq, not_true_eq_false, decide_false, Bool.false_or] at h
  exact aptB_true.2 (.inr ⟨i, hi, h⟩)
 ·exact aptB_true.2 (.inl hd)
theorem apt_none {l : List St} {T : Nat → Nat → Bool} {q p : Nat} (h1 : (el l q).1 = (el l p).1) (h2 : (el l q).2.length = (el l p).2.length) (h : ∀ i, i < (el l q).2.length → badT T (el (el l q).2 i) (el (el l p).2 i) = false) : aptB l T q p = false := by
 have hp : ∀ i, i < (el l q).2.length → (el (el l q).2 i).1 = (el (el l p).2 i).1 ∧ (el (el l q).2 i).2.1 = (el (el l p).2 i).2.1 ∧ (el (el l q).2 i).2.2.1 = (el (el l p).2 i).2.2.1 ∧ T (el (el l q).2 i).2.2.2.toNat (el (el l p).2 i).2.2.2.toNat = false := fun i hi => by
  have := h i hi
  simpa [badT, and_assoc] using this
 rw [← Bool.not_eq_true]
 intro hk
 rcases aptB_true.1 hk with g | ⟨i, hi, g⟩
 ·have : difB (el l q) (el l p) = false := by
   refine dif_false.2 ⟨h1, ?_⟩
   refine el_ext (by simpa using h2) fun i hi => ?_
   rw [List.length_map] at hi
   rw [el_map hi, el_map (by rw [← h2]; exact hi)]
   obtain ⟨e1, e2, e3, _⟩ := hp i hi
   rw [e1, e2, e3]
  rw [this] at g; cases g
 ·rw [(hp i hi).2.2.2] at g; cases g
theorem RndT.put {l : List St} (hto : ∀ q, q < l.length → ∀ a ∈ (el l q).2, ∃ t : Nat, a.2.2.2 = (t : Int) ∧ t < l.length) {k a b : Nat} {D : List Bool} (hD : D.length = l.length * l.length) (h : RndT l k a b (tblF l.length D)) (ha : a < l.length) (hb : b < l.length) {c : Bool} (h1 : tblF l.length D a b = true → c = true) (h2 : aptB l (tblF l.length D) a b = true → c = true) (h3 : c = true → tblF l.length D a b = true ∨ aptB l (tblF l.length D) a b = true) : RndT l k a (b + 1) (tblF l.length (D.set (a * l.length + b) c)) := by
 have hc : c = (tblF l.length D a b || aptB l (tblF l.length D) a b) := by
  cases c
  ·symm
   cases g1 : tblF l.length D a b
   ·cases g2 : aptB l (tblF l.length D) a b
    ·rfl
    ·cases h2 g2
   ·cases h1 g1
  ·symm
   rw [Bool.or_eq_true]
   exact h3 rfl
 refine h.step hto ha hb fun q p hq hp => ?_
 rw [tbl_set hD hp ha hb]
 split
 ·rename_i e; rw [e.1, e.2, hc]
 ·rfl
theorem SmlU.apart {m x : Mc} {tot : Int} {p T : Mc} {vs : List Int} (h : SmlU m x tot p T vs) {i j : Nat} (hi : i < x.2.length) (hj : j < x.2.length) (hij : i ≠ j) : Aprt x.2 i j := by
 rcases h.way with ⟨_, h2, h3, _⟩ | ⟨_, h2, f, hf, hl⟩
 ·rw [h3] at hi; exact absurd hi (Nat.not_lt_zero _)
 ·exact lst_apart (z := p.1) (l := (srtM p).2) (srt_right h.psh.rightx) hf h2 hl hi hj hij
theorem RndT.end {m x : Mc} {tot : Int} {p T : Mc} {vs : List Int} (h : SmlU m x tot p T vs) {n k : Nat} {D : List Bool} (hn : x.2.length = n) (hto : ∀ q, q < x.2.length → ∀ a ∈ (el x.2 q).2, ∃ t : Nat, a.2.2.2 = (t : Int) ∧ t < x.2.length) (hR : RndT x.2 k 0 0 (tblF n D)) (hk : n ≤ k) {i j : Nat} (hi : i < n) (hj : j < n) : el D (i * n + j) = decide (i ≠ j) := by
 subst hn
 have h1 := hR.all hto hk hi hj
 show tblF _ D i j = _
 by_cases e : i = j
 ·subst e
  have h2 := apr_all hto (Nat.le_refl _) hi hi
  rw [aprB_refl] at h2
  have : ¬ Aprt x.2 i i := fun g => by cases h2.2 g
  rw [show decide (i ≠ i) = false by simp, ← Bool.not_eq_true]
  exact fun g => this (h1.1 g)
 ·rw [h1.2 (h.apart hi hj e)]
  simp [e]
end Go.Proofs.YtfhjncpakgailaaGreatDoor.Pl
