/- What leads somewhere: the least sets that are closed (no program in sight). -/
import Derived.Test.YtpfcljhbamnghabPlainK
namespace Go.Proofs.Ytpfcljhbamnghab.Pl
/-- Holds at Start, and is handed on along arcs. -/
def AheadC (z : Int) (l : List St) (T : Nat → Prop) : Prop := (∀ q, q < l.length → (q : Int) = z → T q) ∧ ∀ q, q < l.length → T q → ∀ a ∈ (el l q).2, T a.2.2.2.toNat
/-- Holds where a state may end, and is handed back along arcs. -/
def BackC (l : List St) (T : Nat → Prop) : Prop := (∀ q, q < l.length → (el l q).1 ≠ 1000000001 → T q) ∧ ∀ q, q < l.length → ∀ a ∈ (el l q).2, T a.2.2.2.toNat → T q
/-- The least such set, as a list. -/
def Least (C : (Nat → Prop) → Prop) (n : Nat) (bs : List Bool) : Prop := bs.length = n ∧ C (fun q => el bs q = true) ∧ ∀ T, C T → ∀ q, q < n → el bs q = true → T q
theorem Least.one {C : (Nat → Prop) → Prop} {n : Nat} {a b : List Bool} (ha : Least C n a) (hb : Least C n b) : a = b := by
  apply el_ext (by rw [ha.1, hb.1])
  intro j hj
  have hj' : j < n := by rw [ha.1] at hj; exact hj
  have h1 := ha.2.2 _ hb.2.1 j hj'
  have h2 := hb.2.2 _ ha.2.1 j hj'
  rw [Bool.eq_iff_iff]
  exact ⟨h1, h2⟩
def leL (a b : List Bool) : Prop := a.length = b.length ∧ ∀ j, j < a.length → el a j = true → el b j = true
theorem leL.refl (a : List Bool) : leL a a := ⟨rfl, fun _ _ h => h⟩
theorem leL.trans {a b c : List Bool} (h : leL a b) (k : leL b c) : leL a c := ⟨h.1.trans k.1, fun j hj e => k.2 j (by rw [← h.1]; exact hj) (h.2 j hj e)⟩
theorem el_setB {l : List Bool} {q j : Nat} (hq : q < l.length) : el (l.set q true) j = if j = q then true else el l j := by
  by_cases h : j = q
  · subst h; rw [if_pos rfl, el_get (by simpa using hq)]; simp
  · rw [if_neg h]; simp [el, List.getElem?_set_ne (Ne.symm h)]
theorem leL.set (a : List Bool) {q : Nat} (hq : q < a.length) : leL a (a.set q true) := by
  refine ⟨by simp, fun j hj h => ?_⟩
  rw [el_setB hq]
  split
  · rfl
  · exact h
theorem leL.same {a b : List Bool} (h : leL a b) (k : leL b a) : a = b := by
  apply el_ext h.1
  intro j hj
  rw [Bool.eq_iff_iff]
  exact ⟨h.2 j hj, k.2 j (by rw [← h.1]; exact hj)⟩
theorem count_mono {a b : List Bool} (h : leL a b) : a.count true ≤ b.count true := by
  induction a generalizing b with
  | nil => simp
  | cons x a ih =>
    cases b with
    | nil => simp [leL] at h
    | cons y b =>
      have h0 := h.2 0 (by simp)
      rw [el_zero, el_zero] at h0
      have := ih (b := b) ⟨by simpa using h.1, fun j hj e => by have := h.2 (j + 1) (by simpa using hj); rw [el_succ, el_succ] at this; exact this e⟩
      simp only [List.count_cons]
      cases x <;> cases y <;> simp_all <;> omega
theorem count_lt {a b : List Bool} (h : leL a b) (hne : a ≠ b) : a.count true < b.count true := by
  induction a generalizing b with
  | nil =>
    cases b with
    | nil => exact absurd rfl hne
    | cons y b => simp [leL] at h
  | cons x a ih =>
    cases b with
    | nil => simp [leL] at h
    | cons y b =>
      have h0 := h.2 0 (by simp)
      rw [el_zero, el_zero] at h0
      have ht : leL a b := ⟨by simpa using h.1, fun j hj e => by have := h.2 (j + 1) (by simpa using hj); rw [el_succ, el_succ] at this; exact this e⟩
      have hm := count_mono ht
      simp only [List.count_cons]
      by_cases hxy : x = y
      · subst hxy
        have := ih ht (fun e => hne (by rw [e]))
        omega
      · cases x <;> cases y <;> simp_all <;> omega
/-- Once round: b0 ahead of it, bs behind it; 'chk' is so up to where it went, as long as nothing was new. -/
structure Pass (C : (Nat → Prop) → Prop) (n : Nat) (b0 bs : List Bool) (chk : Prop) : Prop where
  len : bs.length = n
  le : leL b0 bs
  sound : ∀ T, C T → ∀ q, q < n → el bs q = true → T q
  chk : bs = b0 → chk
theorem Pass.set {C : (Nat → Prop) → Prop} {n q : Nat} {b0 bs : List Bool} {chk chk' : Prop} (h : Pass C n b0 bs chk) (hq : q < n) (hs : ∀ T, C T → T q) (hc : el b0 q = true → chk → chk') : Pass C n b0 (bs.set q true) chk' := by
  refine ⟨by simpa using h.len, h.le.trans (leL.set bs (by rw [h.len]; exact hq)), fun T hT j hj e => ?_, fun e => ?_⟩
  · rw [el_setB (by rw [h.len]; exact hq)] at e
    split at e
    · rename_i hjq; subst hjq; exact hs T hT
    · exact h.sound T hT j hj e
  · have h1 : el b0 q = true := by rw [← e, el_setB (by rw [h.len]; exact hq), if_pos rfl]
    have h2 : bs = b0 := h.le.same ⟨h.le.1.symm, fun j hj e' => by
      have := leL.set bs (q := q) (by rw [h.len]; exact hq)
      have := this.2 j hj e'
      rwa [e] at this⟩ |>.symm
    exact hc h1 (h.chk h2)
theorem Pass.keep {C : (Nat → Prop) → Prop} {n : Nat} {b0 bs : List Bool} {chk chk' : Prop} (h : Pass C n b0 bs chk) (hc : bs = b0 → chk → chk') : Pass C n b0 bs chk' := ⟨h.len, h.le, h.sound, fun e => hc e (h.chk e)⟩
/-- Rounds: closed, or each round has found one more. -/
structure Rounds (C : (Nat → Prop) → Prop) (n k : Nat) (bs : List Bool) : Prop where
  len : bs.length = n
  sound : ∀ T, C T → ∀ q, q < n → el bs q = true → T q
  more : C (fun q => el bs q = true) ∨ k ≤ bs.count true
theorem Rounds.begin {C : (Nat → Prop) → Prop} {n k : Nat} {bs : List Bool} (h : Rounds C n k bs) {chk : Prop} (hc : chk) : Pass C n bs bs chk := ⟨h.len, leL.refl _, h.sound, fun _ => hc⟩
theorem Rounds.next {C : (Nat → Prop) → Prop} {n k : Nat} {b0 bs : List Bool} {chk : Prop} (h : Rounds C n k b0) (p : Pass C n b0 bs chk) (hc : chk → C (fun q => el b0 q = true)) : Rounds C n (k + 1) bs := by
  refine ⟨p.len, p.sound, ?_⟩
  by_cases e : bs = b0
  · rw [e]; exact .inl (hc (p.chk e))
  · rcases h.more with hcl | hk
    · exact absurd (p.le.same ⟨p.le.1.symm, fun j hj e' => p.sound _ hcl j (by rw [p.len] at hj; exact hj) e'⟩).symm e
    · have := count_lt p.le (fun e' => e e'.symm)
      exact .inr (by omega)
theorem Rounds.least {C : (Nat → Prop) → Prop} {n : Nat} {bs : List Bool} (h : Rounds C n (n + 1) bs) : Least C n bs := by
  refine ⟨h.len, ?_, h.sound⟩
  rcases h.more with hc | hk
  · exact hc
  · have := List.count_le_length (a := true) (l := bs)
    rw [h.len] at this
    omega
theorem el_false {n j : Nat} : el (List.replicate n false) j = false := by
  unfold el
  rw [List.getElem?_replicate]
  split <;> rfl
theorem Rounds.start (C : (Nat → Prop) → Prop) (n : Nat) : Rounds C n 0 (List.replicate n false) := ⟨by simp, fun T _ q _ e => absurd e (by rw [el_false]; simp), .inr (Nat.zero_le _)⟩
end Go.Proofs.Ytpfcljhbamnghab.Pl
