/- The place of a number in a list; what trimming leaves (no program in sight). What leads somewhere: the least sets that are closed (no program in sight). What trimming leaves: places, and that all that is left lies on a path (no program in sight). What trimming leaves: it is right, all of it lies on paths, trimmed again it stays (no program in sight). One machine or the other, one behind the other, again and again: what is answered of paths, of the longest one, of cycles (no program in sight). -/
import Derived.Test.YtfajkomajbhphaaPlainK
import Derived.Test.YtfajkomajbhphaaJ10a
namespace Go.Proofs.Ytfajkomajbhphaa.Pl
/-- The place of x in a list; -1: none. -/
def placeL' (x : Int) : Nat → List Int → Int
  | _, [] => -1
  | i, k :: l => if k = x then (i : Int) else placeL' x (i + 1) l
def placeI (ks : List Int) (x : Int) : Int := placeL' x 0 ks
theorem placeL'_at {x : Int} {ks : List Int} {i k : Nat} (hk : k < ks.length) (h : ∀ j, j < k → el ks j ≠ x) (e : el ks k = x) : placeL' x i ks = ((i + k : Nat) : Int) := by
  induction ks generalizing i k with
  | nil => simp at hk
  | cons y l ih =>
    cases k with
    | zero => rw [el_zero] at e; simp [placeL', e]
    | succ k =>
      have h0 := h 0 (by omega)
      rw [el_zero] at h0
      rw [placeL', if_neg h0, ih (k := k) (by simpa using hk) (fun j hj => by have := h (j + 1) (by omega); rwa [el_succ] at this) (by rwa [el_succ] at e)]
      congr 1; omega
theorem placeL'_none {x : Int} {ks : List Int} {i : Nat} (h : ∀ j, j < ks.length → el ks j ≠ x) : placeL' x i ks = -1 := by
  induction ks generalizing i with
  | nil => rfl
  | cons y l ih =>
    have h0 := h 0 (by simp)
    rw [el_zero] at h0
    rw [placeL', if_neg h0]
    exact ih (fun j hj => by have := h (j + 1) (by simpa using hj); rwa [el_succ] at this)
theorem placeI_at {x : Int} {ks : List Int} {k : Nat} (hk : k < ks.length) (h : ∀ j, j < k → el ks j ≠ x) (e : el ks k = x) : placeI ks x = (k : Int) := by
  have := placeL'_at (i := 0) hk h e
  rwa [Nat.zero_add] at this
theorem placeI_none {x : Int} {ks : List Int} (h : ∀ j, j < ks.length → el ks j ≠ x) : placeI ks x = -1 := placeL'_none h
/-- The states that are left. -/
def keptL (a b : List Bool) (n : Nat) : List Int := ((List.range n).filter fun q => el a q && el b q).map fun q : Nat => (q : Int)
theorem keptL_succ (a b : List Bool) (n : Nat) : keptL a b (n + 1) = keptL a b n ++ (if (el a n && el b n) = true then [(n : Int)] else []) := by
  unfold keptL
  rw [List.range_succ, List.filter_append, List.map_append]
  cases h : (el a n && el b n) <;> simp [h]
theorem keptL_le (a b : List Bool) (n : Nat) : (keptL a b n).length ≤ n := by
  unfold keptL
  rw [List.length_map]
  exact Nat.le_trans (List.length_filter_le _ _) (by simp)
theorem keptL_mem {a b : List Bool} {n : Nat} {x : Int} (h : x ∈ keptL a b n) : ∃ q : Nat, x = (q : Int) ∧ q < n ∧ el a q = true ∧ el b q = true := by
  unfold keptL at h
  simp only [List.mem_map, List.mem_filter, List.mem_range, Bool.and_eq_true] at h
  obtain ⟨q, ⟨h1, h2, h3⟩, rfl⟩ := h
  exact ⟨q, rfl, h1, h2, h3⟩
def turnA (ks : List Int) (c : Ar) : Ar := (c.1, c.2.1, c.2.2.1, placeI ks c.2.2.2)
/-- The arcs that are left. -/
def trimA (ks : List Int) (l : List Ar) : List Ar := (l.map (turnA ks)).filter fun c => decide (0 ≤ c.2.2.2)
theorem trimA_take {ks : List Int} {l : List Ar} {k : Nat} (h : k < l.length) : trimA ks (l.take (k + 1)) = trimA ks (l.take k) ++ (if 0 ≤ placeI ks (el l k).2.2.2 then [turnA ks (el l k)] else []) := by
  unfold trimA
  rw [take_el h, List.map_append, List.filter_append]
  congr 1
  by_cases e : 0 ≤ placeI ks (el l k).2.2.2 <;> simp [e, turnA]
theorem trimA_le (ks : List Int) (l : List Ar) : (trimA ks l).length ≤ l.length := by
  unfold trimA
  exact Nat.le_trans (List.length_filter_le _ _) (by simp)
def trimS (l : List St) (ks : List Int) (x : Int) : St := ((el l x.toNat).1, trimA ks (el l x.toNat).2)
def trimM (z : Int) (l : List St) (ks : List Int) : Mc := (placeI ks z, ks.map (trimS l ks))
end Go.Proofs.Ytfajkomajbhphaa.Pl
namespace Go.Proofs.Ytfajkomajbhphaa.Pl
/-- Holds at Start, and is handed on along arcs. -/
def AheadC (z : Int) (l : List St) (T : Nat → Prop) : Prop := (∀ q, q < l.length → (q : Int) = z → T q) ∧ ∀ q, q < l.length → T q → ∀ a ∈ (el l q).2, T a.2.2.2.toNat
/-- Holds where a state may end, and is handed back along arcs. -/
def BackC (l : List St) (T : Nat → Prop) : Prop := (∀ q, q < l.length → (el l q).1 ≠ 1000000001 → T q) ∧ ∀ q, q < l.length → ∀ a ∈ (el l q).2, T a.2.2.2.toNat → T q
/-- The least such set, as a list. -/
def Least (C : (Nat → Prop) → Prop) (n : Nat) (bs : List Bool) : Prop := bs.length = n ∧ C (fun q => el bs q = true) ∧ ∀ T, C T → ∀ q, q < n → el bs q = true → T q
theorem Least.one {C : (Nat → Prop) → Prop} {n : Nat} {a b : List Bool} (ha : Least C n a) (hb : Least C n b) : a = b := by
  apply el_ext (by rw [ha.1, hb.1])
  intro j hj
  have hj' : j < n := by rw [ha.1] at hj; exact hj
  have h1 := ha.2.2 _ hb.2.1 j hj'
  have h2 := hb.2.2 _ ha.2.1 j hj'
  rw [Bool.eq_iff_iff]
  exact ⟨h1, h2⟩
def leL (a b : List Bool) : Prop := a.length = b.length ∧ ∀ j, j < a.length → el a j = true → el b j = true
theorem leL.refl (a : List Bool) : leL a a := ⟨rfl, fun _ _ h => h⟩
theorem leL.trans {a b c : List Bool} (h : leL a b) (k : leL b c) : leL a c := ⟨h.1.trans k.1, fun j hj e => k.2 j (by rw [← h.1]; exact hj) (h.2 j hj e)⟩
theorem el_setB {l : List Bool} {q j : Nat} (hq : q < l.length) : el (l.set q true) j = if j = q then true else el l j := by
  by_cases h : j = q
  · subst h; rw [if_pos rfl, el_get (by simpa using hq)]; simp
  · rw [if_neg h]; simp [el, List.getElem?_set_ne (Ne.symm h)]
theorem leL.set (a : List Bool) {q : Nat} (hq : q < a.length) : leL a (a.set q true) := by
  refine ⟨by simp, fun j hj h => ?_⟩
  rw [el_setB hq]
  split
  · rfl
  · exact h
theorem leL.same {a b : List Bool} (h : leL a b) (k : leL b a) : a = b := by
  apply el_ext h.1
  intro j hj
  rw [Bool.eq_iff_iff]
  exact ⟨h.2 j hj, k.2 j (by rw [← h.1]; exact hj)⟩
theorem count_mono {a b : List Bool} (h : leL a b) : a.count true ≤ b.count true := by
  induction a generalizing b with
  | nil => simp
  | cons x a ih =>
    cases b with
    | nil => simp [leL] at h
    | cons y b =>
      have h0 := h.2 0 (by simp)
      rw [el_zero, el_zero] at h0
      have := ih (b := b) ⟨by simpa using h.1, fun j hj e => by have := h.2 (j + 1) (by simpa using hj); rw [el_succ, el_succ] at this; exact this e⟩
      simp only [List.count_cons]
      cases x <;> cases y <;> simp_all <;> omega
theorem count_lt {a b : List Bool} (h : leL a b) (hne : a ≠ b) : a.count true < b.count true := by
  induction a generalizing b with
  | nil =>
    cases b with
    | nil => exact absurd rfl hne
    | cons y b => simp [leL] at h
  | cons x a ih =>
    cases b with
    | nil => simp [leL] at h
    | cons y b =>
      have h0 := h.2 0 (by simp)
      rw [el_zero, el_zero] at h0
      have ht : leL a b := ⟨by simpa using h.1, fun j hj e => by have := h.2 (j + 1) (by simpa using hj); rw [el_succ, el_succ] at this; exact this e⟩
      have hm := count_mono ht
      simp only [List.count_cons]
      by_cases hxy : x = y
      · subst hxy
        have := ih ht (fun e => hne (by rw [e]))
        omega
      · cases x <;> cases y <;> simp_all <;> omega
/-- Once round: b0 ahead of it, bs behind it; 'chk' is so up to where it went, as long as nothing was new. -/
structure Pass (C : (Nat → Prop) → Prop) (n : Nat) (b0 bs : List Bool) (chk : Prop) : Prop where
  len : bs.length = n
  le : leL b0 bs
  sound : ∀ T, C T → ∀ q, q < n → el bs q = true → T q
  chk : bs = b0 → chk
theorem Pass.set {C : (Nat → Prop) → Prop} {n q : Nat} {b0 bs : List Bool} {chk chk' : Prop} (h : Pass C n b0 bs chk) (hq : q < n) (hs : ∀ T, C T → T q) (hc : el b0 q = true → chk → chk') : Pass C n b0 (bs.set q true) chk' := by
  refine ⟨by simpa using h.len, h.le.trans (leL.set bs (by rw [h.len]; exact hq)), fun T hT j hj e => ?_, fun e => ?_⟩
  · rw [el_setB (by rw [h.len]; exact hq)] at e
    split at e
    · rename_i hjq; subst hjq; exact hs T hT
    · exact h.sound T hT j hj e
  · have h1 : el b0 q = true := by rw [← e, el_setB (by rw [h.len]; exact hq), if_pos rfl]
    have h2 : bs = b0 := h.le.same ⟨h.le.1.symm, fun j hj e' => by
      have := leL.set bs (q := q) (by rw [h.len]; exact hq)
      have := this.2 j hj e'
      rwa [e] at this⟩ |>.symm
    exact hc h1 (h.chk h2)
theorem Pass.keep {C : (Nat → Prop) → Prop} {n : Nat} {b0 bs : List Bool} {chk chk' : Prop} (h : Pass C n b0 bs chk) (hc : bs = b0 → chk → chk') : Pass C n b0 bs chk' := ⟨h.len, h.le, h.sound, fun e => hc e (h.chk e)⟩
/-- Rounds: closed, or each round has found one more. -/
structure Rounds (C : (Nat → Prop) → Prop) (n k : Nat) (bs : List Bool) : Prop where
  len : bs.length = n
  sound : ∀ T, C T → ∀ q, q < n → el bs q = true → T q
  more : C (fun q => el bs q = true) ∨ k ≤ bs.count true
theorem Rounds.begin {C : (Nat → Prop) → Prop} {n k : Nat} {bs : List Bool} (h : Rounds C n k bs) {chk : Prop} (hc : chk) : Pass C n bs bs chk := ⟨h.len, leL.refl _, h.sound, fun _ => hc⟩
theorem Rounds.next {C : (Nat → Prop) → Prop} {n k : Nat} {b0 bs : List Bool} {chk : Prop} (h : Rounds C n k b0) (p : Pass C n b0 bs chk) (hc : chk → C (fun q => el b0 q = true)) : Rounds C n (k + 1) bs := by
  refine ⟨p.len, p.sound, ?_⟩
  by_cases e : bs = b0
  · rw [e]; exact .inl (hc (p.chk e))
  · rcases h.more with hcl | hk
    · exact absurd (p.le.same ⟨p.le.1.symm, fun j hj e' => p.sound _ hcl j (by rw [p.len] at hj; exact hj) e'⟩).symm e
    · have := count_lt p.le (fun e' => e e'.symm)
      exact .inr (by omega)
theorem Rounds.least {C : (Nat → Prop) → Prop} {n : Nat} {bs : List Bool} (h : Rounds C n (n + 1) bs) : Least C n bs := by
  refine ⟨h.len, ?_, h.sound⟩
  rcases h.more with hc | hk
  · exact hc
  · have := List.count_le_length (a := true) (l := bs)
    rw [h.len] at this
    omega
theorem el_false {n j : Nat} : el (List.replicate n false) j = false := by
  unfold el
  rw [List.getElem?_replicate]
  split <;> rfl
theorem Rounds.start (C : (Nat → Prop) → Prop) (n : Nat) : Rounds C n 0 (List.replicate n false) := ⟨by simp, fun T _ q _ e => absurd e (by rw [el_false]; simp), .inr (Nat.zero_le _)⟩
end Go.Proofs.Ytfajkomajbhphaa.Pl
namespace Go.Proofs.Ytfajkomajbhphaa.Pl
theorem keptL_sorted (a b : List Bool) (n : Nat) : (keptL a b n).Pairwise (· < ·) := by
  unfold keptL
  rw [List.pairwise_map]
  refine (List.Pairwise.filter _ (List.pairwise_lt_range (n := n))).imp ?_
  intro x y h
  omega
theorem keptL_iff {a b : List Bool} {n q : Nat} : (q : Int) ∈ keptL a b n ↔ q < n ∧ el a q = true ∧ el b q = true := by
  constructor
  · intro h
    obtain ⟨p, h1, h2, h3, h4⟩ := keptL_mem h
    obtain rfl : q = p := by omega
    exact ⟨h2, h3, h4⟩
  · rintro ⟨h1, h2, h3⟩
    unfold keptL
    simp only [List.mem_map, List.mem_filter, List.mem_range, Bool.and_eq_true]
    exact ⟨q, ⟨h1, h2, h3⟩, rfl⟩
theorem placeI_el {ks : List Int} (hp : ks.Pairwise (· < ·)) {i : Nat} (hi : i < ks.length) : placeI ks (el ks i) = (i : Int) := by
  refine placeI_at hi (fun j hj => ?_) rfl
  have := List.pairwise_iff_getElem.1 hp j i (by omega) hi hj
  rw [el_get hi, el_get (by omega)]
  omega
theorem placeI_mem {ks : List Int} (hp : ks.Pairwise (· < ·)) {x : Int} (h : x ∈ ks) : ∃ i : Nat, i < ks.length ∧ el ks i = x ∧ placeI ks x = (i : Int) := by
  obtain ⟨i, hi, rfl⟩ := mem_el h
  exact ⟨i, hi, rfl, placeI_el hp hi⟩
theorem placeI_not {ks : List Int} {x : Int} (h : x ∉ ks) : placeI ks x = -1 := placeI_none (fun _ hj e => h (e ▸ el_mem hj))
theorem placeI_nonneg {ks : List Int} (hp : ks.Pairwise (· < ·)) {x : Int} : 0 ≤ placeI ks x ↔ x ∈ ks := by
  constructor
  · intro h
    by_cases e : x ∈ ks
    · exact e
    · rw [placeI_not e] at h; omega
  · intro h
    obtain ⟨i, _, _, e⟩ := placeI_mem hp h
    rw [e]; omega
section
variable {z : Int} {l : List St} {aa bs : List Bool}
/-- The trimmed machine's states. -/
theorem trim_el {ks : List Int} {i : Nat} (hi : i < ks.length) : el (ks.map (trimS l ks)) i = ((el l (el ks i).toNat).1, trimA ks (el l (el ks i).toNat).2) := by
  rw [el_map hi]; rfl
theorem trimA_mem {ks : List Int} {ar : List Ar} {c : Ar} (h : c ∈ trimA ks ar) : ∃ d ∈ ar, c = turnA ks d ∧ 0 ≤ placeI ks d.2.2.2 := by
  unfold trimA at h
  simp only [List.mem_filter, List.mem_map, decide_eq_true_eq] at h
  obtain ⟨⟨d, hd, rfl⟩, h0⟩ := h
  exact ⟨d, hd, rfl, h0⟩
theorem trimA_in {ks : List Int} {ar : List Ar} {d : Ar} (hd : d ∈ ar) (h0 : 0 ≤ placeI ks d.2.2.2) : turnA ks d ∈ trimA ks ar := by
  unfold trimA
  simp only [List.mem_filter, List.mem_map, decide_eq_true_eq]
  exact ⟨⟨d, hd, rfl⟩, h0⟩
theorem el_true {n j : Nat} : el (List.replicate n true) j = true ↔ j < n := by
  unfold el
  rw [List.getElem?_replicate]
  split
  · rename_i h; simp [h]
  · rename_i h; simp [h]
/-- Where arcs of a right machine lead. -/
theorem to_right (hf : faultM (z, l) = 0) {q : Nat} (hq : q < l.length) {d : Ar} (hd : d ∈ (el l q).2) : ∃ t : Nat, d.2.2.2 = (t : Int) ∧ t < l.length := by
  have h := List.all_eq_true.1 (right_st hf hq).2 d hd
  simp only [arcB, inB, Bool.and_eq_true, decide_eq_true_eq] at h
  exact ⟨d.2.2.2.toNat, by omega, by omega⟩
theorem trim_ahead (hf : faultM (z, l) = 0) (hA : Least (AheadC z l) l.length aa) (hB : Least (BackC l) l.length bs) (T : Nat → Prop) (hT : AheadC (placeI (keptL aa bs l.length) z) ((keptL aa bs l.length).map (trimS l (keptL aa bs l.length))) T) :
    ∀ i, i < (keptL aa bs l.length).length → T i := by
  have hp := keptL_sorted aa bs l.length
  have hk : ∀ q, q < l.length → el aa q = true → el bs q = true → ∃ i : Nat, i < (keptL aa bs l.length).length ∧ el (keptL aa bs l.length) i = (q : Int) ∧ placeI (keptL aa bs l.length) (q : Int) = (i : Int) := fun q hq h1 h2 => placeI_mem hp (keptL_iff.2 ⟨hq, h1, h2⟩)
  have key : ∀ q, q < l.length → el aa q = true → (el aa q = true ∧ (el bs q = true → T (placeI (keptL aa bs l.length) (q : Int)).toNat)) := by
    refine hA.2.2 (fun q => el aa q = true ∧ (el bs q = true → T (placeI (keptL aa bs l.length) (q : Int)).toNat)) ⟨?_, ?_⟩
    · intro q hq hz
      have h1 := hA.2.1.1 q hq hz
      refine ⟨h1, fun h2 => ?_⟩
      obtain ⟨i, hi, _, e⟩ := hk q hq h1 h2
      rw [e]
      refine hT.1 _ (by simpa using hi) ?_
      rw [← hz, e]; simp
    · intro q hq h9 d hd
      obtain ⟨t, ht, htn⟩ := to_right hf hq hd
      have h1 := hA.2.1.2 q hq h9.1 d hd
      rw [ht] at h1 ⊢
      simp only [Int.toNat_natCast] at h1 ⊢
      refine ⟨h1, fun h2 => ?_⟩
      have hbq : el bs q = true := hB.2.1.2 q hq d hd (by rw [ht]; simpa using h2)
      obtain ⟨i, hi, hei, e⟩ := hk q hq h9.1 hbq
      obtain ⟨j, hj, hej, e2⟩ := hk t htn h1 h2
      have h3 := h9.2 hbq
      rw [e] at h3
      have h4 := hT.2 i (by simpa using hi) (by simpa using h3) (turnA (keptL aa bs l.length) d) (by
        rw [trim_el hi, hei]
        simp only [Int.toNat_natCast]
        exact trimA_in hd (by rw [ht, e2]; omega))
      simp only [turnA] at h4
      rw [ht] at h4
      exact h4
  intro i hi
  obtain ⟨q, hq, hqn, h1, h2⟩ := keptL_mem (el_mem hi)
  have h3 := (key q hqn h1).2 h2
  rw [← hq, placeI_el hp hi] at h3
  simpa using h3
end
end Go.Proofs.Ytfajkomajbhphaa.Pl
namespace Go.Proofs.Ytfajkomajbhphaa.Pl
section
variable {z : Int} {l : List St} {aa bs : List Bool}
theorem trim_back (hf : faultM (z, l) = 0) (hA : Least (AheadC z l) l.length aa) (hB : Least (BackC l) l.length bs) (T : Nat → Prop) (hT : BackC ((keptL aa bs l.length).map (trimS l (keptL aa bs l.length))) T) :
    ∀ i, i < (keptL aa bs l.length).length → T i := by
  have hp := keptL_sorted aa bs l.length
  have hk : ∀ q, q < l.length → el aa q = true → el bs q = true → ∃ i : Nat, i < (keptL aa bs l.length).length ∧ el (keptL aa bs l.length) i = (q : Int) ∧ placeI (keptL aa bs l.length) (q : Int) = (i : Int) := fun q hq h1 h2 => placeI_mem hp (keptL_iff.2 ⟨hq, h1, h2⟩)
  have key : ∀ q, q < l.length → el bs q = true → (el bs q = true ∧ (el aa q = true → T (placeI (keptL aa bs l.length) (q : Int)).toNat)) := by
    refine hB.2.2 (fun q => el bs q = true ∧ (el aa q = true → T (placeI (keptL aa bs l.length) (q : Int)).toNat)) ⟨?_, ?_⟩
    · intro q hq hz
      have h1 := hB.2.1.1 q hq hz
      refine ⟨h1, fun h2 => ?_⟩
      obtain ⟨i, hi, hei, e⟩ := hk q hq h2 h1
      rw [e]
      refine hT.1 _ (by simpa using hi) ?_
      rw [Int.toNat_natCast, trim_el hi, hei]
      simpa using hz
    · intro q hq d hd h9
      obtain ⟨t, ht, htn⟩ := to_right hf hq hd
      rw [ht] at h9
      simp only [Int.toNat_natCast] at h9
      have h1 : el bs q = true := hB.2.1.2 q hq d hd (by rw [ht]; simpa using h9.1)
      refine ⟨h1, fun h2 => ?_⟩
      have h3 : el aa t = true := by have := hA.2.1.2 q hq h2 d hd; rw [ht] at this; simpa using this
      obtain ⟨i, hi, hei, e⟩ := hk q hq h2 h1
      obtain ⟨j, hj, hej, e2⟩ := hk t htn h3 h9.1
      have h4 := h9.2 h3
      rw [e2] at h4
      rw [e]
      refine hT.2 i (by simpa using hi) (turnA (keptL aa bs l.length) d) (by
        rw [trim_el hi, hei]
        simp only [Int.toNat_natCast]
        exact trimA_in hd (by rw [ht, e2]; omega)) ?_
      simp only [turnA]
      rw [ht, e2]
      exact h4
  intro i hi
  obtain ⟨q, hq, hqn, h1, h2⟩ := keptL_mem (el_mem hi)
  have h3 := (key q hqn h2).2 h1
  rw [← hq, placeI_el hp hi] at h3
  simpa using h3
theorem arcN_cons (s : St) (l : List St) : arcN (s :: l) = s.2.length + arcN l := rfl
theorem trim_arcs (ks : List Int) (n : Nat) (hn : n ≤ l.length) : arcN ((keptL aa bs n).map (trimS l ks)) ≤ arcN (l.take n) := by
  induction n with
  | zero => simp [keptL, arcN]
  | succ n ih =>
    rw [keptL_succ, List.map_append, arcN_append, arcN_take (by omega)]
    have := ih (by omega)
    split
    · have h9 := trimA_le ks (el l n).2
      simp only [List.map_cons, List.map_nil, arcN_cons, arcN, trimS, Int.toNat_natCast]
      omega
    · simp only [List.map_nil, arcN]
      omega
theorem trim_fault (hf : faultM (z, l) = 0) : faultM (trimM z l (keptL aa bs l.length)) = 0 := by
  have hp := keptL_sorted aa bs l.length
  have hle := keptL_le aa bs l.length
  have hsz := right_size hf
  have har := trim_arcs (l := l) (aa := aa) (bs := bs) (keptL aa bs l.length) l.length (Nat.le_refl _)
  rw [List.take_length] at har
  have hpl : ∀ x, -1 ≤ placeI (keptL aa bs l.length) x ∧ placeI (keptL aa bs l.length) x ≤ ((keptL aa bs l.length).length : Int) - 1 := fun x => by
    by_cases e : x ∈ keptL aa bs l.length
    · obtain ⟨i, hi, _, h⟩ := placeI_mem hp e
      rw [h]; omega
    · rw [placeI_not e]; omega
  refine faultM_ok ?_ ?_
  · simp only [sizeB, trimM, Bool.and_eq_true, List.length_map]
    exact ⟨decide_eq_true (by omega), decide_eq_true (by omega)⟩
  · simp only [rangeB, trimM, Bool.and_eq_true, List.length_map, List.all_eq_true]
    refine ⟨by simp only [inB, Bool.and_eq_true, decide_eq_true_eq]; exact hpl z, fun s hs => ?_⟩
    obtain ⟨x, hx, rfl⟩ := List.mem_map.1 hs
    obtain ⟨q, rfl, hq, _, _⟩ := keptL_mem hx
    have h1 := right_st hf hq
    simp only [stB, trimS, Bool.and_eq_true, List.all_eq_true, Int.toNat_natCast]
    refine ⟨h1.1, fun c hc => ?_⟩
    obtain ⟨d, hd, rfl, h0⟩ := trimA_mem hc
    have h2 := List.all_eq_true.1 h1.2 d hd
    have h3 := hpl d.2.2.2
    simp only [arcB, inB, Bool.and_eq_true, decide_eq_true_eq] at h2
    simp only [arcB, turnA, inB, Bool.and_eq_true]
    exact ⟨⟨⟨⟨decide_eq_true (by omega), decide_eq_true (by omega)⟩, ⟨decide_eq_true (by omega), decide_eq_true (by omega)⟩⟩, ⟨decide_eq_true (by omega), decide_eq_true (by omega)⟩⟩, ⟨decide_eq_true h0, decide_eq_true h3.2⟩⟩
theorem trim_ok (hm : okM (z, l)) : okM (trimM z l (keptL aa bs l.length)) := by
  have hle := keptL_le aa bs l.length
  have h1 := hm.1
  have h2 := hm.2
  refine ⟨by simp only [trimM, List.length_map] at h1 ⊢; omega, fun j hj => ?_⟩
  simp only [trimM, List.length_map] at hj ⊢
  rw [trim_el hj]
  obtain ⟨q, e, hq, _, _⟩ := keptL_mem (el_mem hj)
  rw [e]
  have := trimA_le (keptL aa bs l.length) (el l q).2
  have := h2 q hq
  simp only [Int.toNat_natCast] at this ⊢
  omega
theorem all_least {C : (Nat → Prop) → Prop} {n : Nat} (hC : C (fun q => q < n)) (h : ∀ T, C T → ∀ i, i < n → T i) : Least C n (List.replicate n true) :=
  ⟨by simp, by
    have : (fun q => el (List.replicate n true) q = true) = fun q => q < n := by funext q; rw [el_true]
    rw [this]; exact hC, fun T hT q hq _ => h T hT q hq⟩
theorem trim_to (hf : faultM (z, l) = 0) {i : Nat} (hi : i < (keptL aa bs l.length).length) {c : Ar} (hc : c ∈ (el ((keptL aa bs l.length).map (trimS l (keptL aa bs l.length))) i).2) : ∃ t : Nat, c.2.2.2 = (t : Int) ∧ t < (keptL aa bs l.length).length := by
  have h := to_right (trim_fault (aa := aa) (bs := bs) hf) (q := i) (by simpa [trimM] using hi) (d := c) (by simpa [trimM] using hc)
  simpa using h
theorem trim_all_ahead (hf : faultM (z, l) = 0) (hA : Least (AheadC z l) l.length aa) (hB : Least (BackC l) l.length bs) :
    Least (AheadC (placeI (keptL aa bs l.length) z) ((keptL aa bs l.length).map (trimS l (keptL aa bs l.length)))) (keptL aa bs l.length).length (List.replicate (keptL aa bs l.length).length true) := by
  refine all_least ⟨fun q hq _ => by simpa using hq, fun q hq h c hc => ?_⟩ (trim_ahead hf hA hB)
  obtain ⟨t, h1, h2⟩ := trim_to hf (by simpa using hq) hc
  rw [h1]; simpa using h2
theorem trim_all_back (hf : faultM (z, l) = 0) (hA : Least (AheadC z l) l.length aa) (hB : Least (BackC l) l.length bs) :
    Least (BackC ((keptL aa bs l.length).map (trimS l (keptL aa bs l.length)))) (keptL aa bs l.length).length (List.replicate (keptL aa bs l.length).length true) := by
  refine all_least ⟨fun q hq _ => by simpa using hq, fun q hq c hc _ => by simpa using hq⟩ (trim_back hf hA hB)
/-- All numbers below n. -/
theorem kept_all (n : Nat) : keptL (List.replicate n true) (List.replicate n true) n = (List.range n).map fun q : Nat => (q : Int) := by
  unfold keptL
  congr 1
  rw [List.filter_eq_self]
  intro q hq
  have := el_true.2 (List.mem_range.1 hq)
  simp [this]
theorem place_all {n : Nat} {x : Int} (h1 : -1 ≤ x) (h2 : x < n) : placeI ((List.range n).map fun q : Nat => (q : Int)) x = x := by
  have hp : ((List.range n).map fun q : Nat => (q : Int)).Pairwise (· < ·) := by
    have := keptL_sorted (List.replicate n true) (List.replicate n true) n
    rwa [kept_all] at this
  by_cases e : 0 ≤ x
  · have h3 : x.toNat < n := by omega
    have := placeI_el hp (i := x.toNat) (by simpa using h3)
    rw [el_range_map (fun q : Nat => (q : Int)) h3] at this
    rw [show ((x.toNat : Nat) : Int) = x by omega] at this
    exact this
  · rw [placeI_not (by intro h; obtain ⟨q, _, h9⟩ := List.mem_map.1 h; omega)]
    omega
theorem trimA_all {n : Nat} {ar : List Ar} (h : ∀ a ∈ ar, ∃ t : Nat, a.2.2.2 = (t : Int) ∧ t < n) : trimA ((List.range n).map fun q : Nat => (q : Int)) ar = ar := by
  unfold trimA
  have : ar.map (turnA ((List.range n).map fun q : Nat => (q : Int))) = ar := by
    conv => rhs; rw [← List.map_id ar]
    refine List.map_congr_left fun a ha => ?_
    obtain ⟨t, h1, h2⟩ := h a ha
    unfold turnA
    rw [h1, place_all (by omega) (by omega), ← h1]
    rfl
  rw [this, List.filter_eq_self]
  intro a ha
  obtain ⟨t, h1, h2⟩ := h a ha
  simp [h1]
/-- A right machine of which all states are left stays as it is. -/
theorem trim_all (hf : faultM (z, l) = 0) : trimM z l (keptL (List.replicate l.length true) (List.replicate l.length true) l.length) = (z, l) := by
  rw [kept_all]
  unfold trimM
  have hz := (faultM_zero hf).2
  simp only [rangeB, Bool.and_eq_true, inB, decide_eq_true_eq] at hz
  rw [place_all (by omega) (by omega)]
  congr 1
  apply el_ext (by simp)
  intro j hj
  have hj' : j < l.length := by simpa using hj
  rw [el_map (by simpa using hj'), el_range_map (fun q : Nat => (q : Int)) hj']
  unfold trimS
  rw [Int.toNat_natCast, trimA_all (fun a ha => to_right hf hj' ha)]
/-- Where the start is not left, nothing is. -/
theorem trim_start (hA : Least (AheadC z l) l.length aa) (hB : Least (BackC l) l.length bs) : placeI (keptL aa bs l.length) z < 0 ↔ (keptL aa bs l.length).length = 0 := by
  have hp := keptL_sorted aa bs l.length
  constructor
  · intro h
    have hz : z ∉ keptL aa bs l.length := fun h9 => by have := (placeI_nonneg hp).2 h9; omega
    by_cases e : (keptL aa bs l.length).length = 0
    · exact e
    · obtain ⟨q, hq, hqn, h1, h2⟩ := keptL_mem (el_mem (l := keptL aa bs l.length) (j := 0) (by omega))
      have key := hA.2.2 (fun q => el aa q = true ∧ ¬ el bs q = true) ⟨fun q hq h9 => ?_, fun q hq h9 d hd => ?_⟩ q hqn h1
      · exact absurd h2 key.2
      · have h3 := hA.2.1.1 q hq h9
        exact ⟨h3, fun h4 => hz (by rw [← h9]; exact keptL_iff.2 ⟨hq, h3, h4⟩)⟩
      · exact ⟨hA.2.1.2 q hq h9.1 d hd, fun h4 => h9.2 (hB.2.1.2 q hq d hd h4)⟩
  · intro h
    have : keptL aa bs l.length = [] := List.eq_nil_of_length_eq_zero h
    rw [this, placeI_not (by simp)]
    omega
/-- How many arcs lead from a state that is left to one that can end. -/
def cntK (l : List St) (aa bs : List Bool) : Nat → Nat
  | 0 => 0
  | n + 1 => cntK l aa bs n + (if (el aa n && el bs n) = true then (el l n).2.countP (fun a => el bs a.2.2.2.toNat) else 0)
theorem trimA_count {ks : List Int} {p : Ar → Bool} {ar : List Ar} (h : ∀ a ∈ ar, (0 ≤ placeI ks a.2.2.2 ↔ p a = true)) : (trimA ks ar).length = ar.countP p := by
  unfold trimA
  rw [← List.countP_eq_length_filter, List.countP_map]
  refine List.countP_congr fun a ha => ?_
  simp only [Function.comp, turnA]
  exact decide_eq_true_iff.trans (h a ha)
theorem trim_count (hf : faultM (z, l) = 0) (hA : Least (AheadC z l) l.length aa) (n : Nat) (hn : n ≤ l.length) : arcN ((keptL aa bs n).map (trimS l (keptL aa bs l.length))) = cntK l aa bs n := by
  induction n with
  | zero => simp [keptL, arcN, cntK]
  | succ n ih =>
    rw [keptL_succ, List.map_append, arcN_append, ih (by omega), cntK]
    split
    · rename_i hk
      simp only [Bool.and_eq_true] at hk
      simp only [List.map_cons, List.map_nil, arcN_cons, arcN, trimS, Int.toNat_natCast, Nat.add_zero]
      rw [trimA_count (p := fun a => el bs a.2.2.2.toNat)]
      intro a ha
      obtain ⟨t, h1, h2⟩ := to_right hf (q := n) (by omega) ha
      have h3 := hA.2.1.2 n (by omega) hk.1 a ha
      rw [placeI_nonneg (keptL_sorted aa bs l.length)]
      rw [h1] at h3 ⊢
      simp only [Int.toNat_natCast] at h3 ⊢
      rw [keptL_iff]
      exact ⟨fun h => h.2.2, fun h => ⟨h2, h3, h⟩⟩
    · simp [arcN]
end
end Go.Proofs.Ytfajkomajbhphaa.Pl
namespace Go.Proofs.Ytfajkomajbhphaa.Pl
set_option linter.unusedVariables false
set_option linter.unusedSimpArgs false
theorem pathAns_of {m : Mc} (fw : Fwd m.2) (hz : m.1 = 0) (hl : 0 < m.2.length) {F : Nat → Nat} (hF : CntEq m.2 F) (hb : F 0 ≤ 1000000000) {x ec : Int} (h : PathAns m 0 x ec) : ec = 0 ∧ x = (F 0 : Int) := by
  unfold PathAns at h
  rw [if_pos rfl] at h
  rcases h with ⟨out, ho, he⟩ | ⟨hc, _⟩
  · have e1 := cnt_one ho fw.to (ho.cnt fw.to) hF 0 hl
    rw [hz] at he
    simp only [Int.toNat_zero, e1, pathA] at he
    rw [if_neg (by omega), if_neg (by omega)] at he
    simp only [Prod.mk.injEq] at he
    exact ⟨he.2.symm, he.1.symm⟩
  · exact absurd hc fw.order.noCycle
theorem farAns_of {m : Mc} (fw : Fwd m.2) (hz : m.1 = 0) (hl : 0 < m.2.length) {D : Nat → Int} (hD : FarEq m.2 D) {x ec : Int} (h : FarAns m 0 x ec) : (D 0 < 0 ∧ ec = 12 ∧ x = 0) ∨ (0 ≤ D 0 ∧ ec = 0 ∧ x = D 0) := by
  unfold FarAns at h
  rw [if_pos rfl] at h
  rcases h with ⟨out, ho, he⟩ | ⟨hc, _⟩
  · have e1 := far_one ho fw.to (ho.far fw.to) hD 0 hl
    rw [hz] at he
    simp only [Int.toNat_zero, e1, farA] at he
    by_cases h0 : D 0 < 0
    · rw [if_pos (.inr h0)] at he
      simp only [Prod.mk.injEq] at he
      exact .inl ⟨h0, he.2.symm, he.1.symm⟩
    · rw [if_neg (by omega)] at he
      simp only [Prod.mk.injEq] at he
      exact .inr ⟨by omega, he.2.symm, he.1.symm⟩
  · exact absurd hc fw.order.noCycle
/-- The machines of the keeping statements: six states at most, four arcs at most, all leading forward, from the first state on. -/
structure Slim (m : Mc) : Prop where
  fwd : Fwd m.2
  start : m.1 = 0
  pos : 0 < m.2.length
  six : m.2.length ≤ 6
  four : ∀ q, q < m.2.length → (el m.2 q).2.length ≤ 4
theorem Slim.cnt {m : Mc} (h : Slim m) : ∃ F, CntEq m.2 F ∧ F 0 ≤ 15625 := by
  refine ⟨_, h.fwd.order.cnt h.fwd.to, ?_⟩
  have := cnt_bound h.fwd (h.fwd.order.cnt h.fwd.to) h.four 6 0 h.pos (by have := h.six; omega)
  simpa using this
theorem Slim.lt {m : Mc} (h : Slim m) : m.1 < (m.2.length : Int) := by have := h.pos; have := h.start; omega
theorem paths_facts {a b : Mc} (ha : Slim a) (hb : Slim b) {n g k h s i p j : Int} (h1 : PathAns a 0 n g) (h2 : PathAns b 0 k h) (h3 : PathAns (uniM a b) 0 s i) (h4 : PathAns (catM a b) 0 p j) :
    g = 0 ∧ h = 0 ∧ i = 0 ∧ j = 0 ∧ s = n + k ∧ p = n * k ∧ (0 ≤ n ∧ n ≤ 15625) ∧ (0 ≤ k ∧ k ≤ 15625) := by
  obtain ⟨F, hF, hF0⟩ := ha.cnt
  obtain ⟨G, hG, hG0⟩ := hb.cnt
  obtain ⟨e1, e2⟩ := pathAns_of ha.fwd ha.start ha.pos hF (by omega) h1
  obtain ⟨e3, e4⟩ := pathAns_of hb.fwd hb.start hb.pos hG (by omega) h2
  have sF : startN F a.1 = F 0 := by unfold startN; rw [ha.start]; rfl
  have sG : startN G b.1 = G 0 := by unfold startN; rw [hb.start]; rfl
  have u0 : uniF a.2.length a.1 b.1 F G 0 = F 0 + G 0 := by unfold uniF; rw [if_pos rfl, sF, sG]
  have c0 : catF a.2.length b.1 F G 0 = F 0 * G 0 := by rw [catF_a ha.pos, sG]
  have hm : F 0 * G 0 ≤ 15625 * 15625 := Nat.mul_le_mul hF0 hG0
  have k1 := pathAns_of (uni_fwd ha.fwd hb.fwd ha.lt hb.lt) rfl (by rw [uniM_len]; omega) (uni_cnt ha.fwd hb.fwd ha.lt hb.lt hF hG) (by rw [u0]; omega) h3
  have k2 := pathAns_of (cat_fwd ha.fwd hb.fwd hb.lt) ha.start (by rw [catM_len]; have := ha.pos; omega) (cat_cnt ha.fwd hb.fwd hF hG) (by rw [c0]; omega) h4
  refine ⟨e1, e3, k1.1, k2.1, ?_, ?_, by omega, by omega⟩
  · rw [k1.2, u0, e2, e4]; simp
  · rw [k2.2, c0, e2, e4]; simp
theorem far_facts {a b : Mc} (ha : Slim a) (hb : Slim b) {n f k g p h : Int} (h1 : FarAns a 0 n f) (h2 : FarAns b 0 k g) (h3 : FarAns (catM a b) 0 p h) :
    (f = 0 ∧ g = 0 ∧ h = 0 ∧ p = n + k + 1 ∧ (0 ≤ n ∧ n ≤ 5) ∧ (0 ≤ k ∧ k ≤ 5)) ∨ ((f = 0 ∨ f = 12) ∧ (g = 0 ∨ g = 12) ∧ (f = 12 ∨ g = 12) ∧ h = 12) := by
  have hF := ha.fwd.order.far ha.fwd.to
  have hG := hb.fwd.order.far hb.fwd.to
  generalize farF a.2 (numsL a.2.length) = F at hF
  generalize farF b.2 (numsL b.2.length) = G at hG
  have bF := ha.fwd.far hF 0 ha.pos
  have bG := hb.fwd.far hG 0 hb.pos
  have sG : startD G b.1 = G 0 := by unfold startD; rw [hb.start]; rfl
  have gG : -1 ≤ G 0 := by
    rw [hG 0 hb.pos]
    refine Int.le_trans ?_ maxF_ge
    unfold baseD; split <;> omega
  have c0 : catD a.2.length b.1 F G 0 = farB (G 0) (F 0) := by rw [catD_a ha.pos, sG]
  have k3 := farAns_of (cat_fwd ha.fwd hb.fwd hb.lt) ha.start (by rw [catM_len]; have := ha.pos; omega) (cat_far ha.fwd hb.fwd hF hG (by rw [sG]; exact gG)) h3
  have := ha.six
  have := hb.six
  rw [c0] at k3
  rcases farAns_of ha.fwd ha.start ha.pos hF h1 with ⟨a1, rfl, rfl⟩ | ⟨a1, rfl, rfl⟩ <;> rcases farAns_of hb.fwd hb.start hb.pos hG h2 with ⟨b1, rfl, rfl⟩ | ⟨b1, rfl, rfl⟩
  · have e : farB (G 0) (F 0) = -1 := by unfold farB; rw [if_pos (.inl a1)]
    rw [e] at k3
    rcases k3 with ⟨_, k, _⟩ | ⟨k, _⟩
    · exact .inr ⟨.inr rfl, .inr rfl, .inl rfl, k⟩
    · omega
  · have e : farB (G 0) (F 0) = -1 := by unfold farB; rw [if_pos (.inl a1)]
    rw [e] at k3
    rcases k3 with ⟨_, k, _⟩ | ⟨k, _⟩
    · exact .inr ⟨.inr rfl, .inl rfl, .inl rfl, k⟩
    · omega
  · have e : farB (G 0) (F 0) = -1 := by unfold farB; rw [if_pos (.inr b1)]
    rw [e] at k3
    rcases k3 with ⟨_, k, _⟩ | ⟨k, _⟩
    · exact .inr ⟨.inl rfl, .inr rfl, .inr rfl, k⟩
    · omega
  · have e : farB (G 0) (F 0) = F 0 + 1 + G 0 := by unfold farB; rw [if_neg (by omega)]
    rw [e] at k3
    rcases k3 with ⟨k, _⟩ | ⟨_, k, k'⟩
    · omega
    · exact .inl ⟨rfl, rfl, k, by omega, by omega, by omega⟩
/-! Again and again. -/
/-- In an order the last one leads nowhere. -/
theorem OrderL.sink {l : List St} {out : List Int} (h : OrderL l out) (hto : ∀ q, q < l.length → ∀ a ∈ (el l q).2, ∃ t : Nat, a.2.2.2 = (t : Int) ∧ t < l.length) (hl : 0 < l.length) : ∃ q, q < l.length ∧ (el l q).2 = [] := by
  have hlen := h.2
  obtain ⟨q, he, hq, _⟩ := h.1 (out.length - 1) (by omega)
  refine ⟨q, hq, ?_⟩
  match hx : (el l q).2 with
  | [] => rfl
  | a :: r =>
    obtain ⟨t, e1, e2⟩ := hto q hq a (by rw [hx]; simp)
    have h2 := h.later (i := out.length - 1) (by omega) he (a := a) (by rw [hx]; simp) e1 e2
    rw [show out.length - 1 + 1 = out.length by omega, List.drop_length] at h2
    simp at h2
section
variable {a : Mc} {F : Nat → Nat} {aa bs : List Bool}
theorem sta_cases (a : Mc) {q : Nat} (h : q < (staM a).2.length) : q = 0 ∨ ∃ p, q = p + 1 ∧ p < a.2.length := by
  rw [staM_len] at h
  by_cases h0 : q = 0
  · exact .inl h0
  · exact .inr ⟨q - 1, by omega, by omega⟩
/-- What a state leads to, in the star. -/
theorem sta_arc (ha : Slim a) {p : Nat} (hp : p < a.2.length) {c : Ar} : c ∈ (el (staM a).2 (p + 1)).2 ↔ (∃ x ∈ (el a.2 p).2, c = shA 1 x) ∨ ((el a.2 p).1 ≠ 1000000001 ∧ c = (0, 0, (el a.2 p).1, 0)) := by
  rw [sta_elA a hp]
  simp only [shS, List.mem_append, List.mem_map]
  constructor
  · rintro (⟨x, hx, rfl⟩ | h)
    · exact .inl ⟨x, hx, rfl⟩
    · obtain ⟨h1, _, h2⟩ := mem_end h
      exact .inr ⟨h1, by simpa using h2⟩
  · rintro (⟨x, hx, rfl⟩ | ⟨h1, rfl⟩)
    · exact .inl ⟨x, hx, rfl⟩
    · right
      unfold endA
      rw [if_neg h1]
      unfold hopA
      simp
theorem sta_to (ha : Slim a) {p : Nat} (hp : p < a.2.length) {x : Ar} (hx : x ∈ (el a.2 p).2) : ∃ t : Nat, x.2.2.2 = (t : Int) ∧ t < a.2.length ∧ (shA 1 x).2.2.2.toNat = t + 1 := by
  obtain ⟨t, h1, _, h2⟩ := ha.fwd p hp x hx
  exact ⟨t, h1, h2, by simp only [shA]; omega⟩
/-- From where an end can be had, from there the star's first state. -/
theorem sta_back (ha : Slim a) (hF : CntEq a.2 F) (hB : Least (BackC (staM a).2) (staM a).2.length bs) : ∀ q, q < a.2.length → 0 < F q → el bs (q + 1) = true := by
  have hlen := staM_len a
  have b0 : el bs 0 = true := hB.2.1.1 0 (by omega) (by rw [sta_el0]; simp)
  refine ha.fwd.order.ind ha.fwd.to fun q hq ih hpos => ?_
  rw [hF q hq] at hpos
  by_cases hf : (el a.2 q).1 = 1000000001
  · have hz : baseN (el a.2 q).1 = 0 := by unfold baseN; rw [if_pos hf]
    rw [hz, Nat.zero_add] at hpos
    have : ¬ ∀ x ∈ (el a.2 q).2, F x.2.2.2.toNat = 0 := fun hall => by
      rw [sumF_zero.2 hall] at hpos
      omega
    obtain ⟨x, hx, hxp⟩ : ∃ x ∈ (el a.2 q).2, 0 < F x.2.2.2.toNat := by
      apply Classical.byContradiction
      intro hn
      exact this fun x hx => Classical.byContradiction fun h9 => hn ⟨x, hx, by omega⟩
    obtain ⟨t, e1, e2, e3⟩ := sta_to ha hq hx
    have h5 := ih x hx hxp
    rw [e1, Int.toNat_natCast] at h5
    refine hB.2.1.2 (q + 1) (by omega) (shA 1 x) ((sta_arc ha hq).2 (.inl ⟨x, hx, rfl⟩)) ?_
    show el bs (shA 1 x).2.2.2.toNat = true
    rw [e3]; exact h5
  · exact hB.2.1.2 (q + 1) (by omega) (0, 0, (el a.2 q).1, 0) ((sta_arc ha hq).2 (.inr ⟨hf, rfl⟩)) b0
/-- There is a path: each state that is left leads to one that is left. -/
theorem sta_cycle (ha : Slim a) (hf : faultM (staM a) = 0) (hF : CntEq a.2 F) (hA : Least (AheadC 0 (staM a).2) (staM a).2.length aa) (hB : Least (BackC (staM a).2) (staM a).2.length bs) (hpos : 0 < F 0) {out : List Int} : ¬ OrderL (trimM 0 (staM a).2 (keptL aa bs (staM a).2.length)).2 out := by
  intro ho
  have hf' : faultM (0, (staM a).2) = 0 := hf
  have hlen := staM_len a
  have hp := ha.pos
  have b1 := sta_back ha hF hB 0 hp hpos
  have a0 : el aa 0 = true := hA.2.1.1 0 (by omega) rfl
  have b0 : el bs 0 = true := hB.2.1.1 0 (by omega) (by rw [sta_el0]; simp)
  have hop : ((0 : Int), (0 : Int), (0 : Int), (1 : Int)) ∈ (el (staM a).2 0).2 := by
    rw [sta_el0]
    unfold hopA
    rw [ha.start]
    simp
  have a1 : el aa 1 = true := hA.2.1.2 0 (by omega) a0 _ hop
  obtain ⟨ks, hks⟩ : ∃ ks, keptL aa bs (staM a).2.length = ks := ⟨_, rfl⟩
  have hsort : ks.Pairwise (· < ·) := by rw [← hks]; exact keptL_sorted _ _ _
  have hin : ∀ q : Nat, (q : Int) ∈ ks ↔ q < (staM a).2.length ∧ el aa q = true ∧ el bs q = true := fun q => by rw [← hks]; exact keptL_iff
  rw [hks] at ho
  have hlk : 0 < ks.length := List.length_pos_of_mem ((hin 0).2 ⟨by omega, a0, b0⟩)
  have hto : ∀ i, i < (ks.map (trimS (staM a).2 ks)).length → ∀ c ∈ (el (ks.map (trimS (staM a).2 ks)) i).2, ∃ t : Nat, c.2.2.2 = (t : Int) ∧ t < (ks.map (trimS (staM a).2 ks)).length := by
    intro i hi c hc
    rw [List.length_map] at hi ⊢
    have := trim_to (z := 0) (aa := aa) (bs := bs) hf' (i := i) (by rw [hks]; exact hi) (c := c) (by rw [hks]; exact hc)
    rw [hks] at this
    exact this
  obtain ⟨i, hi, he⟩ := ho.sink hto (by show 0 < (ks.map _).length; rw [List.length_map]; exact hlk)
  have hi' : i < ks.length := by simpa [trimM] using hi
  have he' : (el (ks.map (trimS (staM a).2 ks)) i).2 = [] := he
  rw [trim_el hi'] at he'
  obtain ⟨q, hq⟩ : ∃ q : Nat, el ks i = (q : Int) := by
    have hm := el_mem hi'
    rw [← hks] at hm
    obtain ⟨q, h1, _⟩ := keptL_mem hm
    rw [hks] at h1
    exact ⟨q, h1⟩
  have hqk := (hin q).1 (hq ▸ el_mem hi')
  rw [hq, Int.toNat_natCast] at he'
  have hne : ∀ d ∈ (el (staM a).2 q).2, ∀ t : Nat, d.2.2.2 = (t : Int) → t < (staM a).2.length → el bs t = true → False := by
    intro d hd t e1 e2 e3
    have e4 : el aa t = true := by
      have := hA.2.1.2 q hqk.1 hqk.2.1 d hd
      rw [e1, Int.toNat_natCast] at this
      exact this
    have := trimA_in (ks := ks) hd ((placeI_nonneg hsort).2 (by rw [e1]; exact (hin t).2 ⟨e2, e4, e3⟩))
    simp only at he'
    rw [he'] at this
    simp at this
  rcases sta_cases a hqk.1 with rfl | ⟨p, rfl, hpa⟩
  · exact hne _ hop 1 rfl (by omega) b1
  · -- it can end, and not by itself: some arc leads on to where it can end
    by_cases hex : ∃ d ∈ (el (staM a).2 (p + 1)).2, el bs d.2.2.2.toNat = true
    · obtain ⟨d, hd, hdb⟩ := hex
      rcases (sta_arc ha hpa).1 hd with ⟨x, hx, rfl⟩ | ⟨_, rfl⟩
      · obtain ⟨t, e1, e2, e3⟩ := sta_to ha hpa hx
        rw [e3] at hdb
        exact hne _ hd (t + 1) (by simp only [shA]; omega) (by omega) hdb
      · exact hne _ hd 0 rfl (by omega) b0
    · have hT : BackC (staM a).2 (fun r => el bs r = true ∧ r ≠ p + 1) := by
        refine ⟨fun r hr hfin => ⟨hB.2.1.1 r hr hfin, fun e => ?_⟩, fun r hr d hd hdt => ⟨hB.2.1.2 r hr d hd hdt.1, fun e => ?_⟩⟩
        · subst e
          rw [sta_elA a hpa] at hfin
          exact hfin rfl
        · subst e
          exact hex ⟨d, hd, hdt.1⟩
      exact (hB.2.2 _ hT (p + 1) hqk.1 hqk.2.2).2 rfl
/-- There is none: the star's first state alone is left, and leads nowhere. -/
theorem sta_alone (ha : Slim a) (hf : faultM (staM a) = 0) (hF : CntEq a.2 F) (hA : Least (AheadC 0 (staM a).2) (staM a).2.length aa) (hB : Least (BackC (staM a).2) (staM a).2.length bs) (h0 : F 0 = 0) : ∃ out, OrderL (trimM 0 (staM a).2 (keptL aa bs (staM a).2.length)).2 out := by
  have hf' : faultM (0, (staM a).2) = 0 := hf
  have hlen := staM_len a
  have hp := ha.pos
  have hz : ∀ q, q < a.2.length → F q = 0 → (el a.2 q).1 = 1000000001 ∧ ∀ x ∈ (el a.2 q).2, F x.2.2.2.toNat = 0 := fun q hq h => by
    rw [hF q hq, Nat.add_eq_zero_iff, sumF_zero] at h
    refine ⟨?_, h.2⟩
    have := h.1
    unfold baseN at this
    split at this
    · assumption
    · omega
  have hTA : AheadC 0 (staM a).2 (fun q => q = 0 ∨ ∃ p, q = p + 1 ∧ F p = 0) := by
    refine ⟨fun q hq e => .inl (by omega), fun q hq hT d hd => ?_⟩
    rcases sta_cases a hq with rfl | ⟨p, rfl, hpa⟩
    · rw [sta_el0] at hd
      obtain ⟨_, rfl⟩ := mem_hop hd
      rw [ha.start]
      exact .inr ⟨0, rfl, h0⟩
    · have hp0 : F p = 0 := by
        rcases hT with h | ⟨p', e, h⟩
        · omega
        · obtain rfl : p = p' := by omega
          exact h
      obtain ⟨z1, z2⟩ := hz p hpa hp0
      rcases (sta_arc ha hpa).1 hd with ⟨x, hx, rfl⟩ | ⟨h9, _⟩
      · obtain ⟨t, e1, e2, e3⟩ := sta_to ha hpa hx
        refine .inr ⟨t, e3, ?_⟩
        have := z2 x hx
        rwa [e1, Int.toNat_natCast] at this
      · exact absurd z1 h9
  have hTB : BackC (staM a).2 (fun q => q = 0 ∨ ∃ p, q = p + 1 ∧ 0 < F p) := by
    refine ⟨fun q hq hfin => ?_, fun q hq d hd hT => ?_⟩
    · rcases sta_cases a hq with rfl | ⟨p, rfl, hpa⟩
      · exact .inl rfl
      · rw [sta_elA a hpa] at hfin
        exact absurd rfl hfin
    · rcases sta_cases a hq with rfl | ⟨p, rfl, hpa⟩
      · exact .inl rfl
      · refine .inr ⟨p, rfl, Nat.pos_of_ne_zero fun hp0 => ?_⟩
        obtain ⟨z1, z2⟩ := hz p hpa hp0
        rcases (sta_arc ha hpa).1 hd with ⟨x, hx, rfl⟩ | ⟨h9, _⟩
        · obtain ⟨t, e1, e2, e3⟩ := sta_to ha hpa hx
          have h4 := z2 x hx
          rw [e1, Int.toNat_natCast] at h4
          rcases hT with h | ⟨p', e, h⟩
          · rw [e3] at h; omega
          · rw [e3] at e
            obtain rfl : t = p' := by omega
            omega
        · exact absurd z1 h9
  have honly : ∀ q, q < (staM a).2.length → el aa q = true → el bs q = true → q = 0 := fun q hq h1 h2 => by
    rcases hA.2.2 _ hTA q hq h1 with h | ⟨p, e1, e2⟩
    · exact h
    · rcases hB.2.2 _ hTB q hq h2 with h | ⟨p', e3, e4⟩
      · exact h
      · obtain rfl : p = p' := by omega
        omega
  refine ⟨_, Fwd.order (l := (trimM 0 (staM a).2 (keptL aa bs (staM a).2.length)).2) ?_⟩
  intro i hi c hc
  exfalso
  have hi' : i < (keptL aa bs (staM a).2.length).length := by simpa [trimM] using hi
  have hc' : c ∈ (el ((keptL aa bs (staM a).2.length).map (trimS (staM a).2 (keptL aa bs (staM a).2.length))) i).2 := hc
  rw [trim_el hi'] at hc'
  obtain ⟨q, h1, h2, h3, h4⟩ := keptL_mem (el_mem hi')
  have hq0 := honly q h2 h3 h4
  subst hq0
  rw [h1] at hc'
  simp only [Int.toNat_natCast] at hc'
  obtain ⟨d, hd, rfl, hpl⟩ := trimA_mem hc'
  rw [sta_el0] at hd
  obtain ⟨_, rfl⟩ := mem_hop hd
  have hm := (placeI_nonneg (keptL_sorted _ _ _)).1 hpl
  simp only [ha.start] at hm
  obtain ⟨q, e1, e2, e3, e4⟩ := keptL_mem hm
  have := honly q e2 e3 e4
  omega
end
end Go.Proofs.Ytfajkomajbhphaa.Pl
